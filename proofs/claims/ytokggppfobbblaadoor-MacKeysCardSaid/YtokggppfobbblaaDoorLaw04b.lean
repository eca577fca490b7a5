/-
  The statement MacSame: the walk.
-/
import Derived.Test.YtokggppfobbblaaDoorLaw04a
namespace Go.Proofs.YtokggppfobbblaaDoor
open Go.RowKit
set_option linter.unusedVariables false
set_option linter.unusedSimpArgs false

/-- append of what lies somewhere, at an operation that is wanted. -/
theorem wpList_append_want {P : Program} {w : World} {ops : Array Oper} {rest : List Oper} {o : Oper} {a : Act} {Q : Exit → Act → World → Prop} (hw : Region.wanted o (yielded ops a.tmps) = true) (s x : Operand) (t : TypeId)
    (ho : o.op = .call { callee := .builtin .append, args := #[s, x], argTypes := #[t, t] })
    (base : Nat) (e : TypeId) (z : Value) (bytes : Nat) (ht : P.underlying t = some (.slice e))
    (hinfo : (P.info? e).map (fun i => (i.zero, i.size, i.bytes)) = some (some z, 1, bytes)) (hzs : z.cells.size = 1)
    {v : Value} {n : Nat} {xs : List Value} (hs : a.eval s = v) (hown : w.ownsRow base e 1 v n xs) {B : Nat} {A : Option Addr} {news : List Value} {c m : Nat} (hm : news.length = m) (hx : a.eval x = .slice A m c) (hr : Lie w B A news)
    (h1 : ∀ u ∈ news, u.oneCell' = true) (h63 : n + m ≤ maxLen) (hbytes : (n + m) * bytes ≤ 140737488355328) (hbase : base ≤ w.heap.size)
    (h : ∀ v' w', w'.ownsRow base e 1 v' (n + m) (xs ++ news) → w.grownBy w' v.ownBlock → (v'.ownBlock = v.ownBlock ∨ v'.ownBlock = some w.heap.size) → wpList P ops Q rest (a.put o.dst v') w') :
    wpList P ops Q (o :: rest) a w :=
  BigFrame.wpList_want hw fun _ hK => wp_append_lie s x t ho base e z bytes ht hinfo hzs hs hown hm hx hr h1 h63 hbytes hbase fun v' w' h2 h3 h4 => hK _ _ (h v' w' h2 h3 h4)
theorem lie_set {w : World} {B g o : Nat} {xs : List UInt8} (h : Lie w B (some ⟨g, o, none⟩) (bvs xs)) (j : Nat) (hj : j < xs.length) (z : UInt8) : Lie (w.setCell ⟨g, o + j, none⟩ (.int .u8 (z.toNat : Int))) B (some ⟨g, o, none⟩) (bvs (xs.set j z)) := fun _ => by
  obtain ⟨b, o', hA, hb, hc⟩ := h (fun e => by have := congrArg List.length e; rw [bvs_length, List.length_nil] at this; omega)
  simp only [Option.some.injEq, Addr.mk.injEq] at hA
  obtain ⟨rfl, rfl, _⟩ := hA
  refine ⟨g, o, rfl, hb, fun i u hu => ?_⟩
  have hcj := hc j (.int .u8 ((xs[j].toNat : Nat) : Int)) (by simp [bvs, hj])
  by_cases e : j = i
  · subst e
    rw [World.cell?_setCell_same _ _ _ hcj, ← hu]
    simp [bvs, hj]
  · rw [World.cell?_setCell_other w ⟨g, o + j, none⟩ ⟨g, o + i, none⟩ _ (by simp [e])]
    refine hc i u ?_
    rw [bvs, List.getElem?_map, List.getElem?_set_ne e, ← List.getElem?_map] at hu
    exact hu
theorem own_frozen {w : World} {B : Nat} {g o : Nat} {sp : Option Nat} {c : Nat} {xs : List UInt8} (h : OwnB w B (.slice (some ⟨g, o, sp⟩) xs.length c) xs) (j : Nat) : w.frozen? ⟨g, j, none⟩ = false := by
  rcases h.2 with ⟨h1, _⟩ | ⟨g', cap, cur, hv, hb, hg, h1, h2, h3, h4⟩
  · simp at h1
  · simp only [Value.slice.injEq, Option.some.injEq, Addr.mk.injEq] at hv
    obtain ⟨⟨rfl, _⟩, _⟩ := hv
    exact frozen_of_row _ _ _ _ _ hg

set_option maxRecDepth 100000 in
set_option maxHeartbeats 3200000 in
theorem macSame_any (A : Option Addr) (a : List UInt8) (c : Nat) (A' : Option Addr) (b : List UInt8) (c' : Nat) (t y : Int) (w : World) (hA : Sq w w.heap.size A c (bvs a)) (hA' : Sq w w.heap.size A' c' (bvs b)) (ht0 : 0 ≤ t) (ht1 : t ≤ 255) (hy0 : 0 ≤ y) (hy1 : y ≤ 255) (hG : Glob w) :
    Calls Tryd.prog 7 #[.slice A a.length c, .slice A' b.length c', .int .u8 t, .int .u8 y] w fun e w' => e = .returned (.bool true) ∧ Below w.heap.size w w' := by
  have hc1 := hA.cap; have hc2 := hA'.cap
  rw [bvs_length] at hc1 hc2
  obtain ⟨hc1, hc1'⟩ := hc1; obtain ⟨hc2, hc2'⟩ := hc2
  have HA := hid hA; have HA' := hid hA'; have HG := hid hG
  clear hA hA' hG
  by_cases h1 : 300 < a.length
  · have hx : (300 : Int) < (a.length : Int) := by omega
    go_enter Tryd.func7, Tryd.ntmps7
    go_wp2_with fail
    refine (alive4_any _ HG.out).mono ?_
    rintro e w1 ⟨rfl, hb1⟩
    go_wp2
    go_ret
    exact ⟨rfl, hb1⟩
  have hx1 : ¬ (300 : Int) < (a.length : Int) := by omega
  have hx1' : decide ((300 : Int) < (a.length : Int)) = false := by simpa using hx1
  by_cases h2 : 300 < b.length
  · have hx : (300 : Int) < (b.length : Int) := by omega
    go_enter Tryd.func7, Tryd.ntmps7
    go_wp2_with fail
    refine (alive4_any _ HG.out).mono ?_
    rintro e w1 ⟨rfl, hb1⟩
    go_wp2
    go_ret
    exact ⟨rfl, hb1⟩
  have hx2 : ¬ (300 : Int) < (b.length : Int) := by omega
  have hx2' : decide ((300 : Int) < (b.length : Int)) = false := by simpa using hx2
  go_enter Tryd.func7, Tryd.ntmps7
  go_wp2_with fail
  refine (alive4_any _ HG.out).mono ?_
  rintro e w1 ⟨rfl, hb1⟩
  have hw1 := hb1.size
  have hAl1 : Lie (w1.alloc (.cells #[] 5)) w.heap.size A (bvs a) := (HA.out.lie.below hb1).alloc hw1 _
  have HAL1 := hid hAl1; have HB1 := hid hb1
  clear hAl1 hb1
  go_wp2_with (at_builtin; refine wpList_append_lie rfl _ _ 22 rfl w1.heap.size 5 (.int .u8 0) 1 Tryd.underlying22 infoU8 rfl rfl (empty_row _ _ (k := w1.heap.size) rfl (Nat.le_refl _)) (bvs_length a) rfl HAL1.out (bvs_one a) ?d1 ?d2 ?d3 ?_)
  case d1 => unfold maxLen; omega
  case d2 => omega
  case d3 => simp
  intro v2 w2 hown2 hg2 hat2
  have hO2 : OwnB w2 w1.heap.size v2 a := by simpa [OwnB] using hown2
  have hB2 : Below w.heap.size w w2 := (HB1.out.alloc hw1 _).grown hg2 (by simp; omega) (fun q h => by simp [Value.ownBlock] at h; omega)
  have hw2 : w1.heap.size < w2.heap.size := Nat.lt_of_lt_of_le (by simp) hg2.size
  obtain ⟨Ax, cx, rfl, hSx, hbx⟩ := own_dg hO2
  have HB2 := hid hB2; have HO2 := hid hO2; have HSX := hid hSx; have HBX := hid hbx
  clear hB2 hO2 hown2 hg2 hat2 hSx hbx HAL1
  -- the last line
  by_cases h0 : a = []
  · have hl0 : a.length = 0 := by rw [h0]; rfl
    have hp : ¬ (0 : Int) < (a.length : Int) := by omega
    have hl0' : ((a.length : Int) == 0) = true := by rw [beq_iff_eq]; omega
    have HLC : Hid (Lie w2 w2.heap.size Ax (bvs a)) := hid HSX.out.lie
    have HCL : Hid (a.length ≤ 300) := hid (by omega)
    have HLA : Hid (Lie w2 w.heap.size A (bvs a)) := hid (HA.out.lie.below HB2.out)
    have HLB : Hid (Lie w2 w.heap.size A' (bvs b)) := hid (HA'.out.lie.below HB2.out)
    have HZ3 : Hid (w.heap.size ≤ w2.heap.size) := hid HB2.out.size
    have HB3 := HB2
    have HEQ : Hid ((a == a) = true) := hid (beq_self_eq_true _)
    have HL0 := hid hl0
    clear HO2 HSX HBX h0 hl0
    by_cases hyz : y = 0
    · have hy0' : (y == 0) = true := by rw [hyz]; rfl
      clear hyz
      go_wp2_with fail
      have HM1 := hid (MSame_any A a c A' b c' w2 w.heap.size w.heap.size HLA.out HLB.out (by omega) (by omega))
      have HM2 := hid (Same_any A a c A' b c' w2 w.heap.size w.heap.size HLA.out HLB.out (by omega))
      have HM3 : Hid (∀ n, Calls Tryd.prog 23 #[.slice A a.length c, .slice Ax a.length cx] (w2.drewN n) fun e w' => e = .returned (.bool true) ∧ (w2.drewN n) = w') := hid fun n => by
        have h := MSame_any A a c Ax a cx (w2.drewN n) w.heap.size w2.heap.size HLA.out HLC.out (by omega) (by have := HCL.out; omega)
        simp only [HEQ.out] at h
        try rw [HCL.out] at h
        exact h
      have HM4 : Hid (∀ n, Calls Tryd.prog 23 #[.slice A a.length c, .slice A a.length c] (w2.drewN n) fun e w' => e = .returned (.bool true) ∧ (w2.drewN n) = w') := hid fun n => by
        have h := MSame_any A a c A a c (w2.drewN n) w.heap.size w.heap.size HLA.out HLA.out (by omega) (by omega)
        rw [show (a == a) = true from beq_self_eq_true _] at h
        exact h
      refine HM1.out.mono ?_
      rintro e wx ⟨rfl, rfl⟩
      go_wp2_with fail
      refine HM2.out.mono ?_
      rintro e wx ⟨rfl, n4, rfl⟩
      generalize (a == b) = bb at *
      have hbb : (bb == bb) = true := beq_self_eq_true _
      go_wp2_with fail
      refine (HM3.out n4).mono ?_
      rintro e wx ⟨rfl, rfl⟩
      go_wp2_with fail
      refine (HM4.out n4).mono ?_
      rintro e wx ⟨rfl, rfl⟩
      have hAl5 : Lie ((w2.drewN n4).alloc (.cells #[] 5)) w.heap.size A (bvs a) := (show Lie (w2.drewN n4) w.heap.size A (bvs a) from HLA.out).alloc HZ3.out _
      have HAL5 := hid hAl5
      clear hAl5 HM1 HM2 HM3 HM4 hbb
      go_wp2_with (at_builtin; refine wpList_append_want rfl _ _ 22 rfl w2.heap.size 5 (.int .u8 0) 1 Tryd.underlying22 infoU8 rfl rfl (empty_row _ _ (k := w2.heap.size) rfl (Nat.le_refl _)) (bvs_length a) rfl HAL5.out (bvs_one a) (by unfold maxLen; omega) (by omega) (by simp) ?_)
      intro v6 w6 hown6 hg6 hat6
      have hO6 : OwnB w6 w2.heap.size v6 a := by simpa [OwnB] using hown6
      have hb6 : Below w2.heap.size (w2.drewN n4) w6 := ((Below.refl _ _).alloc (by simp) _).grown hg6 (by simp) (fun q h => by simp [Value.ownBlock] at h; omega)
      have hB6 : Below w.heap.size w w6 := (below_drewN HB3.out n4).trans (hb6.mono HZ3.out)
      obtain ⟨A6, c6, rfl, _⟩ := own_sl hO6
      have HO7 := hid (World.ownsRow.alloc hO6 (.cells #[.int .u8 0] 5))
      have HB6 := hid hB6
      have hz6 : w2.heap.size ≤ w6.heap.size := hb6.size
      clear hown6 hg6 hat6 hO6 hb6 hB6 HAL5
      go_wp2_with (at_builtin; refine wpList_append_want rfl _ _ 22 rfl w2.heap.size 5 (.int .u8 0) 1 Tryd.underlying22 infoU8 rfl rfl HO7.out rfl rfl (Lie.new1 _ _ _) (by intro u hu; simp at hu; subst hu; rfl) (by rw [List.length_singleton]; unfold maxLen; omega) (by rw [List.length_singleton]; omega) (by simp; omega) ?_)
      intro v7 w7 hown7 hg7 hat7
      have hO7 : OwnB w7 w2.heap.size v7 (a ++ [0]) := own_snoc hown7 (by simp) rfl
      have hB7 : Below w.heap.size w w7 := (HB6.out.alloc HB6.out.size _).grown hg7 (by have := HB6.out.size; simp; omega) (fun q h => by have := own_lt HO7.out q h; have := HZ3.out; omega)
      obtain ⟨A7, c7, rfl, hS7⟩ := own_sl hO7
      rw [List.length_append, List.length_singleton]
      have HM5 : Hid (Calls Tryd.prog 23 #[.slice A a.length c, .slice A7 (a.length + 1) c7] w7 fun e w' => e = .returned (.bool false) ∧ w7 = w') := hid (by
        have h := MSame_any A a c A7 (a ++ [0]) c7 w7 w.heap.size w7.heap.size (HA.out.lie.below hB7) hS7.lie (by omega) (by simp; omega)
        rw [show (a == a ++ [0]) = false from by rw [beq_eq_false_iff_ne]; exact fun e => by have := congrArg List.length e; simp at this] at h
        rw [List.length_append, List.length_singleton] at h
        exact h)
      have HB7 := hid hB7
      clear hown7 hg7 hat7 hO7 hS7 hB7 HO7 HB6
      go_wp2_with fail
      refine HM5.out.mono ?_
      rintro e wx ⟨rfl, rfl⟩
      go_wp2
      go_ret
      exact ⟨rfl, HB7.out⟩
    · have hy0' : (y == 0) = false := by rw [beq_eq_false_iff_ne]; exact hyz
      go_wp2_with fail
      have HM1 := hid (MSame_any A a c A' b c' w2 w.heap.size w.heap.size HLA.out HLB.out (by omega) (by omega))
      have HM2 := hid (Same_any A a c A' b c' w2 w.heap.size w.heap.size HLA.out HLB.out (by omega))
      have HM3 : Hid (∀ n, Calls Tryd.prog 23 #[.slice A a.length c, .slice Ax a.length cx] (w2.drewN n) fun e w' => e = .returned (.bool true) ∧ (w2.drewN n) = w') := hid fun n => by
        have h := MSame_any A a c Ax a cx (w2.drewN n) w.heap.size w2.heap.size HLA.out HLC.out (by omega) (by have := HCL.out; omega)
        simp only [HEQ.out] at h
        try rw [HCL.out] at h
        exact h
      have HM4 : Hid (∀ n, Calls Tryd.prog 23 #[.slice A a.length c, .slice A a.length c] (w2.drewN n) fun e w' => e = .returned (.bool true) ∧ (w2.drewN n) = w') := hid fun n => by
        have h := MSame_any A a c A a c (w2.drewN n) w.heap.size w.heap.size HLA.out HLA.out (by omega) (by omega)
        rw [show (a == a) = true from beq_self_eq_true _] at h
        exact h
      refine HM1.out.mono ?_
      rintro e wx ⟨rfl, rfl⟩
      go_wp2_with fail
      refine HM2.out.mono ?_
      rintro e wx ⟨rfl, n4, rfl⟩
      generalize (a == b) = bb at *
      have hbb : (bb == bb) = true := beq_self_eq_true _
      go_wp2_with fail
      refine (HM3.out n4).mono ?_
      rintro e wx ⟨rfl, rfl⟩
      go_wp2_with fail
      refine (HM4.out n4).mono ?_
      rintro e wx ⟨rfl, rfl⟩
      have hAl5 : Lie ((w2.drewN n4).alloc (.cells #[] 5)) w.heap.size A (bvs a) := (show Lie (w2.drewN n4) w.heap.size A (bvs a) from HLA.out).alloc HZ3.out _
      have HAL5 := hid hAl5
      clear hAl5 HM1 HM2 HM3 HM4 hbb
      go_wp2_with (at_builtin; refine wpList_append_want rfl _ _ 22 rfl w2.heap.size 5 (.int .u8 0) 1 Tryd.underlying22 infoU8 rfl rfl (empty_row _ _ (k := w2.heap.size) rfl (Nat.le_refl _)) (bvs_length a) rfl HAL5.out (bvs_one a) (by unfold maxLen; omega) (by omega) (by simp) ?_)
      intro v6 w6 hown6 hg6 hat6
      have hO6 : OwnB w6 w2.heap.size v6 a := by simpa [OwnB] using hown6
      have hb6 : Below w2.heap.size (w2.drewN n4) w6 := ((Below.refl _ _).alloc (by simp) _).grown hg6 (by simp) (fun q h => by simp [Value.ownBlock] at h; omega)
      have hB6 : Below w.heap.size w w6 := (below_drewN HB3.out n4).trans (hb6.mono HZ3.out)
      obtain ⟨A6, c6, rfl, _⟩ := own_sl hO6
      have HO7 := hid (World.ownsRow.alloc hO6 (.cells #[.int .u8 0] 5))
      have HB6 := hid hB6
      have hz6 : w2.heap.size ≤ w6.heap.size := hb6.size
      clear hown6 hg6 hat6 hO6 hb6 hB6 HAL5
      go_wp2_with (at_builtin; refine wpList_append_want rfl _ _ 22 rfl w2.heap.size 5 (.int .u8 0) 1 Tryd.underlying22 infoU8 rfl rfl HO7.out rfl rfl (Lie.new1 _ _ _) (by intro u hu; simp at hu; subst hu; rfl) (by rw [List.length_singleton]; unfold maxLen; omega) (by rw [List.length_singleton]; omega) (by simp; omega) ?_)
      intro v7 w7 hown7 hg7 hat7
      have hO7 : OwnB w7 w2.heap.size v7 (a ++ [0]) := own_snoc hown7 (by simp) rfl
      have hB7 : Below w.heap.size w w7 := (HB6.out.alloc HB6.out.size _).grown hg7 (by have := HB6.out.size; simp; omega) (fun q h => by have := own_lt HO7.out q h; have := HZ3.out; omega)
      obtain ⟨A7, c7, rfl, hS7⟩ := own_sl hO7
      rw [List.length_append, List.length_singleton]
      have HM5 : Hid (Calls Tryd.prog 23 #[.slice A a.length c, .slice A7 (a.length + 1) c7] w7 fun e w' => e = .returned (.bool false) ∧ w7 = w') := hid (by
        have h := MSame_any A a c A7 (a ++ [0]) c7 w7 w.heap.size w7.heap.size (HA.out.lie.below hB7) hS7.lie (by omega) (by simp; omega)
        rw [show (a == a ++ [0]) = false from by rw [beq_eq_false_iff_ne]; exact fun e => by have := congrArg List.length e; simp at this] at h
        rw [List.length_append, List.length_singleton] at h
        exact h)
      have HB7 := hid hB7
      clear hown7 hg7 hat7 hO7 hS7 hB7 HO7 HB6
      go_wp2_with fail
      refine HM5.out.mono ?_
      rintro e wx ⟨rfl, rfl⟩
      go_wp2
      go_ret
      exact ⟨rfl, HB7.out⟩
  · have hpos : 0 < a.length := List.length_pos_iff.2 h0
    have hp : (0 : Int) < (a.length : Int) := by omega
    obtain ⟨tn, rfl⟩ := Int.eq_ofNat_of_zero_le ht0
    obtain ⟨j, hj⟩ : ∃ j, j = tn % a.length := ⟨_, rfl⟩
    have hjl : j < a.length := by rw [hj]; exact Nat.mod_lt _ hpos
    have htm : Int.tmod (tn : Int) (a.length : Int) = (j : Int) := by rw [hj]; exact (Int.ofNat_tmod tn a.length).symm
    have htw : IntKind.i64.wrap (tn : Int) = (tn : Int) := IntWalk.i64_in _ (by omega)
    have hji : (j : Int) < (a.length : Int) := by omega
    have hj0 : (0 : Int) ≤ (j : Int) := by omega
    obtain ⟨g, o, rfl, hgl, hcx⟩ := HSX.out.lie.byte hjl
    have hfz := own_frozen HO2.out (o + j)
    obtain ⟨x, hxx⟩ : ∃ x, x = a[j] := ⟨_, rfl⟩
    rw [← hxx] at hcx
    obtain ⟨yn, hyn⟩ : ∃ yn : UInt8, (yn.toNat : Int) = y := ⟨UInt8.ofNat y.toNat, by rw [ofNat_val]; omega⟩
    subst hyn
    obtain ⟨z, hz⟩ : ∃ z, z = x ^^^ yn := ⟨_, rfl⟩
    obtain ⟨zi, hzi⟩ : ∃ zi : Int, zi = (z.toNat : Int) := ⟨_, rfl⟩
    have hxor : bits .xor .u8 (x.toNat : Int) (yn.toNat : Int) = zi := by rw [hzi, hz]; exact xor_u8 x yn
    have hgw : w1.heap.size ≤ g := (HBX.out g o none rfl).1
    have HXX := hid hxx; have HJ := hid hj; have HZZ := hid hz; have HZI := hid hzi
    clear hxx hj hz hzi
    go_wp2
    refine wp_region_quiet_tail 17 (by kernel_rfl) (by kernel_rfl) ?_
    simp only [List.take_succ_cons, List.take_zero, List.drop_succ_cons, List.drop_zero]
    repeat (quiet_step (fail))
    refine wpQuiet_nil ?_
    rintro _ ⟨nq, rfl⟩
    go_wp2_with fail
    obtain ⟨w3, hw3⟩ : ∃ w3, w3 = (w2.drewN nq).setCell ⟨g, o + j, none⟩ (.int .u8 zi) := ⟨_, rfl⟩
    have hB3 : Below w.heap.size w w3 := by rw [hw3]; exact (below_drewN HB2.out nq).setCell (by show w.heap.size ≤ g; omega) _
    have hz3 : w3.heap.size = w2.heap.size := by rw [hw3]; simp
    obtain ⟨cs, hcs⟩ : ∃ cs, cs = a.set j z := ⟨_, rfl⟩
    have HLC : Hid (Lie w3 w3.heap.size (some ⟨g, o, none⟩) (bvs cs)) := hid (by
      rw [hz3, hw3, hcs, HZI.out]; exact lie_set (w := w2.drewN nq) HSX.out.lie j hjl z)
    have HCL : Hid (cs.length = a.length) := hid (by rw [hcs, List.length_set])
    have HLA : Hid (Lie w3 w.heap.size A (bvs a)) := hid (HA.out.lie.below hB3)
    have HLB : Hid (Lie w3 w.heap.size A' (bvs b)) := hid (HA'.out.lie.below hB3)
    have HZ3 : Hid (w.heap.size ≤ w3.heap.size) := hid hB3.size
    have HB3 := hid hB3; have HCS := hid hcs
    rw [← hw3]
    clear hw3 hB3 hcs hz3 hcx hfz HO2 HSX HBX
    by_cases hyz : yn = 0
    · have HEQ : Hid ((a == cs) = true) := hid (by
        rw [beq_iff_eq, HCS.out, HZZ.out, hyz, HXX.out]; simp)
      have hy0' : ((yn.toNat : Int) == 0) = true := by rw [hyz]; rfl
      clear HCS HZZ HXX hyz
      have HM1 := hid (MSame_any A a c A' b c' w3 w.heap.size w.heap.size HLA.out HLB.out (by omega) (by omega))
      have HM2 := hid (Same_any A a c A' b c' w3 w.heap.size w.heap.size HLA.out HLB.out (by omega))
      have HM3 : Hid (∀ n, Calls Tryd.prog 23 #[.slice A a.length c, .slice (some ⟨g, o, none⟩) a.length cx] (w3.drewN n) fun e w' => e = .returned (.bool true) ∧ (w3.drewN n) = w') := hid fun n => by
        have h := MSame_any A a c (some ⟨g, o, none⟩) cs cx (w3.drewN n) w.heap.size w3.heap.size HLA.out HLC.out (by omega) (by have := HCL.out; omega)
        simp only [HEQ.out] at h
        try rw [HCL.out] at h
        exact h
      have HM4 : Hid (∀ n, Calls Tryd.prog 23 #[.slice A a.length c, .slice A a.length c] (w3.drewN n) fun e w' => e = .returned (.bool true) ∧ (w3.drewN n) = w') := hid fun n => by
        have h := MSame_any A a c A a c (w3.drewN n) w.heap.size w.heap.size HLA.out HLA.out (by omega) (by omega)
        rw [show (a == a) = true from beq_self_eq_true _] at h
        exact h
      refine HM1.out.mono ?_
      rintro e wx ⟨rfl, rfl⟩
      go_wp2_with fail
      refine HM2.out.mono ?_
      rintro e wx ⟨rfl, n4, rfl⟩
      generalize (a == b) = bb at *
      have hbb : (bb == bb) = true := beq_self_eq_true _
      go_wp2_with fail
      refine (HM3.out n4).mono ?_
      rintro e wx ⟨rfl, rfl⟩
      go_wp2_with fail
      refine (HM4.out n4).mono ?_
      rintro e wx ⟨rfl, rfl⟩
      have hAl5 : Lie ((w3.drewN n4).alloc (.cells #[] 5)) w.heap.size A (bvs a) := (show Lie (w3.drewN n4) w.heap.size A (bvs a) from HLA.out).alloc HZ3.out _
      have HAL5 := hid hAl5
      clear hAl5 HM1 HM2 HM3 HM4 hbb
      go_wp2_with (at_builtin; refine wpList_append_want rfl _ _ 22 rfl w3.heap.size 5 (.int .u8 0) 1 Tryd.underlying22 infoU8 rfl rfl (empty_row _ _ (k := w3.heap.size) rfl (Nat.le_refl _)) (bvs_length a) rfl HAL5.out (bvs_one a) (by unfold maxLen; omega) (by omega) (by simp) ?_)
      intro v6 w6 hown6 hg6 hat6
      have hO6 : OwnB w6 w3.heap.size v6 a := by simpa [OwnB] using hown6
      have hb6 : Below w3.heap.size (w3.drewN n4) w6 := ((Below.refl _ _).alloc (by simp) _).grown hg6 (by simp) (fun q h => by simp [Value.ownBlock] at h; omega)
      have hB6 : Below w.heap.size w w6 := (below_drewN HB3.out n4).trans (hb6.mono HZ3.out)
      obtain ⟨A6, c6, rfl, _⟩ := own_sl hO6
      have HO7 := hid (World.ownsRow.alloc hO6 (.cells #[.int .u8 0] 5))
      have HB6 := hid hB6
      have hz6 : w3.heap.size ≤ w6.heap.size := hb6.size
      clear hown6 hg6 hat6 hO6 hb6 hB6 HAL5
      go_wp2_with (at_builtin; refine wpList_append_want rfl _ _ 22 rfl w3.heap.size 5 (.int .u8 0) 1 Tryd.underlying22 infoU8 rfl rfl HO7.out rfl rfl (Lie.new1 _ _ _) (by intro u hu; simp at hu; subst hu; rfl) (by rw [List.length_singleton]; unfold maxLen; omega) (by rw [List.length_singleton]; omega) (by simp; omega) ?_)
      intro v7 w7 hown7 hg7 hat7
      have hO7 : OwnB w7 w3.heap.size v7 (a ++ [0]) := own_snoc hown7 (by simp) rfl
      have hB7 : Below w.heap.size w w7 := (HB6.out.alloc HB6.out.size _).grown hg7 (by have := HB6.out.size; simp; omega) (fun q h => by have := own_lt HO7.out q h; have := HZ3.out; omega)
      obtain ⟨A7, c7, rfl, hS7⟩ := own_sl hO7
      rw [List.length_append, List.length_singleton]
      have HM5 : Hid (Calls Tryd.prog 23 #[.slice A a.length c, .slice A7 (a.length + 1) c7] w7 fun e w' => e = .returned (.bool false) ∧ w7 = w') := hid (by
        have h := MSame_any A a c A7 (a ++ [0]) c7 w7 w.heap.size w7.heap.size (HA.out.lie.below hB7) hS7.lie (by omega) (by simp; omega)
        rw [show (a == a ++ [0]) = false from by rw [beq_eq_false_iff_ne]; exact fun e => by have := congrArg List.length e; simp at this] at h
        rw [List.length_append, List.length_singleton] at h
        exact h)
      have HB7 := hid hB7
      clear hown7 hg7 hat7 hO7 hS7 hB7 HO7 HB6
      go_wp2_with fail
      refine HM5.out.mono ?_
      rintro e wx ⟨rfl, rfl⟩
      go_wp2
      go_ret
      exact ⟨rfl, HB7.out⟩
    · have HEQ : Hid ((a == cs) = false) := hid (by
        rw [beq_eq_false_iff_ne, HCS.out]
        intro e
        have h2 : (a.set j z)[j]'(by simpa using hjl) = a[j] := by congr 1; exact e.symm
        rw [List.getElem_set_self, HZZ.out, ← HXX.out] at h2
        have h3 : x ^^^ (x ^^^ yn) = x ^^^ x := by rw [h2]
        rw [← UInt8.xor_assoc, UInt8.xor_self, UInt8.zero_xor] at h3
        exact hyz h3)
      have hy0' : ((yn.toNat : Int) == 0) = false := by
        rw [beq_eq_false_iff_ne]
        exact fun e => hyz (UInt8.toNat_inj.1 (by simpa using e))
      have hl0' : ((a.length : Int) == 0) = false := by rw [beq_eq_false_iff_ne]; omega
      clear HCS HZZ HXX hyz
      have HM1 := hid (MSame_any A a c A' b c' w3 w.heap.size w.heap.size HLA.out HLB.out (by omega) (by omega))
      have HM2 := hid (Same_any A a c A' b c' w3 w.heap.size w.heap.size HLA.out HLB.out (by omega))
      have HM3 : Hid (∀ n, Calls Tryd.prog 23 #[.slice A a.length c, .slice (some ⟨g, o, none⟩) a.length cx] (w3.drewN n) fun e w' => e = .returned (.bool false) ∧ (w3.drewN n) = w') := hid fun n => by
        have h := MSame_any A a c (some ⟨g, o, none⟩) cs cx (w3.drewN n) w.heap.size w3.heap.size HLA.out HLC.out (by omega) (by have := HCL.out; omega)
        simp only [HEQ.out] at h
        try rw [HCL.out] at h
        exact h
      have HM4 : Hid (∀ n, Calls Tryd.prog 23 #[.slice A a.length c, .slice A a.length c] (w3.drewN n) fun e w' => e = .returned (.bool true) ∧ (w3.drewN n) = w') := hid fun n => by
        have h := MSame_any A a c A a c (w3.drewN n) w.heap.size w.heap.size HLA.out HLA.out (by omega) (by omega)
        rw [show (a == a) = true from beq_self_eq_true _] at h
        exact h
      refine HM1.out.mono ?_
      rintro e wx ⟨rfl, rfl⟩
      go_wp2_with fail
      refine HM2.out.mono ?_
      rintro e wx ⟨rfl, n4, rfl⟩
      generalize (a == b) = bb at *
      have hbb : (bb == bb) = true := beq_self_eq_true _
      go_wp2_with fail
      refine (HM3.out n4).mono ?_
      rintro e wx ⟨rfl, rfl⟩
      go_wp2_with fail
      refine (HM4.out n4).mono ?_
      rintro e wx ⟨rfl, rfl⟩
      have hAl5 : Lie ((w3.drewN n4).alloc (.cells #[] 5)) w.heap.size A (bvs a) := (show Lie (w3.drewN n4) w.heap.size A (bvs a) from HLA.out).alloc HZ3.out _
      have HAL5 := hid hAl5
      clear hAl5 HM1 HM2 HM3 HM4 hbb
      go_wp2_with (at_builtin; refine wpList_append_want rfl _ _ 22 rfl w3.heap.size 5 (.int .u8 0) 1 Tryd.underlying22 infoU8 rfl rfl (empty_row _ _ (k := w3.heap.size) rfl (Nat.le_refl _)) (bvs_length a) rfl HAL5.out (bvs_one a) (by unfold maxLen; omega) (by omega) (by simp) ?_)
      intro v6 w6 hown6 hg6 hat6
      have hO6 : OwnB w6 w3.heap.size v6 a := by simpa [OwnB] using hown6
      have hb6 : Below w3.heap.size (w3.drewN n4) w6 := ((Below.refl _ _).alloc (by simp) _).grown hg6 (by simp) (fun q h => by simp [Value.ownBlock] at h; omega)
      have hB6 : Below w.heap.size w w6 := (below_drewN HB3.out n4).trans (hb6.mono HZ3.out)
      obtain ⟨A6, c6, rfl, _⟩ := own_sl hO6
      have HO7 := hid (World.ownsRow.alloc hO6 (.cells #[.int .u8 0] 5))
      have HB6 := hid hB6
      have hz6 : w3.heap.size ≤ w6.heap.size := hb6.size
      clear hown6 hg6 hat6 hO6 hb6 hB6 HAL5
      go_wp2_with (at_builtin; refine wpList_append_want rfl _ _ 22 rfl w3.heap.size 5 (.int .u8 0) 1 Tryd.underlying22 infoU8 rfl rfl HO7.out rfl rfl (Lie.new1 _ _ _) (by intro u hu; simp at hu; subst hu; rfl) (by rw [List.length_singleton]; unfold maxLen; omega) (by rw [List.length_singleton]; omega) (by simp; omega) ?_)
      intro v7 w7 hown7 hg7 hat7
      have hO7 : OwnB w7 w3.heap.size v7 (a ++ [0]) := own_snoc hown7 (by simp) rfl
      have hB7 : Below w.heap.size w w7 := (HB6.out.alloc HB6.out.size _).grown hg7 (by have := HB6.out.size; simp; omega) (fun q h => by have := own_lt HO7.out q h; have := HZ3.out; omega)
      obtain ⟨A7, c7, rfl, hS7⟩ := own_sl hO7
      rw [List.length_append, List.length_singleton]
      have HM5 : Hid (Calls Tryd.prog 23 #[.slice A a.length c, .slice A7 (a.length + 1) c7] w7 fun e w' => e = .returned (.bool false) ∧ w7 = w') := hid (by
        have h := MSame_any A a c A7 (a ++ [0]) c7 w7 w.heap.size w7.heap.size (HA.out.lie.below hB7) hS7.lie (by omega) (by simp; omega)
        rw [show (a == a ++ [0]) = false from by rw [beq_eq_false_iff_ne]; exact fun e => by have := congrArg List.length e; simp at this] at h
        rw [List.length_append, List.length_singleton] at h
        exact h)
      have HB7 := hid hB7
      clear hown7 hg7 hat7 hO7 hS7 hB7 HO7 HB6
      go_wp2_with fail
      refine HM5.out.mono ?_
      rintro e wx ⟨rfl, rfl⟩
      go_wp2
      go_ret
      exact ⟨rfl, HB7.out⟩
end Go.Proofs.YtokggppfobbblaaDoor
