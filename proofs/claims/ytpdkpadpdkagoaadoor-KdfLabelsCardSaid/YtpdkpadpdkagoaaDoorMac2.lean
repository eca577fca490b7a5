/-
  Package mac: the two blocks that a key makes.
-/
import Derived.Test.YtpdkpadpdkagoaaDoorMac1
import Derived.Test.YtpdkpadpdkagoaaDoorLoops
namespace Go.Proofs.YtpdkpadpdkagoaaDoor
open Go.RowKit
set_option linter.unusedVariables false
set_option linter.unusedSimpArgs false

set_option maxRecDepth 100000 in
set_option maxHeartbeats 800000 in
theorem padded_loop {Q : Exit → Act → World → Prop} (w w1 : World) (A : Option Addr) (k : List UInt8) (c B : Nat) (t1 t4 t5 t6 t7 t8 t9 t10 t11 t13 t14 t15 t16 t17 t18 t19 t20 t21 t22 t23 t24 t25 t26 t27 t28 : Value)
    (hP : Pads w k 0 w1) (hK : Lie w1 B A (bvs k)) (hne : bvs k ≠ [] → ∀ b o sp, A = some ⟨b, o, sp⟩ → b ≠ w.heap.size ∧ b ≠ w.heap.size + 1)
    (hexit : ∀ w', Pads w k 64 w' → ∀ u4 u5 u12 u13 u14 u15 u16 u17 u18 u19 u20 u21 u22 u23 u24 u25 u26 : Value, Q (.exit 0) ⟨#[.slice A k.length c, t1, .pointer (some ⟨w.heap.size, 0, none⟩), .pointer (some ⟨w.heap.size + 1, 0, none⟩), u4, u5, t6, t7, t8, t9, t10, t11, u12, u13, u14, u15, u16, u17, u18, u19, u20, u21, u22, u23, u24, u25, u26, t27, t28], []⟩ w') :
    Code.wp Tryd.prog (Code.loop (loopN Tryd.f26 0)) Q ⟨#[.slice A k.length c, t1, .pointer (some ⟨w.heap.size, 0, none⟩), .pointer (some ⟨w.heap.size + 1, 0, none⟩), t4, t5, t6, t7, t8, t9, t10, t11, .int .i64 0, t13, t14, t15, t16, t17, t18, t19, t20, t21, t22, t23, t24, t25, t26, t27, t28], []⟩ w1 := by
  conv => arg 2; arg 1; whnf
  go_loopg [12] 64 (fun g i wr => ∃ n : Nat, n + g = 64 ∧ i = .int .i64 (n : Int) ∧ Pads w k n wr ∧ Lie wr B A (bvs k))
  case atStart => exact ⟨0, rfl, rfl, hP, hK⟩
  case round =>
    clear hP hK
    obtain ⟨n, hn, rfl, hP, hK⟩ := hrel
    have HN := hid hn; have HP := hid hP; have HK := hid hK
    have hn64 : n ≤ 64 := by omega
    clear hn hP hK
    by_cases hlt : n < 64
    · have hx : (n : Int) < 64 := by omega
      have hn0 : (0 : Int) ≤ (n : Int) := by omega
      obtain ⟨y, hy⟩ : ∃ y, y = k.getD n 0 := ⟨_, rfl⟩
      have h1 : bits .xor .u8 (y.toNat : Int) 92 = (((y ^^^ 92).toNat : Nat) : Int) := xor_u8 y 92
      have h2 : bits .xor .u8 (y.toNat : Int) 54 = (((y ^^^ 54).toNat : Nat) : Int) := xor_u8 y 54
      have HC := hid (at_any A k c n wr B HK.out)
      rw [← hy] at HC
      have hc1 := padTo_cell HP.out.1 hlt
      have hc2 := padTo_cell HP.out.2.1 hlt
      have hf1 : wr.frozen? ⟨w.heap.size, n, none⟩ = false := frozen_of_row _ _ _ _ _ HP.out.1
      have hf2 : wr.frozen? ⟨w.heap.size + 1, n, none⟩ = false := frozen_of_row _ _ _ _ _ HP.out.2.1
      have HY := hid hy
      clear hy
      clear hexit
      go_wp2_with fail
      refine HC.out.mono ?_
      rintro e w2 ⟨rfl, rfl⟩
      clear HC
      go_wp2
      have hn := HN.out
      have hne1 : bvs k ≠ [] → ∀ b o sp', A = some ⟨b, o, sp'⟩ → b ≠ w.heap.size := fun h b o sp e => (hne h b o sp e).1
      have hne2 : bvs k ≠ [] → ∀ b o sp', A = some ⟨b, o, sp'⟩ → b ≠ w.heap.size + 1 := fun h b o sp e => (hne h b o sp e).2
      have hb := HP.out.2.2
      go_roundg (64 - n - 1)
      case measure => omega
      case rel =>
        refine ⟨n + 1, by omega, by go_num, ⟨?_, ?_, ?_⟩, lie_setCell_ne (lie_setCell_ne HK.out hne1 _) hne2 _⟩
        · rw [heap_setCell_other _ _ _ _ (by simp), block_set HP.out.1 n, ← padTo_next _ _ _ hlt, ← HY.out]; rfl
        · rw [block_set ((heap_setCell_other _ _ _ _ (by simp)).trans HP.out.2.1) n, ← padTo_next _ _ _ hlt, ← HY.out]; rfl
        · exact (hb.setCell (Nat.le_refl _) _).setCell (by simp) _
    · obtain rfl : n = 64 := by omega
      go_wp2
      exact HP.out

section
variable {P : Program} {ops : Array Oper} {o : Oper} {a : Act} {w : World} {K : Act → World → Prop} {Q : Exit → Act → World → Prop} {E : Prop}
/-- A whole row loaded, as a step of a region that draws its order. -/
theorem step_load_row (hgd : o.guard = none) (ty : TypeId) (x : Operand) (ho : o.op = .load ty x)
    (g : Nat) (hx : a.eval x = .pointer (some ⟨g, 0, none⟩)) (t : TypeId) (cs : Array Value) (fr : Nat × Nat) (d : TypeDesc) (hg : w.heap[g]? = some (.cells cs t fr))
    (hu : P.underlying ty = some d) (hd : (match d with | .struct _ | .array _ _ => true | _ => false) = true) (hi : (P.info? ty).map (·.size) = some cs.size)
    (h : K (a.put o.dst (.agg cs)) w) : if Region.wanted o (yielded ops a.tmps) = true then Oper.wp P o a w K Q else E := by
  rw [if_pos (by simp [Region.wanted, hgd])]
  exact wp_load_row ty x ho g hx t cs fr d hg hu hd hi h
/-- A whole row stored where it stands already. -/
theorem step_store_same (hgd : o.guard = none) (ty : TypeId) (x y : Operand) (ho : o.op = .store ty x y)
    (g : Nat) (cs : Array Value) (hx : a.eval x = .pointer (some ⟨g, 0, none⟩)) (hy : a.eval y = .agg cs) (t : TypeId) (hg : w.heap[g]? = some (.cells cs t (0, 0)))
    (hi : (P.info? ty).map (·.size) = some cs.size) (h1 : cs.all (·.oneCell') = true)
    (h : K (a.put o.dst undef) w) : if Region.wanted o (yielded ops a.tmps) = true then Oper.wp P o a w K Q else E := by
  rw [if_pos (by simp [Region.wanted, hgd])]
  exact wp_store_row ty x y ho g cs hx hy t cs hg hi rfl h1 (by rw [setRow_self w g cs t (0, 0) hg]; exact h)
end
theorem results_two {fn : Func} {p q : Tmp} {ty : TypeId} (h : fn.results = #[.cell p ty, .cell q ty]) (tmps : Array Value) (w : World) (g g' : Nat) (t : TypeId) (cs cs' : Array Value) (fr fr' : Nat × Nat)
    (hp : tmps.getD p undef = .pointer (some ⟨g, 0, none⟩)) (hg : w.heap[g]? = some (.cells cs t fr)) (hq : tmps.getD q undef = .pointer (some ⟨g', 0, none⟩)) (hg' : w.heap[g']? = some (.cells cs' t fr'))
    {P : Program} (n : Nat) (e : TypeId) (hu : P.underlying ty = some (.array n e)) (hi : (P.info? ty).map (·.size) = some cs.size) (hi' : (P.info? ty).map (·.size) = some cs'.size) :
    (results fn tmps).run P w = .ok (.tuple #[.agg cs, .agg cs']) w := by
  have hp' : tmps[p]?.getD undef = .pointer (some ⟨g, 0, none⟩) := by simpa using hp
  have hq' : tmps[q]?.getD undef = .pointer (some ⟨g', 0, none⟩) := by simpa using hq
  simp [results, h, hp', hq', asAddr, run_loadVar_row w g t ty cs fr _ hg hu rfl hi, run_loadVar_row w g' t ty cs' fr' _ hg' hu rfl hi']

set_option maxRecDepth 100000 in
set_option maxHeartbeats 800000 in
theorem padded_any (A : Option Addr) (key : List UInt8) (c : Nat) (w : World) (hA : Sq w w.heap.size A c (bvs key)) (hG : Glob w) (hn : key.length ≤ 1152921504606846976) :
    Calls Tryd.prog 26 #[.slice A key.length c] w fun e w' => e = .returned (.tuple #[.agg (byA (padX 92 (padK key))), .agg (byA (padX 54 (padK key)))]) ∧ Below w.heap.size w w' := by
  obtain ⟨k, hk⟩ : ∃ k, k = padK key := ⟨_, rfl⟩
  rw [← hk]
  obtain ⟨z64, hz64⟩ : ∃ z, z = byA (List.replicate 64 0) := ⟨_, rfl⟩
  have hzero : ∀ W : World, (zeroValue 46).run Tryd.prog W = .ok (.agg z64) W := fun W => by rw [hz64]; exact zero64 W
  have HA := hid hA; have HG := hid hG; have HN := hid hn
  have hp0 : Pads w k 0 ((w.alloc (.cells z64 46)).alloc (.cells z64 46)) :=
    ⟨by rw [heap_alloc2_old, hz64]; simp [padTo], by rw [heap_alloc2_new, hz64]; simp [padTo], ((Below.refl _ _).alloc (Nat.le_refl _) _).alloc (by simp) _⟩
  have HP0 := hid hp0
  clear hA hG hn hz64 hp0
  by_cases h64 : 64 < key.length
  · have hx : (64 : Int) < (key.length : Int) := by omega
    have HK : Hid (k = shaB key) := hid (by rw [hk]; unfold padK; rw [if_pos h64])
    clear h64 hk
    go_enter Tryd.func26, Tryd.ntmps26
    go_wp2_with fail
    have hb0 : Below w.heap.size w ((w.alloc (.cells z64 46)).alloc (.cells z64 46)) := ((Below.refl _ _).alloc (Nat.le_refl _) _).alloc (by simp) _
    have HO := hid (ofs_any [(A, key, c)] ((w.alloc (.cells z64 46)).alloc (.cells z64 46)) (by
      intro p hp
      rw [List.mem_singleton] at hp
      subst hp
      exact (HA.out.below hb0).more hb0.size) (HG.out.below hb0 (Nat.le_refl _)) (by have := HN.out; simpa using this) (by simp))
    simp only [List.map_cons, List.map_nil, World.size_alloc, List.flatten_cons, List.flatten_nil, List.append_nil, List.length_cons, List.length_nil] at HO
    clear hb0
    refine HO.out.mono ?_
    rintro e w1 ⟨b, rfl, hbk, hbz, hb1⟩
    have hP1 : Pads w k 0 w1 := ⟨(hb1.block _ (by omega)).trans HP0.out.1, (hb1.block _ (by omega)).trans HP0.out.2.1, HP0.out.2.2.trans (hb1.mono (by omega))⟩
    have hK1 : Lie w1 w1.heap.size (some ⟨b, 0, none⟩) (bvs k) := by rw [HK.out]; exact lie_block hbk
    have hKl : (32 : Nat) = k.length := by rw [HK.out, shaB_length]
    have HP1 := hid hP1; have HK1 := hid hK1; have HKL := hid hKl
    clear hbk hb1 hP1 hK1 hzero HP0 HO HK hKl
    go_wp2
    rw [HKL.out]
    refine padded_loop w w1 _ k k.length w1.heap.size _ _ _ _ _ _ _ _ _ _ _ _ _ _ _ _ _ _ _ _ _ _ _ _ _ HP1.out HK1.out (fun _ b o sp e => by simp at e; omega) ?_
    intro w' hP u4 u5 u12 u13 u14 u15 u16 u17 u18 u19 u20 u21 u22 u23 u24 u25 u26
    have hp1 := padTo_end 92 k
    have hp2 := padTo_end 54 k
    obtain ⟨h1, h2, hb⟩ := hP
    rw [hp1] at h1
    rw [hp2] at h2
    have HI1 : Hid ((Tryd.prog.info? 46).map (·.size) = some (byA (padX 92 k)).size) := hid (info64.trans (by simp [byA]))
    have HI2 : Hid ((Tryd.prog.info? 46).map (·.size) = some (byA (padX 54 k)).size) := hid (info64.trans (by simp [byA]))
    have HO1 := hid (byA_one (padX 92 k)); have HO2 := hid (byA_one (padX 54 k))
    have H1 := hid h1; have H2 := hid h2; have HB := hid hb
    clear h1 h2 hb hp1 hp2
    go_wp2
    refine wp_region_any (by kernel_rfl) ?_
    try (change wpAny _ _ _ _ _ _ _ (World.drew _))
    refine wpAny_ready (rs := [0, 1]) (by kernel_rfl) (by simp) ?_
    refine AllReady.cons rfl (fun K hK => ?_) (AllReady.cons rfl (fun K hK => ?_) (AllReady.nil))
    · refine step_load_row rfl 46 (.tmp 2) rfl w.heap.size rfl 46 (byA (padX 92 k)) (0, 0) _ H1.out Tryd.underlying46 rfl HI1.out ?_
      refine hK _ _ ?_
      clear hK K
      refine wpAny_ready (rs := [1, 2]) (by kernel_rfl) (by simp) ?_
      refine AllReady.cons rfl (fun K hK => ?_) (AllReady.cons rfl (fun K hK => ?_) (AllReady.nil))
      · refine step_load_row rfl 46 (.tmp 3) rfl (w.heap.size + 1) rfl 46 (byA (padX 54 k)) (0, 0) _ H2.out Tryd.underlying46 rfl HI2.out ?_
        refine hK _ _ ?_
        clear hK K
        refine wpAny_ready (rs := [2]) (by kernel_rfl) (by simp) ?_
        refine AllReady.cons rfl (fun K hK => ?_) (AllReady.nil)
        · refine step_store_same rfl 46 (.tmp 2) (.tmp 27) rfl w.heap.size (byA (padX 92 k)) rfl rfl 46 H1.out HI1.out HO1.out ?_
          refine hK _ _ ?_
          clear hK K
          refine wpAny_ready (rs := [3]) (by kernel_rfl) (by simp) ?_
          refine AllReady.cons rfl (fun K hK => ?_) (AllReady.nil)
          · refine step_store_same rfl 46 (.tmp 3) (.tmp 28) rfl (w.heap.size + 1) (byA (padX 54 k)) rfl rfl 46 H2.out HI2.out HO2.out ?_
            refine hK _ _ ?_
            clear hK K
            refine wpAny_done (by kernel_rfl) ?_ _
            go_wp2
            exact bodyPost_ret (v := .tuple #[.agg (byA (padX 92 k)), .agg (byA (padX 54 k))]) (results_two rfl _ w'.drew w.heap.size (w.heap.size + 1) 46 _ _ (0, 0) (0, 0) rfl (show w'.drew.heap[w.heap.size]? = _ from H1.out) rfl (show w'.drew.heap[w.heap.size + 1]? = _ from H2.out) _ _ Tryd.underlying46 HI1.out HI2.out) rfl ⟨rfl, HB.out.drew⟩
      · refine step_store_same rfl 46 (.tmp 2) (.tmp 27) rfl w.heap.size (byA (padX 92 k)) rfl rfl 46 H1.out HI1.out HO1.out ?_
        refine hK _ _ ?_
        clear hK K
        refine wpAny_ready (rs := [1]) (by kernel_rfl) (by simp) ?_
        refine AllReady.cons rfl (fun K hK => ?_) (AllReady.nil)
        · refine step_load_row rfl 46 (.tmp 3) rfl (w.heap.size + 1) rfl 46 (byA (padX 54 k)) (0, 0) _ H2.out Tryd.underlying46 rfl HI2.out ?_
          refine hK _ _ ?_
          clear hK K
          refine wpAny_ready (rs := [3]) (by kernel_rfl) (by simp) ?_
          refine AllReady.cons rfl (fun K hK => ?_) (AllReady.nil)
          · refine step_store_same rfl 46 (.tmp 3) (.tmp 28) rfl (w.heap.size + 1) (byA (padX 54 k)) rfl rfl 46 H2.out HI2.out HO2.out ?_
            refine hK _ _ ?_
            clear hK K
            refine wpAny_done (by kernel_rfl) ?_ _
            go_wp2
            exact bodyPost_ret (v := .tuple #[.agg (byA (padX 92 k)), .agg (byA (padX 54 k))]) (results_two rfl _ w'.drew w.heap.size (w.heap.size + 1) 46 _ _ (0, 0) (0, 0) rfl (show w'.drew.heap[w.heap.size]? = _ from H1.out) rfl (show w'.drew.heap[w.heap.size + 1]? = _ from H2.out) _ _ Tryd.underlying46 HI1.out HI2.out) rfl ⟨rfl, HB.out.drew⟩
    · refine step_load_row rfl 46 (.tmp 3) rfl (w.heap.size + 1) rfl 46 (byA (padX 54 k)) (0, 0) _ H2.out Tryd.underlying46 rfl HI2.out ?_
      refine hK _ _ ?_
      clear hK K
      refine wpAny_ready (rs := [0]) (by kernel_rfl) (by simp) ?_
      refine AllReady.cons rfl (fun K hK => ?_) (AllReady.nil)
      · refine step_load_row rfl 46 (.tmp 2) rfl w.heap.size rfl 46 (byA (padX 92 k)) (0, 0) _ H1.out Tryd.underlying46 rfl HI1.out ?_
        refine hK _ _ ?_
        clear hK K
        refine wpAny_ready (rs := [2]) (by kernel_rfl) (by simp) ?_
        refine AllReady.cons rfl (fun K hK => ?_) (AllReady.nil)
        · refine step_store_same rfl 46 (.tmp 2) (.tmp 27) rfl w.heap.size (byA (padX 92 k)) rfl rfl 46 H1.out HI1.out HO1.out ?_
          refine hK _ _ ?_
          clear hK K
          refine wpAny_ready (rs := [3]) (by kernel_rfl) (by simp) ?_
          refine AllReady.cons rfl (fun K hK => ?_) (AllReady.nil)
          · refine step_store_same rfl 46 (.tmp 3) (.tmp 28) rfl (w.heap.size + 1) (byA (padX 54 k)) rfl rfl 46 H2.out HI2.out HO2.out ?_
            refine hK _ _ ?_
            clear hK K
            refine wpAny_done (by kernel_rfl) ?_ _
            go_wp2
            exact bodyPost_ret (v := .tuple #[.agg (byA (padX 92 k)), .agg (byA (padX 54 k))]) (results_two rfl _ w'.drew w.heap.size (w.heap.size + 1) 46 _ _ (0, 0) (0, 0) rfl (show w'.drew.heap[w.heap.size]? = _ from H1.out) rfl (show w'.drew.heap[w.heap.size + 1]? = _ from H2.out) _ _ Tryd.underlying46 HI1.out HI2.out) rfl ⟨rfl, HB.out.drew⟩
  · have hx : ¬ (64 : Int) < (key.length : Int) := by omega
    obtain rfl : k = key := by rw [hk]; unfold padK; rw [if_neg h64]
    clear hk h64
    have hK1 : Lie ((w.alloc (.cells z64 46)).alloc (.cells z64 46)) w.heap.size A (bvs k) := (HA.out.lie.alloc (Nat.le_refl _) _).alloc (by simp) _
    have HK1 := hid hK1
    have hne : bvs k ≠ [] → ∀ b o sp, A = some ⟨b, o, sp⟩ → b ≠ w.heap.size ∧ b ≠ w.heap.size + 1 := fun h b o sp e => by have := HA.out.lt h b o sp e; omega
    have HNE := hid hne
    clear hK1 hne
    go_enter Tryd.func26, Tryd.ntmps26
    go_wp2
    refine padded_loop w _ _ k c w.heap.size _ _ _ _ _ _ _ _ _ _ _ _ _ _ _ _ _ _ _ _ _ _ _ _ _ HP0.out HK1.out HNE.out ?_
    intro w' hP u4 u5 u12 u13 u14 u15 u16 u17 u18 u19 u20 u21 u22 u23 u24 u25 u26
    have hp1 := padTo_end 92 k
    have hp2 := padTo_end 54 k
    obtain ⟨h1, h2, hb⟩ := hP
    rw [hp1] at h1
    rw [hp2] at h2
    have HI1 : Hid ((Tryd.prog.info? 46).map (·.size) = some (byA (padX 92 k)).size) := hid (info64.trans (by simp [byA]))
    have HI2 : Hid ((Tryd.prog.info? 46).map (·.size) = some (byA (padX 54 k)).size) := hid (info64.trans (by simp [byA]))
    have HO1 := hid (byA_one (padX 92 k)); have HO2 := hid (byA_one (padX 54 k))
    have H1 := hid h1; have H2 := hid h2; have HB := hid hb
    clear h1 h2 hb hp1 hp2
    go_wp2
    refine wp_region_any (by kernel_rfl) ?_
    try (change wpAny _ _ _ _ _ _ _ (World.drew _))
    refine wpAny_ready (rs := [0, 1]) (by kernel_rfl) (by simp) ?_
    refine AllReady.cons rfl (fun K hK => ?_) (AllReady.cons rfl (fun K hK => ?_) (AllReady.nil))
    · refine step_load_row rfl 46 (.tmp 2) rfl w.heap.size rfl 46 (byA (padX 92 k)) (0, 0) _ H1.out Tryd.underlying46 rfl HI1.out ?_
      refine hK _ _ ?_
      clear hK K
      refine wpAny_ready (rs := [1, 2]) (by kernel_rfl) (by simp) ?_
      refine AllReady.cons rfl (fun K hK => ?_) (AllReady.cons rfl (fun K hK => ?_) (AllReady.nil))
      · refine step_load_row rfl 46 (.tmp 3) rfl (w.heap.size + 1) rfl 46 (byA (padX 54 k)) (0, 0) _ H2.out Tryd.underlying46 rfl HI2.out ?_
        refine hK _ _ ?_
        clear hK K
        refine wpAny_ready (rs := [2]) (by kernel_rfl) (by simp) ?_
        refine AllReady.cons rfl (fun K hK => ?_) (AllReady.nil)
        · refine step_store_same rfl 46 (.tmp 2) (.tmp 27) rfl w.heap.size (byA (padX 92 k)) rfl rfl 46 H1.out HI1.out HO1.out ?_
          refine hK _ _ ?_
          clear hK K
          refine wpAny_ready (rs := [3]) (by kernel_rfl) (by simp) ?_
          refine AllReady.cons rfl (fun K hK => ?_) (AllReady.nil)
          · refine step_store_same rfl 46 (.tmp 3) (.tmp 28) rfl (w.heap.size + 1) (byA (padX 54 k)) rfl rfl 46 H2.out HI2.out HO2.out ?_
            refine hK _ _ ?_
            clear hK K
            refine wpAny_done (by kernel_rfl) ?_ _
            go_wp2
            exact bodyPost_ret (v := .tuple #[.agg (byA (padX 92 k)), .agg (byA (padX 54 k))]) (results_two rfl _ w'.drew w.heap.size (w.heap.size + 1) 46 _ _ (0, 0) (0, 0) rfl (show w'.drew.heap[w.heap.size]? = _ from H1.out) rfl (show w'.drew.heap[w.heap.size + 1]? = _ from H2.out) _ _ Tryd.underlying46 HI1.out HI2.out) rfl ⟨rfl, HB.out.drew⟩
      · refine step_store_same rfl 46 (.tmp 2) (.tmp 27) rfl w.heap.size (byA (padX 92 k)) rfl rfl 46 H1.out HI1.out HO1.out ?_
        refine hK _ _ ?_
        clear hK K
        refine wpAny_ready (rs := [1]) (by kernel_rfl) (by simp) ?_
        refine AllReady.cons rfl (fun K hK => ?_) (AllReady.nil)
        · refine step_load_row rfl 46 (.tmp 3) rfl (w.heap.size + 1) rfl 46 (byA (padX 54 k)) (0, 0) _ H2.out Tryd.underlying46 rfl HI2.out ?_
          refine hK _ _ ?_
          clear hK K
          refine wpAny_ready (rs := [3]) (by kernel_rfl) (by simp) ?_
          refine AllReady.cons rfl (fun K hK => ?_) (AllReady.nil)
          · refine step_store_same rfl 46 (.tmp 3) (.tmp 28) rfl (w.heap.size + 1) (byA (padX 54 k)) rfl rfl 46 H2.out HI2.out HO2.out ?_
            refine hK _ _ ?_
            clear hK K
            refine wpAny_done (by kernel_rfl) ?_ _
            go_wp2
            exact bodyPost_ret (v := .tuple #[.agg (byA (padX 92 k)), .agg (byA (padX 54 k))]) (results_two rfl _ w'.drew w.heap.size (w.heap.size + 1) 46 _ _ (0, 0) (0, 0) rfl (show w'.drew.heap[w.heap.size]? = _ from H1.out) rfl (show w'.drew.heap[w.heap.size + 1]? = _ from H2.out) _ _ Tryd.underlying46 HI1.out HI2.out) rfl ⟨rfl, HB.out.drew⟩
    · refine step_load_row rfl 46 (.tmp 3) rfl (w.heap.size + 1) rfl 46 (byA (padX 54 k)) (0, 0) _ H2.out Tryd.underlying46 rfl HI2.out ?_
      refine hK _ _ ?_
      clear hK K
      refine wpAny_ready (rs := [0]) (by kernel_rfl) (by simp) ?_
      refine AllReady.cons rfl (fun K hK => ?_) (AllReady.nil)
      · refine step_load_row rfl 46 (.tmp 2) rfl w.heap.size rfl 46 (byA (padX 92 k)) (0, 0) _ H1.out Tryd.underlying46 rfl HI1.out ?_
        refine hK _ _ ?_
        clear hK K
        refine wpAny_ready (rs := [2]) (by kernel_rfl) (by simp) ?_
        refine AllReady.cons rfl (fun K hK => ?_) (AllReady.nil)
        · refine step_store_same rfl 46 (.tmp 2) (.tmp 27) rfl w.heap.size (byA (padX 92 k)) rfl rfl 46 H1.out HI1.out HO1.out ?_
          refine hK _ _ ?_
          clear hK K
          refine wpAny_ready (rs := [3]) (by kernel_rfl) (by simp) ?_
          refine AllReady.cons rfl (fun K hK => ?_) (AllReady.nil)
          · refine step_store_same rfl 46 (.tmp 3) (.tmp 28) rfl (w.heap.size + 1) (byA (padX 54 k)) rfl rfl 46 H2.out HI2.out HO2.out ?_
            refine hK _ _ ?_
            clear hK K
            refine wpAny_done (by kernel_rfl) ?_ _
            go_wp2
            exact bodyPost_ret (v := .tuple #[.agg (byA (padX 92 k)), .agg (byA (padX 54 k))]) (results_two rfl _ w'.drew w.heap.size (w.heap.size + 1) 46 _ _ (0, 0) (0, 0) rfl (show w'.drew.heap[w.heap.size]? = _ from H1.out) rfl (show w'.drew.heap[w.heap.size + 1]? = _ from H2.out) _ _ Tryd.underlying46 HI1.out HI2.out) rfl ⟨rfl, HB.out.drew⟩
end Go.Proofs.YtpdkpadpdkagoaaDoor
