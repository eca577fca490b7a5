/-
  Texts of this claim in one file: MacP, Mac1, Mac2, Mac3.
-/
import Derived.Test.YtpkmidaflnbobaaGreatDoorPk1
import Derived.Test.YtpkmidaflnbobaaGreatDoorPk5
import Derived.Test.YtpkmidaflnbobaaGreatDoorPk38
import Derived.Laws.CopyRow
import Derived.Test.YtpkmidaflnbobaaGreatDoorPk40
import Derived.Test.YtpkmidaflnbobaaGreatDoorPk2
section
namespace Go.Proofs.YtpkmidaflnbobaaGreatDoor
set_option linter.unusedVariables false
set_option linter.unusedSimpArgs false
/-- The key as it is taken: its digest, where it is longer than a block. -/
def padK (key : List UInt8) : List UInt8 := if 64 < key.length then shaB key else key
/-- A block: each byte of the key, 0 behind its end, held against x. -/
def padX (x : UInt8) (k : List UInt8) : List UInt8 := (List.range 64).map fun i => k.getD i 0 ^^^ x
@[simp] theorem padX_length (x : UInt8) (k : List UInt8) : (padX x k).length = 64 := by simp [padX]
/-- The tag. -/
def macB (key text : List UInt8) : List UInt8 := shaB (padX 92 (padK key) ++ shaB (padX 54 (padK key) ++ text))
theorem macB_length (key text : List UInt8) : (macB key text).length = 32 := shaB_length _
end Go.Proofs.YtpkmidaflnbobaaGreatDoor
end
section
namespace Go.Proofs.YtpkmidaflnbobaaGreatDoor
open Go.RowKit
set_option linter.unusedVariables false
set_option linter.unusedSimpArgs false
set_option maxHeartbeats 400000 in
theorem at_any (A : Option Addr) (xs : List UInt8) (c i : Nat) (w : World) (B : Nat) (hA : Lie w B A (bvs xs)) :
    Calls Tryz.prog 114 #[.slice A xs.length c, .int .i64 (i : Int)] w fun e w' => e = .returned (.int .u8 (((xs.getD i 0).toNat : Nat) : Int)) ∧ w = w' := by
  have hi0 : (0 : Int) ≤ (i : Int) := by omega
  by_cases hlt : i < xs.length
  · obtain ⟨b, o, rfl, hb, hc⟩ := hA.byte hlt
    have hx : (i : Int) < (xs.length : Int) := by omega
    obtain ⟨y, hy⟩ : ∃ y, y = xs.getD i 0 := ⟨_, rfl⟩
    have hy2 : xs[i] = y := by rw [hy, List.getD_eq_getElem?_getD, List.getElem?_eq_getElem hlt]; rfl
    rw [hy2] at hc
    rw [← hy]
    clear hy hy2
    go_enter Tryz.func114, Tryz.ntmps114
    go_wp2
    go_ret
    exact ⟨rfl, rfl⟩
  · have hx : ¬ (i : Int) < (xs.length : Int) := by omega
    obtain ⟨y, hy⟩ : ∃ y, y = xs.getD i 0 := ⟨_, rfl⟩
    have hy2 : y = 0 := by rw [hy, List.getD_eq_getElem?_getD, List.getElem?_eq_none (by omega)]; rfl
    rw [← hy]
    have HE : Hid (((y.toNat : Nat) : Int) = 0) := hid (by rw [hy2]; rfl)
    clear hy hy2
    go_enter Tryz.func114, Tryz.ntmps114
    go_wp2
    go_ret
    exact ⟨ret_int HE.out.symm, rfl⟩
/-- The first n bytes of a block, the rest 0. -/
def padTo (x : UInt8) (k : List UInt8) (n : Nat) : List UInt8 := (padX x k).take n ++ List.replicate (64 - n) 0
theorem padTo_end (x : UInt8) (k : List UInt8) : padTo x k 64 = padX x k := by
  simp only [padTo, Nat.sub_self, List.replicate_zero, List.append_nil]
  exact List.take_of_length_le (by simp)
theorem padTo_next (x : UInt8) (k : List UInt8) (n : Nat) (h : n < 64) : (byA (padTo x k n)).setIfInBounds n (.int .u8 (((k.getD n 0 ^^^ x).toNat : Nat) : Int)) = byA (padTo x k (n + 1)) := by
  apply Array.ext'
  have e : (padX x k).take (n + 1) = (padX x k).take n ++ [k.getD n 0 ^^^ x] := by
    rw [List.take_succ_eq_append_getElem (by simpa using h)]
    congr 2
    simp [padX]
  have e2 : List.replicate (64 - n) (0 : UInt8) = 0 :: List.replicate (64 - (n + 1)) 0 := by
    rw [show 64 - n = (64 - (n + 1)) + 1 by omega, List.replicate_succ]
  have hl : (bvs ((padX x k).take n)).length = n := by simp; omega
  simp only [byA, Array.toList_setIfInBounds, padTo, e, e2, bvs_append]
  rw [List.set_append_right _ _ (by omega), hl, Nat.sub_self]
  simp [bvs]
theorem padTo_cell {w : World} {g : Nat} {x : UInt8} {k : List UInt8} {n : Nat} (h : w.heap[g]? = some (.cells (byA (padTo x k n)) 104 (0, 0))) (hn : n < 64) : w.cell? ⟨g, n, none⟩ = some (.int .u8 0) := by
  refine cell_of h n _ ?_
  have hl : ((padX x k).take n).length = n := by simp; omega
  rw [byA, List.getElem?_toArray, padTo, bvs, List.map_append, List.getElem?_append_right (by simp; omega)]
  rw [List.length_map, hl, Nat.sub_self, show 64 - n = (64 - (n + 1)) + 1 by omega, List.replicate_succ]
  rfl
theorem info64 : (Tryz.prog.info? 104).map (·.size) = some 64 := by kernel_rfl
theorem zero64 (w : World) : (zeroValue 104).run Tryz.prog w = .ok (.agg (byA (List.replicate 64 0))) w :=
  (zero_of_info (P := Tryz.prog) (t := 104) (v := .agg (byA (List.replicate 64 0))) (n := 64) (by kernel_rfl)).1 w
theorem xor_u8 (a b : UInt8) : bits .xor .u8 ((a.toNat : Nat) : Int) ((b.toNat : Nat) : Int) = (((a ^^^ b).toNat : Nat) : Int) := by
  have ha := a.toNat_lt
  have hb := b.toNat_lt
  rw [UInt8.toNat_xor]
  exact u8_xor_nat _ _ ha hb
/-- Two new blocks hold what the key makes. -/
def Pads (w : World) (k : List UInt8) (n : Nat) (wr : World) : Prop :=
  wr.heap[w.heap.size]? = some (.cells (byA (padTo 92 k n)) 104 (0, 0)) ∧ wr.heap[w.heap.size + 1]? = some (.cells (byA (padTo 54 k n)) 104 (0, 0)) ∧ Below w.heap.size w wr
end Go.Proofs.YtpkmidaflnbobaaGreatDoor
end
section
namespace Go.Proofs.YtpkmidaflnbobaaGreatDoor
open Go.RowKit
set_option linter.unusedVariables false
set_option linter.unusedSimpArgs false
set_option maxRecDepth 100000 in
set_option maxHeartbeats 800000 in
theorem padded_loop {Q : Exit → Act → World → Prop} (w w1 : World) (A : Option Addr) (k : List UInt8) (c B : Nat) (t1 t4 t5 t6 t7 t8 t9 t10 t11 t13 t14 t15 t16 t17 t18 t19 t20 t21 t22 t23 t24 t25 t26 t27 t28 : Value)
    (hP : Pads w k 0 w1) (hK : Lie w1 B A (bvs k)) (hne : bvs k ≠ [] → ∀ b o sp, A = some ⟨b, o, sp⟩ → b ≠ w.heap.size ∧ b ≠ w.heap.size + 1)
    (hexit : ∀ w', Pads w k 64 w' → ∀ u4 u5 u12 u13 u14 u15 u16 u17 u18 u19 u20 u21 u22 u23 u24 u25 u26 : Value, Q (.exit 0) ⟨#[.slice A k.length c, t1, .pointer (some ⟨w.heap.size, 0, none⟩), .pointer (some ⟨w.heap.size + 1, 0, none⟩), u4, u5, t6, t7, t8, t9, t10, t11, u12, u13, u14, u15, u16, u17, u18, u19, u20, u21, u22, u23, u24, u25, u26, t27, t28], []⟩ w') :
    Code.wp Tryz.prog (Code.loop (loopN Tryz.f92 0)) Q ⟨#[.slice A k.length c, t1, .pointer (some ⟨w.heap.size, 0, none⟩), .pointer (some ⟨w.heap.size + 1, 0, none⟩), t4, t5, t6, t7, t8, t9, t10, t11, .int .i64 0, t13, t14, t15, t16, t17, t18, t19, t20, t21, t22, t23, t24, t25, t26, t27, t28], []⟩ w1 := by
  conv => arg 2; arg 1; whnf
  go_loopg [12] 64 (fun g i wr => ∃ n : Nat, n + g = 64 ∧ i = .int .i64 (n : Int) ∧ Pads w k n wr ∧ Lie wr B A (bvs k))
  case atStart => exact ⟨0, rfl, rfl, hP, hK⟩
  case round =>
    clear hP hK
    obtain ⟨n, hn, rfl, hP, hK⟩ := hrel
    have HN := hid hn; have HP := hid hP; have HK := hid hK
    have hn64 : n ≤ 64 := by omega
    clear hn hP hK
    by_cases hlt : n < 64
    · have hx : (n : Int) < 64 := by omega
      have hn0 : (0 : Int) ≤ (n : Int) := by omega
      obtain ⟨y, hy⟩ : ∃ y, y = k.getD n 0 := ⟨_, rfl⟩
      have h1 : bits .xor .u8 (y.toNat : Int) 92 = (((y ^^^ 92).toNat : Nat) : Int) := xor_u8 y 92
      have h2 : bits .xor .u8 (y.toNat : Int) 54 = (((y ^^^ 54).toNat : Nat) : Int) := xor_u8 y 54
      have HC := hid (at_any A k c n wr B HK.out)
      rw [← hy] at HC
      have hc1 := padTo_cell HP.out.1 hlt
      have hc2 := padTo_cell HP.out.2.1 hlt
      have hf1 : wr.frozen? ⟨w.heap.size, n, none⟩ = false := frozen_of_row _ _ _ _ _ HP.out.1
      have hf2 : wr.frozen? ⟨w.heap.size + 1, n, none⟩ = false := frozen_of_row _ _ _ _ _ HP.out.2.1
      have HY := hid hy
      clear hy
      clear hexit
      go_wp2_with fail
      refine HC.out.mono ?_
      rintro e w2 ⟨rfl, rfl⟩
      clear HC
      go_wp2
      have hn := HN.out
      have hne1 : bvs k ≠ [] → ∀ b o sp', A = some ⟨b, o, sp'⟩ → b ≠ w.heap.size := fun h b o sp e => (hne h b o sp e).1
      have hne2 : bvs k ≠ [] → ∀ b o sp', A = some ⟨b, o, sp'⟩ → b ≠ w.heap.size + 1 := fun h b o sp e => (hne h b o sp e).2
      have hb := HP.out.2.2
      go_roundg (64 - n - 1)
      case measure => omega
      case rel =>
        refine ⟨n + 1, by omega, by go_num, ⟨?_, ?_, ?_⟩, lie_setCell_ne (lie_setCell_ne HK.out hne1 _) hne2 _⟩
        · rw [heap_setCell_other _ _ _ _ (by simp), block_set HP.out.1 n, ← padTo_next _ _ _ hlt, ← HY.out]; rfl
        · rw [block_set ((heap_setCell_other _ _ _ _ (by simp)).trans HP.out.2.1) n, ← padTo_next _ _ _ hlt, ← HY.out]; rfl
        · exact (hb.setCell (Nat.le_refl _) _).setCell (by simp) _
    · obtain rfl : n = 64 := by omega
      go_wp2
      exact HP.out
theorem results_two {fn : Func} {p q : Tmp} {ty : TypeId} (h : fn.results = #[.cell p ty, .cell q ty]) (tmps : Array Value) (w : World) (g g' : Nat) (t : TypeId) (cs cs' : Array Value) (fr fr' : Nat × Nat)
    (hp : tmps.getD p undef = .pointer (some ⟨g, 0, none⟩)) (hg : w.heap[g]? = some (.cells cs t fr)) (hq : tmps.getD q undef = .pointer (some ⟨g', 0, none⟩)) (hg' : w.heap[g']? = some (.cells cs' t fr'))
    {P : Program} (n : Nat) (e : TypeId) (hu : P.underlying ty = some (.array n e)) (hi : (P.info? ty).map (·.size) = some cs.size) (hi' : (P.info? ty).map (·.size) = some cs'.size) :
    (results fn tmps).run P w = .ok (.tuple #[.agg cs, .agg cs']) w := by
  have hp' : tmps[p]?.getD undef = .pointer (some ⟨g, 0, none⟩) := by simpa using hp
  have hq' : tmps[q]?.getD undef = .pointer (some ⟨g', 0, none⟩) := by simpa using hq
  simp [results, h, hp', hq', asAddr, run_loadVar_row w g t ty cs fr _ hg hu rfl hi, run_loadVar_row w g' t ty cs' fr' _ hg' hu rfl hi']
set_option maxRecDepth 100000 in
set_option maxHeartbeats 800000 in
theorem padded_any (A : Option Addr) (key : List UInt8) (c : Nat) (w : World) (hA : Sq w w.heap.size A c (bvs key)) (hG : Glob w) (hn : key.length ≤ 1152921504606846976) :
    Calls Tryz.prog 92 #[.slice A key.length c] w fun e w' => e = .returned (.tuple #[.agg (byA (padX 92 (padK key))), .agg (byA (padX 54 (padK key)))]) ∧ Below w.heap.size w w' := by
  obtain ⟨k, hk⟩ : ∃ k, k = padK key := ⟨_, rfl⟩
  rw [← hk]
  obtain ⟨z64, hz64⟩ : ∃ z, z = byA (List.replicate 64 0) := ⟨_, rfl⟩
  have hzero : ∀ W : World, (zeroValue 104).run Tryz.prog W = .ok (.agg z64) W := fun W => by rw [hz64]; exact zero64 W
  have HA := hid hA; have HG := hid hG; have HN := hid hn
  have hp0 : Pads w k 0 ((w.alloc (.cells z64 104)).alloc (.cells z64 104)) :=
    ⟨by rw [heap_alloc2_old, hz64]; simp [padTo], by rw [heap_alloc2_new, hz64]; simp [padTo], ((Below.refl _ _).alloc (Nat.le_refl _) _).alloc (by simp) _⟩
  have HP0 := hid hp0
  clear hA hG hn hz64 hp0
  by_cases h64 : 64 < key.length
  · have hx : (64 : Int) < (key.length : Int) := by omega
    have HK : Hid (k = shaB key) := hid (by rw [hk]; unfold padK; rw [if_pos h64])
    clear h64 hk
    go_enter Tryz.func92, Tryz.ntmps92
    go_wp2_with fail
    have hb0 : Below w.heap.size w ((w.alloc (.cells z64 104)).alloc (.cells z64 104)) := ((Below.refl _ _).alloc (Nat.le_refl _) _).alloc (by simp) _
    have HO := hid (ofs_any [(A, key, c)] ((w.alloc (.cells z64 104)).alloc (.cells z64 104)) (by
      intro p hp
      rw [List.mem_singleton] at hp
      subst hp
      exact (HA.out.below hb0).more hb0.size) (HG.out.below hb0 (Nat.le_refl _)) (by have := HN.out; simpa using this) (by simp))
    simp only [List.map_cons, List.map_nil, World.size_alloc, List.flatten_cons, List.flatten_nil, List.append_nil, List.length_cons, List.length_nil] at HO
    clear hb0
    refine HO.out.mono ?_
    rintro e w1 ⟨b, rfl, hbk, hbz, hb1⟩
    have hP1 : Pads w k 0 w1 := ⟨(hb1.block _ (by omega)).trans HP0.out.1, (hb1.block _ (by omega)).trans HP0.out.2.1, HP0.out.2.2.trans (hb1.mono (by omega))⟩
    have hK1 : Lie w1 w1.heap.size (some ⟨b, 0, none⟩) (bvs k) := by rw [HK.out]; exact lie_block hbk
    have hKl : (32 : Nat) = k.length := by rw [HK.out, shaB_length]
    have HP1 := hid hP1; have HK1 := hid hK1; have HKL := hid hKl
    clear hbk hb1 hP1 hK1 hzero HP0 HO HK hKl
    go_wp2
    rw [HKL.out]
    refine padded_loop w w1 _ k k.length w1.heap.size _ _ _ _ _ _ _ _ _ _ _ _ _ _ _ _ _ _ _ _ _ _ _ _ _ HP1.out HK1.out (fun _ b o sp e => by simp at e; omega) ?_
    intro w' hP u4 u5 u12 u13 u14 u15 u16 u17 u18 u19 u20 u21 u22 u23 u24 u25 u26
    have hp1 := padTo_end 92 k
    have hp2 := padTo_end 54 k
    obtain ⟨h1, h2, hb⟩ := hP
    rw [hp1] at h1
    rw [hp2] at h2
    have HI1 : Hid ((Tryz.prog.info? 104).map (·.size) = some (byA (padX 92 k)).size) := hid (info64.trans (by simp [byA]))
    have HI2 : Hid ((Tryz.prog.info? 104).map (·.size) = some (byA (padX 54 k)).size) := hid (info64.trans (by simp [byA]))
    have HO1 := hid (byA_one (padX 92 k)); have HO2 := hid (byA_one (padX 54 k))
    have H1 := hid h1; have H2 := hid h2; have HB := hid hb
    clear h1 h2 hb hp1 hp2
    go_wp2
    refine wp_region_any (by kernel_rfl) ?_
    try (change wpAny _ _ _ _ _ _ _ (World.drew _))
    refine wpAny_ready (rs := [0, 1]) (by kernel_rfl) (by simp) ?_
    refine AllReady.cons rfl (fun K hK => ?_) (AllReady.cons rfl (fun K hK => ?_) (AllReady.nil))
    · refine step_load_row rfl 104 (.tmp 2) rfl w.heap.size rfl 104 (byA (padX 92 k)) (0, 0) _ H1.out Tryz.underlying104 rfl HI1.out ?_
      refine hK _ _ ?_
      clear hK K
      refine wpAny_ready (rs := [1, 2]) (by kernel_rfl) (by simp) ?_
      refine AllReady.cons rfl (fun K hK => ?_) (AllReady.cons rfl (fun K hK => ?_) (AllReady.nil))
      · refine step_load_row rfl 104 (.tmp 3) rfl (w.heap.size + 1) rfl 104 (byA (padX 54 k)) (0, 0) _ H2.out Tryz.underlying104 rfl HI2.out ?_
        refine hK _ _ ?_
        clear hK K
        refine wpAny_ready (rs := [2]) (by kernel_rfl) (by simp) ?_
        refine AllReady.cons rfl (fun K hK => ?_) (AllReady.nil)
        · refine step_store_same rfl 104 (.tmp 2) (.tmp 27) rfl w.heap.size (byA (padX 92 k)) rfl rfl 104 H1.out HI1.out HO1.out ?_
          refine hK _ _ ?_
          clear hK K
          refine wpAny_ready (rs := [3]) (by kernel_rfl) (by simp) ?_
          refine AllReady.cons rfl (fun K hK => ?_) (AllReady.nil)
          · refine step_store_same rfl 104 (.tmp 3) (.tmp 28) rfl (w.heap.size + 1) (byA (padX 54 k)) rfl rfl 104 H2.out HI2.out HO2.out ?_
            refine hK _ _ ?_
            clear hK K
            refine wpAny_done (by kernel_rfl) ?_ _
            go_wp2
            exact bodyPost_ret (v := .tuple #[.agg (byA (padX 92 k)), .agg (byA (padX 54 k))]) (results_two rfl _ w'.drew w.heap.size (w.heap.size + 1) 104 _ _ (0, 0) (0, 0) rfl (show w'.drew.heap[w.heap.size]? = _ from H1.out) rfl (show w'.drew.heap[w.heap.size + 1]? = _ from H2.out) _ _ Tryz.underlying104 HI1.out HI2.out) rfl ⟨rfl, HB.out.drew⟩
      · refine step_store_same rfl 104 (.tmp 2) (.tmp 27) rfl w.heap.size (byA (padX 92 k)) rfl rfl 104 H1.out HI1.out HO1.out ?_
        refine hK _ _ ?_
        clear hK K
        refine wpAny_ready (rs := [1]) (by kernel_rfl) (by simp) ?_
        refine AllReady.cons rfl (fun K hK => ?_) (AllReady.nil)
        · refine step_load_row rfl 104 (.tmp 3) rfl (w.heap.size + 1) rfl 104 (byA (padX 54 k)) (0, 0) _ H2.out Tryz.underlying104 rfl HI2.out ?_
          refine hK _ _ ?_
          clear hK K
          refine wpAny_ready (rs := [3]) (by kernel_rfl) (by simp) ?_
          refine AllReady.cons rfl (fun K hK => ?_) (AllReady.nil)
          · refine step_store_same rfl 104 (.tmp 3) (.tmp 28) rfl (w.heap.size + 1) (byA (padX 54 k)) rfl rfl 104 H2.out HI2.out HO2.out ?_
            refine hK _ _ ?_
            clear hK K
            refine wpAny_done (by kernel_rfl) ?_ _
            go_wp2
            exact bodyPost_ret (v := .tuple #[.agg (byA (padX 92 k)), .agg (byA (padX 54 k))]) (results_two rfl _ w'.drew w.heap.size (w.heap.size + 1) 104 _ _ (0, 0) (0, 0) rfl (show w'.drew.heap[w.heap.size]? = _ from H1.out) rfl (show w'.drew.heap[w.heap.size + 1]? = _ from H2.out) _ _ Tryz.underlying104 HI1.out HI2.out) rfl ⟨rfl, HB.out.drew⟩
    · refine step_load_row rfl 104 (.tmp 3) rfl (w.heap.size + 1) rfl 104 (byA (padX 54 k)) (0, 0) _ H2.out Tryz.underlying104 rfl HI2.out ?_
      refine hK _ _ ?_
      clear hK K
      refine wpAny_ready (rs := [0]) (by kernel_rfl) (by simp) ?_
      refine AllReady.cons rfl (fun K hK => ?_) (AllReady.nil)
      · refine step_load_row rfl 104 (.tmp 2) rfl w.heap.size rfl 104 (byA (padX 92 k)) (0, 0) _ H1.out Tryz.underlying104 rfl HI1.out ?_
        refine hK _ _ ?_
        clear hK K
        refine wpAny_ready (rs := [2]) (by kernel_rfl) (by simp) ?_
        refine AllReady.cons rfl (fun K hK => ?_) (AllReady.nil)
        · refine step_store_same rfl 104 (.tmp 2) (.tmp 27) rfl w.heap.size (byA (padX 92 k)) rfl rfl 104 H1.out HI1.out HO1.out ?_
          refine hK _ _ ?_
          clear hK K
          refine wpAny_ready (rs := [3]) (by kernel_rfl) (by simp) ?_
          refine AllReady.cons rfl (fun K hK => ?_) (AllReady.nil)
          · refine step_store_same rfl 104 (.tmp 3) (.tmp 28) rfl (w.heap.size + 1) (byA (padX 54 k)) rfl rfl 104 H2.out HI2.out HO2.out ?_
            refine hK _ _ ?_
            clear hK K
            refine wpAny_done (by kernel_rfl) ?_ _
            go_wp2
            exact bodyPost_ret (v := .tuple #[.agg (byA (padX 92 k)), .agg (byA (padX 54 k))]) (results_two rfl _ w'.drew w.heap.size (w.heap.size + 1) 104 _ _ (0, 0) (0, 0) rfl (show w'.drew.heap[w.heap.size]? = _ from H1.out) rfl (show w'.drew.heap[w.heap.size + 1]? = _ from H2.out) _ _ Tryz.underlying104 HI1.out HI2.out) rfl ⟨rfl, HB.out.drew⟩
  · have hx : ¬ (64 : Int) < (key.length : Int) := by omega
    obtain rfl : k = key := by rw [hk]; unfold padK; rw [if_neg h64]
    clear hk h64
    have hK1 : Lie ((w.alloc (.cells z64 104)).alloc (.cells z64 104)) w.heap.size A (bvs k) := (HA.out.lie.alloc (Nat.le_refl _) _).alloc (by simp) _
    have HK1 := hid hK1
    have hne : bvs k ≠ [] → ∀ b o sp, A = some ⟨b, o, sp⟩ → b ≠ w.heap.size ∧ b ≠ w.heap.size + 1 := fun h b o sp e => by have := HA.out.lt h b o sp e; omega
    have HNE := hid hne
    clear hK1 hne
    go_enter Tryz.func92, Tryz.ntmps92
    go_wp2
    refine padded_loop w _ _ k c w.heap.size _ _ _ _ _ _ _ _ _ _ _ _ _ _ _ _ _ _ _ _ _ _ _ _ _ HP0.out HK1.out HNE.out ?_
    intro w' hP u4 u5 u12 u13 u14 u15 u16 u17 u18 u19 u20 u21 u22 u23 u24 u25 u26
    have hp1 := padTo_end 92 k
    have hp2 := padTo_end 54 k
    obtain ⟨h1, h2, hb⟩ := hP
    rw [hp1] at h1
    rw [hp2] at h2
    have HI1 : Hid ((Tryz.prog.info? 104).map (·.size) = some (byA (padX 92 k)).size) := hid (info64.trans (by simp [byA]))
    have HI2 : Hid ((Tryz.prog.info? 104).map (·.size) = some (byA (padX 54 k)).size) := hid (info64.trans (by simp [byA]))
    have HO1 := hid (byA_one (padX 92 k)); have HO2 := hid (byA_one (padX 54 k))
    have H1 := hid h1; have H2 := hid h2; have HB := hid hb
    clear h1 h2 hb hp1 hp2
    go_wp2
    refine wp_region_any (by kernel_rfl) ?_
    try (change wpAny _ _ _ _ _ _ _ (World.drew _))
    refine wpAny_ready (rs := [0, 1]) (by kernel_rfl) (by simp) ?_
    refine AllReady.cons rfl (fun K hK => ?_) (AllReady.cons rfl (fun K hK => ?_) (AllReady.nil))
    · refine step_load_row rfl 104 (.tmp 2) rfl w.heap.size rfl 104 (byA (padX 92 k)) (0, 0) _ H1.out Tryz.underlying104 rfl HI1.out ?_
      refine hK _ _ ?_
      clear hK K
      refine wpAny_ready (rs := [1, 2]) (by kernel_rfl) (by simp) ?_
      refine AllReady.cons rfl (fun K hK => ?_) (AllReady.cons rfl (fun K hK => ?_) (AllReady.nil))
      · refine step_load_row rfl 104 (.tmp 3) rfl (w.heap.size + 1) rfl 104 (byA (padX 54 k)) (0, 0) _ H2.out Tryz.underlying104 rfl HI2.out ?_
        refine hK _ _ ?_
        clear hK K
        refine wpAny_ready (rs := [2]) (by kernel_rfl) (by simp) ?_
        refine AllReady.cons rfl (fun K hK => ?_) (AllReady.nil)
        · refine step_store_same rfl 104 (.tmp 2) (.tmp 27) rfl w.heap.size (byA (padX 92 k)) rfl rfl 104 H1.out HI1.out HO1.out ?_
          refine hK _ _ ?_
          clear hK K
          refine wpAny_ready (rs := [3]) (by kernel_rfl) (by simp) ?_
          refine AllReady.cons rfl (fun K hK => ?_) (AllReady.nil)
          · refine step_store_same rfl 104 (.tmp 3) (.tmp 28) rfl (w.heap.size + 1) (byA (padX 54 k)) rfl rfl 104 H2.out HI2.out HO2.out ?_
            refine hK _ _ ?_
            clear hK K
            refine wpAny_done (by kernel_rfl) ?_ _
            go_wp2
            exact bodyPost_ret (v := .tuple #[.agg (byA (padX 92 k)), .agg (byA (padX 54 k))]) (results_two rfl _ w'.drew w.heap.size (w.heap.size + 1) 104 _ _ (0, 0) (0, 0) rfl (show w'.drew.heap[w.heap.size]? = _ from H1.out) rfl (show w'.drew.heap[w.heap.size + 1]? = _ from H2.out) _ _ Tryz.underlying104 HI1.out HI2.out) rfl ⟨rfl, HB.out.drew⟩
      · refine step_store_same rfl 104 (.tmp 2) (.tmp 27) rfl w.heap.size (byA (padX 92 k)) rfl rfl 104 H1.out HI1.out HO1.out ?_
        refine hK _ _ ?_
        clear hK K
        refine wpAny_ready (rs := [1]) (by kernel_rfl) (by simp) ?_
        refine AllReady.cons rfl (fun K hK => ?_) (AllReady.nil)
        · refine step_load_row rfl 104 (.tmp 3) rfl (w.heap.size + 1) rfl 104 (byA (padX 54 k)) (0, 0) _ H2.out Tryz.underlying104 rfl HI2.out ?_
          refine hK _ _ ?_
          clear hK K
          refine wpAny_ready (rs := [3]) (by kernel_rfl) (by simp) ?_
          refine AllReady.cons rfl (fun K hK => ?_) (AllReady.nil)
          · refine step_store_same rfl 104 (.tmp 3) (.tmp 28) rfl (w.heap.size + 1) (byA (padX 54 k)) rfl rfl 104 H2.out HI2.out HO2.out ?_
            refine hK _ _ ?_
            clear hK K
            refine wpAny_done (by kernel_rfl) ?_ _
            go_wp2
            exact bodyPost_ret (v := .tuple #[.agg (byA (padX 92 k)), .agg (byA (padX 54 k))]) (results_two rfl _ w'.drew w.heap.size (w.heap.size + 1) 104 _ _ (0, 0) (0, 0) rfl (show w'.drew.heap[w.heap.size]? = _ from H1.out) rfl (show w'.drew.heap[w.heap.size + 1]? = _ from H2.out) _ _ Tryz.underlying104 HI1.out HI2.out) rfl ⟨rfl, HB.out.drew⟩
    · refine step_load_row rfl 104 (.tmp 3) rfl (w.heap.size + 1) rfl 104 (byA (padX 54 k)) (0, 0) _ H2.out Tryz.underlying104 rfl HI2.out ?_
      refine hK _ _ ?_
      clear hK K
      refine wpAny_ready (rs := [0]) (by kernel_rfl) (by simp) ?_
      refine AllReady.cons rfl (fun K hK => ?_) (AllReady.nil)
      · refine step_load_row rfl 104 (.tmp 2) rfl w.heap.size rfl 104 (byA (padX 92 k)) (0, 0) _ H1.out Tryz.underlying104 rfl HI1.out ?_
        refine hK _ _ ?_
        clear hK K
        refine wpAny_ready (rs := [2]) (by kernel_rfl) (by simp) ?_
        refine AllReady.cons rfl (fun K hK => ?_) (AllReady.nil)
        · refine step_store_same rfl 104 (.tmp 2) (.tmp 27) rfl w.heap.size (byA (padX 92 k)) rfl rfl 104 H1.out HI1.out HO1.out ?_
          refine hK _ _ ?_
          clear hK K
          refine wpAny_ready (rs := [3]) (by kernel_rfl) (by simp) ?_
          refine AllReady.cons rfl (fun K hK => ?_) (AllReady.nil)
          · refine step_store_same rfl 104 (.tmp 3) (.tmp 28) rfl (w.heap.size + 1) (byA (padX 54 k)) rfl rfl 104 H2.out HI2.out HO2.out ?_
            refine hK _ _ ?_
            clear hK K
            refine wpAny_done (by kernel_rfl) ?_ _
            go_wp2
            exact bodyPost_ret (v := .tuple #[.agg (byA (padX 92 k)), .agg (byA (padX 54 k))]) (results_two rfl _ w'.drew w.heap.size (w.heap.size + 1) 104 _ _ (0, 0) (0, 0) rfl (show w'.drew.heap[w.heap.size]? = _ from H1.out) rfl (show w'.drew.heap[w.heap.size + 1]? = _ from H2.out) _ _ Tryz.underlying104 HI1.out HI2.out) rfl ⟨rfl, HB.out.drew⟩
end Go.Proofs.YtpkmidaflnbobaaGreatDoor
end
section
namespace Go.Proofs.YtpkmidaflnbobaaGreatDoor
open Go.RowKit
set_option linter.unusedVariables false
set_option linter.unusedSimpArgs false
set_option maxRecDepth 100000 in
set_option maxHeartbeats 800000 in
theorem Tag_any (A : Option Addr) (key : List UInt8) (c : Nat) (A2 : Option Addr) (ls : List (List UInt8)) (c2 : Nat) (w : World) (hA : Sq w w.heap.size A c (bvs key)) (hA2 : Rows2' w w.heap.size A2 ls) (hG : Glob w)
    (hn : key.length ≤ 1152921504606846976) (hn2 : ls.flatten.length ≤ 1152921504606840000) (hl : ls.length ≤ 9223372036854775807) :
    Calls Tryz.prog 68 #[.slice A key.length c, .slice A2 ls.length c2] w fun e w' => ∃ v, e = .returned v ∧ Digest w w' v (macB key ls.flatten) ∧ Below w.heap.size w w' := by
  obtain ⟨z64, hz64⟩ : ∃ z, z = byA (List.replicate 64 0) := ⟨_, rfl⟩
  have hzero : ∀ W : World, (zeroValue 104).run Tryz.prog W = .ok (.agg z64) W := fun W => by rw [hz64]; exact zero64 W
  have HP := hid (padded_any A key c w hA hG hn)
  obtain ⟨po, hpo⟩ : ∃ p, p = padX 92 (padK key) := ⟨_, rfl⟩
  obtain ⟨pi, hpi⟩ : ∃ p, p = padX 54 (padK key) := ⟨_, rfl⟩
  rw [← hpo, ← hpi] at HP
  have hol : po.length = 64 := by rw [hpo]; simp
  have hil : pi.length = 64 := by rw [hpi]; simp
  have HZ : Hid (z64.size = 64) := hid (by rw [hz64]; simp [byA])
  have HI1 : Hid ((Tryz.prog.info? 104).map (·.size) = some (byA po).size) := hid (info64.trans (by simp [byA, hol]))
  have HI2 : Hid ((Tryz.prog.info? 104).map (·.size) = some (byA pi).size) := hid (info64.trans (by simp [byA, hil]))
  have HZ1 : Hid (z64.size = (byA po).size) := hid (HZ.out.trans (by simp [byA, hol]))
  have HZ2 : Hid (z64.size = (byA pi).size) := hid (HZ.out.trans (by simp [byA, hil]))
  have HO1 := hid (byA_one po); have HO2 := hid (byA_one pi)
  have HA := hid hA; have HA2 := hid hA2; have HG := hid hG; have HPO := hid hpo; have HPI := hid hpi; have HOL := hid hol; have HIL := hid hil
  clear hA hA2 hG hz64 hpo hpi hol hil
  go_enter Tryz.func68, Tryz.ntmps68
  go_wp2_with fail
  refine HP.out.mono ?_
  rintro e w1 ⟨rfl, hb1⟩
  have h51 : ((w1.alloc (.cells z64 104)).alloc (.cells z64 104)).heap[w1.heap.size]? = some (.cells z64 104 (0, 0)) := heap_alloc2_old _ _ _
  have h61 : (((w1.alloc (.cells z64 104)).alloc (.cells z64 104)).setRow w1.heap.size (byA po)).heap[w1.heap.size + 1]? = some (.cells z64 104 (0, 0)) := (setRow_other _ _ _ _ (by omega)).trans (heap_alloc2_new _ _ _)
  have H51 := hid h51; have H61 := hid h61; have HB1 := hid hb1
  clear h51 h61 hb1 HP
  go_wp2_with (first
    | fail
    | (with_reducible refine wpList_store_row rfl 104 (.tmp 5) (.tmp 13) rfl w1.heap.size (byA po) rfl rfl 104 z64 H51.out HI1.out HZ1.out HO1.out ?_)
    | (with_reducible refine wpList_store_row rfl 104 (.tmp 6) (.tmp 14) rfl (w1.heap.size + 1) (byA pi) rfl rfl 104 z64 H61.out HI2.out HZ2.out HO2.out ?_))
  obtain ⟨w2, hw2⟩ : ∃ w2, w2 = (((w1.alloc (.cells z64 104)).alloc (.cells z64 104)).setRow w1.heap.size (byA po)).setRow (w1.heap.size + 1) (byA pi) := ⟨_, rfl⟩
  have h52 : w2.heap[w1.heap.size]? = some (.cells (byA po) 104 (0, 0)) := by
    rw [hw2]; exact (setRow_other _ _ _ _ (by omega)).trans (setRow_heap _ _ _ _ _ _ H51.out)
  have h62 : w2.heap[w1.heap.size + 1]? = some (.cells (byA pi) 104 (0, 0)) := by
    rw [hw2]; exact setRow_heap _ _ _ _ _ _ H61.out
  have hz2 : w2.heap.size = w1.heap.size + 1 + 1 := by rw [hw2]; simp
  have hb2 : Below w1.heap.size w1 w2 := by
    rw [hw2]; exact below_setRow (below_setRow (((Below.refl _ _).alloc (Nat.le_refl _) _).alloc (by simp) _) (Nat.le_refl _) _) (by omega) _
  rw [← hw2]
  have HB2 := hid (HB1.out.trans (hb2.mono HB1.out.size)); have H52 := hid h52; have H62 := hid h62
  have hwz : w.heap.size ≤ w1.heap.size := HB1.out.size
  clear hw2 h52 h62 hb2 H51 H61 HI1 HI2 HZ HZ1 HZ2 HO1 HO2 hzero
  refine (New_any w2).mono ?_
  rintro e w3 ⟨rfl, hH3, hz3, hb3⟩
  have h53 : w3.heap[w1.heap.size]? = some (.cells (byA po) 104 (0, 0)) := (hb3.block _ (by omega)).trans H52.out
  have h63 : w3.heap[w1.heap.size + 1]? = some (.cells (byA pi) 104 (0, 0)) := (hb3.block _ (by omega)).trans H62.out
  have hB3 : Below w.heap.size w w3 := HB2.out.trans (hb3.mono (by omega))
  rw [hz2] at hH3 hz3
  have HW := hid (Write_any (w1.heap.size + 1 + 1) [] pi (some ⟨w1.heap.size + 1, 0, none⟩) 64 w3 hH3 (HG.out.below hB3 (Nat.le_refl _)) (HG.out.notGlob (by omega)) (by rw [HIL.out]; simp)
    ((lie_block h63).sq (by rw [bvs_length, HIL.out]; omega) (by omega)) (fun _ b o sp e => by simp at e; omega))
  rw [List.nil_append, HIL.out] at HW
  have H53 := hid h53; have HB3 := hid hB3
  clear hH3 hz3 hb3 h53 h63 hB3 H52 H62 HB2
  rw [hz2]
  clear hz2
  go_wp2_with fail
  refine HW.out.mono ?_
  rintro e w4 ⟨rfl, hH4, hg4⟩
  have h54 : w4.heap[w1.heap.size]? = some (.cells (byA po) 104 (0, 0)) := (hg4.block _ (block_lt H53.out) (by simp; omega)).trans H53.out
  have hB4 : Below w.heap.size w w4 := HB3.out.grown hg4 HB3.out.size (fun q h => by injection h with h; omega)
  have HH4 := hid hH4; have H54 := hid h54; have HB4 := hid hB4
  clear hH4 hg4 h54 hB4 H53 HB3 HW
  generalize w1.heap.size = g at *
  go_wp2
  go_loopg [21] ls.length (fun r i wr => ∃ k : Nat, k + r = ls.length ∧ i = .int .i64 (k : Int) ∧ HashIs wr (g + 1 + 1) (pi ++ (ls.take k).flatten) ∧ wr.heap[g]? = some (.cells (byA po) 104 (0, 0)) ∧ Below w.heap.size w wr)
  case atStart => exact ⟨0, by omega, rfl, by simpa using HH4.out, H54.out, HB4.out⟩
  case round =>
    clear HH4 H54 HB4
    obtain ⟨k, hk, rfl, hH, h5, hb⟩ := hrel
    have HK := hid hk; have HH := hid hH; have H5 := hid h5; have HB := hid hb
    clear hk hH h5
    by_cases hlt : k < ls.length
    · obtain ⟨b, o, A1, c1, rfl, hb1, hc, hS⟩ := (HA2.out.below hb).at_ hlt
      have hx : (k : Int) < (ls.length : Int) := by omega
      have hk0 : (0 : Int) ≤ (k : Int) := by omega
      have hft := flatten_take ls k hlt
      have hfl := flatten_le ls (k + 1)
      rw [hft, List.length_append] at hfl
      have hlt2 := HH.out.lt
      have HC := hid (Write_any (g + 1 + 1) (pi ++ (ls.take k).flatten) ls[k] A1 c1 wr HH.out (HG.out.below hb (Nat.le_refl _)) (HG.out.notGlob (by omega)) (by rw [List.length_append, HIL.out]; omega) (hS.more (by omega)) (hS.notIn (by omega)))
      rw [List.append_assoc, ← hft] at HC
      clear hft hfl hb hS
      go_wp2_with fail
      refine HC.out.mono ?_
      rintro e w5 ⟨rfl, hH5, hg5⟩
      have h55 : w5.heap[g]? = some (.cells (byA po) 104 (0, 0)) := (hg5.block _ (by omega) (by simp; omega)).trans H5.out
      have hB5 : Below w.heap.size w w5 := HB.out.grown hg5 HB.out.size (fun q h => by injection h with h; omega)
      have HH5 := hid hH5; have H55 := hid h55; have HB5 := hid hB5
      clear hH5 hg5 h55 hB5
      go_wp2
      have hk := HK.out
      go_roundg (ls.length - k - 1)
      case measure => omega
      case rel => exact ⟨k + 1, by omega, by go_num, HH5.out, H55.out, HB5.out⟩
    · obtain rfl : k = ls.length := by have := HK.out; omega
      rw [List.take_length] at HH
      clear hb HK
      obtain ⟨inn, hin⟩ : ∃ x, x = pi ++ ls.flatten := ⟨_, rfl⟩
      rw [← hin] at HH
      have hinl : inn.length ≤ 1152921504606846976 := by rw [hin, List.length_append, HIL.out]; omega
      have HSUM := hid (HSum_any (g + 1 + 1) inn wr.drew (HH.out.keep rfl) (HG.out.below HB.out.drew (Nat.le_refl _)) hinl)
      have hgl : g < wr.heap.size := block_lt H5.out
      have HOF : Hid (∀ (w5 : World) (b : Nat), Below wr.heap.size wr.drew w5 → w5.heap[b]? = some (.cells (byA (shaB inn)) A32 (0, 0)) → Calls Tryz.prog 95 #[.slice (some ⟨w5.heap.size, 0, none⟩) 2 2] (w5.alloc (.cells #[.slice (some ⟨g, 0, none⟩) 64 64, .slice (some ⟨b, 0, none⟩) 32 32] 22)) (fun e W' => ∃ b', e = .returned (.slice (some ⟨b', 0, none⟩) 32 32) ∧ W'.heap[b']? = some (.cells (byA (shaB (po ++ shaB inn))) A32 (0, 0)) ∧ w5.heap.size < b' ∧ Below w5.heap.size w5 W')) := hid fun w5 b hb5 hk => by
        have h5 : w5.heap[g]? = some (.cells (byA po) 104 (0, 0)) := (hb5.block g hgl).trans H5.out
        have hbw : Below w.heap.size w w5 := HB.out.trans ((Below.refl _ _).drew.trans (hb5.mono HB.out.size))
        have h := ofs_any [(some ⟨g, 0, none⟩, po, 64), (some ⟨b, 0, none⟩, shaB inn, 32)] w5 (by
          intro p hp
          rcases List.mem_cons.1 hp with rfl | hp
          · exact (lie_block h5).sq (by rw [bvs_length, HOL.out]; exact Nat.le_refl 64) (show 64 ≤ 9223372036854775807 by omega)
          · rw [List.mem_singleton] at hp
            subst hp
            exact (lie_block hk).sq (by rw [bvs_length, shaB_length]; exact Nat.le_refl 32) (show 32 ≤ 9223372036854775807 by omega)) (HG.out.below hbw (Nat.le_refl _)) (by simp [HOL.out, shaB_length]) (by simp)
        simp only [List.map_cons, List.map_nil, List.flatten_cons, List.flatten_nil, List.append_nil, List.length_cons, List.length_nil, HOL.out, shaB_length] at h
        exact h
      have HIN := hid hin
      have hfin : macB key ls.flatten = shaB (po ++ shaB inn) := by rw [hin, HPO.out, HPI.out]; rfl
      have HFIN := hid hfin
      clear hin hinl hfin
      go_wp2
      go_region_law (first
        | (go_simp; go_at_call 96; refine HSUM.out.mono ?_; rintro e w5 ⟨v5, rfl, ⟨b5, rfl, hbk5, hbz5, hl5⟩, hb5⟩)
        | (go_simp; go_at_call 95; refine (HOF.out w5 b5 hb5 hbk5).mono ?_; rintro e w6 ⟨b6, rfl, hbk6, hbz6, hb6⟩))
      have HD : Hid (Digest w w6 (.slice (some ⟨b6, 0, none⟩) 32 32) (macB key ls.flatten)) := hid ⟨b6, rfl, by rw [HFIN.out]; exact hbk6, by have := HB.out.size; have := hb5.size; simp at this; omega, macB_length _ _⟩
      have HB6 := hid (HB.out.trans ((Below.refl _ _).drew.trans ((hb5.trans (hb6.mono (by have := hb5.size; simpa using this))).mono HB.out.size)))
      clear hbk5 hbk6 hb5 hb6 HFIN HOF HSUM
      go_wp2
      go_ret
      exact ⟨_, rfl, HD.out, HB6.out⟩
/-- The tag of parts that stand in a new row. -/
theorem tags_any (A : Option Addr) (key : List UInt8) (c : Nat) (l : List (Option Addr × List UInt8 × Nat)) (w : World) (hA : Sq w w.heap.size A c (bvs key)) (h : ∀ p ∈ l, Sq w w.heap.size p.1 p.2.2 (bvs p.2.1)) (hG : Glob w)
    (hn : key.length ≤ 1152921504606846976) (hn2 : (l.map fun p => p.2.1).flatten.length ≤ 1152921504606840000) (hl : l.length ≤ 9223372036854775807) :
    Calls Tryz.prog 68 #[.slice A key.length c, .slice (some ⟨w.heap.size, 0, none⟩) l.length l.length] (w.alloc (.cells (l.map fun p => Value.slice p.1 p.2.1.length p.2.2).toArray 22)) (fun e W' => ∃ b, e = .returned (.slice (some ⟨b, 0, none⟩) 32 32) ∧ W'.heap[b]? = some (.cells (byA (macB key (l.map fun p => p.2.1).flatten)) A32 (0, 0)) ∧ w.heap.size < b ∧ Below w.heap.size w W') := by
  have hr := rows_new w l h 22
  have hb : Below w.heap.size w (w.alloc (.cells (l.map fun p => Value.slice p.1 p.2.1.length p.2.2).toArray 22)) := (Below.refl _ _).alloc (Nat.le_refl _) _
  have h1 := Tag_any A key c (some ⟨w.heap.size, 0, none⟩) (l.map fun p => p.2.1) l.length (w.alloc (.cells (l.map fun p => Value.slice p.1 p.2.1.length p.2.2).toArray 22)) ((hA.below hb).more hb.size) (by simpa using hr) (hG.below hb (Nat.le_refl _)) hn hn2 (by simpa using hl)
  rw [List.length_map] at h1
  exact h1.mono fun e W' ⟨v, he, ⟨b, hv, hbk, hbz, _⟩, hB⟩ => ⟨b, by rw [he, hv], hbk, by rw [World.size_alloc] at hbz; omega, hb.trans (hB.mono (by simp))⟩
end Go.Proofs.YtpkmidaflnbobaaGreatDoor
end
