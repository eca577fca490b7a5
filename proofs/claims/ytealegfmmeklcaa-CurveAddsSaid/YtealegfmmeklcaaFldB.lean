/-
  The root of the number before the prime.
  Package field: roots.
-/
import Derived.Test.YtealegfmmeklcaaFld3
import Derived.Test.YtealegfmmeklcaaFldA
import Derived.Test.YtealegfmmeklcaaFldNos
import Derived.Test.YtealegfmmeklcaaFldSq
namespace Go.Proofs.Ytealegfmmeklcaa
section
open Go.RowKit
set_option linter.unusedVariables false
set_option linter.unusedSimpArgs false

theorem rootOfLast_e (w : World) :
    Calls Try.prog 94 #[] w fun e w' => e = .returned (.agg (eA ii)) ∧ Below w.heap.size w w' := by
  have h : eA ii = e4 14190309331451158704 3405592160176694392 3120150775007532967 3135389899092516619 := by
    rw [← eA_of _ _ _ _ (by omega) (by omega) (by omega) (by omega)]
    rfl
  go_enter Try.func94, Try.ntmps94
  go_wp2
  refine bodyPost_ret (v := .agg (e4 14190309331451158704 3405592160176694392 3120150775007532967 3135389899092516619)) (results_cell_row rfl _ _ w.heap.size ET _ (0, 0) _ rfl (blkN rfl _ _) Try.underlying26 rfl infoE) rfl ⟨by rw [h], ?_⟩
  exact (Below.refl _ _).alloc (Nat.le_refl _) _
end

section
open Go.RowKit
set_option linter.unusedVariables false
set_option linter.unusedSimpArgs false

/-- Three blocks: what came in, what goes out, and a number. -/
def Rt (w wr : World) (x g v : Nat) : Prop :=
  wr.heap[w.heap.size]? = some (.cells (eA x) ET (0, 0)) ∧ wr.heap[w.heap.size + 1]? = some (.cells z4 ET (0, 0)) ∧ wr.heap[g]? = some (.cells (eA v) ET (0, 0)) ∧ w.heap.size + 1 < g ∧ Below w.heap.size w wr
theorem Rt.call {w wr w' : World} {x g v : Nat} (h : Rt w wr x g v) (hb : Below wr.heap.size wr w') : Rt w w' x g v := by
  obtain ⟨h0, h1, h2, h3, h4⟩ := h
  have hg := block_lt h2
  exact ⟨block_below hb (by omega) h0, block_below hb (by omega) h1, block_below hb hg h2, h3, h4.trans (hb.mono (by omega))⟩
theorem Rt.set {w wr : World} {x g v : Nat} (h : Rt w wr x g v) (n : Nat) : Rt w (wr.setRow g (eA n)) x g n := by
  obtain ⟨h0, h1, h2, h3, h4⟩ := h
  exact ⟨(setRow_other _ _ _ _ (by omega)).trans h0, (setRow_other _ _ _ _ (by omega)).trans h1, setRow_heap _ _ _ _ _ _ h2, h3, belowRow h4 (by omega) _⟩
theorem Fo.drew {w wr : World} {X : Array Value} (h : Fo w wr X) : Fo w wr.drew X := ⟨h.1, h.2.1, h.2.2.1.drew, h.2.2.2⟩
theorem Fo.alloc {w wr : World} {X : Array Value} (h : Fo w wr X) (o : Obj) : Fo w (wr.alloc o) X := h.call ((Below.refl _ _).alloc (Nat.le_refl _) _)
theorem Fo.cells {w wr : World} {a b c d : Nat} (h : Fo w wr (e4 a b c d)) : wr.cell? ⟨w.heap.size, 0, none⟩ = some (.int .u64 (a : Int)) ∧ wr.cell? ⟨w.heap.size, 1, none⟩ = some (.int .u64 (b : Int)) ∧ wr.cell? ⟨w.heap.size, 2, none⟩ = some (.int .u64 (c : Int)) ∧ wr.cell? ⟨w.heap.size, 3, none⟩ = some (.int .u64 (d : Int)) ∧ Fo w wr (e4 a b c d) :=
  ⟨cell_of h.1 0 _ rfl, cell_of h.1 1 _ rfl, cell_of h.1 2 _ rfl, cell_of h.1 3 _ rfl, h⟩
theorem Fo.set {w wr : World} {X : Array Value} (h : Fo w wr X) {g : Nat} (hg : w.heap.size + 1 < g) (cs : Array Value) : Fo w (wr.setRow g cs) X := by
  obtain ⟨h0, h1, h4, h5⟩ := h
  exact ⟨(setRow_other _ _ _ _ (by omega)).trans h0, (setRow_other _ _ _ _ (by omega)).trans h1, belowRow h4 (by omega) _, by rw [size_setRow]; exact h5⟩
theorem Fo.rt {w wr : World} {a b c d x : Nat} (h : Fo w wr (e4 a b c d)) (hx : eA x = e4 a b c d) {g : Nat} {old : Array Value} (hz : wr.heap[g]? = some (.cells old ET (0, 0))) (hg : w.heap.size + 1 < g) (V : Nat) : Rt w (wr.setRow g (eA V)) x g V :=
  ⟨(h.set hg _).1.trans (by rw [hx]), (h.set hg _).2.1, setRow_heap _ _ _ _ _ _ hz, hg, (h.set hg _).2.2.1⟩
theorem infoZ : (Try.prog.info? 26).map (·.size) = some z4.size := infoE
theorem oneZ : z4.all (·.oneCell') = true := by simp [Value.oneCell']
theorem sq_alloc {W : World} {A : Option Addr} {c : Nat} {xs : List Value} (h : Sq W W.heap.size A c xs) (o : Obj) : Sq (W.alloc o) (W.alloc o).heap.size A c xs := (h.alloc (Nat.le_refl _) o).more (by simp)
theorem store_zrun {W : World} {g : Nat} (h : W.heap[g]? = some (.cells z4 ET (0, 0))) (m : Nat) : (storeCells ⟨g, 0, none⟩ (eA m).toList).run Try.prog W = .ok () (W.setRow g (eA m)) := store_run (n := 0) h m
/-- A cell and a slot as results. -/
theorem results_cell_tmp {fn : Func} {q p : Tmp} {ty : TypeId} (h : fn.results = #[.cell p ty, .tmp q]) (tmps : Array Value) (w : World) (a : Addr) (u v : Value) {P : Program}
    (hp : tmps.getD p undef = .pointer (some a)) (hv : tmps.getD q undef = v) (hl : (loadVar ty a).run P w = .ok u w) :
    (results fn tmps).run P w = .ok (.tuple #[u, v]) w := by
  have hv' : tmps[q]?.getD undef = v := by rw [← hv]; simp [Array.getD_eq_getD_getElem?]
  have hp' : tmps[p]?.getD undef = .pointer (some a) := by rw [← hp]; simp [Array.getD_eq_getD_getElem?]
  simp [results, h, hv', hp', asAddr, hl]

/-- What Root tells. -/
def rootN (x : Nat) : Nat := if rt2 x * rt2 x % pp = x then rt3 x else 0

set_option maxHeartbeats 2000000 in
theorem Root_e (x : Nat) (w : World) (hx : x < pp) :
    Calls Try.prog 78 #[.agg (eA x)] w fun e w' => e = .returned (.tuple #[.agg (eA (rootN x)), .bool (decide (rt2 x * rt2 x % pp = x))]) ∧ Below w.heap.size w w' := by
  obtain ⟨a, b, c, d, ha, hb, hc, hd, hxv, ex⟩ := words x (pp_lt hx)
  have HE : Hid (∀ W, Fo w W (e4 a b c d) → Calls Try.prog 93 #[.int .u8 254, .int .u8 15] W fun e W' => ∃ A, e = .returned (.slice A 32 32) ∧ Fo w W' (e4 a b c d) ∧ Sq W' W'.heap.size A 32 (bvs (expB 254 15)) ∧ Below W.heap.size W W') := hid fun W hS => by
    refine (exponent_e 254 15 W).mono ?_
    rintro e W' ⟨A, rfl, hq, hb⟩
    exact ⟨A, rfl, hS.call hb, hq, hb⟩
  have HP : Hid (∀ W A, Fo w W (e4 a b c d) → Sq W W.heap.size A 32 (bvs (expB 254 15)) → Calls Try.prog 92 #[.agg (e4 a b c d), .slice A 32 32] W fun e W' => e = .returned (.agg (eA (rt1 x))) ∧ Fo w W' (e4 a b c d) ∧ Below W.heap.size W W') := hid fun W A hS hq => by
    have h := Pow_e x A (expB 254 15) 32 W hx hq (by rw [expB_length]; omega)
    rw [ex] at h
    refine h.mono ?_
    rw [exp_root]
    rintro e W' ⟨rfl, hb⟩
    exact ⟨rfl, hS.call hb, hb⟩
  have hS0 := Fo.start w (e4 a b c d)
  obtain ⟨V, hV⟩ : ∃ V, V = rt1 x := ⟨_, rfl⟩
  have hVl : V < pp := by rw [hV]; exact rt1_lt x
  rw [← hV] at HP
  have hr2 : rt2 x = if V * V % pp = x then V else V * ii % pp := by unfold rt2; rw [← hV]
  have HV := hid hV; have HR2 := hid hr2; have HX := hid ex
  obtain ⟨U, hU⟩ : ∃ U, U = rootN x := ⟨_, rfl⟩
  obtain ⟨D, hD⟩ : ∃ D, D = decide (rt2 x * rt2 x % pp = x) := ⟨_, rfl⟩
  rw [← hU, ← hD, ex]
  have HU := hid hU; have HD := hid hD
  clear hV ha hb hc hd hxv ex hr2 hU hD
  go_enter Try.func78, Try.ntmps78
  go_wp2_with fail
  refine Code.wp_mono (Q := fun e a' w' => e = .normal ∧ ∃ (g : Nat) (u5 u6 u7 : Value), a' = { tmps := #[.agg (e4 a b c d), .pointer (some ⟨w.heap.size, 0, none⟩), .pointer (some ⟨w.heap.size + 1, 0, none⟩), .bool false, .pointer (some ⟨g, 0, none⟩), u5, u6, u7, undef, undef, undef, undef, undef, undef, undef, undef, undef, undef, undef, undef, undef, undef, undef, undef, undef, undef, undef], defers := [] } ∧ Rt w w' x g V) ?rest ?_
  case rest =>
    rintro e a' w' ⟨rfl, g, u5, u6, u7, rfl, hRt⟩
    have F := hid hRt
    clear hRt hS0 HE HP
    go_wp2_with fail
    obtain ⟨R, hR⟩ : ∃ R, R = V * V % pp := ⟨_, rfl⟩
    have HN2 := hid hR
    by_cases hs : R = x
    · have SE2 := hid (decide_eq_true hs)
      have hs2 : V * V % pp = x := by rw [← hR]; exact hs
      have HV2 := hid (HR2.out.trans (by rw [if_pos hs2]))
      have HS := hid hs2
      have SE3 := SE2
      have HN3 := HN2
      clear hR hs hs2
      have Q2 : Hid (∀ W, Below w'.heap.size w' W → Calls Try.prog 55 #[.agg (eA V)] W fun e W2 => e = .returned (.agg (eA R)) ∧ Below w'.heap.size w' W2) := hid fun W hW =>
        (Square_e V W hVl).mono fun e W2 h => ⟨h.1.trans (by rw [HN2.out]), hW.trans (h.2.mono hW.size)⟩
      have S2 : Hid (∀ W, Below w'.heap.size w' W → Calls Try.prog 41 #[.agg (eA R), .agg (eA x)] W fun e W2 => e = .returned (.bool true) ∧ Below w'.heap.size w' W2) := hid fun W hW =>
        (Same_e R x W (by rw [HN2.out]; exact Nat.mod_lt _ pp_pos) hx).mono fun e W2 h => ⟨h.1.trans (by rw [SE2.out]), hW.trans (h.2.mono hW.size)⟩
      refine wp_region_grown (by kernel_rfl) (by kernel_rfl) ?_
      refine quiet_row rfl ET (.tmp 4) rfl g rfl ET (eA V) (0, 0) _ (fun _ h => (F.out.call h).2.2.1) Try.underlying26 rfl (infoEA _) ?_
      refine wpQuiet_step (fun K hK => ?_)
      go_simp
      refine ⟨_, Q2.out, hK _ ?_⟩
      clear hK K
      refine quiet_row rfl ET (.tmp 1) rfl w.heap.size rfl ET (eA x) (0, 0) _ (fun _ h => (F.out.call h).1) Try.underlying26 rfl (infoEA _) ?_
      refine wpQuiet_step (fun K hK => ?_)
      go_simp
      refine ⟨_, S2.out, hK _ ?_⟩
      clear hK K
      refine quiet_val rfl (.bool false) (fun _ _ => rfl) ?_
      refine wpQuiet_nil ?_
      intro w2 hb
      have F2 := hid (F.out.call hb)
      clear hb F Q2 S2 SE2
      go_wp2_with fail
      have Q3 : Hid (∀ W, Below w2.heap.size w2 W → Calls Try.prog 55 #[.agg (eA V)] W fun e W2 => e = .returned (.agg (eA R)) ∧ Below w2.heap.size w2 W2) := hid fun W hW =>
        (Square_e V W hVl).mono fun e W2 h => ⟨h.1.trans (by rw [HN3.out]), hW.trans (h.2.mono hW.size)⟩
      have S3 : Hid (∀ W, Below w2.heap.size w2 W → Calls Try.prog 41 #[.agg (eA R), .agg (eA x)] W fun e W2 => e = .returned (.bool true) ∧ Below w2.heap.size w2 W2) := hid fun W hW =>
        (Same_e R x W (by rw [HN3.out]; exact Nat.mod_lt _ pp_pos) hx).mono fun e W2 h => ⟨h.1.trans (by rw [SE3.out]), hW.trans (h.2.mono hW.size)⟩
      refine wp_region_grown (by kernel_rfl) (by kernel_rfl) ?_
      refine quiet_row rfl ET (.tmp 4) rfl g rfl ET (eA V) (0, 0) _ (fun _ h => (F2.out.call h).2.2.1) Try.underlying26 rfl (infoEA _) ?_
      refine wpQuiet_step (fun K hK => ?_)
      go_simp
      refine ⟨_, Q3.out, hK _ ?_⟩
      clear hK K
      refine quiet_row rfl ET (.tmp 1) rfl w.heap.size rfl ET (eA x) (0, 0) _ (fun _ h => (F2.out.call h).1) Try.underlying26 rfl (infoEA _) ?_
      refine wpQuiet_step (fun K hK => ?_)
      go_simp
      refine ⟨_, S3.out, hK _ ?_⟩
      clear hK K
      refine quiet_val rfl (.bool false) (fun _ _ => rfl) ?_
      refine wpQuiet_nil ?_
      intro w3 hb
      have F3 := hid (F2.out.call hb)
      clear hb F2 Q3 S3 SE3
      have HD2 : Hid (D = true) := hid (by rw [HD.out, decide_eq_true_eq, HV2.out]; exact HS.out)
      have HU2 : Hid (U = if V % 2 = 1 then (pp - V) % pp else V) := hid (by rw [HU.out]; unfold rootN rt3; rw [HV2.out, if_pos HS.out])
      have L := hid F3.out.2.2.1
      have O := hid (fun W => Odd_e V W hVl)
      by_cases ho : V % 2 = 1
      · have HO := hid (decide_eq_true ho)
        have HU3 := hid (HU2.out.trans (if_pos ho))
        clear ho HU2
        go_wp2_with (with_reducible refine wpList_load_row rfl ET (.tmp 4) rfl (g) rfl ET (eA V) (0, 0) _ L.out Try.underlying26 rfl (infoEA _) ?_)
        refine (O.out _).mono ?_
        rw [HO.out]
        rintro e wo ⟨rfl, hb⟩
        have FO := hid (F3.out.call hb)
        have NG := hid (fun W => Neg_e V W hVl)
        obtain ⟨N, hN⟩ : ∃ N, N = (pp - V) % pp := ⟨_, rfl⟩
        rw [← hN] at NG HU3
        clear hb F3 O L hN HO
        have L := hid FO.out.2.2.1
        go_wp2_with (with_reducible refine wpList_load_row rfl ET (.tmp 4) rfl (g) rfl ET (eA V) (0, 0) _ L.out Try.underlying26 rfl (infoEA _) ?_)
        refine (NG.out _).mono ?_
        rintro e wn ⟨rfl, hb⟩
        have FN := hid (FO.out.call hb)
        clear hb FO L NG
        have L2 := hid FN.out.2.2.1
        have FR := hid (FN.out.set N)
        have L3 := hid FR.out.2.2.1
        have Z := hid FR.out.2.1
        go_wp2_with (first | (with_reducible refine wpList_store_row rfl ET (.tmp 4) _ rfl (g) (eA N) rfl rfl ET (eA V) L2.out (infoEA _) (sizeEA _ _) (oneEA _) ?_) | (with_reducible refine wpList_load_row rfl ET (.tmp 4) rfl (g) rfl ET (eA N) (0, 0) _ L3.out Try.underlying26 rfl (infoEA _) ?_) | (with_reducible refine wpList_store_row rfl ET (.tmp 2) _ rfl (w.heap.size + 1) (eA N) rfl rfl ET z4 Z.out (infoEA _) (sizeZA _) (oneEA _) ?_))
        refine bodyPost_ret (v := .tuple #[.agg (eA N), .bool true]) (results_cell_tmp rfl _ _ ⟨w.heap.size + 1, 0, none⟩ _ _ rfl rfl (run_loadVar_row _ _ ET ET _ (0, 0) _ (setRow_heap _ _ _ _ _ _ Z.out) Try.underlying26 rfl (infoEA _))) rfl ⟨by rw [HU3.out, HD2.out], ?_⟩
        exact belowRow FR.out.2.2.2.2 (by omega) _
      · have HO := hid (decide_eq_false ho)
        have HU3 := hid (HU2.out.trans (if_neg ho))
        clear ho HU2
        go_wp2_with (with_reducible refine wpList_load_row rfl ET (.tmp 4) rfl (g) rfl ET (eA V) (0, 0) _ L.out Try.underlying26 rfl (infoEA _) ?_)
        refine (O.out _).mono ?_
        rw [HO.out]
        rintro e wo ⟨rfl, hb⟩
        have FO := hid (F3.out.call hb)
        clear hb F3 O L HO
        have L := hid FO.out.2.2.1
        have Z := hid FO.out.2.1
        go_wp2_with (first | (with_reducible refine wpList_load_row rfl ET (.tmp 4) rfl (g) rfl ET (eA V) (0, 0) _ L.out Try.underlying26 rfl (infoEA _) ?_) | (with_reducible refine wpList_store_row rfl ET (.tmp 2) _ rfl (w.heap.size + 1) (eA V) rfl rfl ET z4 Z.out (infoEA _) (sizeZA _) (oneEA _) ?_))
        refine bodyPost_ret (v := .tuple #[.agg (eA V), .bool true]) (results_cell_tmp rfl _ _ ⟨w.heap.size + 1, 0, none⟩ _ _ rfl rfl (run_loadVar_row _ _ ET ET _ (0, 0) _ (setRow_heap _ _ _ _ _ _ Z.out) Try.underlying26 rfl (infoEA _))) rfl ⟨by rw [HU3.out, HD2.out], ?_⟩
        exact belowRow FO.out.2.2.2.2 (by omega) _
    · have SE2 := hid (decide_eq_false hs)
      have hs2 : ¬ V * V % pp = x := by rw [← hR]; exact hs
      obtain ⟨V2, hV2⟩ : ∃ V2, V2 = V * ii % pp := ⟨_, rfl⟩
      have HV2 := hid (HR2.out.trans (by rw [if_neg hs2, ← hV2]))
      have hV2l : V2 < pp := by rw [hV2]; exact Nat.mod_lt _ pp_pos
      have MU : Hid (∀ W, Calls Try.prog 60 #[.agg (eA V), .agg (eA ii)] W fun e W2 => e = .returned (.agg (eA V2)) ∧ Below W.heap.size W W2) := hid fun W => by
        rw [hV2]; exact Mul_e V ii W hVl ii_lt
      clear hR hs hs2 hV2
      have Q2 : Hid (∀ W, Below w'.heap.size w' W → Calls Try.prog 55 #[.agg (eA V)] W fun e W2 => e = .returned (.agg (eA R)) ∧ Below w'.heap.size w' W2) := hid fun W hW =>
        (Square_e V W hVl).mono fun e W2 h => ⟨h.1.trans (by rw [HN2.out]), hW.trans (h.2.mono hW.size)⟩
      have S2 : Hid (∀ W, Below w'.heap.size w' W → Calls Try.prog 41 #[.agg (eA R), .agg (eA x)] W fun e W2 => e = .returned (.bool false) ∧ Below w'.heap.size w' W2) := hid fun W hW =>
        (Same_e R x W (by rw [HN2.out]; exact Nat.mod_lt _ pp_pos) hx).mono fun e W2 h => ⟨h.1.trans (by rw [SE2.out]), hW.trans (h.2.mono hW.size)⟩
      refine wp_region_grown (by kernel_rfl) (by kernel_rfl) ?_
      refine quiet_row rfl ET (.tmp 4) rfl g rfl ET (eA V) (0, 0) _ (fun _ h => (F.out.call h).2.2.1) Try.underlying26 rfl (infoEA _) ?_
      refine wpQuiet_step (fun K hK => ?_)
      go_simp
      refine ⟨_, Q2.out, hK _ ?_⟩
      clear hK K
      refine quiet_row rfl ET (.tmp 1) rfl w.heap.size rfl ET (eA x) (0, 0) _ (fun _ h => (F.out.call h).1) Try.underlying26 rfl (infoEA _) ?_
      refine wpQuiet_step (fun K hK => ?_)
      go_simp
      refine ⟨_, S2.out, hK _ ?_⟩
      clear hK K
      refine quiet_val rfl (.bool true) (fun _ _ => rfl) ?_
      refine wpQuiet_nil ?_
      intro w2 hb
      have F2 := hid (F.out.call hb)
      clear hb F Q2 S2 SE2
      go_wp2_with fail
      have RL : Hid (∀ W, Below w2.heap.size w2 W → Calls Try.prog 94 #[] W fun e W2 => e = .returned (.agg (eA ii)) ∧ Below w2.heap.size w2 W2) := hid fun W hW =>
        (rootOfLast_e W).mono fun e W2 h => ⟨h.1, hW.trans (h.2.mono hW.size)⟩
      have MU2 : Hid (∀ W, Below w2.heap.size w2 W → Calls Try.prog 60 #[.agg (eA V), .agg (eA ii)] W fun e W2 => e = .returned (.agg (eA V2)) ∧ Below w2.heap.size w2 W2) := hid fun W hW =>
        (MU.out W).mono fun e W2 h => ⟨h.1, hW.trans (h.2.mono hW.size)⟩
      refine wp_region_grown_tail 3 (by kernel_rfl) (by kernel_rfl) ?_
      refine quiet_row rfl ET (.tmp 4) rfl g rfl ET (eA V) (0, 0) _ (fun _ h => (F2.out.call h).2.2.1) Try.underlying26 rfl (infoEA _) ?_
      refine wpQuiet_step (fun K hK => ?_)
      go_simp
      refine ⟨_, RL.out, hK _ ?_⟩
      clear hK K
      refine wpQuiet_step (fun K hK => ?_)
      go_simp
      refine ⟨_, MU2.out, hK _ ?_⟩
      clear hK K
      refine wpQuiet_nil ?_
      intro w4 hb
      have F4 := hid (F2.out.call hb)
      clear hb F2 RL MU2 MU
      simp only [List.drop_succ_cons, List.drop_zero]
      have L4 := hid F4.out.2.2.1
      have F5 := hid (F4.out.set V2)
      go_wp2_with (with_reducible refine wpList_store_row rfl ET (.tmp 4) _ rfl (g) (eA V2) rfl rfl ET (eA V) L4.out (infoEA _) (sizeEA _ _) (oneEA _) ?_)
      clear F4 L4
      generalize w4.setRow g (eA V2) = w5 at *
      obtain ⟨R2, hR2⟩ : ∃ R, R = V2 * V2 % pp := ⟨_, rfl⟩
      have HN3 := hid hR2
      by_cases hs : R2 = x
      · have SE3 := hid (decide_eq_true hs)
        have hs2 : V2 * V2 % pp = x := by rw [← hR2]; exact hs
        have HS := hid hs2
        clear hR2 hs hs2
        have Q3 : Hid (∀ W, Below w5.heap.size w5 W → Calls Try.prog 55 #[.agg (eA V2)] W fun e W2 => e = .returned (.agg (eA R2)) ∧ Below w5.heap.size w5 W2) := hid fun W hW =>
          (Square_e V2 W hV2l).mono fun e W2 h => ⟨h.1.trans (by rw [HN3.out]), hW.trans (h.2.mono hW.size)⟩
        have S3 : Hid (∀ W, Below w5.heap.size w5 W → Calls Try.prog 41 #[.agg (eA R2), .agg (eA x)] W fun e W2 => e = .returned (.bool true) ∧ Below w5.heap.size w5 W2) := hid fun W hW =>
          (Same_e R2 x W (by rw [HN3.out]; exact Nat.mod_lt _ pp_pos) hx).mono fun e W2 h => ⟨h.1.trans (by rw [SE3.out]), hW.trans (h.2.mono hW.size)⟩
        refine wp_region_grown (by kernel_rfl) (by kernel_rfl) ?_
        refine quiet_row rfl ET (.tmp 4) rfl g rfl ET (eA V2) (0, 0) _ (fun _ h => (F5.out.call h).2.2.1) Try.underlying26 rfl (infoEA _) ?_
        refine wpQuiet_step (fun K hK => ?_)
        go_simp
        refine ⟨_, Q3.out, hK _ ?_⟩
        clear hK K
        refine quiet_row rfl ET (.tmp 1) rfl w.heap.size rfl ET (eA x) (0, 0) _ (fun _ h => (F5.out.call h).1) Try.underlying26 rfl (infoEA _) ?_
        refine wpQuiet_step (fun K hK => ?_)
        go_simp
        refine ⟨_, S3.out, hK _ ?_⟩
        clear hK K
        refine quiet_val rfl (.bool false) (fun _ _ => rfl) ?_
        refine wpQuiet_nil ?_
        intro w3 hb
        have F3 := hid (F5.out.call hb)
        clear hb F5 Q3 S3 SE3
        have HD2 : Hid (D = true) := hid (by rw [HD.out, decide_eq_true_eq, HV2.out]; exact HS.out)
        have HU2 : Hid (U = if V2 % 2 = 1 then (pp - V2) % pp else V2) := hid (by rw [HU.out]; unfold rootN rt3; rw [HV2.out, if_pos HS.out])
        have L := hid F3.out.2.2.1
        have O := hid (fun W => Odd_e V2 W hV2l)
        by_cases ho : V2 % 2 = 1
        · have HO := hid (decide_eq_true ho)
          have HU3 := hid (HU2.out.trans (if_pos ho))
          clear ho HU2
          go_wp2_with (with_reducible refine wpList_load_row rfl ET (.tmp 4) rfl (g) rfl ET (eA V2) (0, 0) _ L.out Try.underlying26 rfl (infoEA _) ?_)
          refine (O.out _).mono ?_
          rw [HO.out]
          rintro e wo ⟨rfl, hb⟩
          have FO := hid (F3.out.call hb)
          have NG := hid (fun W => Neg_e V2 W hV2l)
          obtain ⟨N, hN⟩ : ∃ N, N = (pp - V2) % pp := ⟨_, rfl⟩
          rw [← hN] at NG HU3
          clear hb F3 O L hN HO
          have L := hid FO.out.2.2.1
          go_wp2_with (with_reducible refine wpList_load_row rfl ET (.tmp 4) rfl (g) rfl ET (eA V2) (0, 0) _ L.out Try.underlying26 rfl (infoEA _) ?_)
          refine (NG.out _).mono ?_
          rintro e wn ⟨rfl, hb⟩
          have FN := hid (FO.out.call hb)
          clear hb FO L NG
          have L2 := hid FN.out.2.2.1
          have FR := hid (FN.out.set N)
          have L3 := hid FR.out.2.2.1
          have Z := hid FR.out.2.1
          go_wp2_with (first | (with_reducible refine wpList_store_row rfl ET (.tmp 4) _ rfl (g) (eA N) rfl rfl ET (eA V2) L2.out (infoEA _) (sizeEA _ _) (oneEA _) ?_) | (with_reducible refine wpList_load_row rfl ET (.tmp 4) rfl (g) rfl ET (eA N) (0, 0) _ L3.out Try.underlying26 rfl (infoEA _) ?_) | (with_reducible refine wpList_store_row rfl ET (.tmp 2) _ rfl (w.heap.size + 1) (eA N) rfl rfl ET z4 Z.out (infoEA _) (sizeZA _) (oneEA _) ?_))
          refine bodyPost_ret (v := .tuple #[.agg (eA N), .bool true]) (results_cell_tmp rfl _ _ ⟨w.heap.size + 1, 0, none⟩ _ _ rfl rfl (run_loadVar_row _ _ ET ET _ (0, 0) _ (setRow_heap _ _ _ _ _ _ Z.out) Try.underlying26 rfl (infoEA _))) rfl ⟨by rw [HU3.out, HD2.out], ?_⟩
          exact belowRow FR.out.2.2.2.2 (by omega) _
        · have HO := hid (decide_eq_false ho)
          have HU3 := hid (HU2.out.trans (if_neg ho))
          clear ho HU2
          go_wp2_with (with_reducible refine wpList_load_row rfl ET (.tmp 4) rfl (g) rfl ET (eA V2) (0, 0) _ L.out Try.underlying26 rfl (infoEA _) ?_)
          refine (O.out _).mono ?_
          rw [HO.out]
          rintro e wo ⟨rfl, hb⟩
          have FO := hid (F3.out.call hb)
          clear hb F3 O L HO
          have L := hid FO.out.2.2.1
          have Z := hid FO.out.2.1
          go_wp2_with (first | (with_reducible refine wpList_load_row rfl ET (.tmp 4) rfl (g) rfl ET (eA V2) (0, 0) _ L.out Try.underlying26 rfl (infoEA _) ?_) | (with_reducible refine wpList_store_row rfl ET (.tmp 2) _ rfl (w.heap.size + 1) (eA V2) rfl rfl ET z4 Z.out (infoEA _) (sizeZA _) (oneEA _) ?_))
          refine bodyPost_ret (v := .tuple #[.agg (eA V2), .bool true]) (results_cell_tmp rfl _ _ ⟨w.heap.size + 1, 0, none⟩ _ _ rfl rfl (run_loadVar_row _ _ ET ET _ (0, 0) _ (setRow_heap _ _ _ _ _ _ Z.out) Try.underlying26 rfl (infoEA _))) rfl ⟨by rw [HU3.out, HD2.out], ?_⟩
          exact belowRow FO.out.2.2.2.2 (by omega) _
      · have SE3 := hid (decide_eq_false hs)
        have hs2 : ¬ V2 * V2 % pp = x := by rw [← hR2]; exact hs
        have HD2 : Hid (D = false) := hid (by rw [HD.out, decide_eq_false_iff_not, HV2.out]; exact hs2)
        have HU2 : Hid (U = 0) := hid (by rw [HU.out]; unfold rootN; rw [HV2.out, if_neg hs2])
        clear hR2 hs hs2
        have Q3 : Hid (∀ W, Below w5.heap.size w5 W → Calls Try.prog 55 #[.agg (eA V2)] W fun e W2 => e = .returned (.agg (eA R2)) ∧ Below w5.heap.size w5 W2) := hid fun W hW =>
          (Square_e V2 W hV2l).mono fun e W2 h => ⟨h.1.trans (by rw [HN3.out]), hW.trans (h.2.mono hW.size)⟩
        have S3 : Hid (∀ W, Below w5.heap.size w5 W → Calls Try.prog 41 #[.agg (eA R2), .agg (eA x)] W fun e W2 => e = .returned (.bool false) ∧ Below w5.heap.size w5 W2) := hid fun W hW =>
          (Same_e R2 x W (by rw [HN3.out]; exact Nat.mod_lt _ pp_pos) hx).mono fun e W2 h => ⟨h.1.trans (by rw [SE3.out]), hW.trans (h.2.mono hW.size)⟩
        refine wp_region_grown (by kernel_rfl) (by kernel_rfl) ?_
        refine quiet_row rfl ET (.tmp 4) rfl g rfl ET (eA V2) (0, 0) _ (fun _ h => (F5.out.call h).2.2.1) Try.underlying26 rfl (infoEA _) ?_
        refine wpQuiet_step (fun K hK => ?_)
        go_simp
        refine ⟨_, Q3.out, hK _ ?_⟩
        clear hK K
        refine quiet_row rfl ET (.tmp 1) rfl w.heap.size rfl ET (eA x) (0, 0) _ (fun _ h => (F5.out.call h).1) Try.underlying26 rfl (infoEA _) ?_
        refine wpQuiet_step (fun K hK => ?_)
        go_simp
        refine ⟨_, S3.out, hK _ ?_⟩
        clear hK K
        refine quiet_val rfl (.bool true) (fun _ _ => rfl) ?_
        refine wpQuiet_nil ?_
        intro w3 hb
        have F3 := hid (F5.out.call hb)
        clear hb F5 Q3 S3 SE3
        have Z := hid F3.out.2.1
        go_wp2_with (with_reducible refine wpList_store_row rfl ET (.tmp 2) _ rfl (w.heap.size + 1) z4 rfl rfl ET z4 Z.out infoZ rfl oneZ ?_)
        refine bodyPost_ret (v := .tuple #[.agg (eA 0), .bool false]) (results_cell_tmp rfl _ _ ⟨w.heap.size + 1, 0, none⟩ _ _ rfl rfl (run_loadVar_row _ _ ET ET _ (0, 0) _ (setRow_heap _ _ _ _ _ _ Z.out) Try.underlying26 rfl (infoEA _))) rfl ⟨by rw [HU2.out, HD2.out], ?_⟩
        exact belowRow F3.out.2.2.2.2 (by omega) _
  have hSd := hS0.drew
  go_region_held3 (fun w' => w'.cell? ⟨w.heap.size, 0, none⟩ = some (.int .u64 (a : Int)) ∧ w'.cell? ⟨w.heap.size, 1, none⟩ = some (.int .u64 (b : Int)) ∧ w'.cell? ⟨w.heap.size, 2, none⟩ = some (.int .u64 (c : Int)) ∧ w'.cell? ⟨w.heap.size, 3, none⟩ = some (.int .u64 (d : Int)) ∧ Fo w w' (e4 a b c d))
    (first
      | exact ((hs2.alloc _).set (by have := hs2.2.2.2; omega) _).cells
      | exact (hs2.set (by have := hs1.2.2.2; first | omega | (simp; omega)) _).cells
      | exact hs2.cells
      | exact (hs2.alloc _).cells
      | exact hs1.cells
      | exact (hs1.alloc _).cells
      | exact hSd.cells
      | exact (hSd.alloc _).cells)
    (first
      | (go_at_call 93; refine (HE.out _ (by first | exact hSd | exact hSd.alloc _)).mono ?_; rintro e w1 ⟨A1, rfl, hs1, hq1, hb1⟩; try (have hz1 := block_below hb1 (by simp) (heap_alloc_new _ _)))
      | (go_at_call 92; refine (HP.out _ _ (by first | exact hs1 | exact hs1.alloc _) (by first | exact hq1 | exact sq_alloc hq1 _)).mono ?_; rintro e w2 ⟨rfl, hs2, hb2⟩; (first | have hz2 := block_below hb2 (block_lt hz1) hz1 | have hz2 := block_below hb2 (by simp) (heap_alloc_new _ _) | skip); (try (have hst := store_zrun hz2 V)); (try (have hz3 : w2.heap[w.heap.size + 1 + 1]? = some (.cells z4 ET (0, 0)) := by simpa using hz2)); (try (have hst3 := store_zrun hz3 V)); have hstA := store_zrun (heap_alloc_new w2 (.cells z4 ET)) V))
  · exact ⟨rfl, w2.heap.size, _, _, _, rfl, Fo.rt (hs2.alloc _) HX.out (heap_alloc_new _ _) (by have := hs2.2.2.2; omega) V⟩
  · exact ⟨rfl, w1.heap.size, _, _, _, rfl, Fo.rt hs2 HX.out hz2 (by have := hs1.2.2.2; omega) V⟩
  · exact ⟨rfl, w.heap.size + 1 + 1, _, _, _, rfl, Fo.rt hs2 HX.out hz3 (by omega) V⟩
end
end Go.Proofs.Ytealegfmmeklcaa
