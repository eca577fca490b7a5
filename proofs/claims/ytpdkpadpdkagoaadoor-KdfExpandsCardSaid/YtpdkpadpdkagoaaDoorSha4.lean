/-
  Package sha: through whole blocks.
-/
import Derived.Test.YtpdkpadpdkagoaaDoorSha3
import Derived.Test.YtpdkpadpdkagoaaDoorShaS
import Derived.ScopeJumps
import Derived.WalkMore
import Derived.Deep.RegionWith
import Derived.Deep.RegionLaw
namespace Go.Proofs.YtpdkpadpdkagoaaDoor
open Go.RowKit
set_option linter.unusedVariables false
set_option linter.unusedSimpArgs false

theorem blocksN_succ (K : List Nat) (k : Nat) (s : St) (m : List UInt8) : blocksN K (k + 1) s m = mixN K (blocksN K k s m) ((m.drop (64 * k)).take 64) := by
  induction k generalizing s m with
  | zero => simp [blocksN]
  | succ k ih =>
    rw [blocksN, ih (mixN K s (m.take 64)) (m.drop 64)]
    conv => rhs; rw [blocksN]
    rw [List.drop_drop, show 64 + 64 * k = 64 * (k + 1) by omega]
theorem blocksN_ok (K : List Nat) (k : Nat) (s : St) (m : List UInt8) (h : s.ok) : (blocksN K k s m).ok := by
  induction k generalizing s m with
  | zero => exact h
  | succ k ih => exact ih _ _ (mixN_ok K s _)
def sliceLen : Value → Nat
  | .slice _ n _ => n
  | _ => 0
theorem agg40 (w : World) : (isAgg 60).run Tryd.prog w = .ok true w := by
  have hu := run_underlying (P := Tryd.prog) Tryd.underlying60 w
  simp [isAgg, hu]
theorem size40 (w : World) : (sizeOf 60).run Tryd.prog w = .ok 8 w := by
  have h := info40
  cases hq : Tryd.prog.info? 60 with
  | none => simp [hq] at h
  | some i => have hs : i.size = 8 := by simpa [hq] using h
              simp [sizeOf, typeInfo, hq, hs]

/-- If the second lies anywhere, it lies in the first one's block. -/
def SameBlk (A A' : Option Addr) : Prop := ∀ b o sp, A' = some ⟨b, o, sp⟩ → ∃ o0 sp0, A = some ⟨b, o0, sp0⟩
/-- What holds at the label, k blocks gone through. -/
def Thru (w : World) (A : Option Addr) (s : St) (xs : List UInt8) (z8 : Array Value) (A' : Option Addr) (n c' k : Nat) (w' : World) : Prop :=
  64 * k ≤ xs.length ∧ n = xs.length - 64 * k ∧ Sq w' w.heap.size A' c' (bvs (xs.drop (64 * k))) ∧ w'.heap[w.heap.size]? = some (.cells (stA (blocksN kTab k s xs)) A8 (0, 0)) ∧
    w'.heap[w.heap.size + 1]? = some (.cells z8 A8 (0, 0)) ∧ Below w.heap.size w w' ∧ SameBlk A A'

/-- A state laid anew, cell by cell. -/
def lay8 (w : World) (g : Nat) (t : St) : World := (((((((w.setCell ⟨g, 0, none⟩ (.int .u32 (t.a : Int))).setCell ⟨g, 1, none⟩ (.int .u32 (t.b : Int))).setCell ⟨g, 2, none⟩ (.int .u32 (t.c : Int))).setCell ⟨g, 3, none⟩ (.int .u32 (t.d : Int))).setCell ⟨g, 4, none⟩ (.int .u32 (t.e : Int))).setCell ⟨g, 5, none⟩ (.int .u32 (t.f : Int))).setCell ⟨g, 6, none⟩ (.int .u32 (t.g : Int))).setCell ⟨g, 7, none⟩ (.int .u32 (t.h : Int))
theorem lay8_row {w : World} {g : Nat} {s : St} (t : St) (h : w.heap[g]? = some (.cells (stA s) A8 (0, 0))) : (lay8 w g t).heap[g]? = some (.cells (stA t) A8 (0, 0)) :=
  by
  have h0 := block_set h 0 (.int .u32 (t.a : Int))
  have h1 := block_set h0 1 (.int .u32 (t.b : Int))
  have h2 := block_set h1 2 (.int .u32 (t.c : Int))
  have h3 := block_set h2 3 (.int .u32 (t.d : Int))
  have h4 := block_set h3 4 (.int .u32 (t.e : Int))
  have h5 := block_set h4 5 (.int .u32 (t.f : Int))
  have h6 := block_set h5 6 (.int .u32 (t.g : Int))
  have h7 := block_set h6 7 (.int .u32 (t.h : Int))
  simpa [lay8, stA, St.list, wvs] using h7
theorem lay8_other {w : World} {g k : Nat} (t : St) (h : k ≠ g) : (lay8 w g t).heap[k]? = w.heap[k]? := by
  unfold lay8
  rw [heap_setCell_other _ _ _ _ h, heap_setCell_other _ _ _ _ h, heap_setCell_other _ _ _ _ h, heap_setCell_other _ _ _ _ h, heap_setCell_other _ _ _ _ h, heap_setCell_other _ _ _ _ h, heap_setCell_other _ _ _ _ h, heap_setCell_other _ _ _ _ h]
theorem lay8_below {B : Nat} {a w : World} {g : Nat} (t : St) (h : Below B a w) (hg : B ≤ g) : Below B a (lay8 w g t) :=
  (((((((h.setCell hg _).setCell hg _).setCell hg _).setCell hg _).setCell hg _).setCell hg _).setCell hg _).setCell hg _
theorem Thru.next {w : World} {A : Option Addr} {s : St} {xs : List UInt8} {z8 : Array Value} {b' o' n c' k : Nat} {w' w3 : World} (hT : Thru w A s xs z8 (some ⟨b', o', none⟩) n c' k w') (hn : 64 ≤ n) (hb3 : Below w'.heap.size w'.drew w3)
    (t : St) (ht : t = mixN kTab (blocksN kTab k s xs) ((xs.drop (64 * k)).take 64)) (A2 : Option Addr) (hA2 : A2 = if c' = 64 then some ⟨b', o', none⟩ else some ⟨b', o' + 64, none⟩) :
    Thru w A s xs z8 A2 (n - 64) (c' - 64) (k + 1) (lay8 w3 w.heap.size t) := by
  obtain ⟨h1, h2, hsl, hr, hr2, hb, hsb⟩ := hT
  have hcap := hsl.cap
  rw [bvs_length, List.length_drop] at hcap
  have hlt : w.heap.size + 1 < w'.heap.size := block_lt hr2
  have hbw : Below w.heap.size w w3 := (hb.drew).trans (hb3.mono (by omega))
  have hsl3 : Sq w3 w.heap.size (some ⟨b', o', none⟩) c' (bvs (xs.drop (64 * k))) := hsl.below ((Below.refl w.heap.size w').drew.trans (hb3.mono (by omega)))
  have hr3 : w3.heap[w.heap.size]? = some (.cells (stA (blocksN kTab k s xs)) A8 (0, 0)) := (hb3.block w.heap.size (by omega)).trans hr
  refine ⟨by omega, by omega, ?_, ?_, ?_, lay8_below t hbw (Nat.le_refl _), ?_⟩
  · refine Sq.below ?_ (lay8_below t (Below.refl w.heap.size w3) (Nat.le_refl _))
    by_cases hc : c' = 64
    · rw [hA2, if_pos hc]
      have := hsl3.end_ 64
      rw [List.drop_eq_nil_of_le (by omega)]
      exact this
    · rw [hA2, if_neg hc]
      have h64 := hsl3.drop 64 (by omega)
      have e : (bvs (xs.drop (64 * k))).drop 64 = bvs (xs.drop (64 * (k + 1))) := by
        simp only [bvs, ← List.map_drop, List.drop_drop]
        rw [show 64 * k + 64 = 64 * (k + 1) by omega]
      rw [← e]; exact h64
  · rw [blocksN_succ, ← ht]; exact lay8_row t hr3
  · rw [lay8_other t (by omega)]
    exact (hb3.block (w.heap.size + 1) hlt).trans hr2
  · intro b o sp h
    obtain ⟨o0, sp0, he⟩ := hsb b' o' none rfl
    rw [hA2] at h
    split at h <;> (simp only [Option.some.injEq, Addr.mk.injEq] at h; rw [← h.1]; exact ⟨o0, sp0, he⟩)

/-- A scope that begins at its own label. -/
theorem wp_scope_from {P : Program} {a : Act} {w : World} {Q : Exit → Act → World → Prop} {r : Code} (l : Nat) (J : Act → World → Prop) (μ : Act → World → Nat) (hf : findLabel ((Code.label l).seq r) l = some (Code.skip.seq r))
    (h0 : J a w)
    (pass : ∀ a w, J a w → r.wp P (Exit.jump l (fun a' w' => J a' w' ∧ μ a' w' < μ a w) Q) a w) : (Code.scope ((Code.label l).seq r)).wp P Q a w :=
  wp_scope_jumps l J μ hf (wp_seq (wp_label (Code.wp_mono (fun e a' w' h => by
    cases e with
    | goto l' => exact ⟨h.1, h.2.1⟩
    | normal => exact h
    | exit id => exact h
    | ret => exact h
    | panic ch => exact h
    | outgrown => exact h) (pass a w h0)))) (fun a w h => wp_seq (wp_skip (pass a w h)))

set_option maxRecDepth 100000 in
set_option maxHeartbeats 800000 in
theorem through_any (s : St) (A : Option Addr) (xs : List UInt8) (c : Nat) (w : World) (hs : s.ok) (hA : Sq w w.heap.size A c (bvs xs)) (hg : Glob w) :
    Calls Tryd.prog 41 #[.agg (stA s), .slice A xs.length c] w fun e w' => ∃ A' c', e = .returned (.tuple #[.agg (stA (blocksN kTab (xs.length / 64) s xs)), .slice A' (xs.length % 64) c']) ∧
      Sq w' w.heap.size A' c' (bvs (xs.drop (64 * (xs.length / 64)))) ∧ Below w.heap.size w w' ∧ SameBlk A A' := by
  have HA := hid hA
  have HG := hid hg
  have HS := hid hs
  clear hA hg hs
  go_enter Tryd.func41, Tryd.ntmps41
  go_wp2
  obtain ⟨z8, hz8⟩ : ∃ z8 : Array Value, z8 = #[Value.int .u32 0, .int .u32 0, .int .u32 0, .int .u32 0, .int .u32 0, .int .u32 0, .int .u32 0, .int .u32 0] := ⟨_, rfl⟩
  rw [← hz8]
  have hz8s : z8.size = 8 := by rw [hz8]; rfl
  have HZ8 := hid hz8s
  clear hz8 hz8s
  refine wp_scope_from 0 (fun a' w' => ∃ (k n : Nat) (A' : Option Addr) (c' : Nat) (u6 u7 u8 u9 u10 u11 u12 u13 u14 u15 u16 : Value), a' = { tmps := #[.agg (stA s), .slice A' n c', .pointer (some ⟨w.heap.size, 0, none⟩), undef, .pointer (some ⟨w.heap.size + 1, 0, none⟩), .slice none 0 0, u6, u7, u8, u9, u10, u11, u12, u13, u14, u15, u16], defers := [] } ∧ Thru w A s xs z8 A' n c' k w') (fun a' _ => sliceLen (a'.tmps.getD 1 undef)) rfl ?_ ?_
  · refine ⟨0, xs.length, A, c, _, _, _, _, _, _, _, _, _, _, _, rfl, ?_⟩
    refine ⟨by omega, by omega, ?_, heap_alloc2_old w _ _, heap_alloc2_new w _ _, ((Below.refl _ _).alloc (Nat.le_refl _) _).alloc (by simp) _, fun b o sp h => ⟨o, sp, h⟩⟩
    exact (HA.out.alloc (Nat.le_refl _) _).alloc (by simp) _
  · rintro a' w' ⟨k, n, A', c', u6, u7, u8, u9, u10, u11, u12, u13, u14, u15, u16, rfl, hT⟩
    have HT := hid hT
    clear hT
    obtain ⟨st, hst⟩ : ∃ st, st = blocksN kTab k s xs := ⟨_, rfl⟩
    have hrow : w'.heap[w.heap.size]? = some (.cells (stA st) A8 (0, 0)) := by rw [hst]; exact HT.out.2.2.2.1
    have hrow2 : w'.heap[w.heap.size + 1]? = some (.cells z8 A8 (0, 0)) := HT.out.2.2.2.2.1
    have hso : st.ok := by rw [hst]; exact blocksN_ok _ _ _ _ HS.out
    have HR := hid hrow; have HR2 := hid hrow2; have HSO := hid hso; have HST := hid hst
    clear hrow hrow2 hso hst
    by_cases hlt : n < 64
    · have hx : (n : Int) < 64 := by omega
      have HI : Hid ((Tryd.prog.info? 60).map (·.size) = some (stA st).size) := hid (info40.trans (congrArg some (stA_size _).symm))
      have HZ : Hid (z8.size = (stA st).size) := hid (HZ8.out.trans (stA_size _).symm)
      have HO := hid (stA_one st)
      go_wp2_with (first
        | (with_reducible refine wpList_load_row rfl 60 (.tmp 2) rfl w.heap.size rfl A8 (stA st) (0, 0) _ HR.out Tryd.underlying60 rfl HI.out ?_)
        | (with_reducible refine wpList_store_row rfl 60 (.tmp 4) _ rfl (w.heap.size + 1) (stA st) rfl rfl A8 z8 HR2.out HI.out HZ.out HO.out ?_))
      simp only [Exit.jump]
      have hload := run_loadVar_row (P := Tryd.prog) (w'.setRow (w.heap.size + 1) (stA st)) (w.heap.size + 1) A8 60 (stA st) (0, 0) _ (setRow_heap _ _ _ _ _ _ HR2.out) Tryd.underlying60 rfl HI.out
      obtain ⟨hk1, hk2, hsl, _, _, hbl, hsb⟩ := HT.out
      have hq : xs.length / 64 = k ∧ xs.length % 64 = n := by omega
      have hfin : stA (blocksN kTab (xs.length / 64) s xs) = stA st := by rw [hq.1, HST.out]
      refine bodyPost_ret (v := .tuple #[.agg (stA st), .slice A' n c']) (by simp [results, Tryd.results41, asAddr, hload]) rfl ⟨A', c', ?_, ?_, below_setRow hbl (by omega) _, hsb⟩
      · rw [hfin, hq.2]
      · rw [hq.1]
        exact hsl.below (below_setRow (Below.refl _ _) (by omega) _)
    · have hx : ¬ (n : Int) < 64 := by omega
      obtain ⟨hk1, hk2, hsl, _, _, hbl, hsb⟩ := HT.out
      have hcap := hsl.cap
      rw [bvs_length, List.length_drop, ← hk2] at hcap
      obtain ⟨b', o', rfl, hb'⟩ := hsl.form (by rw [bvs_length, List.length_drop]; omega)
      have hm64 : ((xs.drop (64 * k)).take 64).length = 64 := by rw [List.length_take, List.length_drop]; omega
      have hLie : Lie w' w.heap.size (some ⟨b', o', none⟩) (bvs ((xs.drop (64 * k)).take 64)) := by
        have := hsl.lie.take 64
        simpa [bvs, List.map_take] using this
      have hsz : w.heap.size + 1 < w'.heap.size := block_lt HR2.out
      have hG : Glob w' := HG.out.below hbl (Nat.le_refl _)
      have HLIE := hid hLie; have HM := hid hm64; have HG' := hid hG; have HSL := hid hsl; have HBL := hid hbl
      clear hsb
      obtain ⟨hc1, hc2⟩ := hcap
      have hcx : (64 : Int) ≤ (c' : Int) := by omega
      have hnx : (64 : Int) ≤ (n : Int) := by omega
      have hncx : (n : Int) ≤ (c' : Int) := by omega
      clear hk1 hk2 hsl hbl hLie hm64 hG
      obtain ⟨sa, sb, sc, sd, se, sf, sg, sh⟩ := st
      have hcs : ∀ j x, (stA ⟨sa, sb, sc, sd, se, sf, sg, sh⟩)[j]? = some x → w'.cell? ⟨w.heap.size, j, none⟩ = some x := fun j x h => cell_of HR.out j x h
      have hc0 : w'.cell? ⟨w.heap.size, 0, none⟩ = some (.int .u32 (sa : Int)) := hcs 0 _ rfl
      have hc1' : w'.cell? ⟨w.heap.size, 1, none⟩ = some (.int .u32 (sb : Int)) := hcs 1 _ rfl
      have hc2' : w'.cell? ⟨w.heap.size, 2, none⟩ = some (.int .u32 (sc : Int)) := hcs 2 _ rfl
      have hc3 : w'.cell? ⟨w.heap.size, 3, none⟩ = some (.int .u32 (sd : Int)) := hcs 3 _ rfl
      have hc4 : w'.cell? ⟨w.heap.size, 4, none⟩ = some (.int .u32 (se : Int)) := hcs 4 _ rfl
      have hc5 : w'.cell? ⟨w.heap.size, 5, none⟩ = some (.int .u32 (sf : Int)) := hcs 5 _ rfl
      have hc6 : w'.cell? ⟨w.heap.size, 6, none⟩ = some (.int .u32 (sg : Int)) := hcs 6 _ rfl
      have hc7 : w'.cell? ⟨w.heap.size, 7, none⟩ = some (.int .u32 (sh : Int)) := hcs 7 _ rfl
      clear hcs
      have hag : ∀ W, (isAgg 60).run Tryd.prog W = .ok true W := agg40
      have hsi : ∀ W, (sizeOf 60).run Tryd.prog W = .ok 8 W := size40
      obtain ⟨mx, hmx⟩ : ∃ mx, mx = mixN kTab ⟨sa, sb, sc, sd, se, sf, sg, sh⟩ ((xs.drop (64 * k)).take 64) := ⟨_, rfl⟩
      have hcall := mixed_any ⟨sa, sb, sc, sd, se, sf, sg, sh⟩ b' o' ((xs.drop (64 * k)).take 64) c' w'.drew HSO.out HM.out (by omega) (by omega) (by show b' < w'.heap.size; omega) ((HLIE.out.more (by omega) : Lie w' w'.heap.size _ _)) HG'.out
      rw [← hmx] at hcall
      have HMX := hid hmx
      clear hmx
      obtain ⟨ta, tb, tc, td, te, tf, tg, th⟩ := mx
      have HC : Hid (Calls Tryd.prog 40 #[.agg #[.int .u32 (sa : Int), .int .u32 (sb : Int), .int .u32 (sc : Int), .int .u32 (sd : Int), .int .u32 (se : Int), .int .u32 (sf : Int), .int .u32 (sg : Int), .int .u32 (sh : Int)], .slice (some ⟨b', o', none⟩) 64 c'] w'.drew fun e w3 => e = .returned (.agg #[.int .u32 (ta : Int), .int .u32 (tb : Int), .int .u32 (tc : Int), .int .u32 (td : Int), .int .u32 (te : Int), .int .u32 (tf : Int), .int .u32 (tg : Int), .int .u32 (th : Int)]) ∧ Below w'.heap.size w'.drew w3) := hid hcall
      clear hcall
      by_cases hc64 : c' = 64
      · subst hc64
        obtain rfl : n = 64 := by omega
        clear hcx hnx hncx
        go_wp2
        go_region_law (first
          | (go_simp; go_at_call 40; refine HC.out.mono ?_; rintro e w3 ⟨rfl, hb3⟩
             have hk3 : ∀ j, w3.cell? ⟨w.heap.size, j, none⟩ = w'.cell? ⟨w.heap.size, j, none⟩ := fun j => hb3.cell (p := ⟨w.heap.size, j, none⟩) (by show w.heap.size < w'.heap.size; omega)
             have hf3 : ∀ j, w3.frozen? ⟨w.heap.size, j, none⟩ = w'.frozen? ⟨w.heap.size, j, none⟩ := fun j => hb3.frozen (p := ⟨w.heap.size, j, none⟩) (by show w.heap.size < w'.heap.size; omega)
             have hfz : ∀ j, w'.frozen? ⟨w.heap.size, j, none⟩ = false := fun j => frozen_of_row _ _ _ _ _ HR.out
             have HB3 := hid hb3
             clear hb3))
        have HN := hid (Thru.next HT.out (by omega) HB3.out ⟨ta, tb, tc, td, te, tf, tg, th⟩ (by rw [HMX.out, ← HST.out]) _ rfl)
        rw [if_pos rfl] at HN
        go_wp2
        go_step3
        exact ⟨rfl, ⟨k + 1, 0, _, 0, _, _, _, _, _, _, _, _, _, _, _, rfl, HN.out⟩, by simp [sliceLen, Act.put]⟩
      · go_wp2
        go_region_law (first
          | (go_simp; go_at_call 40; refine HC.out.mono ?_; rintro e w3 ⟨rfl, hb3⟩
             have hk3 : ∀ j, w3.cell? ⟨w.heap.size, j, none⟩ = w'.cell? ⟨w.heap.size, j, none⟩ := fun j => hb3.cell (p := ⟨w.heap.size, j, none⟩) (by show w.heap.size < w'.heap.size; omega)
             have hf3 : ∀ j, w3.frozen? ⟨w.heap.size, j, none⟩ = w'.frozen? ⟨w.heap.size, j, none⟩ := fun j => hb3.frozen (p := ⟨w.heap.size, j, none⟩) (by show w.heap.size < w'.heap.size; omega)
             have hfz : ∀ j, w'.frozen? ⟨w.heap.size, j, none⟩ = false := fun j => frozen_of_row _ _ _ _ _ HR.out
             have HB3 := hid hb3
             clear hb3))
        have HN := hid (Thru.next HT.out (by omega) HB3.out ⟨ta, tb, tc, td, te, tf, tg, th⟩ (by rw [HMX.out, ← HST.out]) _ rfl)
        rw [if_neg hc64] at HN
        go_wp2
        go_step3
        exact ⟨rfl, ⟨k + 1, n - 64, _, c' - 64, _, _, _, _, _, _, _, _, _, _, _, rfl, HN.out⟩, by simp [sliceLen, Act.put]; omega⟩
end Go.Proofs.YtpdkpadpdkagoaaDoor
