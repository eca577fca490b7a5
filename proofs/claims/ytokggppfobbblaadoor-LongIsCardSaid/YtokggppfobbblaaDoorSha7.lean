/-
  Package sha: a Hash in memory; its state, its length; the digest of bytes.
-/
import Derived.Test.YtokggppfobbblaaDoorSha6
import Derived.Test.YtokggppfobbblaaDoorShaR
import Derived.Deep.MidRow
import Derived.Laws.CopyOwn
namespace Go.Proofs.YtokggppfobbblaaDoor
open Go.RowKit
set_option linter.unusedVariables false
set_option linter.unusedSimpArgs false

theorem closeN_eq (s : St) (r : List UInt8) (n : Nat) : closeN s r n = closeS s r n := rfl

/-- Cells laid over a known block. -/
theorem heap_setCells {w : World} {g : Nat} {cur : Array Value} {t : TypeId} (vs : List Value) (h : w.heap[g]? = some (.cells cur t (0, 0))) (o : Nat) (hf : o + vs.length ≤ cur.size) :
    (w.setCells g o vs).heap[g]? = some (.cells (cur.toList.take o ++ (vs ++ cur.toList.drop (o + vs.length))).toArray t (0, 0)) := by
  induction vs generalizing w o cur with
  | nil => simpa [World.setCells] using h
  | cons v l ih =>
    simp only [List.length_cons] at hf
    have h1 := ih (block_set h o v) (o + 1) (by simp; omega)
    rw [World.setCells]
    rw [h1]
    have ho : o < cur.toList.length := by simp; omega
    simp only [Option.some.injEq, Obj.cells.injEq, and_true]
    congr 1
    rw [Array.toList_setIfInBounds, List.take_set, List.drop_set_of_lt (by omega)]
    have e1 : (cur.toList.take (o + 1)).set o v = cur.toList.take o ++ [v] := by
      rw [List.take_succ_eq_append_getElem ho, List.set_append_right _ _ (by simp; omega)]
      have : o - (cur.toList.take o).length = 0 := by simp at ho ⊢; omega
      rw [this]; rfl
    rw [e1]
    simp [Nat.add_assoc, Nat.add_comm 1]
theorem grown_setCells (vs : List Value) (w : World) (g o : Nat) : w.grownBy (w.setCells g o vs) (some g) := by
  induction vs generalizing w o with
  | nil => exact World.grownBy.refl _ _
  | cons v l ih => exact grown_step (grown_setCell w g o none v) (.inl rfl) (ih _ _)

abbrev HashT : TypeId := 49
/-- A Hash's cells. -/
def hashL (s : St) (rest : List UInt8) (n : Nat) : List Value := wvs s.list ++ (bvs rest ++ [.int .i64 (n : Int)])
theorem hashL_length (s : St) (rest : List UInt8) (n : Nat) (h : rest.length = 64) : (hashL s rest n).length = 73 := by simp [hashL, h]
/-- Block g is a Hash to which all was written. -/
def HashIs (w : World) (g : Nat) (all : List UInt8) : Prop := ∃ s rest, w.heap[g]? = some (.cells (hashL s rest all.length).toArray HashT (0, 0)) ∧ rest.length = 64 ∧ s.ok ∧
  (64 ≤ all.length → s = stOf all) ∧ rest.take (all.length % 64) = tailOf all
/-- It is none of the package's variables. -/
def NotGlob (g : Nat) : Prop := g ≠ 2 ∧ g ≠ 0

theorem hash_range0 {w : World} {g n : Nat} {s : St} {rest : List UInt8} (h : w.heap[g]? = some (.cells (hashL s rest n).toArray HashT (0, 0))) : w.rangeAt g 0 (wvs s.list) := fun j v hv => by
  rw [Nat.zero_add]
  refine cell_of h j v ?_
  rw [List.getElem?_toArray, hashL, List.getElem?_append_left (by
    have := (List.getElem?_eq_some_iff.1 hv).1; exact this)]
  exact hv
theorem hash_rest {w : World} {g n : Nat} {s : St} {rest : List UInt8} (h : w.heap[g]? = some (.cells (hashL s rest n).toArray HashT (0, 0))) (j : Nat) (v : Value) (hv : (bvs rest)[j]? = some v) : w.cell? ⟨g, 8 + j, none⟩ = some v := by
  refine cell_of h _ v ?_
  have hj := (List.getElem?_eq_some_iff.1 hv).1
  rw [List.getElem?_toArray, hashL, List.getElem?_append_right (by simp), List.getElem?_append_left (by simpa using hj)]
  simpa using hv
theorem hash_len {w : World} {g n : Nat} {s : St} {rest : List UInt8} (h : w.heap[g]? = some (.cells (hashL s rest n).toArray HashT (0, 0))) (hr : rest.length = 64) : w.cell? ⟨g, 72, none⟩ = some (.int .i64 (n : Int)) := by
  refine cell_of h _ _ ?_
  rw [List.getElem?_toArray, hashL, List.getElem?_append_right (by simp), List.getElem?_append_right (by simp [hr])]
  simp [hr]
theorem hash_lie {w : World} {g n : Nat} {s : St} {rest : List UInt8} (h : w.heap[g]? = some (.cells (hashL s rest n).toArray HashT (0, 0))) : Lie w w.heap.size (some ⟨g, 8, none⟩) (bvs rest) := fun _ => ⟨g, 8, rfl, block_lt h, hash_rest h⟩

theorem iv_range {w : World} (h : Glob w) : w.rangeAt 0 0 (wvs iv.list) := fun j v hv => by
  rw [Nat.zero_add]
  exact h.2.1 j v (by rw [stA, List.getElem?_toArray]; exact hv)

set_option maxRecDepth 100000 in
set_option maxHeartbeats 800000 in
theorem begun_any (g : Nat) (all : List UInt8) (w : World) (hn : all.length ≤ 9223372036854775807) (hH : HashIs w g all) (hG : Glob w) :
    Calls Tryd.prog 44 #[.pointer (some ⟨g, 0, none⟩)] w fun e w' => e = .returned (.agg (stA (stOf all))) ∧ Below w.heap.size w w' := by
  obtain ⟨s, rest, hw, hr, hs, hst, ht⟩ := hH
  have hgl := block_lt hw
  have hlen := hash_len hw hr
  have HI : Hid ((Tryd.prog.info? 39).map (·.size) = some (wvs (stOf all).list).length) := hid (info40.trans (congrArg some (by simp)))
  have HI2 : Hid ((Tryd.prog.info? 39).map (·.size) = some (stA (stOf all)).size) := hid (info40.trans (congrArg some (stA_size _).symm))
  have HO := hid (stA_one (stOf all))
  have H8 : Hid ((8 : Nat) = (stA (stOf all)).size) := hid (stA_size _).symm
  have hnew : ∀ c : Array Value, (w.alloc (.cells c A8)).cell? ⟨g, 72, none⟩ = some (.int .i64 (all.length : Int)) := fun c => by
    rw [World.cell?_alloc_lt w _ ⟨g, 72, none⟩ hgl]; exact hlen
  by_cases hlt : all.length < 64
  · have hx : (all.length : Int) < 64 := by omega
    have hR : ∀ c : Array Value, (w.alloc (.cells c A8)).rangeAt 0 0 (wvs (stOf all).list) := fun c => by
      rw [stOf_short all hlt]; exact World.rangeAt_alloc (iv_range hG) _
    have HR := hid hR; have HN := hid hn
    clear hR hst ht hr hs hw hn hG
    go_enter Tryd.func44, Tryd.ntmps44
    go_wp2_with (first
      | fail
      | (with_reducible refine wpList_load_mid rfl 39 (.global 0) rfl 0 0 rfl (wvs (stOf all).list) _ (HR.out _) Tryd.underlying39 rfl HI.out ?_)
      | (with_reducible refine wpList_store_row rfl 39 (.tmp 2) _ rfl w.heap.size (stA (stOf all)) rfl rfl A8 _ (heap_alloc_new _ _) HI2.out ?e1 HO.out ?_))
    case e1 => exact H8.out
    refine bodyPost_ret (v := .agg (stA (stOf all))) (results_cell_row rfl _ _ w.heap.size A8 (stA (stOf all)) (0, 0) _ rfl (setRow_heap _ _ _ _ _ _ (heap_alloc_new _ _)) Tryd.underlying39 rfl HI2.out) rfl ⟨rfl, ?_⟩
    exact below_setRow ((Below.refl _ _).alloc (Nat.le_refl _) _) (Nat.le_refl _) _
  · have hx : ¬ (all.length : Int) < 64 := by omega
    have hR : ∀ c : Array Value, (w.alloc (.cells c A8)).rangeAt g 0 (wvs (stOf all).list) := fun c => by
      rw [← hst (by omega)]; exact World.rangeAt_alloc (hash_range0 hw) _
    have HR := hid hR; have HN := hid hn
    have hg0 : g ≠ w.heap.size := by omega
    clear hR hst ht hr hs hw hn hG
    go_enter Tryd.func44, Tryd.ntmps44
    go_wp2_with (first
      | fail
      | (with_reducible refine wpList_load_mid rfl 39 (.tmp 11) rfl g 0 rfl (wvs (stOf all).list) _ (HR.out _) Tryd.underlying39 rfl HI.out ?_)
      | (with_reducible refine wpList_store_row rfl 39 (.tmp 2) _ rfl w.heap.size (stA (stOf all)) rfl rfl A8 _ (heap_alloc_new _ _) HI2.out ?e1 HO.out ?_))
    case e1 => exact H8.out
    refine bodyPost_ret (v := .agg (stA (stOf all))) (results_cell_row rfl _ _ w.heap.size A8 (stA (stOf all)) (0, 0) _ rfl (setRow_heap _ _ _ _ _ _ (heap_alloc_new _ _)) Tryd.underlying39 rfl HI2.out) rfl ⟨rfl, ?_⟩
    exact below_setRow ((Below.refl _ _).alloc (Nat.le_refl _) _) (Nat.le_refl _) _

set_option maxRecDepth 100000 in
set_option maxHeartbeats 800000 in
theorem Sum_any (A : Option Addr) (xs : List UInt8) (c : Nat) (w : World) (hn : xs.length ≤ 1152921504606846976) (hA : Sq w w.heap.size A c (bvs xs)) (hG : Glob w) :
    Calls Tryd.prog 10 #[.slice A xs.length c] w fun e w' => e = .returned (.agg (byA (shaB xs))) ∧ Below w.heap.size w w' := by
  have HI : Hid ((Tryd.prog.info? 39).map (·.size) = some (wvs iv.list).length) := hid (info40.trans (congrArg some (by simp)))
  have HR : Hid (∀ c : Array Value, (w.alloc (.cells c A32)).rangeAt 0 0 (wvs iv.list)) := hid fun c => World.rangeAt_alloc (iv_range hG) _
  have HA := hid hA; have HG := hid hG
  clear hA hG
  go_enter Tryd.func10, Tryd.ntmps10
  go_wp2_with (first
    | fail
    | (with_reducible refine wpList_load_mid rfl 39 (.global 0) rfl 0 0 rfl (wvs iv.list) _ (HR.out _) Tryd.underlying39 rfl HI.out ?_))
  obtain ⟨z32, hz32, hz32s⟩ : ∃ z : Array Value, z = #[Value.int .u8 0, .int .u8 0, .int .u8 0, .int .u8 0, .int .u8 0, .int .u8 0, .int .u8 0, .int .u8 0, .int .u8 0, .int .u8 0, .int .u8 0, .int .u8 0, .int .u8 0, .int .u8 0, .int .u8 0, .int .u8 0, .int .u8 0, .int .u8 0, .int .u8 0, .int .u8 0, .int .u8 0, .int .u8 0, .int .u8 0, .int .u8 0, .int .u8 0, .int .u8 0, .int .u8 0, .int .u8 0, .int .u8 0, .int .u8 0, .int .u8 0, .int .u8 0] ∧ z.size = 32 := ⟨_, rfl, rfl⟩
  rw [← hz32]
  have HZ32 := hid hz32s
  clear hz32 hz32s
  have hR0 : (w.alloc (.cells z32 A32)).heap[w.heap.size]? = some (.cells z32 A32 (0, 0)) := heap_alloc_new w _
  have hB0 : Below w.heap.size w (w.alloc (.cells z32 A32)) := (Below.refl _ _).alloc (Nat.le_refl _) _
  have hA0 : Sq (w.alloc (.cells z32 A32)) (w.alloc (.cells z32 A32)).heap.size A c (bvs xs) := (HA.out.alloc (Nat.le_refl _) _).more (by simp)
  have hG0 : Glob (w.alloc (.cells z32 A32)) := HG.out.below hB0 (Nat.le_refl _)
  have hZ0 : w.heap.size + 1 ≤ (w.alloc (.cells z32 A32)).heap.size := by simp
  generalize w.alloc (.cells z32 A32) = w0 at *
  refine (through_any iv A xs c w0 iv_ok hA0 hG0).mono ?_
  rintro e w1 ⟨A1, c1, rfl, hS1, hb1, _⟩
  have hst : blocksN kTab (xs.length / 64) iv xs = stOf xs := rfl
  rw [hst]
  have hR1 : w1.heap[w.heap.size]? = some (.cells z32 A32 (0, 0)) := (hb1.block _ (by omega)).trans hR0
  have hB1 : Below w.heap.size w w1 := hB0.trans (hb1.mono (by omega))
  have hG1 : Glob w1 := hG0.below hb1 (Nat.le_refl _)
  have hZ1 : w.heap.size + 1 ≤ w1.heap.size := Nat.le_trans hZ0 hb1.size
  have hA1 : Lie w1 w1.heap.size A1 (bvs (tailOf xs)) := hS1.lie.more hb1.size
  have HR1 := hid hR1; have HB1 := hid hB1; have HG1 := hid hG1; have HA1 := hid hA1
  have HI2 : Hid ((Tryd.prog.info? 39).map (·.size) = some (stA (stOf xs)).size) := hid (info40.trans (congrArg some (stA_size _).symm))
  have HO := hid (stA_one (stOf xs))
  have H8 : Hid ((#[Value.int .u32 0, .int .u32 0, .int .u32 0, .int .u32 0, .int .u32 0, .int .u32 0, .int .u32 0, .int .u32 0] : Array Value).size = (stA (stOf xs)).size) := hid (stA_size _).symm
  have HTL := hid (tailOf_length xs)
  have htl : (tailOf xs).length < 64 := by rw [tailOf_length]; omega
  have HRW : Hid ((w1.alloc (.cells (stA (stOf xs)) A8)).heap[w1.heap.size]? = some (.cells (stA (stOf xs)) A8 (0, 0))) := hid (heap_alloc_new _ _)
  clear hR0 hB0 hA0 hG0 hb1 hS1 hst hR1 hB1 hG1 hA1
  go_wp2_with (first
    | fail
    | (with_reducible refine wpList_store_row rfl 39 (.tmp 3) _ rfl w1.heap.size (stA (stOf xs)) rfl rfl A8 _ (heap_alloc_new _ _) HI2.out H8.out HO.out ?_; rw [World.setRow_alloc_new])
    | (with_reducible refine wpList_load_row rfl 39 (.tmp 3) rfl w1.heap.size rfl A8 (stA (stOf xs)) (0, 0) _ HRW.out Tryd.underlying39 rfl HI2.out ?_))
  rw [← HTL.out]
  refine (closed_any (stOf xs) A1 (tailOf xs) c1 xs.length _ (stOf_ok xs) htl HTL.out hn ((HA1.out.alloc (Nat.le_refl _) _).more (by simp)) (HG1.out.below ((Below.refl _ _).alloc (Nat.le_refl _) _) (Nat.le_refl _))).mono ?_
  rintro e w2 ⟨rfl, hb2⟩
  rw [World.size_alloc] at hb2
  have hR2 : w2.heap[w.heap.size]? = some (.cells z32 A32 (0, 0)) := (hb2.block _ (by omega)).trans ((Below.heap_alloc _ _ _ (by omega)).trans HR1.out)
  have hB2 : Below w.heap.size w w2 := (HB1.out.alloc (by omega) _).trans (hb2.mono (by omega))
  have hfin : (closeN (stOf xs) (tailOf xs) xs.length).bytes = shaB xs := rfl
  rw [hfin]
  have hbz : (byA (shaB xs)).size = 32 := by simp [byA, shaB_length]
  have HI3 : Hid ((Tryd.prog.info? 24).map (·.size) = some (byA (shaB xs)).size) := hid (info24.trans (congrArg some hbz.symm))
  have HZ3 : Hid (z32.size = (byA (shaB xs)).size) := hid (HZ32.out.trans hbz.symm)
  have HO3 := hid (byA_one (shaB xs))
  have HR2 := hid hR2; have HB2 := hid hB2
  clear hb2 hR2 hB2 hfin hbz
  go_wp2_with (with_reducible refine wpList_store_row rfl 24 (.tmp 2) _ rfl w.heap.size (byA (shaB xs)) rfl rfl A32 z32 HR2.out HI3.out HZ3.out HO3.out ?_)
  refine bodyPost_ret (v := .agg (byA (shaB xs))) (results_cell_row rfl _ _ w.heap.size A32 (byA (shaB xs)) (0, 0) _ rfl (setRow_heap _ _ _ _ _ _ HR2.out) Tryd.underlying24 rfl HI3.out) rfl ⟨rfl, ?_⟩
  exact below_setRow HB2.out (Nat.le_refl _) _
end Go.Proofs.YtokggppfobbblaaDoor
