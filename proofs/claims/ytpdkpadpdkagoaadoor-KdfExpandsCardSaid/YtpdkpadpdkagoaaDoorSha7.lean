/-
  Package sha: a Hash in memory; its state, its length; the digest of bytes.
-/
import Derived.Test.YtpdkpadpdkagoaaDoorSha6
import Derived.Test.YtpdkpadpdkagoaaDoorShaP
import Derived.Deep.MidRow
import Derived.Laws.CopyOwn
namespace Go.Proofs.YtpdkpadpdkagoaaDoor
open Go.RowKit
set_option linter.unusedVariables false
set_option linter.unusedSimpArgs false

theorem closeN_eq (s : St) (r : List UInt8) (n : Nat) : closeN s r n = closeS s r n := rfl

/-- Cells laid over a known block. -/
theorem heap_setCells {w : World} {g : Nat} {cur : Array Value} {t : TypeId} (vs : List Value) (h : w.heap[g]? = some (.cells cur t (0, 0))) (o : Nat) (hf : o + vs.length ≤ cur.size) :
    (w.setCells g o vs).heap[g]? = some (.cells (cur.toList.take o ++ (vs ++ cur.toList.drop (o + vs.length))).toArray t (0, 0)) := by
  induction vs generalizing w o cur with
  | nil => simpa [World.setCells] using h
  | cons v l ih =>
    simp only [List.length_cons] at hf
    have h1 := ih (block_set h o v) (o + 1) (by simp; omega)
    rw [World.setCells]
    rw [h1]
    have ho : o < cur.toList.length := by simp; omega
    simp only [Option.some.injEq, Obj.cells.injEq, and_true]
    congr 1
    rw [Array.toList_setIfInBounds, List.take_set, List.drop_set_of_lt (by omega)]
    have e1 : (cur.toList.take (o + 1)).set o v = cur.toList.take o ++ [v] := by
      rw [List.take_succ_eq_append_getElem ho, List.set_append_right _ _ (by simp; omega)]
      have : o - (cur.toList.take o).length = 0 := by simp at ho ⊢; omega
      rw [this]; rfl
    rw [e1]
    simp [Nat.add_assoc, Nat.add_comm 1]
theorem grown_setCells (vs : List Value) (w : World) (g o : Nat) : w.grownBy (w.setCells g o vs) (some g) := by
  induction vs generalizing w o with
  | nil => exact World.grownBy.refl _ _
  | cons v l ih => exact grown_step (grown_setCell w g o none v) (.inl rfl) (ih _ _)

abbrev HashT : TypeId := 62
/-- A Hash's cells. -/
def hashL (s : St) (rest : List UInt8) (n : Nat) : List Value := wvs s.list ++ (bvs rest ++ [.int .i64 (n : Int)])
theorem hashL_length (s : St) (rest : List UInt8) (n : Nat) (h : rest.length = 64) : (hashL s rest n).length = 73 := by simp [hashL, h]
/-- Block g is a Hash to which all was written. -/
def HashIs (w : World) (g : Nat) (all : List UInt8) : Prop := ∃ s rest, w.heap[g]? = some (.cells (hashL s rest all.length).toArray HashT (0, 0)) ∧ rest.length = 64 ∧ s.ok ∧
  (64 ≤ all.length → s = stOf all) ∧ rest.take (all.length % 64) = tailOf all
/-- It is none of the package's variables. -/
def NotGlob (g : Nat) : Prop := g ≠ 1 ∧ g ≠ 0

theorem hash_range0 {w : World} {g n : Nat} {s : St} {rest : List UInt8} (h : w.heap[g]? = some (.cells (hashL s rest n).toArray HashT (0, 0))) : w.rangeAt g 0 (wvs s.list) := fun j v hv => by
  rw [Nat.zero_add]
  refine cell_of h j v ?_
  rw [List.getElem?_toArray, hashL, List.getElem?_append_left (by
    have := (List.getElem?_eq_some_iff.1 hv).1; exact this)]
  exact hv
theorem hash_rest {w : World} {g n : Nat} {s : St} {rest : List UInt8} (h : w.heap[g]? = some (.cells (hashL s rest n).toArray HashT (0, 0))) (j : Nat) (v : Value) (hv : (bvs rest)[j]? = some v) : w.cell? ⟨g, 8 + j, none⟩ = some v := by
  refine cell_of h _ v ?_
  have hj := (List.getElem?_eq_some_iff.1 hv).1
  rw [List.getElem?_toArray, hashL, List.getElem?_append_right (by simp), List.getElem?_append_left (by simpa using hj)]
  simpa using hv
theorem hash_len {w : World} {g n : Nat} {s : St} {rest : List UInt8} (h : w.heap[g]? = some (.cells (hashL s rest n).toArray HashT (0, 0))) (hr : rest.length = 64) : w.cell? ⟨g, 72, none⟩ = some (.int .i64 (n : Int)) := by
  refine cell_of h _ _ ?_
  rw [List.getElem?_toArray, hashL, List.getElem?_append_right (by simp), List.getElem?_append_right (by simp [hr])]
  simp [hr]
theorem hash_lie {w : World} {g n : Nat} {s : St} {rest : List UInt8} (h : w.heap[g]? = some (.cells (hashL s rest n).toArray HashT (0, 0))) : Lie w w.heap.size (some ⟨g, 8, none⟩) (bvs rest) := fun _ => ⟨g, 8, rfl, block_lt h, hash_rest h⟩

theorem iv_range {w : World} (h : Glob w) : w.rangeAt 0 0 (wvs iv.list) := fun j v hv => by
  rw [Nat.zero_add]
  exact h.2.1 j v (by rw [stA, List.getElem?_toArray]; exact hv)

set_option maxRecDepth 100000 in
set_option maxHeartbeats 800000 in
theorem begun_any (g : Nat) (all : List UInt8) (w : World) (hn : all.length ≤ 9223372036854775807) (hH : HashIs w g all) (hG : Glob w) :
    Calls Tryd.prog 39 #[.pointer (some ⟨g, 0, none⟩)] w fun e w' => e = .returned (.agg (stA (stOf all))) ∧ Below w.heap.size w w' := by
  obtain ⟨s, rest, hw, hr, hs, hst, ht⟩ := hH
  have hgl := block_lt hw
  have hlen := hash_len hw hr
  have HI : Hid ((Tryd.prog.info? 60).map (·.size) = some (wvs (stOf all).list).length) := hid (info40.trans (congrArg some (by simp)))
  have HI2 : Hid ((Tryd.prog.info? 60).map (·.size) = some (stA (stOf all)).size) := hid (info40.trans (congrArg some (stA_size _).symm))
  have HO := hid (stA_one (stOf all))
  have H8 : Hid ((8 : Nat) = (stA (stOf all)).size) := hid (stA_size _).symm
  have hnew : ∀ c : Array Value, (w.alloc (.cells c A8)).cell? ⟨g, 72, none⟩ = some (.int .i64 (all.length : Int)) := fun c => by
    rw [World.cell?_alloc_lt w _ ⟨g, 72, none⟩ hgl]; exact hlen
  by_cases hlt : all.length < 64
  · have hx : (all.length : Int) < 64 := by omega
    have hR : ∀ c : Array Value, (w.alloc (.cells c A8)).rangeAt 0 0 (wvs (stOf all).list) := fun c => by
      rw [stOf_short all hlt]; exact World.rangeAt_alloc (iv_range hG) _
    have HR := hid hR; have HN := hid hn
    clear hR hst ht hr hs hw hn hG
    go_enter Tryd.func39, Tryd.ntmps39
    go_wp2_with (first
      | fail
      | (with_reducible refine wpList_load_mid rfl 60 (.global 0) rfl 0 0 rfl (wvs (stOf all).list) _ (HR.out _) Tryd.underlying60 rfl HI.out ?_)
      | (with_reducible refine wpList_store_row rfl 60 (.tmp 2) _ rfl w.heap.size (stA (stOf all)) rfl rfl A8 _ (heap_alloc_new _ _) HI2.out ?e1 HO.out ?_))
    case e1 => exact H8.out
    refine bodyPost_ret (v := .agg (stA (stOf all))) (results_cell_row rfl _ _ w.heap.size A8 (stA (stOf all)) (0, 0) _ rfl (setRow_heap _ _ _ _ _ _ (heap_alloc_new _ _)) Tryd.underlying60 rfl HI2.out) rfl ⟨rfl, ?_⟩
    exact below_setRow ((Below.refl _ _).alloc (Nat.le_refl _) _) (Nat.le_refl _) _
  · have hx : ¬ (all.length : Int) < 64 := by omega
    have hR : ∀ c : Array Value, (w.alloc (.cells c A8)).rangeAt g 0 (wvs (stOf all).list) := fun c => by
      rw [← hst (by omega)]; exact World.rangeAt_alloc (hash_range0 hw) _
    have HR := hid hR; have HN := hid hn
    have hg0 : g ≠ w.heap.size := by omega
    clear hR hst ht hr hs hw hn hG
    go_enter Tryd.func39, Tryd.ntmps39
    go_wp2_with (first
      | fail
      | (with_reducible refine wpList_load_mid rfl 60 (.tmp 11) rfl g 0 rfl (wvs (stOf all).list) _ (HR.out _) Tryd.underlying60 rfl HI.out ?_)
      | (with_reducible refine wpList_store_row rfl 60 (.tmp 2) _ rfl w.heap.size (stA (stOf all)) rfl rfl A8 _ (heap_alloc_new _ _) HI2.out ?e1 HO.out ?_))
    case e1 => exact H8.out
    refine bodyPost_ret (v := .agg (stA (stOf all))) (results_cell_row rfl _ _ w.heap.size A8 (stA (stOf all)) (0, 0) _ rfl (setRow_heap _ _ _ _ _ _ (heap_alloc_new _ _)) Tryd.underlying60 rfl HI2.out) rfl ⟨rfl, ?_⟩
    exact below_setRow ((Below.refl _ _).alloc (Nat.le_refl _) _) (Nat.le_refl _) _

end Go.Proofs.YtpdkpadpdkagoaaDoor
