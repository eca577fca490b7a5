/-
  The document's own digest by the table.
-/
import Derived.Test.YtokggppfobbblaaDoorRef02i
namespace Go.Proofs.YtokggppfobbblaaDoor
open Go.RowKit
set_option linter.unusedVariables false
set_option linter.unusedSimpArgs false

theorem table_lits : (uvs kTab).toArray = #[.int .u64 1116352408, .int .u64 1899447441, .int .u64 3049323471, .int .u64 3921009573, .int .u64 961987163, .int .u64 1508970993, .int .u64 2453635748, .int .u64 2870763221, .int .u64 3624381080, .int .u64 310598401, .int .u64 607225278, .int .u64 1426881987, .int .u64 1925078388, .int .u64 2162078206, .int .u64 2614888103, .int .u64 3248222580, .int .u64 3835390401, .int .u64 4022224774, .int .u64 264347078, .int .u64 604807628, .int .u64 770255983, .int .u64 1249150122, .int .u64 1555081692, .int .u64 1996064986, .int .u64 2554220882, .int .u64 2821834349, .int .u64 2952996808, .int .u64 3210313671, .int .u64 3336571891, .int .u64 3584528711, .int .u64 113926993, .int .u64 338241895, .int .u64 666307205, .int .u64 773529912, .int .u64 1294757372, .int .u64 1396182291, .int .u64 1695183700, .int .u64 1986661051, .int .u64 2177026350, .int .u64 2456956037, .int .u64 2730485921, .int .u64 2820302411, .int .u64 3259730800, .int .u64 3345764771, .int .u64 3516065817, .int .u64 3600352804, .int .u64 4094571909, .int .u64 275423344, .int .u64 430227734, .int .u64 506948616, .int .u64 659060556, .int .u64 883997877, .int .u64 958139571, .int .u64 1322822218, .int .u64 1537002063, .int .u64 1747873779, .int .u64 1955562222, .int .u64 2024104815, .int .u64 2227730452, .int .u64 2361852424, .int .u64 2428436474, .int .u64 2756734187, .int .u64 3204031479, .int .u64 3329325298] := rfl

set_option maxRecDepth 100000 in
set_option maxHeartbeats 800000 in
theorem table_any (w : World) :
    Calls Tryd.prog 28 #[] w fun e w' => e = .returned (.tuple #[.slice (some ⟨w.heap.size, 0, none⟩) 8 8, .slice (some ⟨w.heap.size + 1, 0, none⟩) 64 64]) ∧ w' = (w.alloc (.cells (uvs iv.list).toArray 52)).alloc (.cells (uvs kTab).toArray 52) := by
  rw [table_lits]
  go_enter Tryd.func28, Tryd.ntmps28
  go_wp2
  exact bodyPost_ret (v := .tuple #[.slice (some ⟨w.heap.size, 0, none⟩) 8 8, .slice (some ⟨w.heap.size + 1, 0, none⟩) 64 64]) (by simp [results, Tryd.results28]) rfl ⟨rfl, rfl⟩

theorem uvs_new {W : World} {g : Nat} {xs : List Nat} (h : W.heap[g]? = some (.cells (uvs xs).toArray 52 (0, 0))) (c : Nat) (h1 : xs.length ≤ c) (h2 : c ≤ 9223372036854775807) : Sq W W.heap.size (some ⟨g, 0, none⟩) c (uvs xs) :=
  .inr ⟨g, 0, rfl, block_lt h, by rw [uvs_length]; exact h1, h2, fun j u hu => by rw [Nat.zero_add]; exact cell_of h j u (by rw [List.getElem?_toArray]; exact hu)⟩

set_option maxRecDepth 100000 in
set_option maxHeartbeats 800000 in
theorem ref2_digest (A : Option Addr) (all : List UInt8) (c : Nat) (w : World) (hn : all.length ≤ 1099511627776) (hA : Sq w w.heap.size A c (bvs all)) :
    Calls Tryd.prog 13 #[.slice A all.length c] w fun e w' => ∃ v, e = .returned v ∧ OwnB w' w.heap.size v (shaB all) ∧ Below w.heap.size w w' := by
  obtain ⟨w2, hw2⟩ : ∃ w2, w2 = (w.alloc (.cells (uvs iv.list).toArray 52)).alloc (.cells (uvs kTab).toArray 52) := ⟨_, rfl⟩
  have hb : Below w.heap.size w w2 := by rw [hw2]; exact ((Below.refl _ _).alloc (Nat.le_refl _) _).alloc (by simp) _
  have hr1 : w2.heap[w.heap.size]? = some (.cells (uvs iv.list).toArray 52 (0, 0)) := by rw [hw2]; exact heap_alloc2_old _ _ _
  have hr2 : w2.heap[w.heap.size + 1]? = some (.cells (uvs kTab).toArray 52 (0, 0)) := by rw [hw2]; exact heap_alloc2_new _ _ _
  have HS := hid (sum_any A all c (some ⟨w.heap.size, 0, none⟩) (some ⟨w.heap.size + 1, 0, none⟩) 8 64 kTab iv w2 iv_ok rfl kTab_lt hn ((hA.below hb).more hb.size) (uvs_new hr1 8 (by simp) (by omega)) (uvs_new hr2 64 (Nat.le_refl _) (by omega)))
  have HB := hid hb; have HW := hid hw2
  clear hA hb hr1 hr2 hw2
  go_enter Tryd.func13, Tryd.ntmps13
  go_wp2_with fail
  refine (table_any w).mono ?_
  rintro e w3 ⟨rfl, hw3⟩
  rw [← HW.out] at hw3
  subst hw3
  clear HW
  go_wp2_with fail
  refine HS.out.mono ?_
  rintro e w4 ⟨v, rfl, ho, hb4⟩
  rw [shaBy_std] at ho
  have HO := hid (own_base ho HB.out.size); have HB4 := hid (HB.out.trans (hb4.mono HB.out.size))
  clear ho hb4
  go_wp2
  go_ret
  exact ⟨_, rfl, HO.out, HB4.out⟩
end Go.Proofs.YtokggppfobbblaaDoor
