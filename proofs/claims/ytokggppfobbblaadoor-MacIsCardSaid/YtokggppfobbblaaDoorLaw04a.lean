/-
  The statements of layer 4: what each begins with.
-/
import Derived.Test.YtokggppfobbblaaDoorMac4
import Derived.Test.YtokggppfobbblaaDoorLaw02a
namespace Go.Proofs.YtokggppfobbblaaDoor
open Go.RowKit
set_option linter.unusedVariables false
set_option linter.unusedSimpArgs false

theorem jefe_cell (k : Nat) (x : UInt8) (h : [91, 220, 193, 70][k]? = some x) : (byA (macB jefe (whatDo ++ forNo)))[k]? = some (.int .u8 (x.toNat : Int)) := by
  have hk : k < 4 := (List.getElem?_eq_some_iff.1 h).1
  rw [← jefe_four, List.getElem?_take, if_pos hk] at h
  rw [byA, List.getElem?_toArray, bvs, List.getElem?_map, h]
  rfl

/-- The tag of parts that stand in a new row. -/
theorem tags_any (A : Option Addr) (key : List UInt8) (c : Nat) (l : List (Option Addr × List UInt8 × Nat)) (w : World) (hA : Sq w w.heap.size A c (bvs key)) (h : ∀ p ∈ l, Sq w w.heap.size p.1 p.2.2 (bvs p.2.1)) (hG : Glob w)
    (hn : key.length ≤ 1152921504606846976) (hn2 : (l.map fun p => p.2.1).flatten.length ≤ 1152921504606840000) (hl : l.length ≤ 9223372036854775807) :
    Calls Tryd.prog 21 #[.slice A key.length c, .slice (some ⟨w.heap.size, 0, none⟩) l.length l.length] (w.alloc (.cells (l.map fun p => Value.slice p.1 p.2.1.length p.2.2).toArray 22)) (fun e W' => ∃ b, e = .returned (.slice (some ⟨b, 0, none⟩) 32 32) ∧ W'.heap[b]? = some (.cells (byA (macB key (l.map fun p => p.2.1).flatten)) A32 (0, 0)) ∧ w.heap.size < b ∧ Below w.heap.size w W') := by
  have hr := rows_new w l h 22
  have hb : Below w.heap.size w (w.alloc (.cells (l.map fun p => Value.slice p.1 p.2.1.length p.2.2).toArray 22)) := (Below.refl _ _).alloc (Nat.le_refl _) _
  have h1 := Tag_any A key c (some ⟨w.heap.size, 0, none⟩) (l.map fun p => p.2.1) l.length (w.alloc (.cells (l.map fun p => Value.slice p.1 p.2.1.length p.2.2).toArray 22)) ((hA.below hb).more hb.size) (by simpa using hr) (hG.below hb (Nat.le_refl _)) hn hn2 (by simpa using hl)
  rw [List.length_map] at h1
  exact h1.mono fun e W' ⟨v, he, ⟨b, hv, hbk, hbz, _⟩, hB⟩ => ⟨b, by rw [he, hv], hbk, by rw [World.size_alloc] at hbz; omega, hb.trans (hB.mono (by simp))⟩

set_option maxRecDepth 100000 in
set_option maxHeartbeats 800000 in
theorem alive4_any (w : World) (hG : Glob w) :
    Calls Tryd.prog 19 #[] w fun e w' => e = .returned (.bool true) ∧ Below w.heap.size w w' := by
  have HG := hid hG
  have kc : ∀ (W : World) (C : Array Value) (n c k : Nat), W.heap.size = k → (convert 22 22 (.slice (some ⟨k, 0, none⟩) n c)).run Tryd.prog (W.alloc (.cells C 5)) = .ok (.slice (some ⟨k, 0, none⟩) n c) (W.alloc (.cells C 5 (C.size, C.size + 1))) := fun W C n c k h => by
    subst h; exact Go.Lib.run_convert_bytes_const (P := Tryd.prog) W 22 5 C n c Tryd.underlying22 Tryd.underlying5
  clear hG
  go_enter Tryd.func19, Tryd.ntmps19
  go_wp2_with fail
  obtain ⟨w1, hw1⟩ : ∃ w1, w1 = w.alloc (.cells #[.int .u8 74, .int .u8 101, .int .u8 102, .int .u8 101] 5 (4, 5)) := ⟨_, rfl⟩
  have hz1 : w1.heap.size = w.heap.size + 1 := by rw [hw1]; simp
  have hb1 : Below w.heap.size w w1 := by rw [hw1]; exact (Below.refl _ _).alloc (Nat.le_refl _) _
  have hl1 : Lie w1 w1.heap.size (some ⟨w.heap.size, 0, none⟩) (bvs jefe) := by rw [hw1]; exact lie_marked w #[.int .u8 74, .int .u8 101, .int .u8 102, .int .u8 101] 4 5
  rw [← hw1]
  clear hw1
  obtain ⟨w2, hw2⟩ : ∃ w2, w2 = w1.alloc (.cells #[.int .u8 119, .int .u8 104, .int .u8 97, .int .u8 116, .int .u8 32, .int .u8 100, .int .u8 111, .int .u8 32, .int .u8 121, .int .u8 97, .int .u8 32, .int .u8 119, .int .u8 97, .int .u8 110, .int .u8 116, .int .u8 32] 5 (16, 17)) := ⟨_, rfl⟩
  have hz2 : w2.heap.size = w.heap.size + 1 + 1 := by rw [hw2, World.size_alloc, hz1]
  have hb2 : Below w1.heap.size w1 w2 := by rw [hw2]; exact (Below.refl _ _).alloc (Nat.le_refl _) _
  have hl2 : Lie w2 w2.heap.size (some ⟨w1.heap.size, 0, none⟩) (bvs whatDo) := by rw [hw2]; exact lie_marked w1 #[.int .u8 119, .int .u8 104, .int .u8 97, .int .u8 116, .int .u8 32, .int .u8 100, .int .u8 111, .int .u8 32, .int .u8 121, .int .u8 97, .int .u8 32, .int .u8 119, .int .u8 97, .int .u8 110, .int .u8 116, .int .u8 32] 16 17
  rw [← hw2]
  clear hw2
  obtain ⟨w3, hw3⟩ : ∃ w3, w3 = w2.alloc (.cells #[.int .u8 102, .int .u8 111, .int .u8 114, .int .u8 32, .int .u8 110, .int .u8 111, .int .u8 116, .int .u8 104, .int .u8 105, .int .u8 110, .int .u8 103, .int .u8 63] 5 (12, 13)) := ⟨_, rfl⟩
  have hz3 : w3.heap.size = w.heap.size + 1 + 1 + 1 := by rw [hw3, World.size_alloc, hz2]
  have hb3 : Below w2.heap.size w2 w3 := by rw [hw3]; exact (Below.refl _ _).alloc (Nat.le_refl _) _
  have hl3 : Lie w3 w3.heap.size (some ⟨w2.heap.size, 0, none⟩) (bvs forNo) := by rw [hw3]; exact lie_marked w2 #[.int .u8 102, .int .u8 111, .int .u8 114, .int .u8 32, .int .u8 110, .int .u8 111, .int .u8 116, .int .u8 104, .int .u8 105, .int .u8 110, .int .u8 103, .int .u8 63] 12 13
  rw [← hw3]
  clear hw3
  have hb13 : Below w1.heap.size w1 w3 := hb2.trans (hb3.mono hb2.size)
  have hB3 : Below w.heap.size w w3 := hb1.trans (hb13.mono (by omega))
  have HT := tags_any (some ⟨w.heap.size, 0, none⟩) jefe 4 [(some ⟨w1.heap.size, 0, none⟩, whatDo, 16), (some ⟨w2.heap.size, 0, none⟩, forNo, 12)] w3 (((hl1.below hb13).more hb13.size).sq (by decide) (by decide)) (by
    intro p hp
    rcases List.mem_cons.1 hp with rfl | hp
    · exact ((hl2.below hb3).more hb3.size).sq (show 16 ≤ 16 by decide) (show 16 ≤ 9223372036854775807 by decide)
    · rw [List.mem_singleton] at hp
      subst hp
      exact hl3.sq (show 12 ≤ 12 by decide) (show 12 ≤ 9223372036854775807 by decide)) (HG.out.below hB3 (Nat.le_refl _)) (by decide) (show (whatDo ++ (forNo ++ [])).length ≤ 1152921504606840000 by decide) (show 2 ≤ 9223372036854775807 by decide)
  have HT := hid HT
  have HB3 := hid hB3
  rw [hz3, hz2, hz1] at HT
  clear hb1 hb2 hb3 hb13 hB3 hl1 hl2 hl3 kc hz1 hz2
  refine HT.out.mono ?_
  rintro e w4 ⟨b, rfl, hbk, hbz, hb4⟩
  obtain ⟨d, hd⟩ : ∃ d, d = byA (macB jefe (whatDo ++ forNo)) := ⟨_, rfl⟩
  have hfl : ([(some ⟨w.heap.size + 1, 0, none⟩, whatDo, 16), (some ⟨w.heap.size + 1 + 1, 0, none⟩, forNo, 12)].map fun p : Option Addr × List UInt8 × Nat => p.2.1).flatten = whatDo ++ forNo := by simp
  rw [hfl, ← hd] at hbk
  have hc0 : w4.cell? ⟨b, 0, none⟩ = some (.int .u8 91) := cell_of hbk 0 _ (by rw [hd]; exact jefe_cell 0 91 rfl)
  have hc1 : w4.cell? ⟨b, 1, none⟩ = some (.int .u8 220) := cell_of hbk 1 _ (by rw [hd]; exact jefe_cell 1 220 rfl)
  have hc2 : w4.cell? ⟨b, 2, none⟩ = some (.int .u8 193) := cell_of hbk 2 _ (by rw [hd]; exact jefe_cell 2 193 rfl)
  have hc3 : w4.cell? ⟨b, 3, none⟩ = some (.int .u8 70) := cell_of hbk 3 _ (by rw [hd]; exact jefe_cell 3 70 rfl)
  have HB4 := hid (HB3.out.trans (hb4.mono (by omega)))
  clear hbk hb4 hd hfl HT
  go_wp2
  go_ret
  exact ⟨rfl, HB4.out⟩
end Go.Proofs.YtokggppfobbblaaDoor
