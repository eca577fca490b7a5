/-
  Texts of this claim in one file: Sha8, Sha9, ShaT.
-/
import Derived.Test.YtpkmidaflnbobaaGreatDoorPk1
import Derived.Test.YtpkmidaflnbobaaGreatDoorPk4
import Derived.Deep.DeepCutAuto
import Derived.Deep.RegionHeld3
import Derived.Test.YtpkmidaflnbobaaGreatDoorPk6
import Derived.Lib.SlBytesConst
section
namespace Go.Proofs.YtpkmidaflnbobaaGreatDoor
open Go.RowKit
set_option linter.unusedVariables false
set_option linter.unusedSimpArgs false
/-- Bytes laid over the rest. -/
theorem splice_rest (s : St8) (rest b : List UInt8) (n k : Nat) (h : k + b.length ≤ rest.length) : splice (hashL s rest n) (8 + k) (bvs b) = hashL s (splice rest k b) n := by
  have h8 : (wvs s.list).length = 8 := by simp
  unfold splice hashL
  rw [List.take_append, List.drop_append, h8, List.take_of_length_le (by omega), List.drop_eq_nil_of_le (by rw [h8]; omega), Nat.add_sub_cancel_left, bvs_length, show 8 + k + b.length - 8 = k + b.length by omega, List.take_append_of_le_length (by simp; omega), List.drop_append_of_le_length (by simp; omega)]
  simp [bvs, List.map_take, List.map_drop]
theorem splice_length (rest b : List UInt8) (k : Nat) (h : k + b.length ≤ rest.length) : (splice rest k b).length = rest.length := length_splice rest k b h
theorem hash_len_set (s : St8) (rest : List UInt8) (n m : Nat) (z : Int) (hr : rest.length = 64) (hz : z = (m : Int)) : (hashL s rest n).toArray.setIfInBounds 72 (.int .i64 z) = (hashL s rest m).toArray := by
  subst hz
  simp only [List.setIfInBounds_toArray, hashL]
  congr 1
  rw [List.set_append_right _ _ (by simp), List.set_append_right _ _ (by simp [hr])]
  simp [hr]
theorem grown_of_below {w w' : World} (h : Below w.heap.size w w') : w.grownBy w' none := ⟨h.os, h.tape, h.output, h.size, fun k hk _ => h.block k hk⟩
theorem sizeU8 : (Tryz.prog.info? 5).map (·.size) = some 1 := by kernel_rfl
theorem wpList_zero {P : Program} {w : World} {ops : Array Oper} {rest : List Oper} {o : Oper} {a : Act} {Q : Exit → Act → World → Prop} (hg : o.guard = none) (t : TypeId) (ho : o.op = .build t #[]) (z : Array Value) (hz : P.built t [] = some z)
    (h : wpList P ops Q rest (a.put o.dst (.agg z)) w) : wpList P ops Q (o :: rest) a w :=
  wpList_build hg t #[] ho (by simp [hz]) (by simpa [hz] using h)
def hash0 : Array Value := (hashL ⟨0, 0, 0, 0, 0, 0, 0, 0⟩ (List.replicate 64 0) 0).toArray
theorem built50 : Tryz.prog.built 127 [] = some hash0 := by kernel_rfl
theorem hash0_is (w : World) : HashIs (w.alloc (.cells hash0 HashT)) w.heap.size [] :=
  ⟨⟨0, 0, 0, 0, 0, 0, 0, 0⟩, List.replicate 64 0, heap_alloc_new w _, rfl, by unfold St8.ok; decide, fun h => by simp at h, rfl⟩
set_option maxRecDepth 100000 in
set_option maxHeartbeats 800000 in
theorem New_any (w : World) :
    Calls Tryz.prog 93 #[] w fun e w' => e = .returned (.pointer (some ⟨w.heap.size, 0, none⟩)) ∧ HashIs w' w.heap.size [] ∧ w'.heap.size = w.heap.size + 1 ∧ Below w.heap.size w w' := by
  have HB := hid built50
  go_enter Tryz.func93, Tryz.ntmps93
  go_wp2_with (with_reducible refine wpList_zero rfl 127 rfl hash0 HB.out ?_)
  go_ret
  exact ⟨rfl, hash0_is w, by simp, (Below.refl _ _).alloc (Nat.le_refl _) _⟩
set_option maxRecDepth 100000 in
set_option maxHeartbeats 800000 in
theorem Write_part (g : Nat) (all b : List UInt8) (A : Option Addr) (c : Nat) (w : World) (hH : HashIs w g all) (hG : Glob w) (hng : NotGlob g) (hn : all.length + b.length ≤ 1152921504606846976) (hA : Sq w w.heap.size A c (bvs b)) (hne : NotIn A (bvs b) g)
    (hu : 0 < all.length % 64) (hub : all.length % 64 + b.length < 64) :
    Calls Tryz.prog 94 #[.pointer (some ⟨g, 0, none⟩), .slice A b.length c] w fun e w' => e = .returned (.tuple #[]) ∧ HashIs w' g (all ++ b) ∧ w.grownBy w' (some g) := by
  have hbeg := begun_any g all w (by omega) hH hG
  obtain ⟨s, rest, hw, hr, hs, hst, ht⟩ := hH
  have hgl := block_lt hw
  have hlen := hash_len hw hr
  have HW := hid hw; have HR := hid hr; have HST := hid hst; have HT := hid ht; have HS := hid hs; have HA := hid hA; have HNE := hid hne; have HBEG := hid hbeg
  clear hw hr hst ht hs hA hne hbeg hG hng
  go_enter Tryz.func94, Tryz.ntmps94
  go_wp2_with fail
  refine HBEG.out.mono ?_
  rintro e w1 ⟨rfl, hb1⟩
  have HI2 : Hid ((Tryz.prog.info? 125).map (·.size) = some (stA (stOf all)).size) := hid (info40.trans (congrArg some (stA_size _).symm))
  have HO := hid (stA_one (stOf all))
  have H8 : Hid ((#[Value.int .u32 0, .int .u32 0, .int .u32 0, .int .u32 0, .int .u32 0, .int .u32 0, .int .u32 0, .int .u32 0] : Array Value).size = (stA (stOf all)).size) := hid (stA_size _).symm
  have hw2 : (w1.alloc (.cells (stA (stOf all)) A8)).heap[g]? = some (.cells (hashL s rest all.length).toArray HashT (0, 0)) := (Below.heap_alloc _ _ _ (Nat.lt_of_lt_of_le hgl hb1.size)).trans ((hb1.block g hgl).trans HW.out)
  have hc2 := hash_len hw2 HR.out
  have hf2 := frozen_of_row (w1.alloc (.cells (stA (stOf all)) A8)) g 72 _ _ hw2
  have HW2 := hid hw2
  have hb2 : Below w.heap.size w (w1.alloc (.cells (stA (stOf all)) A8)) := hb1.alloc hb1.size _
  have HB2 := hid hb2
  have hl1 : (all.length : Int) + (b.length : Int) ≤ 1152921504606846976 := by omega
  obtain ⟨u, hud⟩ : ∃ u, u = all.length % 64 := ⟨_, rfl⟩
  have hu1 : (0 : Int) < (all.length : Int) % 64 := by omega
  have hu2 : (all.length : Int) % 64 ≤ 64 := by omega
  have hu4 : (0 : Int) ≤ (all.length : Int) % 64 := by omega
  have hu5 : ((all.length : Int) % 64).toNat = u := by omega
  have hu3 : u < 64 := by omega
  have HUD := hid hud
  clear hud
  clear hw2 hb2 hlen
  obtain ⟨bv, hbv⟩ : ∃ bv, bv = bvs b := ⟨_, rfl⟩
  have hbl : bv.length = b.length := by rw [hbv]; simp
  have HBV := hid hbv; have HBL := hid hbl
  have hw3 : ((w1.alloc (.cells (stA (stOf all)) A8)).setCell ⟨g, 72, none⟩ (.int .i64 ((all.length : Int) + (b.length : Int)))).heap[g]? = some (.cells (hashL s rest (all ++ b).length).toArray HashT (0, 0)) := by
    have h := block_set HW2.out 72 (.int .i64 ((all.length : Int) + (b.length : Int)))
    rw [hash_len_set s rest all.length (all ++ b).length _ HR.out (by simp)] at h
    exact h
  have hg3 : w.grownBy ((w1.alloc (.cells (stA (stOf all)) A8)).setCell ⟨g, 72, none⟩ (.int .i64 ((all.length : Int) + (b.length : Int)))) (some g) :=
    grown_step (grown_alloc (grown_none (grown_of_below hb1) (some g)) _) (.inl rfl) (grown_setCell _ g 72 none _)
  have HW3 := hid hw3; have HG3 := hid hg3
  have HLIE := hid ((HA.out.other hg3 (Nat.le_refl _) HNE.out).lie)
  rw [← hbv] at HLIE
  clear hbv hbl hw3 hg3 hb1
  go_wp2_with (first
    | fail
    | (with_reducible refine wpList_store_row rfl 125 (.tmp 4) _ rfl w1.heap.size (stA (stOf all)) rfl rfl A8 _ (heap_alloc_new _ _) HI2.out H8.out HO.out ?_; rw [World.setRow_alloc_new])
    | (with_reducible refine wpList_copy_grown rfl _ _ _ _ rfl 5 Tryz.underlying22 sizeU8 _ _ _ _ _ _ rfl rfl g (8 + u) (hashL s rest (all ++ b).length) HashT HW3.out bv ?e2 ?e3 ?e4 ?e5 w HG3.out ?_))
  case e2 => rw [HBL.out]; exact (Nat.min_eq_left (by have := HUD.out; omega)).symm
  case e3 => intro hp; first | exact ⟨rfl, HLIE.out.src hp⟩ | exact HLIE.out.src hp
  case e4 => rw [HBL.out, hashL_length _ _ _ HR.out]; have := HUD.out; omega
  case e5 => rw [HBV.out]; exact bvs_one b
  intro w4 HW4 hg4
  have HG4 := hid hg4
  clear hg4
  rw [HBL.out]
  have hl5 : (all.length : Int) % 64 + (b.length : Int) < 64 := by omega
  go_wp2
  refine bodyPost_ret (v := .tuple #[]) (by simp [results, Tryz.results94]) rfl ⟨rfl, ?_, HG4.out⟩
  have hud := HUD.out
  have hfit : u + b.length ≤ rest.length := by rw [HR.out]; omega
  have hps := part_state all b (by omega)
  refine ⟨s, splice rest u b, ?_, (splice_length _ _ _ hfit).trans HR.out, HS.out, ?_, ?_⟩
  · rw [← splice_rest s rest b _ u hfit, ← HBV.out, List.length_append]; exact HW4.out
  · intro h64
    rw [hps.1]
    exact HST.out (by rw [List.length_append] at h64; omega)
  · rw [hps.2, ← HT.out]
    have e : (all ++ b).length % 64 = u + b.length := by rw [List.length_append]; omega
    have h1 : (rest.take u).length = u := by rw [List.length_take, HR.out]; omega
    rw [e, splice, ← List.append_assoc, List.take_append_of_le_length (by simp [h1]), List.take_of_length_le (by simp [h1]), hud]
theorem Glob.other {w w' : World} {g : Nat} (h : Glob w) (hg : w.grownBy w' (some g)) (hn : NotGlob g) : Glob w' := by
  obtain ⟨h1, h2, h3, h4⟩ := h
  refine ⟨fun j hj => ?_, fun j v hv => ?_, Nat.lt_of_lt_of_le h3 hg.size, Nat.lt_of_lt_of_le h4 hg.size⟩
  · exact (World.cell?_of_block (a := ⟨_, j, none⟩) (hg.block _ h3 (by simpa using fun e => hn.1 e.symm))).trans (h1 j hj)
  · exact (World.cell?_of_block (a := ⟨_, j, none⟩) (hg.block _ h4 (by simpa using fun e => hn.2 e.symm))).trans (h2 j v hv)
theorem grown_below {w a b : World} {row : Option Nat} (h : w.grownBy a row) (k : Below w.heap.size a b) : w.grownBy b row :=
  ⟨k.os.trans h.os, k.tape.trans h.tape, k.output.trans h.output, Nat.le_trans h.size k.size, fun i hi hne => (k.block i hi).trans (h.block i hi hne)⟩
theorem hash_there {w : World} {g n : Nat} {s : St8} {rest : List UInt8} (h : w.heap[g]? = some (.cells (hashL s rest n).toArray HashT (0, 0))) (hr : rest.length = 64) (o k : Nat) (hk : o + k ≤ 73) : w.there g o k := fun j hj => by
  refine ⟨?_, frozen_of_row _ _ _ _ _ h⟩
  rw [cell_of_row w g _ _ _ _ h, List.getElem?_toArray, List.getElem?_eq_getElem (by rw [hashL_length _ _ _ hr]; omega)]
  rfl
theorem built48 : Tryz.prog.built 104 [] = some (byA (List.replicate 64 0)) := by kernel_rfl
theorem info48 : (Tryz.prog.info? 104).map (·.size) = some 64 := by kernel_rfl
theorem hash_state {w : World} {g n : Nat} {s : St8} {rest : List UInt8} (h : w.heap[g]? = some (.cells (hashL s rest n).toArray HashT (0, 0))) (hr : rest.length = 64) (t : St8) : (w.setCells g 0 (stA t).toList).heap[g]? = some (.cells (hashL t rest n).toArray HashT (0, 0)) := by
  have h1 := heap_setCells (stA t).toList h 0 (by simp [stA, hashL, hr])
  rw [h1]
  simp [hashL, stA]
theorem hash_clear {w : World} {g n : Nat} {s : St8} {rest : List UInt8} (h : w.heap[g]? = some (.cells (hashL s rest n).toArray HashT (0, 0))) (hr : rest.length = 64) (z : List UInt8) (hz : z.length = 64) : (w.setCells g 8 (byA z).toList).heap[g]? = some (.cells (hashL s z n).toArray HashT (0, 0)) := by
  have h1 := heap_setCells (byA z).toList h 8 (by simp [byA, hashL, hr, hz])
  rw [h1]
  have h8 : (wvs s.list).length = 8 := by simp
  simp only [hashL, byA, List.toList_toArray, bvs_length, hz]
  rw [List.take_append, h8, List.take_of_length_le (by omega), List.drop_append, h8, List.drop_eq_nil_of_le (by rw [h8]; omega), List.drop_append, List.drop_eq_nil_of_le (by simp [hr])]
  simp [hr]
/-- What stands when the block is full or none was begun: q blocks of all are gone through, the rest is ys. -/
def Mid (w : World) (g S : Nat) (m : List UInt8) (s1 : Value) (wc : World) : Prop :=
  ∃ (A' : Option Addr) (c' : Nat) (ys : List UInt8) (q : Nat) (s : St8) (rest : List UInt8), s1 = .slice A' ys.length c' ∧ Sq wc w.heap.size A' c' (bvs ys) ∧ NotIn A' (bvs ys) g ∧ ys = m.drop (64 * q) ∧ 64 * q ≤ m.length ∧
    wc.heap[S]? = some (.cells (stA (blocksN kTab q iv m)) A8 (0, 0)) ∧ wc.heap[g]? = some (.cells (hashL s rest m.length).toArray HashT (0, 0)) ∧ rest.length = 64 ∧ s.ok ∧ w.grownBy wc (some g)
theorem Mid.filled {w w4 w5 : World} {g S b' o' c d q : Nat} {m b rest2 : List UInt8} {s st t : St8} (hg4 : w.grownBy w4 (some g)) (hS : w4.heap[S]? = some (.cells (stA st) A8 (0, 0))) (hSw : w.heap.size ≤ S) (hgl : g < w.heap.size)
    (hW : w4.heap[g]? = some (.cells (hashL s rest2 m.length).toArray HashT (0, 0))) (hr2 : rest2.length = 64) (hso : s.ok) (hA : Sq w4 w.heap.size (some ⟨b', o', none⟩) c (bvs b)) (hne : b' ≠ g)
    (hb5 : Below w4.heap.size w4.drew w5) (ht : t = blocksN kTab q iv m) (hq : b.drop d = m.drop (64 * q)) (hql : 64 * q ≤ m.length) (hdb : d ≤ b.length) (A2 : Option Addr) (hA2 : A2 = if c = d then some ⟨b', o', none⟩ else some ⟨b', o' + d, none⟩) :
    Mid w g S m (.slice A2 (b.length - d) (c - d)) (lay8 w5 S t) := by
  have hcap := hA.cap
  rw [bvs_length] at hcap
  have hb5' : Below w4.heap.size w4 w5 := (Below.refl w4.heap.size w4).drew.trans hb5
  have hg5 : w.grownBy w5 (some g) := grown_below hg4 (hb5'.mono hg4.size)
  have hS5 : w5.heap[S]? = some (.cells (stA st) A8 (0, 0)) := (hb5'.block S (block_lt hS)).trans hS
  have hA5 : Sq w5 w.heap.size (some ⟨b', o', none⟩) c (bvs b) := hA.below (hb5'.mono hg4.size)
  have hlay : Below w.heap.size w5 (lay8 w5 S t) := lay8_below t (Below.refl _ _) hSw
  refine ⟨A2, c - d, b.drop d, q, s, rest2, by rw [List.length_drop], ?_, ?_, hq, hql, by rw [← ht]; exact lay8_row t hS5, ?_, hr2, hso, grown_below hg5 hlay⟩
  · refine Sq.below ?_ hlay
    have e : bvs (b.drop d) = (bvs b).drop d := by simp [bvs, List.map_drop]
    by_cases hc : c = d
    · rw [hA2, if_pos hc, List.drop_eq_nil_of_le (by omega)]
      exact hA5.end_ d
    · rw [hA2, if_neg hc, e]
      exact hA5.drop d (by omega)
  · intro _ x o sp h
    rw [hA2] at h
    split at h <;> (simp only [Option.some.injEq, Addr.mk.injEq] at h; rw [← h.1]; exact hne)
  · rw [lay8_other t (by omega)]
    exact (hb5'.block g (by have := hg4.size; omega)).trans hW
set_option maxRecDepth 100000 in
set_option maxHeartbeats 1600000 in
theorem Write_full (g : Nat) (all b : List UInt8) (A : Option Addr) (c : Nat) (w : World) (hH : HashIs w g all) (hG : Glob w) (hng : NotGlob g) (hn : all.length + b.length ≤ 1152921504606846976) (hA : Sq w w.heap.size A c (bvs b)) (hne : NotIn A (bvs b) g)
    (hu : all.length % 64 = 0 ∨ 64 ≤ all.length % 64 + b.length) :
    Calls Tryz.prog 94 #[.pointer (some ⟨g, 0, none⟩), .slice A b.length c] w fun e w' => e = .returned (.tuple #[]) ∧ HashIs w' g (all ++ b) ∧ w.grownBy w' (some g) := by
  have hbeg := begun_any g all w (by omega) hH hG
  obtain ⟨s, rest, hw, hr, hs, hst, ht⟩ := hH
  have hgl := block_lt hw
  have hlen := hash_len hw hr
  have HW := hid hw; have HR := hid hr; have HST := hid hst; have HT := hid ht; have HS := hid hs; have HA := hid hA; have HNE := hid hne; have HBEG := hid hbeg; have HG := hid hG; have HNG := hid hng; have HU := hid hu
  clear hw hr hst ht hs hA hne hbeg hG hng hu
  go_enter Tryz.func94, Tryz.ntmps94
  go_wp2_with fail
  refine HBEG.out.mono ?_
  rintro e w1 ⟨rfl, hb1⟩
  have HI2 : Hid ((Tryz.prog.info? 125).map (·.size) = some (stA (stOf all)).size) := hid (info40.trans (congrArg some (stA_size _).symm))
  have HO := hid (stA_one (stOf all))
  have H8 : Hid ((#[Value.int .u32 0, .int .u32 0, .int .u32 0, .int .u32 0, .int .u32 0, .int .u32 0, .int .u32 0, .int .u32 0] : Array Value).size = (stA (stOf all)).size) := hid (stA_size _).symm
  have hw2 : (w1.alloc (.cells (stA (stOf all)) A8)).heap[g]? = some (.cells (hashL s rest all.length).toArray HashT (0, 0)) := (Below.heap_alloc _ _ _ (Nat.lt_of_lt_of_le hgl hb1.size)).trans ((hb1.block g hgl).trans HW.out)
  have hc2 := hash_len hw2 HR.out
  have hf2 := frozen_of_row (w1.alloc (.cells (stA (stOf all)) A8)) g 72 _ _ hw2
  have hs2 : (w1.alloc (.cells (stA (stOf all)) A8)).heap[w1.heap.size]? = some (.cells (stA (stOf all)) A8 (0, 0)) := heap_alloc_new _ _
  have HW2 := hid hw2; have HS2 := hid hs2
  have hl1 : (all.length : Int) + (b.length : Int) ≤ 1152921504606846976 := by omega
  have hz1 : w.heap.size ≤ w1.heap.size := hb1.size
  have hg2 : w.grownBy (w1.alloc (.cells (stA (stOf all)) A8)) (some g) := grown_alloc (grown_none (grown_of_below hb1) (some g)) _
  have HG2 := hid hg2
  clear hw2 hb1 hlen hg2 hs2
  go_upto_if 26 with (first
    | fail
    | (with_reducible refine wpList_store_row rfl 125 (.tmp 4) _ rfl w1.heap.size (stA (stOf all)) rfl rfl A8 _ (heap_alloc_new _ _) HI2.out H8.out HO.out ?_; rw [World.setRow_alloc_new]))
  have hw3 : ((w1.alloc (.cells (stA (stOf all)) A8)).setCell ⟨g, 72, none⟩ (.int .i64 ((all.length : Int) + (b.length : Int)))).heap[g]? = some (.cells (hashL s rest (all.length + b.length)).toArray HashT (0, 0)) := by
    have h := block_set HW2.out 72 (.int .i64 ((all.length : Int) + (b.length : Int)))
    rw [hash_len_set s rest all.length (all.length + b.length) _ HR.out (by simp)] at h
    exact h
  have hg3 : w.grownBy ((w1.alloc (.cells (stA (stOf all)) A8)).setCell ⟨g, 72, none⟩ (.int .i64 ((all.length : Int) + (b.length : Int)))) (some g) := grown_step HG2.out (.inl rfl) (grown_setCell _ g 72 none _)
  have hs3 : ((w1.alloc (.cells (stA (stOf all)) A8)).setCell ⟨g, 72, none⟩ (.int .i64 ((all.length : Int) + (b.length : Int)))).heap[w1.heap.size]? = some (.cells (stA (stOf all)) A8 (0, 0)) := (heap_setCell_other _ _ _ _ (by show w1.heap.size ≠ g; omega)).trans HS2.out
  have hA3 := HA.out.other hg3 (Nat.le_refl _) HNE.out
  generalize ((w1.alloc (.cells (stA (stOf all)) A8)).setCell ⟨g, 72, none⟩ (.int .i64 ((all.length : Int) + (b.length : Int)))) = w3 at *
  have hgs : g < w1.heap.size := by omega
  generalize w1.heap.size = S at *
  have HW3 := hid hw3; have HG3 := hid hg3; have HS3 := hid hs3; have HA3 := hid hA3
  clear hw3 hg3 hs3 hA3 hc2 hf2 HW2 HS2 HG2
  go_cut [1] (fun s1 wc => Mid w g S (all ++ b) s1 wc)
  case first =>
    by_cases hu0 : all.length % 64 = 0
    · have hux : (all.length : Int) % 64 = 0 := by omega
      have ht : decide ((0 : Int) < (all.length : Int) % 64) = false := by simp; omega
      have hws := whole_state all b hu0
      go_wp2_with fail
      go_meet
      exact ⟨A, c, b, all.length / 64, s, rest, rfl, HA3.out, HNE.out, hws.2.1, hws.2.2, (by rw [← hws.1]; exact HS3.out), (by rw [List.length_append]; exact HW3.out), HR.out, HS.out, HG3.out⟩
    · have hub : 64 ≤ all.length % 64 + b.length := by rcases HU.out with h | h; · exact absurd h hu0
                                                       · exact h
      obtain ⟨u, hud⟩ : ∃ u, u = all.length % 64 := ⟨_, rfl⟩
      have hu1 : (0 : Int) < (all.length : Int) % 64 := by omega
      have ht : decide ((0 : Int) < (all.length : Int) % 64) = true := by simp; omega
      have hu2 : (all.length : Int) % 64 ≤ 64 := by omega
      have hu4 : (0 : Int) ≤ (all.length : Int) % 64 := by omega
      have hu5 : ((all.length : Int) % 64).toNat = u := by omega
      have hu3 : u < 64 := by omega
      have hu0' : 0 < u := by omega
      obtain ⟨d, hd⟩ : ∃ d, d + u = 64 := ⟨64 - u, by omega⟩
      obtain ⟨bv, hbv⟩ : ∃ bv, bv = bvs (b.take d) := ⟨_, rfl⟩
      have hbl : bv.length = d := by rw [hbv]; simp; omega
      have hLIE : Lie w3 w.heap.size A bv := by
        have := HA3.out.lie.take d
        rw [hbv]
        simpa [bvs, List.map_take] using this
      have hbu : d ≤ b.length := by omega
      have hrl : (splice rest u (b.take d)).length = 64 := (splice_length _ _ _ (by rw [HR.out, List.length_take]; omega)).trans HR.out
      have hre : splice rest u (b.take d) = tailOf all ++ b.take d := by
        rw [splice, ← List.append_assoc, hud, HT.out, List.drop_eq_nil_of_le (by rw [HR.out, List.length_take]; omega), List.append_nil]
      have hfs := fill_state all b hub
      rw [show 64 - all.length % 64 = d by omega, ← hre] at hfs
      have HUD := hid hud; have HBV := hid hbv; have HBL := hid hbl; have HLIE := hid hLIE; have HD := hid hd; have HRL := hid hrl; have HFS := hid hfs
      have hd0 : 0 < d := by omega
      have hd64 : d < 64 := by omega
      have hx : decide ((all.length : Int) % 64 + (d : Int) < 64) = false := by simp; omega
      clear hud hbv hbl hLIE hub hu0 hrl hre hfs
      go_wp2_with (first
        | fail
        | (with_reducible refine wpList_copy_grown rfl _ _ _ _ rfl 5 Tryz.underlying22 sizeU8 _ _ _ _ _ _ rfl rfl g (8 + u) (hashL s rest (all.length + b.length)) HashT HW3.out bv ?e2 ?e3 ?e4 ?e5 w3 (World.grownBy.refl w3 _) ?_))
      case e2 => rw [HBL.out]; exact (show d = min b.length (64 - u) by omega)
      case e3 => intro hp; first | exact ⟨rfl, HLIE.out.src hp⟩ | exact HLIE.out.src hp
      case e4 => rw [HBL.out, hashL_length _ _ _ HR.out]; omega
      case e5 => rw [HBV.out]; exact bvs_one _
      intro w4 HW4 hg4
      have hw4 : w4.heap[g]? = some (.cells (hashL s (splice rest u (b.take d)) (all.length + b.length)).toArray HashT (0, 0)) := by
        rw [← splice_rest s rest (b.take d) _ u (by rw [HR.out, List.length_take]; omega), ← HBV.out]; exact HW4.out
      have hS4 : w4.heap[S]? = some (.cells (stA (stOf all)) A8 (0, 0)) := (hg4.block S (block_lt HS3.out) (by simp; omega)).trans HS3.out
      have HG4 := hid (grown_step HG3.out (.inl rfl) hg4)
      have hsz4 : S < w4.heap.size := block_lt hS4
      have hA4 := HA3.out.other hg4 (Nat.le_of_lt (Nat.lt_of_le_of_lt hz1 (block_lt HS3.out))) HNE.out
      have HW5 := hid hw4; have HS4 := hid hS4; have HA4 := hid hA4
      have hGl4 : Glob w4 := HG.out.other HG4.out HNG.out
      have HGL4 := hid hGl4
      obtain ⟨b', o', rfl, _⟩ := HA4.out.form (by rw [bvs_length]; omega)
      have hcap := HA4.out.cap
      rw [bvs_length] at hcap
      have HCAP := hid hcap
      clear hg4 hw4 hS4 hA4 hGl4 HW4 hcap
      rw [HBL.out]
      obtain ⟨st, hst⟩ : ∃ st, st = stOf all := ⟨_, rfl⟩
      obtain ⟨rest2, hrest2⟩ : ∃ r2, r2 = splice rest u (b.take d) := ⟨_, rfl⟩
      have hso : st.ok := by rw [hst]; exact stOf_ok all
      have hS5 : w4.heap[S]? = some (.cells (stA st) A8 (0, 0)) := by rw [hst]; exact HS4.out
      have hW6 : w4.heap[g]? = some (.cells (hashL s rest2 (all.length + b.length)).toArray HashT (0, 0)) := by rw [hrest2]; exact HW5.out
      have hr2 : rest2.length = 64 := by rw [hrest2]; exact HRL.out
      have hfs : mixN kTab st rest2 = blocksN kTab (all.length / 64 + 1) iv (all ++ b) := by rw [hst, hrest2]; exact HFS.out.1
      have HS5 := hid hS5; have HW6 := hid hW6; have HFS2 := hid HFS.out.2
      have HSTE := hid hst
      rw [← hst]
      clear hst hrest2 hS5 hW6 HS4 HW5 HFS HRL
      obtain ⟨sa, sb, sc, sd, se, sf, sg, sh⟩ := st
      have hcs : ∀ j x, (stA ⟨sa, sb, sc, sd, se, sf, sg, sh⟩)[j]? = some x → w4.cell? ⟨S, j, none⟩ = some x := fun j x h => cell_of HS5.out j x h
      have hc0 : w4.cell? ⟨S, 0, none⟩ = some (.int .u32 (sa : Int)) := hcs 0 _ rfl
      have hc1' : w4.cell? ⟨S, 1, none⟩ = some (.int .u32 (sb : Int)) := hcs 1 _ rfl
      have hc2' : w4.cell? ⟨S, 2, none⟩ = some (.int .u32 (sc : Int)) := hcs 2 _ rfl
      have hc3 : w4.cell? ⟨S, 3, none⟩ = some (.int .u32 (sd : Int)) := hcs 3 _ rfl
      have hc4 : w4.cell? ⟨S, 4, none⟩ = some (.int .u32 (se : Int)) := hcs 4 _ rfl
      have hc5 : w4.cell? ⟨S, 5, none⟩ = some (.int .u32 (sf : Int)) := hcs 5 _ rfl
      have hc6 : w4.cell? ⟨S, 6, none⟩ = some (.int .u32 (sg : Int)) := hcs 6 _ rfl
      have hc7 : w4.cell? ⟨S, 7, none⟩ = some (.int .u32 (sh : Int)) := hcs 7 _ rfl
      clear hcs
      have hag : ∀ W, (isAgg 125).run Tryz.prog W = .ok true W := agg40
      have hsi : ∀ W, (sizeOf 125).run Tryz.prog W = .ok 8 W := size40
      obtain ⟨mx, hmx⟩ : ∃ mx, mx = mixN kTab ⟨sa, sb, sc, sd, se, sf, sg, sh⟩ rest2 := ⟨_, rfl⟩
      have hcall := mixed_any ⟨sa, sb, sc, sd, se, sf, sg, sh⟩ g 8 rest2 64 w4.drew hso hr2 (by omega) (by omega) (by show g < w4.heap.size; omega) (hash_lie HW6.out) HGL4.out
      rw [← hmx] at hcall
      have HMX := hid (hmx.trans hfs)
      have HRT := hid hr2
      clear hmx hfs hr2 hso
      obtain ⟨ta, tb, tc, td, te, tf, tg, th⟩ := mx
      have HC : Hid (Calls Tryz.prog 116 #[.agg #[.int .u32 (sa : Int), .int .u32 (sb : Int), .int .u32 (sc : Int), .int .u32 (sd : Int), .int .u32 (se : Int), .int .u32 (sf : Int), .int .u32 (sg : Int), .int .u32 (sh : Int)], .slice (some ⟨g, 8, none⟩) 64 64] w4.drew fun e w5 => e = .returned (.agg #[.int .u32 (ta : Int), .int .u32 (tb : Int), .int .u32 (tc : Int), .int .u32 (td : Int), .int .u32 (te : Int), .int .u32 (tf : Int), .int .u32 (tg : Int), .int .u32 (th : Int)]) ∧ Below w4.heap.size w4.drew w5) := hid hcall
      clear hcall
      obtain ⟨hcap1, hcap2⟩ := HCAP.out
      have hdc : (d : Int) ≤ (b.length : Int) := by omega
      have hdc2 : (b.length : Int) ≤ (c : Int) := by omega
      have HNB : Hid (b' ≠ g) := hid (HNE.out (fun e => by have := congrArg List.length e; rw [bvs_length, List.length_nil] at this; omega) b' o' none rfl)
      by_cases hcd : c = d
      · obtain rfl : d = c := hcd.symm
        have hbd : b.length = d := by omega
        have HBD := hid hbd
        clear hbd hcd
        rw [HBD.out]
        have hdd : (d : Int) ≤ (d : Int) := by omega
        go_wp2
        go_region_law (first
          | (go_simp; go_at_call 116; refine HC.out.mono ?_; rintro e w5 ⟨rfl, hb5⟩
             have hk5 : ∀ j, w5.cell? ⟨S, j, none⟩ = w4.cell? ⟨S, j, none⟩ := fun j => hb5.cell (p := ⟨S, j, none⟩) hsz4
             have hf5 : ∀ j, w5.frozen? ⟨S, j, none⟩ = w4.frozen? ⟨S, j, none⟩ := fun j => hb5.frozen (p := ⟨S, j, none⟩) hsz4
             have hfz : ∀ j, w4.frozen? ⟨S, j, none⟩ = false := fun j => frozen_of_row _ _ _ _ _ HS5.out
             have HB5 := hid hb5
             clear hb5))
        have HF := hid (Mid.filled (q := all.length / 64 + 1) (m := all ++ b) (t := ⟨ta, tb, tc, td, te, tf, tg, th⟩) HG4.out HS5.out hz1 hgl (by rw [List.length_append]; exact HW6.out) HRT.out HS.out HA4.out HNB.out HB5.out HMX.out HFS2.out.1 HFS2.out.2 hbu _ rfl)
        rw [if_pos rfl, HBD.out, Nat.sub_self] at HF
        go_wp2_with fail
        go_meet
        exact HF.out
      · go_wp2
        go_region_law (first
          | (go_simp; go_at_call 116; refine HC.out.mono ?_; rintro e w5 ⟨rfl, hb5⟩
             have hk5 : ∀ j, w5.cell? ⟨S, j, none⟩ = w4.cell? ⟨S, j, none⟩ := fun j => hb5.cell (p := ⟨S, j, none⟩) hsz4
             have hf5 : ∀ j, w5.frozen? ⟨S, j, none⟩ = w4.frozen? ⟨S, j, none⟩ := fun j => hb5.frozen (p := ⟨S, j, none⟩) hsz4
             have hfz : ∀ j, w4.frozen? ⟨S, j, none⟩ = false := fun j => frozen_of_row _ _ _ _ _ HS5.out
             have HB5 := hid hb5
             clear hb5))
        have HF := hid (Mid.filled (q := all.length / 64 + 1) (m := all ++ b) (t := ⟨ta, tb, tc, td, te, tf, tg, th⟩) HG4.out HS5.out hz1 hgl (by rw [List.length_append]; exact HW6.out) HRT.out HS.out HA4.out HNB.out HB5.out HMX.out HFS2.out.1 HFS2.out.2 hbu _ rfl)
        rw [if_neg hcd] at HF
        go_wp2_with fail
        go_meet
        exact HF.out
  case rest =>
    clear HW3 HG3 HS3 HA3 HI2 HO H8
    obtain ⟨A', c', ys, q, s', rest', rfl, hA', hne', hys, hql, hS', hW', hr', hs', hg'⟩ := hcut
    obtain ⟨m, hm⟩ : ∃ m, m = all ++ b := ⟨_, rfl⟩
    rw [← hm] at hys hql hS' hW'
    have hml : m.length = all.length + b.length := by rw [hm]; simp
    obtain ⟨st, hst⟩ : ∃ st, st = blocksN kTab q iv m := ⟨_, rfl⟩
    rw [← hst] at hS'
    have hso : st.ok := by rw [hst]; exact blocksN_okay _ _ _ _ iv_ok
    have hfin : blocksN kTab (ys.length / 64) st ys = stOf m := by rw [hst, hys]; exact st_rest q m hql
    have htail : ys.drop (64 * (ys.length / 64)) = tailOf m := by rw [hys]; exact tail_rest q m hql
    have hGl : Glob wc := HG.out.other hg' HNG.out
    have hcall := through_any st A' ys c' wc hso (hA'.more hg'.size) hGl
    rw [hfin, htail] at hcall
    have HYT : Hid (bvs (tailOf m) ≠ [] → bvs ys ≠ []) := hid fun hx e => hx (by
      have hy : ys = [] := by have := congrArg List.length e; rw [bvs_length, List.length_nil] at this; exact List.eq_nil_of_length_eq_zero this
      rw [← htail, hy]; rfl)
    have hylen : ys.length % 64 = m.length % 64 := by rw [hys, List.length_drop]; omega
    rw [hylen] at hcall
    have HCALL := hid hcall; have HA' := hid hA'; have HNE' := hid hne'; have HS' := hid hS'; have HW' := hid hW'; have HR' := hid hr'; have HG' := hid hg'; have HML := hid hml
    have HI2 : Hid ((Tryz.prog.info? 125).map (·.size) = some (stA st).size) := hid (info40.trans (congrArg some (stA_size _).symm))
    have hgc : g < wc.heap.size := block_lt hW'
    have HM := hid hm
    clear hA' hne' hys hql hS' hW' hr' hs' hg' hcall hst hfin htail hGl hylen hso hm hml
    go_wp2_with (first
      | fail
      | (with_reducible refine wpList_load_row rfl 125 (.tmp 4) rfl S rfl A8 (stA st) (0, 0) _ HS'.out Tryz.underlying125 rfl HI2.out ?_))
    refine HCALL.out.mono ?_
    rintro e w2 ⟨A2, c2, rfl, hSl2, hb2, hsb2⟩
    have hne2 : NotIn A2 (bvs (tailOf m)) g := fun hx b o sp h => by
      obtain ⟨o0, sp0, h0⟩ := hsb2 b o sp h
      exact HNE'.out (HYT.out hx) b o0 sp0 h0
    have hW2 : w2.heap[g]? = some (.cells (hashL s' rest' m.length).toArray HashT (0, 0)) := (hb2.block g hgc).trans HW'.out
    have hg2 : w.grownBy w2 (some g) := grown_below HG'.out (hb2.mono HG'.out.size)
    have hz2 : wc.heap.size ≤ w2.heap.size := hb2.size
    have HW2 := hid hW2; have HG2 := hid hg2; have HSL2 := hid hSl2; have HNE2 := hid hne2
    obtain ⟨sm, hsm⟩ : ∃ sm, sm = stOf m := ⟨_, rfl⟩
    have hsmo : sm.ok := by rw [hsm]; exact stOf_ok m
    rw [← hsm]
    have HSM := hid hsm; have HSMO := hid hsmo
    have HI3 : Hid ((Tryz.prog.info? 125).map (·.size) = some (stA sm).size) := hid (info40.trans (congrArg some (stA_size _).symm))
    have HO3 := hid (stA_one sm)
    have HT0 : Hid (w2.there g 0 (stA sm).size) := hid (hash_there HW2.out HR'.out 0 8 (by omega))
    obtain ⟨z64, hz64⟩ : ∃ z : List UInt8, z = List.replicate 64 0 := ⟨_, rfl⟩
    have hzl : z64.length = 64 := by rw [hz64]; rfl
    have hzs : (byA z64).size = 64 := by simp [byA, hzl]
    have HB48 : Hid (Tryz.prog.built 104 [] = some (byA z64)) := hid (by rw [hz64]; exact built48)
    have HI4 : Hid ((Tryz.prog.info? 104).map (·.size) = some (byA z64).size) := hid (info48.trans (congrArg some hzs.symm))
    have HO4 := hid (byA_one z64)
    have ht1 : (w2.setCells g 0 (stA sm).toList).there g 8 (byA z64).size := World.there_setCells (by rw [hzs]; exact hash_there HW2.out HR'.out 8 64 (by omega)) _ _ _
    have hw3 : (w2.setCells g 0 (stA sm).toList).heap[g]? = some (.cells (hashL sm rest' m.length).toArray HashT (0, 0)) := hash_state HW2.out HR'.out sm
    have hw4 : ((w2.setCells g 0 (stA sm).toList).setCells g 8 (byA z64).toList).heap[g]? = some (.cells (hashL sm z64 m.length).toArray HashT (0, 0)) := hash_clear hw3 HR'.out z64 hzl
    have hg4 : w.grownBy ((w2.setCells g 0 (stA sm).toList).setCells g 8 (byA z64).toList) (some g) := grown_step (grown_step HG2.out (.inl rfl) (grown_setCells _ _ _ _)) (.inl rfl) (grown_setCells _ _ _ _)
    have hl4 : Lie ((w2.setCells g 0 (stA sm).toList).setCells g 8 (byA z64).toList) w2.heap.size A2 (bvs (tailOf m)) :=
      (Sq.other (Sq.other (HSL2.out.more hz2) (grown_setCells _ _ _ _) (Nat.le_refl _) HNE2.out) (grown_setCells _ _ _ _) (grown_setCells (stA sm).toList w2 g 0).size HNE2.out).lie
    obtain ⟨bv, hbv⟩ : ∃ bv, bv = bvs (tailOf m) := ⟨_, rfl⟩
    have hbl : bv.length = m.length % 64 := by rw [hbv, bvs_length, tailOf_length]
    rw [← hbv] at hl4
    have HT1 := hid ht1; have HW4 := hid hw4; have HG4 := hid hg4; have HL4 := hid hl4; have HBV := hid hbv; have HBL := hid hbl; have HZL := hid hzl
    clear hb2 hsb2 hne2 hW2 hg2 hSl2 hsm hsmo hz64 hzl hzs ht1 hw3 hw4 hg4 hl4 hbv hbl
    go_wp2_with (first
      | fail
      | (with_reducible refine wpList_store_mid rfl 125 (.tmp 55) (.tmp 52) rfl g 0 (stA sm) rfl rfl HT0.out HI3.out HO3.out ?_)
      | (with_reducible refine wpList_zero rfl 104 rfl (byA z64) HB48.out ?_)
      | (with_reducible refine wpList_store_mid rfl 104 (.tmp 59) (.tmp 57) rfl g 8 (byA z64) rfl rfl HT1.out HI4.out HO4.out ?_)
      | (with_reducible refine wpList_copy_grown rfl _ _ _ _ rfl 5 Tryz.underlying22 sizeU8 _ _ _ _ _ _ rfl rfl g 8 (hashL sm z64 m.length) HashT HW4.out bv ?e2 ?e3 ?e4 ?e5 w HG4.out ?_))
    case e2 => rw [HBL.out]; exact (show m.length % 64 = min (m.length % 64) 64 by omega)
    case e3 => intro hp; first | exact ⟨rfl, HL4.out.src hp⟩ | exact HL4.out.src hp
    case e4 => rw [HBL.out, hashL_length _ _ _ HZL.out]; omega
    case e5 => rw [HBV.out]; exact bvs_one _
    intro w5 HW5 hg5
    have HG5 := hid hg5
    clear hg5
    go_wp2
    go_end0
    refine ⟨rfl, ?_, HG5.out⟩
    have hfit : 0 + (tailOf m).length ≤ z64.length := by rw [HZL.out, tailOf_length]; omega
    have hcell := HW5.out
    rw [HBV.out, show (8 : Nat) = 8 + 0 from rfl, splice_rest sm z64 (tailOf m) _ 0 hfit] at hcell
    rw [← HM.out]
    refine ⟨sm, splice z64 0 (tailOf m), hcell, (splice_length _ _ _ hfit).trans HZL.out, HSMO.out, fun _ => HSM.out, ?_⟩
    rw [splice, List.take_zero, List.nil_append, List.take_append_of_le_length (by rw [tailOf_length]; omega), List.take_of_length_le (by rw [tailOf_length]; omega)]
theorem Write_any (g : Nat) (all b : List UInt8) (A : Option Addr) (c : Nat) (w : World) (hH : HashIs w g all) (hG : Glob w) (hng : NotGlob g) (hn : all.length + b.length ≤ 1152921504606846976) (hA : Sq w w.heap.size A c (bvs b)) (hne : NotIn A (bvs b) g) :
    Calls Tryz.prog 94 #[.pointer (some ⟨g, 0, none⟩), .slice A b.length c] w fun e w' => e = .returned (.tuple #[]) ∧ HashIs w' g (all ++ b) ∧ w.grownBy w' (some g) := by
  by_cases h : 0 < all.length % 64 ∧ all.length % 64 + b.length < 64
  · exact Write_part g all b A c w hH hG hng hn hA hne h.1 h.2
  · exact Write_full g all b A c w hH hG hng hn hA hne (by omega)
end Go.Proofs.YtpkmidaflnbobaaGreatDoor
end
section
namespace Go.Proofs.YtpkmidaflnbobaaGreatDoor
open Go.RowKit
set_option linter.unusedVariables false
set_option linter.unusedSimpArgs false
/-- A slice of byte slices, each with its capacity, lies below B and reads as ls. -/
def Rows2' (w : World) (B : Nat) (A : Option Addr) (ls : List (List UInt8)) : Prop :=
  ∃ vs : List Value, vs.length = ls.length ∧ Lie w B A vs ∧ ∀ (j : Nat) (x : List UInt8), ls[j]? = some x → ∃ A' c, vs[j]? = some (.slice A' x.length c) ∧ Sq w B A' c (bvs x)
theorem Rows2'.at_ {w : World} {B : Nat} {A : Option Addr} {ls : List (List UInt8)} (h : Rows2' w B A ls) {k : Nat} (hk : k < ls.length) : ∃ b o A' c, A = some ⟨b, o, none⟩ ∧ b < B ∧ w.cell? ⟨b, o + k, none⟩ = some (.slice A' ls[k].length c) ∧ Sq w B A' c (bvs ls[k]) := by
  obtain ⟨vs, hl, hv, he⟩ := h
  obtain ⟨A', c, h1, h2⟩ := he k ls[k] (List.getElem?_eq_getElem hk)
  obtain ⟨b, o, hA, hb, hc⟩ := hv.at_ (k := k) (by omega)
  rw [List.getElem?_eq_getElem (by omega)] at h1
  injection h1 with h1
  exact ⟨b, o, A', c, hA, hb, by rw [hc, h1], h2⟩
theorem Rows2'.below {w w' : World} {B : Nat} {A : Option Addr} {ls : List (List UInt8)} (h : Rows2' w B A ls) (hb : Below B w w') : Rows2' w' B A ls := by
  obtain ⟨vs, hl, hv, he⟩ := h
  refine ⟨vs, hl, hv.below hb, fun j x hx => ?_⟩
  obtain ⟨A', c, h1, h2⟩ := he j x hx
  exact ⟨A', c, h1, h2.below hb⟩
theorem Glob.notGlob {w : World} (h : Glob w) {g : Nat} (hg : w.heap.size ≤ g) : NotGlob g := by
  have h1 := h.2.2.1; have h2 := h.2.2.2
  exact ⟨by omega, by omega⟩
theorem zero50 (w : World) : (zeroValue 127).run Tryz.prog w = .ok (.agg hash0) w :=
  (zero_of_info (P := Tryz.prog) (t := 127) (v := .agg hash0) (n := 73) (by kernel_rfl)).1 w
theorem flatten_take (ls : List (List UInt8)) (k : Nat) (h : k < ls.length) : (ls.take (k + 1)).flatten = (ls.take k).flatten ++ ls[k] := by
  rw [List.take_succ_eq_append_getElem h, List.flatten_append]; simp
theorem flatten_le (ls : List (List UInt8)) (k : Nat) : (ls.take k).flatten.length ≤ ls.flatten.length := by
  conv => rhs; rw [← List.take_append_drop k ls]
  rw [List.flatten_append, List.length_append]; omega
/-- A new block holds the digest's bytes, and v is the slice of it. -/
def Digest (w w' : World) (v : Value) (xs : List UInt8) : Prop := ∃ b, v = .slice (some ⟨b, 0, none⟩) 32 32 ∧ w'.heap[b]? = some (.cells (byA xs) A32 (0, 0)) ∧ w.heap.size ≤ b ∧ xs.length = 32
theorem digest_end {w W : World} {z32 : Array Value} {bs : List Value} (all : List UInt8) (dummy : Unit) (B : Nat) (hB : w.heap.size ≤ B) (hrow : W.heap[B]? = some (.cells z32 A32 (0, 0))) (hz : z32.size = 32) (hbs : bs = bvs (shaB all)) (hbel : Below w.heap.size w W) :
    Digest w (W.setCells B 0 bs) (.slice (some ⟨B, 0, none⟩) 32 32) (shaB all) ∧ Below w.heap.size w (W.setCells B 0 bs) := by
  have hl : bs.length = 32 := by rw [hbs, bvs_length, shaB_length]
  refine ⟨⟨B, rfl, ?_, hB, shaB_length all⟩, hbel.grown (grown_setCells bs W B 0) hbel.size (fun k hk => by injection hk with hk; omega)⟩
  rw [heap_setCells bs hrow 0 (by omega), List.take_zero, List.nil_append, List.drop_eq_nil_of_le (by rw [Array.length_toList]; omega), List.append_nil, hbs]
  rfl
theorem held_alloc {w W : World} {g n : Nat} {s : St8} {rest : List UInt8} (h : W.heap[g]? = some (.cells (hashL s rest n).toArray HashT (0, 0)) ∧ W.cell? ⟨g, 72, none⟩ = some (.int .i64 (n : Int)) ∧ Below w.heap.size w W) (o : Obj) :
    (W.alloc o).heap[g]? = some (.cells (hashL s rest n).toArray HashT (0, 0)) ∧ (W.alloc o).cell? ⟨g, 72, none⟩ = some (.int .i64 (n : Int)) ∧ Below w.heap.size w (W.alloc o) :=
  ⟨(Below.heap_alloc _ _ _ (block_lt h.1)).trans h.1, (World.cell?_alloc_lt W o ⟨g, 72, none⟩ (block_lt h.1)).trans h.2.1, h.2.2.alloc h.2.2.size _⟩
theorem held_setCells {w W : World} {g n : Nat} {s : St8} {rest : List UInt8} (h : W.heap[g]? = some (.cells (hashL s rest n).toArray HashT (0, 0)) ∧ W.cell? ⟨g, 72, none⟩ = some (.int .i64 (n : Int)) ∧ Below w.heap.size w W) (hgl : g < w.heap.size) (b o : Nat) (vs : List Value) (hb : w.heap.size ≤ b) :
    (W.setCells b o vs).heap[g]? = some (.cells (hashL s rest n).toArray HashT (0, 0)) ∧ (W.setCells b o vs).cell? ⟨g, 72, none⟩ = some (.int .i64 (n : Int)) ∧ Below w.heap.size w (W.setCells b o vs) := by
  have hg := grown_setCells vs W b o
  have hne : some g ≠ some b := by simp; omega
  exact ⟨(hg.block g (block_lt h.1) hne).trans h.1, (World.cell?_of_block (a := ⟨g, 72, none⟩) (hg.block g (block_lt h.1) hne)).trans h.2.1, h.2.2.grown hg h.2.2.size (fun k hk => by injection hk with hk; omega)⟩
set_option maxRecDepth 100000 in
set_option maxHeartbeats 800000 in
theorem HSum_any (g : Nat) (all : List UInt8) (w : World) (hH : HashIs w g all) (hG : Glob w) (hn : all.length ≤ 1152921504606846976) :
    Calls Tryz.prog 96 #[.pointer (some ⟨g, 0, none⟩)] w fun e w' => ∃ v, e = .returned v ∧ Digest w w' v (shaB all) ∧ Below w.heap.size w w' := by
  obtain ⟨s, rest, hw, hr, hs, hst, ht⟩ := hH
  have hgl := block_lt hw
  have hlen := hash_len hw hr
  have HW := hid hw; have HR := hid hr; have HT := hid ht; have HG := hid hG; have HS := hid hs; have HST := hid hst
  obtain ⟨u, hud⟩ : ∃ u, u = all.length % 64 := ⟨_, rfl⟩
  have hu1 : (0 : Int) ≤ (all.length : Int) % 64 := by omega
  have hu2 : (all.length : Int) % 64 ≤ 64 := by omega
  have hu5 : ((all.length : Int) % 64).toNat = u := by omega
  have htl : (tailOf all).length = u := by rw [tailOf_length, hud]
  have HUD := hid hud; have HTL := hid htl
  have hu64 : u < 64 := by omega
  have hn1 : (all.length : Int) ≤ 1152921504606846976 := by omega
  have hn0 : (0 : Int) ≤ (all.length : Int) := by omega
  have hmod : ((all.length : Int)).tmod 64 = (all.length : Int) % 64 := Int.tmod_eq_emod_of_nonneg hn0
  clear hw hr hst ht hs hG hud htl
  obtain ⟨bs, hbs⟩ : ∃ bs : List Value, bs = bvs (shaB all) := ⟨_, rfl⟩
  have hbl : bs.length = 32 := by rw [hbs, bvs_length, shaB_length]
  have hone : ∀ v ∈ bs, v.oneCell' = true := by rw [hbs]; exact bvs_one _
  have HCL : Hid (∀ W : World, W.heap[g]? = some (.cells (hashL s rest all.length).toArray HashT (0, 0)) ∧ W.cell? ⟨g, 72, none⟩ = some (.int .i64 (all.length : Int)) ∧ Below w.heap.size w W → Calls Tryz.prog 118 #[.agg (stA (stOf all)), .slice (some ⟨g, 8, none⟩) u 64, .int .i64 (all.length : Int)] W fun e W' => e = .returned (.agg bs.toArray) ∧ W'.heap[g]? = some (.cells (hashL s rest all.length).toArray HashT (0, 0)) ∧ W'.cell? ⟨g, 72, none⟩ = some (.int .i64 (all.length : Int)) ∧ Below w.heap.size w W' ∧ Below W.heap.size W W') := hid fun W hS => by
    have hl : Lie W W.heap.size (some ⟨g, 8, none⟩) (bvs (tailOf all)) := by
      have h := (hash_lie hS.1).take (all.length % 64)
      rw [← HT.out]
      simpa [bvs, List.map_take] using h
    have h := closed_any (stOf all) (some ⟨g, 8, none⟩) (tailOf all) 64 all.length W (stOf_ok all) (by rw [HTL.out]; exact hu64) (by rw [HTL.out, HUD.out]) hn hl (HG.out.below hS.2.2 (Nat.le_refl _))
    rw [HTL.out] at h
    refine h.mono ?_
    rintro e W' ⟨rfl, hb⟩
    exact ⟨by rw [hbs]; rfl, (hb.block g (block_lt hS.1)).trans hS.1, (hb.cell (p := ⟨g, 72, none⟩) (block_lt hS.1)).trans hS.2.1, hS.2.2.trans (hb.mono hS.2.2.size), hb⟩
  have HBEG : Hid (∀ W : World, W.heap[g]? = some (.cells (hashL s rest all.length).toArray HashT (0, 0)) ∧ W.cell? ⟨g, 72, none⟩ = some (.int .i64 (all.length : Int)) ∧ Below w.heap.size w W → Calls Tryz.prog 115 #[.pointer (some ⟨g, 0, none⟩)] W fun e W' => e = .returned (.agg (stA (stOf all))) ∧ W'.heap[g]? = some (.cells (hashL s rest all.length).toArray HashT (0, 0)) ∧ W'.cell? ⟨g, 72, none⟩ = some (.int .i64 (all.length : Int)) ∧ Below w.heap.size w W' ∧ Below W.heap.size W W') := hid fun W hS => by
    refine (begun_any g all W (by omega) ⟨s, rest, hS.1, HR.out, HS.out, HST.out, HT.out⟩ (HG.out.below hS.2.2 (Nat.le_refl _))).mono ?_
    rintro e W' ⟨rfl, hb⟩
    exact ⟨rfl, (hb.block g (block_lt hS.1)).trans hS.1, (hb.cell (p := ⟨g, 72, none⟩) (block_lt hS.1)).trans hS.2.1, hS.2.2.trans (hb.mono hS.2.2.size), hb⟩
  obtain ⟨z32, hz32, hz32s⟩ : ∃ z : Array Value, z = #[Value.int .u8 0, .int .u8 0, .int .u8 0, .int .u8 0, .int .u8 0, .int .u8 0, .int .u8 0, .int .u8 0, .int .u8 0, .int .u8 0, .int .u8 0, .int .u8 0, .int .u8 0, .int .u8 0, .int .u8 0, .int .u8 0, .int .u8 0, .int .u8 0, .int .u8 0, .int .u8 0, .int .u8 0, .int .u8 0, .int .u8 0, .int .u8 0, .int .u8 0, .int .u8 0, .int .u8 0, .int .u8 0, .int .u8 0, .int .u8 0, .int .u8 0, .int .u8 0] ∧ z.size = 32 := ⟨_, rfl, rfl⟩
  have hzero : ∀ W : World, (zeroValue 132).run Tryz.prog W = .ok (.agg z32) W := fun W => by rw [hz32]; kernel_rfl
  have HTH : Hid (∀ (W W' : World), W'.heap[W.heap.size]? = some (.cells z32 A32 (0, 0)) → W'.there W.heap.size 0 bs.toArray.size) := hid fun W W' hh j hj => by
    rw [List.size_toArray, hbl] at hj
    refine ⟨?_, frozen_of_row _ _ _ _ _ hh⟩
    rw [cell_of_row _ _ _ _ _ _ hh, Nat.zero_add, Array.getElem?_eq_getElem (by rw [hz32s]; exact hj)]
    rfl
  have hu32 : Tryz.prog.underlying 132 = some (.array 32 5) := Tryz.underlying132
  have hi32 : (Tryz.prog.info? 132).map (·.size) = some bs.toArray.size := info24.trans (congrArg some (by rw [List.size_toArray, hbl]))
  have HBS := hid hbs; have HBL := hid hbl; have HZ := hid hz32s
  clear hz32 hz32s hbs hbl
  go_enter Tryz.func96, Tryz.ntmps96
  go_wp2_with fail
  have hX : ∀ W : World, (W.alloc (.cells z32 A32)).there W.heap.size 0 bs.length := fun W => by
    have h := HTH.out W _ (heap_alloc_new W (.cells z32 A32))
    rwa [List.size_toArray] at h
  go_region_held3 (fun w' => w'.heap[g]? = some (.cells (hashL s rest all.length).toArray HashT (0, 0)) ∧ w'.cell? ⟨g, 72, none⟩ = some (.int .i64 (all.length : Int)) ∧ Below w.heap.size w w')
    (first | exact ⟨HW.out, hlen, (Below.refl _ _).drew⟩ | exact ⟨ha2, hb2, hc2⟩ | exact ⟨ha1, hb1, hc1⟩ | exact held_alloc (by assumption) _ | exact held_setCells (by assumption) hgl _ _ _ (by first | exact hc2.size | exact hc1.size | exact Nat.le_refl _))
    ((first
      | (go_at_call 115; refine (HBEG.out _ (by assumption)).mono ?_; rintro e w1 ⟨rfl, ha1, hb1, hc1, hd1⟩; try (have hrow1 := (hd1.block _ (by simp)).trans (heap_alloc_new _ _)))
      | (go_at_call 118; refine (HCL.out _ (by assumption)).mono ?_; rintro e w2 ⟨rfl, ha2, hb2, hc2, hd2⟩; first | have hth := HTH.out _ w2 ((hd2.block _ (block_lt hrow1)).trans hrow1) | have hth := HTH.out _ w2 ((hd2.block _ (by simp)).trans (heap_alloc_new _ _)) | skip)))
  · have HE := hid (digest_end all () w2.heap.size hc2.size (heap_alloc_new w2 (.cells z32 A32)) HZ.out HBS.out (hc2.alloc hc2.size _))
    go_wp2
    go_ret
    exact ⟨_, rfl, HE.out⟩
  · have HE := hid (digest_end all () w1.heap.size hc1.size ((hd2.block _ (by simp)).trans (heap_alloc_new w1 (.cells z32 A32))) HZ.out HBS.out hc2)
    go_wp2
    go_ret
    exact ⟨_, rfl, HE.out⟩
  · have HE := hid (digest_end all () w.heap.size (Nat.le_refl _) ((hd2.block _ (block_lt hrow1)).trans hrow1) HZ.out HBS.out hc2)
    go_wp2
    go_ret
    exact ⟨_, rfl, HE.out⟩
set_option maxRecDepth 100000 in
set_option maxHeartbeats 800000 in
theorem Of_any (A : Option Addr) (ls : List (List UInt8)) (c : Nat) (w : World) (hA : Rows2' w w.heap.size A ls) (hG : Glob w) (hn : ls.flatten.length ≤ 1152921504606846976) (hl : ls.length ≤ 9223372036854775807) :
    Calls Tryz.prog 95 #[.slice A ls.length c] w fun e w' => ∃ v, e = .returned v ∧ Digest w w' v (shaB ls.flatten) ∧ Below w.heap.size w w' := by
  have HA := hid hA; have HG := hid hG; have HN := hid hn
  clear hA hG hn
  go_enter Tryz.func95, Tryz.ntmps95
  have hz0 : ∀ W, (zeroValue 127).run Tryz.prog W = .ok (.agg hash0) W := zero50
  go_wp2
  go_loopg [8] ls.length (fun r i wr => ∃ k : Nat, k + r = ls.length ∧ i = .int .i64 (k : Int) ∧ HashIs wr w.heap.size (ls.take k).flatten ∧ Below w.heap.size w wr ∧ w.heap.size < wr.heap.size)
  case atStart => exact ⟨0, by omega, rfl, hash0_is w, (Below.refl _ _).alloc (Nat.le_refl _) _, by simp⟩
  case round =>
    clear hz0
    obtain ⟨k, hk, rfl, hH, hb, hz⟩ := hrel
    have HK := hid hk; have HH := hid hH; have HB := hid hb
    clear hk hH
    by_cases hlt : k < ls.length
    · obtain ⟨b, o, A1, c1, rfl, hb1, hc, hS⟩ := (HA.out.below hb).at_ hlt
      have hx : (k : Int) < (ls.length : Int) := by omega
      have hk0 : (0 : Int) ≤ (k : Int) := by omega
      have hft := flatten_take ls k hlt
      have hfl := flatten_le ls (k + 1)
      rw [hft, List.length_append] at hfl
      have hG := HG.out.below hb (Nat.le_refl _)
      have HC := hid (Write_any w.heap.size (ls.take k).flatten ls[k] A1 c1 wr HH.out hG (HG.out.notGlob (Nat.le_refl _)) (Nat.le_trans hfl HN.out) (hS.more (by omega)) (hS.notIn (Nat.le_refl _)))
      rw [← hft] at HC
      clear hft hfl hG hb hS
      go_wp2_with fail
      refine HC.out.mono ?_
      rintro e w2 ⟨rfl, hH2, hg2⟩
      have hz2 : w.heap.size < w2.heap.size := Nat.lt_of_lt_of_le hz hg2.size
      have HH2 := hid hH2; have HB2 := hid (HB.out.grown hg2 (Nat.le_of_lt hz) (fun q h => by injection h with h; omega))
      clear hH2 hg2
      go_wp2
      have hk := HK.out
      go_roundg (ls.length - k - 1)
      case measure => omega
      case rel => exact ⟨k + 1, by omega, by go_num, HH2.out, HB2.out, hz2⟩
    · obtain rfl : k = ls.length := by have := HK.out; omega
      have HC := hid (HSum_any w.heap.size (ls.take ls.length).flatten wr HH.out (HG.out.below hb (Nat.le_refl _)) (Nat.le_trans (flatten_le _ _) HN.out))
      rw [List.take_length] at HC
      go_wp2_with fail
      refine HC.out.mono ?_
      rintro e w2 ⟨v, rfl, ⟨b, rfl, hbk, hbz, hl2⟩, hb2⟩
      go_wp2
      go_ret
      exact ⟨_, rfl, ⟨b, rfl, hbk, by omega, hl2⟩, HB.out.trans (hb2.mono (by omega))⟩
end Go.Proofs.YtpkmidaflnbobaaGreatDoor
end
section
namespace Go.Proofs.YtpkmidaflnbobaaGreatDoor
open Go.RowKit
set_option linter.unusedVariables false
set_option linter.unusedSimpArgs false
theorem HashIs.keep {w w' : World} {g : Nat} {all : List UInt8} (h : HashIs w g all) (hk : w'.heap[g]? = w.heap[g]?) : HashIs w' g all := by
  obtain ⟨s, rest, h1, h2⟩ := h
  exact ⟨s, rest, hk.trans h1, h2⟩
theorem HashIs.lt {w : World} {g : Nat} {all : List UInt8} (h : HashIs w g all) : g < w.heap.size := by
  obtain ⟨s, rest, h1, _⟩ := h
  exact block_lt h1
theorem Rows2'.more {w : World} {B B' : Nat} {A : Option Addr} {ls : List (List UInt8)} (h : Rows2' w B A ls) (hB : B ≤ B') : Rows2' w B' A ls := by
  obtain ⟨vs, hl, hv, he⟩ := h
  refine ⟨vs, hl, hv.more hB, fun j x hx => ?_⟩
  obtain ⟨A', c, h1, h2⟩ := he j x hx
  exact ⟨A', c, h1, h2.more hB⟩
theorem lie_block {w : World} {b : Nat} {xs : List UInt8} {t : TypeId} (h : w.heap[b]? = some (.cells (byA xs) t (0, 0))) : Lie w w.heap.size (some ⟨b, 0, none⟩) (bvs xs) := fun _ =>
  ⟨b, 0, rfl, block_lt h, fun j u hu => by rw [Nat.zero_add]; exact cell_of h j u (by rw [byA, List.getElem?_toArray]; exact hu)⟩
/-- A new row of byte slices. -/
theorem rows_new (w : World) (l : List (Option Addr × List UInt8 × Nat)) (h : ∀ p ∈ l, Sq w w.heap.size p.1 p.2.2 (bvs p.2.1)) (t : TypeId) :
    Rows2' (w.alloc (.cells (l.map fun p => Value.slice p.1 p.2.1.length p.2.2).toArray t)) (w.heap.size + 1) (some ⟨w.heap.size, 0, none⟩) (l.map fun p => p.2.1) := by
  refine ⟨l.map fun p => Value.slice p.1 p.2.1.length p.2.2, by simp, ?_, fun j x hx => ?_⟩
  · have := Lie.newA w (l.map fun p => Value.slice p.1 p.2.1.length p.2.2).toArray t
    simpa using this
  · rw [List.getElem?_map] at hx
    obtain ⟨p, hp, rfl⟩ := Option.map_eq_some_iff.1 hx
    refine ⟨p.1, p.2.2, by simp [hp], ((h p (List.mem_of_getElem? hp)).alloc (Nat.le_refl _) _).more (by omega)⟩
/-- The digest of parts that stand in a new row. -/
theorem ofs_any (l : List (Option Addr × List UInt8 × Nat)) (w : World) (h : ∀ p ∈ l, Sq w w.heap.size p.1 p.2.2 (bvs p.2.1)) (hG : Glob w) (hn : (l.map fun p => p.2.1).flatten.length ≤ 1152921504606846976) (hl : l.length ≤ 9223372036854775807) :
    Calls Tryz.prog 95 #[.slice (some ⟨w.heap.size, 0, none⟩) l.length l.length] (w.alloc (.cells (l.map fun p => Value.slice p.1 p.2.1.length p.2.2).toArray 22)) (fun e W' => ∃ b, e = .returned (.slice (some ⟨b, 0, none⟩) 32 32) ∧ W'.heap[b]? = some (.cells (byA (shaB (l.map fun p => p.2.1).flatten)) A32 (0, 0)) ∧ w.heap.size < b ∧ Below w.heap.size w W') := by
  have hr := rows_new w l h 22
  have hb : Below w.heap.size w (w.alloc (.cells (l.map fun p => Value.slice p.1 p.2.1.length p.2.2).toArray 22)) := (Below.refl _ _).alloc (Nat.le_refl _) _
  have h1 := Of_any (some ⟨w.heap.size, 0, none⟩) (l.map fun p => p.2.1) l.length (w.alloc (.cells (l.map fun p => Value.slice p.1 p.2.1.length p.2.2).toArray 22)) (by simpa using hr) (hG.below hb (Nat.le_refl _)) hn (by simpa using hl)
  rw [List.length_map] at h1
  exact h1.mono fun e W' ⟨v, he, ⟨b, hv, hbk, hbz, _⟩, hB⟩ => ⟨b, by rw [he, hv], hbk, by rw [World.size_alloc] at hbz; omega, hb.trans (hB.mono (by simp))⟩
end Go.Proofs.YtpkmidaflnbobaaGreatDoor
end
