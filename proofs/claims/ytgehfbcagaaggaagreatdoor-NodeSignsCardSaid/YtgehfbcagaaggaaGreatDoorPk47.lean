/-
  Texts of this claim in one file: ScJ.
-/
import Derived.Test.YtgehfbcagaaggaaGreatDoorPk44
import Derived.Test.YtgehfbcagaaggaaGreatDoorPk46
import Derived.Test.YtgehfbcagaaggaaGreatDoorPk29
import Derived.Test.YtgehfbcagaaggaaGreatDoorPkE
section
namespace Go.Proofs.YtgehfbcagaaggaaGreatDoor
open Go Go.RowKit
set_option linter.unusedVariables false
set_option linter.unusedSimpArgs false
def exB (xs : List UInt8) : Bool := decide (xs.length = 32 ∧ leN xs < ordL)
def exN (xs : List UInt8) : Nat := if exB xs then leN xs else 0
theorem ex_num (xs : List UInt8) : (leB 32 (ofL xs) = xs) ↔ (xs.length = 32 ∧ leN xs < ordL) := by
  constructor
  · intro h
    have hl : xs.length = 32 := by rw [← h, leB_length]
    refine ⟨hl, ?_⟩
    have h2 : leN (leB 32 (ofL xs)) = leN xs := by rw [h]
    rw [leN_leB, Nat.mod_eq_of_lt (Nat.lt_trans (ofL_lt xs) (by decide +kernel))] at h2
    rw [← h2]
    exact ofL_lt xs
  · rintro ⟨h1, h2⟩
    have e : ofL xs = leN xs := by unfold ofL; rw [List.take_of_length_le (by omega), Nat.mod_eq_of_lt h2]
    rw [e, ← h1]
    exact leB_leN xs
theorem exB_eq (xs : List UInt8) : decide (leB 32 (ofL xs) = xs) = exB xs := by
  unfold exB
  exact decide_eq_decide.2 (ex_num xs)
theorem exN_true {xs : List UInt8} (h : exB xs = true) : exN xs = ofL xs := by
  unfold exN
  rw [if_pos h]
  have h2 := of_decide_eq_true h
  unfold ofL
  rw [List.take_of_length_le (by omega), Nat.mod_eq_of_lt h2.2]
theorem exN_false {xs : List UInt8} (h : exB xs = false) : exN xs = 0 := by unfold exN; rw [h]; rfl
set_option maxHeartbeats 1000000 in
theorem ScExact_e (A : Option Addr) (xs : List UInt8) (c : Nat) (w : World) (hS : Sq w w.heap.size A c (bvs xs)) (hl : xs.length ≤ 1000) : Calls Tryz.prog 53 #[.slice A xs.length c] w fun e w' => e = .returned (.tuple #[.agg (sA (exN xs)), .bool (exB xs)]) ∧ Below w.heap.size w w' := by
  obtain ⟨V, hV⟩ : ∃ V, V = ofL xs := ⟨_, rfl⟩
  have hVl : V < ordL := by rw [hV]; exact ofL_lt xs
  have KO : Hid (∀ W, Sq W W.heap.size A c (bvs xs) → Calls Tryz.prog 68 #[.slice A xs.length c] W fun e w' => e = .returned (.agg (sA V)) ∧ Below W.heap.size W w') := hid fun W h => by rw [hV]; exact ScOf_e A xs c W h hl
  have KB : Hid (∀ W, Calls Tryz.prog 47 #[.agg (sA V)] W fun e w' => ∃ v, e = .returned v ∧ OwnB w' W.heap.size v (leB 32 V) ∧ Below W.heap.size W w') := hid fun W => Bytes_s V W (by have := ordL_big; omega)
  have hE := exB_eq xs
  rw [← hV] at hE
  have hT : exB xs = true → exN xs = V := fun h => by rw [hV]; exact exN_true h
  have hF : exB xs = false → exN xs = 0 := exN_false
  obtain ⟨bb, hbb⟩ : ∃ b, b = exB xs := ⟨_, rfl⟩
  obtain ⟨N, hN⟩ : ∃ N, N = exN xs := ⟨_, rfl⟩
  rw [← hbb] at hE hT hF ⊢
  rw [← hN] at hT hF ⊢
  have HS := hid hS
  have HE := hid hE; have HT := hid hT; have HF := hid hF
  have HA : Hid (Below w.heap.size w (w.alloc (.cells z4 ST))) := hid ((Below.refl _ _).alloc (Nat.le_refl _) _)
  have HZ : Hid ((w.alloc (.cells z4 ST)).heap[w.heap.size]? = some (.cells z4 ST (0, 0))) := hid (blkN rfl _ _)
  have HQ : Hid (Sq (w.alloc (.cells z4 ST)) (w.alloc (.cells z4 ST)).heap.size A c (bvs xs)) := hid (sq_allocS hS _)
  clear hV hVl hbb hN hS hE hT hF
  go_enter Tryz.func53, Tryz.ntmps53
  go_wp2_with fail
  refine (KO.out _ (by exact HQ.out)).mono ?_
  rintro e w1 ⟨rfl, hb⟩
  have Z1 : Hid (w1.heap[w.heap.size]? = some (.cells z4 ST (0, 0))) := hid (block_below hb (by simp) HZ.out)
  have HB1 : Hid (Below w.heap.size w w1) := hid (HA.out.trans (hb.mono (by simp)))
  have HM1 : Hid (w.heap.size < w1.heap.size) := hid (by have := hb.size; simp at this; omega)
  clear hb HZ HA HQ KO
  have P1 : Hid ((w1.alloc (.cells z4 ST)).heap[w1.heap.size]? = some (.cells z4 ST (0, 0))) := hid (blkN rfl _ _)
  have P2 : Hid (((w1.alloc (.cells z4 ST)).setRow w1.heap.size (sA V)).heap[w1.heap.size]? = some (.cells (sA V) ST (0, 0))) := hid (setRow_heap _ _ _ _ _ _ P1.out)
  go_wp2_with (first
    | (with_reducible refine wpList_store_row rfl ST (.tmp 4) _ rfl w1.heap.size (sA V) rfl rfl ST z4 P1.out (infoSA _) (sizeZ4 _) (oneSA _) ?_)
    | (with_reducible refine wpList_load_row rfl ST (.tmp 4) rfl w1.heap.size rfl ST (sA V) (0, 0) _ P2.out Tryz.underlying62 rfl (infoSA _) ?_))
  have B2 : Hid (Below w.heap.size w ((w1.alloc (.cells z4 ST)).setRow w1.heap.size (sA V))) := hid (belowRow (HB1.out.alloc HB1.out.size _) HB1.out.size _)
  have Z2 : Hid (((w1.alloc (.cells z4 ST)).setRow w1.heap.size (sA V)).heap[w.heap.size]? = some (.cells z4 ST (0, 0))) := hid ((setRow_other _ _ _ _ (by have := HM1.out; omega)).trans (blkA Z1.out _))
  have HNE : Hid (w.heap.size < w1.heap.size) := HM1
  generalize hw2 : (w1.alloc (.cells z4 ST)).setRow w1.heap.size (sA V) = w2 at B2 Z2 P2 ⊢
  generalize hp : w1.heap.size = p at P2 HNE ⊢
  clear hw2 hp Z1 HB1 HM1 P1
  refine (KB.out _).mono ?_
  rintro e w3 ⟨v, rfl, ho, hb⟩
  obtain ⟨A3, c3, rfl, hs⟩ := own_sl ho
  have hq : Sq w3 w3.heap.size A3 c3 (bvs (leB 32 V)) := hs.sq
  have B3 : Hid (Below w.heap.size w w3) := hid (B2.out.trans (hb.mono B2.out.size))
  have P3 : Hid (w3.heap[p]? = some (.cells (sA V) ST (0, 0))) := hid (block_below hb (block_lt P2.out) P2.out)
  have Z3 : Hid (w3.heap[w.heap.size]? = some (.cells z4 ST (0, 0))) := hid (block_below hb (block_lt Z2.out) Z2.out)
  have EQ := hid (Equal_s hq (HS.out.below B3.out))
  rw [leB_length, HE.out] at EQ
  rw [leB_length]
  clear hb hq hs ho Z2 P2 B2 KB HE HS
  go_wp2_with fail
  refine EQ.out.mono ?_
  rintro e w4 ⟨rfl, rfl⟩
  clear EQ
  cases bb with
  | false =>
    have HN := hid (HF.out rfl)
    clear HF HT P3
    have i4 : (Tryz.prog.info? ST).map (·.size) = some z4.size := infoS
    have o4 : z4.all (·.oneCell') = true := by simp [Value.oneCell']
    have I4 := hid i4; have O4 := hid o4
    clear i4 o4
    go_wp2_with (with_reducible refine wpList_store_row rfl ST (.tmp 2) _ rfl w.heap.size z4 rfl rfl ST z4 Z3.out I4.out rfl O4.out ?_)
    refine bodyPost_ret (v := .tuple #[.agg z4, .bool false]) (results_ct rfl _ _ ⟨w.heap.size, 0, none⟩ _ _ rfl rfl (run_loadVar_row _ _ ST ST _ (0, 0) _ (setRow_heap _ _ _ _ _ _ Z3.out) Tryz.underlying62 rfl infoS)) rfl ⟨by rw [HN.out, ← zS_is]; rfl, ?_⟩
    exact belowRow B3.out (Nat.le_refl _) _
  | true =>
    have HN := hid (HT.out rfl)
    clear HF HT
    go_wp2_with (first
      | (with_reducible refine wpList_load_row rfl ST (.tmp 4) rfl p rfl ST (sA V) (0, 0) _ P3.out Tryz.underlying62 rfl (infoSA _) ?_)
      | (with_reducible refine wpList_store_row rfl ST (.tmp 2) _ rfl w.heap.size (sA V) rfl rfl ST z4 Z3.out (infoSA _) (sizeZ4 _) (oneSA _) ?_))
    refine bodyPost_ret (v := .tuple #[.agg (sA V), .bool true]) (results_ct rfl _ _ ⟨w.heap.size, 0, none⟩ _ _ rfl rfl (run_loadVar_row _ _ ST ST _ (0, 0) _ (setRow_heap _ _ _ _ _ _ Z3.out) Tryz.underlying62 rfl (infoSA _))) rfl ⟨by rw [HN.out], ?_⟩
    exact belowRow B3.out (Nat.le_refl _) _
section
variable (n m : Nat) (w : World) (hn : n < ordL) (hm : m < ordL)
include hn
theorem ScBytes_e : Calls Tryz.prog 47 #[.agg (sA n)] w fun e w' => ∃ v, e = .returned v ∧ OwnB w' w.heap.size v (leB 32 n) ∧ Below w.heap.size w w' := Bytes_s n w (by have := ordL_big; omega)
include hm
end
end Go.Proofs.YtgehfbcagaaggaaGreatDoor
end
