/-
  Package sha: the digest behind the whole blocks.
-/
import Derived.Test.YtpdkpadpdkagoaaDoorSha5
namespace Go.Proofs.YtpdkpadpdkagoaaDoor
open Go.RowKit
set_option linter.unusedVariables false
set_option linter.unusedSimpArgs false

/-- The digest, of what is behind the whole blocks. -/
def closeN (s : St) (r : List UInt8) (n : Nat) : St := blocksN kTab ((padN r n (beBytes 8 (8 * n))).length / 64) s (padN r n (beBytes 8 (8 * n)))

set_option maxRecDepth 100000 in
set_option maxHeartbeats 1600000 in
theorem closed_any (s : St) (A : Option Addr) (r : List UInt8) (c n : Nat) (w : World) (hs : s.ok) (hr : r.length < 64) (hrn : r.length = n % 64) (hn : n ≤ 1152921504606846976) (hA : Lie w w.heap.size A (bvs r)) (hg : Glob w) :
    Calls Tryd.prog 42 #[.agg (stA s), .slice A r.length c, .int .i64 (n : Int)] w fun e w' => e = .returned (.agg (byA (closeN s r n).bytes)) ∧ Below w.heap.size w w' := by
  have HS := hid hs; have HA := hid hA; have HG := hid hg; have HRN := hid hrn
  obtain ⟨i0, hi, hz0, hz1, hz2⟩ := info_parts infoU8
  clear hs hA hg hrn
  go_enter Tryd.func42, Tryd.ntmps42
  go_wp2_with (at_make; refine wpList_make_own _ rfl _ _ 22 rfl (w.heap.size + 2) 5 i0 (.int .u8 0) 1 Tryd.underlying22 hi hz0 hz1 _ _ _ 128 rfl rfl ?c1 ?c2 ?c3 ?c4 ?_)
  case c1 => simp
  case c2 => rw [hz2]; omega
  case c3 => unfold maxLen; omega
  case c4 => simp
  obtain ⟨z32, hz32, hz32s⟩ : ∃ z : Array Value, z = #[Value.int .u8 0, .int .u8 0, .int .u8 0, .int .u8 0, .int .u8 0, .int .u8 0, .int .u8 0, .int .u8 0, .int .u8 0, .int .u8 0, .int .u8 0, .int .u8 0, .int .u8 0, .int .u8 0, .int .u8 0, .int .u8 0, .int .u8 0, .int .u8 0, .int .u8 0, .int .u8 0, .int .u8 0, .int .u8 0, .int .u8 0, .int .u8 0, .int .u8 0, .int .u8 0, .int .u8 0, .int .u8 0, .int .u8 0, .int .u8 0, .int .u8 0, .int .u8 0] ∧ z.size = 32 := ⟨_, rfl, rfl⟩
  rw [← hz32]
  intro w1 hown1 hg1
  have hS0 : ((w.alloc (.cells (stA s) A8)).alloc (.cells z32 A32)).heap[w.heap.size]? = some (.cells (stA s) A8 (0, 0)) := heap_alloc2_old w _ _
  have hR0 : ((w.alloc (.cells (stA s) A8)).alloc (.cells z32 A32)).heap[w.heap.size + 1]? = some (.cells z32 A32 (0, 0)) := heap_alloc2_new w _ _
  have hB0 : Below w.heap.size w ((w.alloc (.cells (stA s) A8)).alloc (.cells z32 A32)) := ((Below.refl _ _).alloc (Nat.le_refl _) _).alloc (by simp) _
  have hZ0 : ((w.alloc (.cells (stA s) A8)).alloc (.cells z32 A32)).heap.size = w.heap.size + 2 := by simp
  generalize (w.alloc (.cells (stA s) A8)).alloc (.cells z32 A32) = w0 at *
  have HS0 := hid hS0; have HR0 := hid hR0; have HB0 := hid hB0; have HZ0 := hid hZ0; have HZ32 := hid hz32s
  have hg1' := hid hg1
  have hA1 : Lie w1 w.heap.size A (bvs r) := HA.out.keep fun b o hlt => by
    rw [World.cell?_of_block (a := ⟨b, o, none⟩) (hg1.block b (by omega) (by simp)), World.cell?_of_block (a := ⟨b, o, none⟩) (hB0.block b hlt)]
  have hsz1 : w.heap.size + 2 ≤ w1.heap.size := by rw [← hZ0]; exact hg1.size
  clear hS0 hR0 hB0 hz32s hz32 hg1 hZ0
  go_wp2_with (at_builtin; refine wpList_append_lie rfl _ _ 22 rfl (w.heap.size + 2) 5 (.int .u8 0) 1 Tryd.underlying22 infoU8 rfl rfl hown1 (bvs_length r) rfl hA1 (bvs_one r) ?d1 ?d2 hsz1 ?_)
  case d1 => unfold maxLen; omega
  case d2 => omega
  intro v2 w2 hown2 hg2 _
  have hO2 : OwnB w2 (w.heap.size + 2) v2 r := by simpa [OwnB] using hown2
  have hG2 : w0.grownBy w2 none := grown_fresh hg1'.out hg2 (fun g h => by have := own_lt hown1 g h; rw [HZ0.out]; omega)
  have hsz2 : w.heap.size + 2 ≤ w2.heap.size := Nat.le_trans hsz1 hg2.size
  have HO2 := hid hO2; have HG2 := hid hG2
  clear hown2 hg2 hO2 hG2 hA1
  obtain ⟨A2, c2, rfl, hS2⟩ := own_sl HO2.out
  have HO2' := HO2.out
  clear hS2
  go_wp2_with (at_builtin; refine wpList_append_lie rfl _ _ 22 rfl (w.heap.size + 2) 5 (.int .u8 0) 1 Tryd.underlying22 infoU8 rfl rfl (World.ownsRow.alloc HO2' _) rfl rfl (Lie.new1 _ _ _) ?d0 ?d1 ?d2 ?d3 ?_)
  case d0 => intro u hu; simp at hu; subst hu; rfl
  case d1 => rw [List.length_singleton]; unfold maxLen; omega
  case d2 => rw [List.length_singleton]; omega
  case d3 => simp; omega
  intro v3 w3 hown3 hg3 _
  have hO3 : OwnB w3 (w.heap.size + 2) v3 (r ++ [128]) := own_snoc hown3 (by simp) rfl
  have hG3 : w0.grownBy w3 none := grown_fresh (grown_alloc HG2.out _) hg3 (fun g h => by have := own_lt (World.ownsRow.alloc HO2' (.cells #[.int .u8 128] 5)) g h; rw [HZ0.out]; omega)
  have hsz3 : w.heap.size + 2 ≤ w3.heap.size := Nat.le_trans hsz2 (Nat.le_trans (by simp) hg3.size)
  have HO3 := hid hO3; have HG3 := hid hG3
  clear hown3 hg3 hO3 hG3 HO2' HO2 HG2 hown1
  go_wp2
  go_loopg [7] (padZ n) (fun g u wr => ∃ j : Nat, j + g = padZ n ∧ OwnB wr (w.heap.size + 2) u (r ++ [128] ++ List.replicate j 0) ∧ w0.grownBy wr none ∧ w.heap.size + 2 ≤ wr.heap.size)
  case atStart => exact ⟨0, by omega, by simpa using HO3.out, HG3.out, hsz3⟩
  case round =>
    clear HO3 HG3
    obtain ⟨j, hj, ho, hg, hsz⟩ := hrel
    have hzb : padZ n < 64 := by unfold padZ; omega
    obtain ⟨ys, hys⟩ : ∃ ys : List UInt8, ys = r ++ [128] ++ List.replicate j 0 := ⟨_, rfl⟩
    rw [← hys] at ho
    have hyl : ys.length = r.length + 1 + j := by rw [hys]; simp; omega
    have hyb : ys.length ≤ 200 := by omega
    have hL0 : (0 : Int) ≤ (ys.length : Int) := by omega
    have HYL := hid hyl; have HYS := hid hys; have HJ := hid hj; have HG4 := hid hg
    obtain ⟨A3, c3, rfl, _⟩ := own_sl ho
    have HO4 := hid ho
    by_cases hlt : j < padZ n
    · have ht : (((ys.length : Int) % 64) != 56) = true := by
        rw [bne_iff_ne]
        have := HRN.out
        unfold padZ at hlt
        omega
      clear hj hg hyl hys
      go_wp2_with (at_builtin; refine wpList_append_lie rfl _ _ 22 rfl (w.heap.size + 2) 5 (.int .u8 0) 1 Tryd.underlying22 infoU8 rfl rfl (World.ownsRow.alloc ho _) rfl rfl (Lie.new1 _ _ _) ?d0 ?d1 ?d2 ?d3 ?_)
      case d0 => intro u hu; simp at hu; subst hu; rfl
      case d1 => rw [List.length_singleton]; unfold maxLen; omega
      case d2 => rw [List.length_singleton]; omega
      case d3 => simp; omega
      intro v5 w5 hown5 hg5 _
      have hO5 : OwnB w5 (w.heap.size + 2) v5 (r ++ [128] ++ List.replicate (j + 1) 0) := by
        rw [List.replicate_succ', ← List.append_assoc, ← HYS.out]
        exact own_snoc hown5 (by simp) rfl
      have hG5 : w0.grownBy w5 none := grown_fresh (grown_alloc HG4.out _) hg5 (fun g h => by have := own_lt (World.ownsRow.alloc ho (.cells #[.int .u8 0] 5)) g h; rw [HZ0.out]; omega)
      have hsz5 : w.heap.size + 2 ≤ w5.heap.size := Nat.le_trans hsz (Nat.le_trans (by simp) hg5.size)
      have HO5 := hid hO5; have HG5 := hid hG5
      clear hown5 hg5 hO5 hG5 ho
      go_wp2
      have hj := HJ.out
      go_roundg (padZ n - j - 1)
      case measure => omega
      case rel => exact ⟨j + 1, by omega, HO5.out, HG5.out, hsz5⟩
    · obtain rfl : j = padZ n := by omega
      have ht : (((ys.length : Int) % 64) != 56) = false := by
        rw [bne_eq_false_iff_eq]
        have := HRN.out
        unfold padZ at hyl
        omega
      have hn8 : 8 * n < 18446744073709551616 := by omega
      clear hj hg hyl hys ho
      go_wp2
      go_loopg [7, 9] 8 (fun g u i wr => ∃ (k : Nat) (pre : List UInt8), k = g ∧ k ≤ 8 ∧ i = .int .i64 (8 * (k : Int) - 8) ∧ pre ++ beBytes k (8 * n) = beBytes 8 (8 * n) ∧ OwnB wr (w.heap.size + 2) u (ys ++ pre) ∧ w0.grownBy wr none ∧ w.heap.size + 2 ≤ wr.heap.size)
      case atStart => exact ⟨8, [], rfl, Nat.le_refl _, rfl, rfl, by simpa using HO4.out, HG4.out, hsz⟩
      case round =>
        clear HO4 HG4 hsz
        obtain ⟨k, pre, hk, hk8, rfl, hpre, ho, hg, hsz⟩ := hrel
        have HP := hid hpre; have HK := hid hk; have HG4 := hid hg
        have hl : (ys ++ pre).length ≤ 208 := by
          have := congrArg List.length hpre
          simp at this ⊢
          omega
        obtain ⟨zs, hzs⟩ : ∃ zs : List UInt8, zs = ys ++ pre := ⟨_, rfl⟩
        rw [← hzs] at ho hl
        have HZS := hid hzs
        clear hpre hk hg hzs
        obtain ⟨A5, c5, rfl, hS5⟩ := own_sl ho
        have HS5 := hid hS5
        clear hS5
        by_cases h0 : k = 0
        · subst h0
          have hpe : pre = beBytes 8 (8 * n) := by have := HP.out; simpa [beBytes] using this
          have HPE := hid hpe
          have HO := hid ho
          clear hpe ho
          have hSr : wr.heap[w.heap.size]? = some (.cells (stA s) A8 (0, 0)) := (HG4.out.block _ (by rw [HZ0.out]; omega) (by simp)).trans HS0.out
          have hRr : wr.heap[w.heap.size + 1]? = some (.cells z32 A32 (0, 0)) := (HG4.out.block _ (by rw [HZ0.out]; omega) (by simp)).trans HR0.out
          have hBr : Below w.heap.size w wr := HB0.out.trans (below_of_grown HG4.out (by rw [HZ0.out]; omega) (fun _ h => by cases h))
          have HSr := hid hSr; have HRr := hid hRr; have HBr := hid hBr
          have HI : Hid ((Tryd.prog.info? 60).map (·.size) = some (stA s).size) := hid (info40.trans (congrArg some (stA_size _).symm))
          have hcl : blocksN kTab (zs.length / 64) s zs = closeN s r n := by
            rw [closeN, padN, ← HPE.out, ← HYS.out, HZS.out]
          have HCL := hid hcl
          clear hSr hRr hBr hcl
          go_wp2_with (first
            | fail
            | (with_reducible refine wpList_load_row rfl 60 (.tmp 3) rfl w.heap.size rfl A8 (stA s) (0, 0) _ HSr.out Tryd.underlying60 rfl HI.out ?_))
          refine (through_any s A5 zs c5 wr HS.out HS5.out.sq (HG.out.below HBr.out (Nat.le_refl _))).mono ?_
          rw [HCL.out]
          rintro e w6 ⟨A6, c6, rfl, hS6, hb6, _⟩
          have hSr6 : w6.heap[w.heap.size]? = some (.cells (stA s) A8 (0, 0)) := (hb6.block _ (by omega)).trans HSr.out
          have hRr6 : w6.heap[w.heap.size + 1]? = some (.cells z32 A32 (0, 0)) := (hb6.block _ (by omega)).trans HRr.out
          have hBr6 : Below w.heap.size w w6 := HBr.out.trans (hb6.mono (by omega))
          have hsz6 : w.heap.size + 2 ≤ w6.heap.size := Nat.le_trans hsz hb6.size
          have HS6 := hid hSr6; have HR6 := hid hRr6; have HB6 := hid hBr6
          have hco : (closeN s r n).ok := by rw [← HCL.out]; exact blocksN_ok _ _ _ _ HS.out
          obtain ⟨ct, hct⟩ : ∃ ct, ct = closeN s r n := ⟨_, rfl⟩
          rw [← hct] at hco ⊢
          have HCT := hid hct; have HCO := hid hco
          have HI2 : Hid ((Tryd.prog.info? 60).map (·.size) = some (stA ct).size) := hid (info40.trans (congrArg some (stA_size _).symm))
          have HZ2 : Hid ((stA s).size = (stA ct).size) := hid ((stA_size s).trans (stA_size ct).symm)
          have HO2 := hid (stA_one ct)
          have hS7 : (w6.setRow w.heap.size (stA ct)).heap[w.heap.size]? = some (.cells (stA ct) A8 (0, 0)) := setRow_heap _ _ _ _ _ _ HS6.out
          have HS7 := hid hS7
          clear hSr6 hRr6 hBr6 hb6 hS6 hct hco hS7
          go_wp2_with (first
            | fail
            | (with_reducible refine wpList_store_row rfl 60 (.tmp 3) _ rfl w.heap.size (stA ct) rfl rfl A8 (stA s) HS6.out HI2.out HZ2.out HO2.out ?_)
            | (with_reducible refine wpList_load_row rfl 60 (.tmp 3) rfl w.heap.size rfl A8 (stA ct) (0, 0) _ HS7.out Tryd.underlying60 rfl HI2.out ?_))
          refine (spread_any ct _ HCO.out).mono ?_
          rintro e w8 ⟨rfl, hb8⟩
          rw [size_setRow] at hb8
          have hR8 : w8.heap[w.heap.size + 1]? = some (.cells z32 A32 (0, 0)) := (hb8.block _ (by omega)).trans ((setRow_other _ _ _ _ (by omega)).trans HR6.out)
          have hB8 : Below w.heap.size w w8 := (below_setRow HB6.out (Nat.le_refl _) _).trans (hb8.mono (by omega))
          obtain ⟨bs, hbs⟩ : ∃ bs, bs = ct.bytes := ⟨_, rfl⟩
          rw [← hbs]
          have hbl : bs.length = 32 := by rw [hbs]; exact St.bytes_length ct
          have hbz : (byA bs).size = 32 := by simp [byA, hbl]
          have HI3 : Hid ((Tryd.prog.info? 70).map (·.size) = some (byA bs).size) := hid (info24.trans (congrArg some hbz.symm))
          have HZ3 : Hid (z32.size = (byA bs).size) := hid (HZ32.out.trans hbz.symm)
          have HO3 := hid (byA_one bs)
          have HR8 := hid hR8; have HB8 := hid hB8; have HBS := hid hbs
          clear hb8 hR8 hB8 hbs hbl hbz
          go_wp2_with (with_reducible refine wpList_store_row rfl 70 (.tmp 6) _ rfl (w.heap.size + 1) (byA bs) rfl rfl A32 z32 HR8.out HI3.out HZ3.out HO3.out ?_)
          refine bodyPost_ret (v := .agg (byA bs)) (results_cell_row rfl _ _ (w.heap.size + 1) A32 (byA bs) (0, 0) _ rfl (setRow_heap _ _ _ _ _ _ HR8.out) Tryd.underlying70 rfl HI3.out) rfl ⟨by rw [HBS.out, HCT.out], ?_⟩
          exact below_setRow HB8.out (by omega) _
        · obtain ⟨j, rfl⟩ : ∃ j, k = j + 1 := ⟨k - 1, by omega⟩
          rw [show (8 * ((j + 1 : Nat) : Int) - 8) = 8 * (j : Int) by omega]
          have hj7 : (j : Int) ≤ 7 := by omega
          have hj0 : (0 : Int) ≤ (j : Int) := by omega
          go_wp2_with (at_builtin; refine wpList_append_lie rfl _ _ 22 rfl (w.heap.size + 2) 5 (.int .u8 0) 1 Tryd.underlying22 infoU8 rfl rfl (World.ownsRow.alloc ho _) rfl rfl (Lie.new1 _ _ _) ?d0 ?d1 ?d2 ?d3 ?_)
          case d0 => intro u hu; simp at hu; subst hu; rfl
          case d1 => rw [List.length_singleton]; unfold maxLen; omega
          case d2 => rw [List.length_singleton]; omega
          case d3 => simp; omega
          intro v5 w5 hown5 hg5 _
          have hO5 : OwnB w5 (w.heap.size + 2) v5 (ys ++ (pre ++ [UInt8.ofNat (8 * n / 256 ^ j)])) := by
            rw [← List.append_assoc, ← HZS.out]
            exact own_snoc hown5 (by simp) (by rw [← shr_val]; simp)
          have hG5 : w0.grownBy w5 none := grown_fresh (grown_alloc HG4.out _) hg5 (fun g h => by have := own_lt (World.ownsRow.alloc ho (.cells #[.int .u8 (8 * (n : Int) / 2 ^ (8 * j) % 256)] 5)) g h; rw [HZ0.out]; omega)
          have hsz5 : w.heap.size + 2 ≤ w5.heap.size := Nat.le_trans hsz (Nat.le_trans (by simp) hg5.size)
          have HN : Hid ((pre ++ [UInt8.ofNat (8 * n / 256 ^ j)]) ++ beBytes j (8 * n) = beBytes 8 (8 * n)) := hid (by rw [← HP.out]; simp [beBytes])
          have HO5 := hid hO5; have HG5 := hid hG5
          clear hown5 hg5 hO5 hG5 ho HP
          go_wp2
          have hk := HK.out
          go_roundg j
          case measure => omega
          case rel => exact ⟨j, _, rfl, by omega, by go_num, HN.out, HO5.out, HG5.out, hsz5⟩
end Go.Proofs.YtpdkpadpdkagoaaDoor
