/-
  The statement ShaParts: the walk.
-/
import Derived.Test.YtihgolnkdepkmaaDoorLaw02a
namespace Go.Proofs.YtihgolnkdepkmaaDoor
open Go.RowKit
set_option linter.unusedVariables false
set_option linter.unusedSimpArgs false

theorem HashIs.keep {w w' : World} {g : Nat} {all : List UInt8} (h : HashIs w g all) (hk : w'.heap[g]? = w.heap[g]?) : HashIs w' g all := by
  obtain ⟨s, rest, h1, h2⟩ := h
  exact ⟨s, rest, hk.trans h1, h2⟩
theorem HashIs.lt {w : World} {g : Nat} {all : List UInt8} (h : HashIs w g all) : g < w.heap.size := by
  obtain ⟨s, rest, h1, _⟩ := h
  exact block_lt h1
theorem Same_32 (A : Option Addr) (xs : List UInt8) (c : Nat) (A' : Option Addr) (ys : List UInt8) (c' : Nat) (w : World) (B B' n : Nat) (hA : Lie w B A (bvs xs)) (hA' : Lie w B' A' (bvs ys)) (hx : xs.length = n) (hy : ys.length = n) (hn : n ≤ 140737488355328) :
    Calls Tryd.prog 9 #[.slice A n c, .slice A' n c'] w fun e w' => e = .returned (.bool (xs == ys)) ∧ ∃ n, w' = w.drewN n := by
  subst hx
  have h := Same_any A xs c A' ys c' w B B' hA hA' hn
  rw [hy] at h
  exact h
theorem Rows2'.more {w : World} {B B' : Nat} {A : Option Addr} {ls : List (List UInt8)} (h : Rows2' w B A ls) (hB : B ≤ B') : Rows2' w B' A ls := by
  obtain ⟨vs, hl, hv, he⟩ := h
  refine ⟨vs, hl, hv.more hB, fun j x hx => ?_⟩
  obtain ⟨A', c, h1, h2⟩ := he j x hx
  exact ⟨A', c, h1, h2.more hB⟩
theorem lie_block {w : World} {b : Nat} {xs : List UInt8} {t : TypeId} (h : w.heap[b]? = some (.cells (byA xs) t (0, 0))) : Lie w w.heap.size (some ⟨b, 0, none⟩) (bvs xs) := fun _ =>
  ⟨b, 0, rfl, block_lt h, fun j u hu => by rw [Nat.zero_add]; exact cell_of h j u (by rw [byA, List.getElem?_toArray]; exact hu)⟩
theorem Below.drewN' {B : Nat} {a w : World} (h : Below B a w) (n : Nat) : Below B a (w.drewN n) := ⟨h.os, h.tape, h.output, h.size, h.block⟩

set_option maxRecDepth 100000 in
set_option maxHeartbeats 3200000 in
theorem parts_any (A : Option Addr) (ls : List (List UInt8)) (c : Nat) (w : World) (hA : Rows2' w w.heap.size A ls) (hG : Glob w) (hl : ls.length ≤ 9223372036854775807) :
    Calls Tryd.prog 4 #[.slice A ls.length c] w fun e w' => e = .returned (.bool true) ∧ Below w.heap.size w w' := by
  have HA := hid hA; have HG := hid hG
  clear hA hG
  by_cases h20 : 20 < ls.length
  · have hx : (20 : Int) < (ls.length : Int) := by omega
    go_enter Tryd.func4, Tryd.ntmps4
    go_wp2_with fail
    refine (alive_any _ HG.out).mono ?_
    rintro e w1 ⟨rfl, hb1⟩
    go_wp2
    go_ret
    exact ⟨rfl, hb1⟩
  · have hx : ¬ (20 : Int) < (ls.length : Int) := by omega
    go_enter Tryd.func4, Tryd.ntmps4
    go_wp2_with fail
    refine (alive_any _ HG.out).mono ?_
    rintro e w1 ⟨rfl, hb1⟩
    have HB1 := hid hb1
    clear hb1
    go_wp2_with fail
    refine (New_any w1).mono ?_
    rintro e w2 ⟨rfl, hH2, hz2, hb2⟩
    have hgw : w.heap.size ≤ w1.heap.size := HB1.out.size
    have hB2 : Below w.heap.size w w2 := HB1.out.trans (hb2.mono hgw)
    generalize w1.heap.size = g at *
    have HH2 := hid hH2; have HB2 := hid hB2; have HZ2 := hid hz2
    clear hH2 hB2 hz2 hb2
    go_wp2
    go_loopg [3, 5] ls.length (fun r u i wr => ∃ k : Nat, k + r = ls.length ∧ i = .int .i64 (k : Int) ∧ OwnB wr (g + 1) u (ls.take k).flatten ∧ HashIs wr g (ls.take k).flatten ∧ Below w.heap.size w wr ∧ (ls.take k).flatten.length ≤ 300 * k)
    case atStart => exact ⟨0, by omega, rfl, World.ownsRow_nil _ _ _ _, HH2.out, HB2.out, by simp⟩
    case round =>
      clear HH2 HB2 HZ2
      obtain ⟨k, hk, rfl, ho, hH, hB, hln⟩ := hrel
      have HK := hid hk
      by_cases hlt : k < ls.length
      · obtain ⟨b, o, A1, c1, rfl, hb1, hc, hS⟩ := (HA.out.below hB).at_ hlt
        have hx2 : (k : Int) < (ls.length : Int) := by omega
        have hk0 : (0 : Int) ≤ (k : Int) := by omega
        have hft := flatten_take ls k hlt
        have hcap := hS.cap
        obtain ⟨x, hxd⟩ : ∃ x, x = ls[k] := ⟨_, rfl⟩
        obtain ⟨ys, hys⟩ : ∃ ys, ys = (ls.take k).flatten := ⟨_, rfl⟩
        rw [← hxd] at hc hS hft hcap
        rw [← hys] at ho hH hln hft
        rw [bvs_length] at hcap
        have hxl : x.length ≤ 9223372036854775807 := by omega
        have HX := hid hxd; have HY := hid hys; have HFT := hid hft; have HH := hid hH; have HB := hid hB; have HS := hid hS
        clear hk hft hxd hys hH hB hS hcap
        by_cases hbig : 300 < x.length
        · have hb3 : (300 : Int) < (x.length : Int) := by omega
          clear ho
          go_wp2
          go_ret
          exact ⟨rfl, HB.out⟩
        · have hb3 : ¬ (300 : Int) < (x.length : Int) := by omega
          have hgz : g < wr.heap.size := HH.out.lt
          go_wp2_with (at_builtin; refine wpList_append_lie rfl _ _ 22 rfl (g + 1) 5 (.int .u8 0) 1 Tryd.underlying22 infoU8 rfl rfl ho (bvs_length x) rfl HS.out.lie (bvs_one x) ?d1 ?d2 ?d3 ?_)
          case d1 => unfold maxLen; omega
          case d2 => omega
          case d3 => omega
          intro v4 w4 hown4 hg4 hat4
          have hO4 : OwnB w4 (g + 1) v4 (ys ++ x) := by simpa [OwnB, bvs_append] using hown4
          obtain ⟨zs, hzs⟩ : ∃ zs, zs = ys ++ x := ⟨_, rfl⟩
          rw [← hzs] at hO4
          have hzl : zs.length ≤ 300 * (k + 1) := by rw [hzs, List.length_append]; omega
          have hH4 : HashIs w4 g ys := HH.out.keep (hg4.block g hgz (fun h => by have := own_lt ho _ h.symm; omega))
          have hB4 : Below w.heap.size w w4 := HB.out.grown hg4 (by omega) (fun q h => by have := own_lt ho q h; omega)
          have hgz4 : g < w4.heap.size := hH4.lt
          obtain ⟨b', o', A1', c1', hbe, _, hc4, hS4⟩ := (HA.out.below hB4).at_ hlt
          obtain ⟨rfl, rfl⟩ : b = b' ∧ o = o' := by simpa using hbe
          rw [← HX.out] at hc4 hS4
          obtain ⟨A4, c4, rfl, hSl4⟩ := own_sl hO4
          have HW := hid (Write_any g ys x A1' c1' w4 hH4 (HG.out.below hB4 (Nat.le_refl _)) (HG.out.notGlob hgw) (by omega) (hS4.more (by omega)) (hS4.notIn hgw))
          rw [← hzs] at HW
          have HO4 := hid hO4; have HB4 := hid hB4; have HZS := hid hzs
          clear hown4 hg4 hat4 hO4 hzs hH4 hB4 hbe hS4 hSl4 ho
          go_wp2_with fail
          refine HW.out.mono ?_
          rintro e w5 ⟨rfl, hH5, hg5⟩
          have hO5 : OwnB w5 (g + 1) (.slice A4 zs.length c4) zs := World.ownsRow.kept HO4.out hg5 (.inr (fun h => by have := own_lt HO4.out _ h; omega))
          have hB5 : Below w.heap.size w w5 := HB4.out.grown hg5 (by omega) (fun q h => by injection h with h; omega)
          have hgz5 : g < w5.heap.size := Nat.lt_of_lt_of_le hgz4 hg5.size
          obtain ⟨A5, c5, he5, hSl5⟩ := own_sl hO5
          obtain ⟨rfl, rfl⟩ : A4 = A5 ∧ c4 = c5 := by simpa using he5
          have HS := hid (Sum_any A4 zs c4 w5 (by omega) hSl5.sq (HG.out.below hB5 (Nat.le_refl _)))
          have HO5 := hid hO5; have HB5 := hid hB5; have HH5 := hid hH5
          clear hH5 hg5 hO5 hB5 he5 hSl5
          go_wp2_with fail
          refine HS.out.mono ?_
          rintro e w6 ⟨rfl, hb6⟩
          obtain ⟨d, hd⟩ : ∃ d, d = byA (shaB zs) := ⟨_, rfl⟩
          have hdz : d.size = 32 := by rw [hd]; simp [byA, shaB_length]
          have hdo : d.all (·.oneCell') = true := by rw [hd]; exact byA_one _
          rw [← hd]
          have HI : Hid ((Tryd.prog.info? 24).map (·.size) = some d.size) := hid (info24.trans (congrArg some hdz.symm))
          have HDO := hid hdo
          have HZ : Hid ((#[Value.int .u8 0, .int .u8 0, .int .u8 0, .int .u8 0, .int .u8 0, .int .u8 0, .int .u8 0, .int .u8 0, .int .u8 0, .int .u8 0, .int .u8 0, .int .u8 0, .int .u8 0, .int .u8 0, .int .u8 0, .int .u8 0, .int .u8 0, .int .u8 0, .int .u8 0, .int .u8 0, .int .u8 0, .int .u8 0, .int .u8 0, .int .u8 0, .int .u8 0, .int .u8 0, .int .u8 0, .int .u8 0, .int .u8 0, .int .u8 0, .int .u8 0, .int .u8 0] : Array Value).size = d.size) := hid hdz.symm
          have HD := hid hd
          have HB6 := hid hb6
          clear hd hdz hdo hb6
          go_wp2_with (first
            | fail
            | (with_reducible refine wpList_store_row rfl 24 (.tmp 6) _ rfl w6.heap.size d rfl rfl A32 _ (heap_alloc_new _ _) HI.out HZ.out HDO.out ?_; rw [World.setRow_alloc_new]))
          have hgz6 : g < w6.heap.size := Nat.lt_of_lt_of_le hgz5 HB6.out.size
          have hH7 : HashIs (w6.alloc (.cells d A32)) g zs := (HH5.out.keep (HB6.out.block g hgz5)).keep (Below.heap_alloc _ _ _ hgz6)
          have hB7 : Below w.heap.size w (w6.alloc (.cells d A32)) := (HB5.out.trans (HB6.out.mono (by omega))).alloc (by omega) _
          have hO7 : OwnB (w6.alloc (.cells d A32)) (g + 1) (.slice A4 zs.length c4) zs := World.ownsRow.alloc (World.ownsRow.kept HO5.out (grown_of_below HB6.out) (Classical.em _)) _
          have hD7 : (w6.alloc (.cells d A32)).heap[w6.heap.size]? = some (.cells (byA (shaB zs)) A32 (0, 0)) := by rw [HD.out]; exact heap_alloc_new _ _
          have hd7 : w6.heap.size < (w6.alloc (.cells d A32)).heap.size := by simp
          have hgz7 : g < (w6.alloc (.cells d A32)).heap.size := hH7.lt
          generalize w6.alloc (.cells d A32) = w7 at *
          generalize w6.heap.size = D at *
          have HH7 := hid hH7; have HB7 := hid hB7; have HO7 := hid hO7; have HD7 := hid hD7
          have HZL := hid hzl
          have hlen7 : ((zs.length : Int) != (zs.length : Int)) = false := by simp
          clear hH7 hB7 hO7 hD7
          go_region_law (first
            | (go_simp; go_at_call 13; refine (HSum_any g zs w7.drew (HH7.out.keep rfl) (HG.out.below HB7.out.drew (Nat.le_refl _)) (by omega)).mono ?_; rintro e w8 ⟨v8, rfl, ⟨b8, rfl, hbk8, hbz8, hl8⟩, hb8⟩
               have hB8 : Below w7.heap.size w7 w8 := (Below.refl _ _).drew.trans hb8)
            | (go_simp; go_at_call 9; refine (Same_32 (some ⟨b8, 0, none⟩) (shaB zs) 32 (some ⟨D, 0, none⟩) (shaB zs) 32 w8 w8.heap.size w8.heap.size 32 (lie_block hbk8) (lie_block ((hB8.block D hd7).trans HD7.out)) hl8 hl8 (by omega)).mono ?_; rintro e w9 ⟨rfl, n9, rfl⟩; rw [show (shaB zs == shaB zs) = true from beq_self_eq_true _])
            | (go_simp; go_at_call 14; refine (Len_any g zs (w8.drewN n9) (HH7.out.keep (hB8.block g hgz7))).mono ?_; rintro e w10 ⟨rfl, rfl⟩))
          have hO9 : OwnB (w8.drewN n9) (g + 1) (.slice A4 zs.length c4) zs := World.ownsRow.kept HO7.out (grown_of_below (below_drewN hB8 n9)) (Classical.em _)
          have hH9 : HashIs (w8.drewN n9) g zs := HH7.out.keep (hB8.block g hgz7)
          have hB9 : Below w.heap.size w (w8.drewN n9) := below_drewN (HB7.out.trans (hB8.mono (by omega))) n9
          have hfin : (ls.take (k + 1)).flatten = zs := by rw [HFT.out, HZS.out]
          have HO9 := hid hO9; have HH9 := hid hH9; have HB9 := hid hB9; have HFIN := hid hfin
          clear hO9 hH9 hB9 hfin hb8 hB8 hbk8
          go_wp2
          have hk := HK.out
          go_roundg (ls.length - k - 1)
          case measure => omega
          case rel => exact ⟨k + 1, by omega, by go_num, by rw [HFIN.out]; exact HO9.out, by rw [HFIN.out]; exact HH9.out, HB9.out, by rw [HFIN.out]; exact HZL.out⟩
      · obtain rfl : k = ls.length := by omega
        have hft : (ls.take ls.length).flatten = ls.flatten := by rw [List.take_length]
        rw [hft] at ho hln
        obtain ⟨zs, hzs⟩ : ∃ zs, zs = ls.flatten := ⟨_, rfl⟩
        rw [← hzs] at ho hln
        obtain ⟨A4, c4, rfl, hSl⟩ := own_sl ho
        have HS := hid (Sum_any A4 zs c4 wr (by omega) hSl.sq (HG.out.below hB (Nat.le_refl _)))
        have HB := hid hB; have HZS := hid hzs
        have hwr : w.heap.size ≤ wr.heap.size := hB.size
        have hz6 : zs.length ≤ 6000 := by omega
        clear hk HK hH hft hzs hSl hB ho
        go_wp2_with fail
        refine HS.out.mono ?_
        rintro e w6 ⟨rfl, hb6⟩
        obtain ⟨d, hd⟩ : ∃ d, d = byA (shaB zs) := ⟨_, rfl⟩
        have hdz : d.size = 32 := by rw [hd]; simp [byA, shaB_length]
        have hdo : d.all (·.oneCell') = true := by rw [hd]; exact byA_one _
        rw [← hd]
        have HI : Hid ((Tryd.prog.info? 24).map (·.size) = some d.size) := hid (info24.trans (congrArg some hdz.symm))
        have HDO := hid hdo
        have HZ : Hid ((#[Value.int .u8 0, .int .u8 0, .int .u8 0, .int .u8 0, .int .u8 0, .int .u8 0, .int .u8 0, .int .u8 0, .int .u8 0, .int .u8 0, .int .u8 0, .int .u8 0, .int .u8 0, .int .u8 0, .int .u8 0, .int .u8 0, .int .u8 0, .int .u8 0, .int .u8 0, .int .u8 0, .int .u8 0, .int .u8 0, .int .u8 0, .int .u8 0, .int .u8 0, .int .u8 0, .int .u8 0, .int .u8 0, .int .u8 0, .int .u8 0, .int .u8 0, .int .u8 0] : Array Value).size = d.size) := hid hdz.symm
        have hB7 : Below w.heap.size w (w6.alloc (.cells d A32)) := (HB.out.trans (hb6.mono hwr)).alloc (Nat.le_trans hwr hb6.size) _
        have hD7 : (w6.alloc (.cells d A32)).heap[w6.heap.size]? = some (.cells (byA (shaB zs)) A32 (0, 0)) := by rw [hd]; exact heap_alloc_new _ _
        have hd7 : w6.heap.size < (w6.alloc (.cells d A32)).heap.size := by simp
        have HB7 := hid hB7; have HD7 := hid hD7
        clear hd hdz hdo hb6 hB7 hD7
        go_wp2_with (first
          | fail
          | (with_reducible refine wpList_store_row rfl 24 (.tmp 7) _ rfl w6.heap.size d rfl rfl A32 _ (heap_alloc_new _ _) HI.out HZ.out HDO.out ?_; rw [World.setRow_alloc_new]))
        generalize w6.alloc (.cells d A32) = w7 at *
        generalize w6.heap.size = D at *
        refine (Write_nil _ w7).mono ?_
        rintro e w7' ⟨rfl, rfl⟩
        go_wp2_with fail
        have hW7 : Below w7.heap.size w7 w7.drew := (Below.refl _ _).drew
        have HOF : Hid (∀ W, Below w7.heap.size w7 W → Calls Tryd.prog 15 #[.slice A ls.length c] W (fun e W' => ∃ b, e = .returned (.slice (some ⟨b, 0, none⟩) 32 32) ∧ W'.heap[b]? = some (.cells (byA (shaB zs)) A32 (0, 0)) ∧ Below W.heap.size W W')) := hid fun W hW => by
          have hBW := HB7.out.trans (hW.mono HB7.out.size)
          have h := Of_any A ls c W ((HA.out.below hBW).more hBW.size) (HG.out.below hBW (Nat.le_refl _)) (by rw [← HZS.out]; omega) hl
          rw [← HZS.out] at h
          exact h.mono fun e W' ⟨v, he, ⟨b, hv, hb, _, _⟩, hB⟩ => ⟨b, by rw [he, hv], hb, hB⟩
        have HO0 : Hid (∀ W, Below w7.heap.size w7 W → Calls Tryd.prog 15 #[.slice none 0 0] W (fun e W' => ∃ b, e = .returned (.slice (some ⟨b, 0, none⟩) 32 32) ∧ W'.heap[b]? = some (.cells (byA (shaB [])) A32 (0, 0)) ∧ Below W.heap.size W W')) := hid fun W hW => by
          have hBW := HB7.out.trans (hW.mono HB7.out.size)
          exact (Of_any none [] 0 W (Rows2'.none _ _) (HG.out.below hBW (Nat.le_refl _)) (by simp) (by simp)).mono fun e W' ⟨v, he, ⟨b, hv, hb, _, _⟩, hB⟩ => ⟨b, by rw [he, hv], hb, hB⟩
        have HSN : Hid (∀ W, Below w7.heap.size w7 W → Calls Tryd.prog 13 #[.pointer none] W (fun e W' => ∃ b, e = .returned (.slice (some ⟨b, 0, none⟩) 32 32) ∧ W'.heap[b]? = some (.cells (byA (shaB [])) A32 (0, 0)) ∧ Below W.heap.size W W')) := hid fun W hW => by
          have hBW := HB7.out.trans (hW.mono HB7.out.size)
          exact (HSum_nil W (HG.out.below hBW (Nat.le_refl _))).mono fun e W' ⟨v, he, ⟨b, hv, hb, _, _⟩, hB⟩ => ⟨b, by rw [he, hv], hb, hB⟩
        have HSM : Hid (∀ (W : World) (q : Nat), Below w7.heap.size w7 W → HashIs W q [] → Calls Tryd.prog 13 #[.pointer (some ⟨q, 0, none⟩)] W (fun e W' => ∃ b, e = .returned (.slice (some ⟨b, 0, none⟩) 32 32) ∧ W'.heap[b]? = some (.cells (byA (shaB [])) A32 (0, 0)) ∧ Below W.heap.size W W')) := hid fun W q hW hq => by
          have hBW := HB7.out.trans (hW.mono HB7.out.size)
          exact (HSum_any q [] W hq (HG.out.below hBW (Nat.le_refl _)) (by simp)).mono fun e W' ⟨v, he, ⟨b, hv, hb, _, _⟩, hB⟩ => ⟨b, by rw [he, hv], hb, hB⟩
        have HSAME : Hid (∀ (W : World) (p q : Nat) (xs : List UInt8), xs.length = 32 → W.heap[p]? = some (.cells (byA xs) A32 (0, 0)) → W.heap[q]? = some (.cells (byA xs) A32 (0, 0)) → Calls Tryd.prog 9 #[.slice (some ⟨p, 0, none⟩) 32 32, .slice (some ⟨q, 0, none⟩) 32 32] W (fun e W' => e = .returned (.bool true) ∧ ∃ n, W' = W.drewN n)) := hid fun W p q xs hx h1 h2 => by
          have h := Same_32 (some ⟨p, 0, none⟩) xs 32 (some ⟨q, 0, none⟩) xs 32 W W.heap.size W.heap.size 32 (lie_block h1) (lie_block h2) hx hx (by omega)
          rw [show (xs == xs) = true from beq_self_eq_true _] at h
          exact h
        go_region_law (first
          | (go_simp; go_at_call 15; with_reducible refine (HOF.out _ hW7).mono ?_; rintro e w8 ⟨b8, rfl, hbk8, hb8⟩
             have hW8 : Below w7.heap.size w7 w8 := hW7.trans hb8)
          | (go_simp; go_at_call 9; with_reducible refine (HSAME.out w8 b8 D (shaB zs) (shaB_length _) hbk8 ((hW8.block D hd7).trans HD7.out)).mono ?_; rintro e w9 ⟨rfl, n9, rfl⟩
             have hW9 : Below w7.heap.size w7 (w8.drewN n9) := below_drewN hW8 n9)
          | (go_simp; go_at_call 13; with_reducible refine (HSN.out _ hW9).mono ?_; rintro e w10 ⟨b10, rfl, hbk10, hb10⟩
             have hW10 : Below w7.heap.size w7 w10 := hW9.trans (hb10.mono hW9.size))
          | (go_simp; go_at_call 15; with_reducible refine (HO0.out _ hW10).mono ?_; rintro e w11 ⟨b11, rfl, hbk11, hb11⟩
             have hW11 : Below w7.heap.size w7 w11 := hW10.trans (hb11.mono hW10.size))
          | (go_simp; go_at_call 9; with_reducible refine (HSAME.out w11 b10 b11 (shaB []) (shaB_length _) ((hb11.block b10 (block_lt hbk10)).trans hbk10) hbk11).mono ?_; rintro e w12 ⟨rfl, n12, rfl⟩
             have hW12 : Below w7.heap.size w7 (w11.drewN n12) := below_drewN hW11 n12)
          | (go_simp; go_at_call 14; with_reducible refine (Len_nil _).mono ?_; rintro e w13 ⟨rfl, rfl⟩)
          | (go_simp; go_at_call 11; with_reducible refine (New_any _).mono ?_; rintro e w14 ⟨rfl, hq14, hz14, hb14⟩
             have hW14 : Below w7.heap.size w7 w14 := hW12.trans (hb14.mono hW12.size)
             have hq14' : HashIs w14 w11.heap.size [] := hq14)
          | (go_simp; go_at_call 13; with_reducible refine (HSM.out _ _ hW14 hq14').mono ?_; rintro e w15 ⟨b15, rfl, hbk15, hb15⟩
             have hW15 : Below w7.heap.size w7 w15 := hW14.trans (hb15.mono hW14.size))
          | (go_simp; go_at_call 15; with_reducible refine (HO0.out _ hW15).mono ?_; rintro e w16 ⟨b16, rfl, hbk16, hb16⟩
             have hW16 : Below w7.heap.size w7 w16 := hW15.trans (hb16.mono hW15.size))
          | (go_simp; go_at_call 9; with_reducible refine (HSAME.out w16 b15 b16 (shaB []) (shaB_length _) ((hb16.block b15 (block_lt hbk15)).trans hbk15) hbk16).mono ?_; rintro e w17 ⟨rfl, n17, rfl⟩
             have hW17 : Below w7.heap.size w7 (w16.drewN n17) := below_drewN hW16 n17))
        have HEND := hid (HB7.out.trans (hW17.mono HB7.out.size))
        go_wp2
        go_ret
        exact ⟨rfl, HEND.out⟩
end Go.Proofs.YtihgolnkdepkmaaDoor
