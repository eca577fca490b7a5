/-
  The statement WirePuts: the walk.
-/
import Derived.Test.YtkdpaaaleicopaaLaw01P
namespace Go.Proofs.Ytkdpaaaleicopaa
open Go.RowKit
set_option linter.unusedVariables false
set_option linter.unusedSimpArgs false

def putFixed (l : List It) : List UInt8 := (l.map fixIt).flatMap putB
theorem putFixed_snoc (l : List It) (k : Nat) (h : k < l.length) : putFixed (l.take (k + 1)) = putFixed (l.take k) ++ putB (fixIt l[k]) := by
  unfold putFixed
  rw [List.take_succ_eq_append_getElem h, List.map_append, List.flatMap_append, List.map_cons, List.map_nil, List.flatMap_cons, List.flatMap_nil, List.append_nil]

theorem farIt_fix {x : It} (h : farIt x = false) : farIt (fixIt x) = false := by
  unfold fixIt
  split
  · rename_i h0
    simp only [farIt, farHead, Bool.or_eq_false_iff, decide_eq_false_iff_not] at h ⊢
    simp only [h0.1] at h
    exact h
  · exact h
theorem sizeFix (x : It) : (fixIt x).kind = 0 → 0 ≤ (fixIt x).size ∧ (fixIt x).size ≤ 8 := by
  unfold fixIt
  split
  · simp
  · rename_i h
    intro h0
    by_cases hs : x.size = 1 ∨ x.size = 2 ∨ x.size = 4 ∨ x.size = 8
    · omega
    · exact absurd ⟨h0, hs⟩ h
theorem nFix {x : It} (h : x.n < 18446744073709551616) : (fixIt x).n < 18446744073709551616 := by
  unfold fixIt; split <;> exact h
theorem putFixed1_length (x : It) (hf : farIt x = false) : (putB (fixIt x)).length ≤ 4100 := by
  unfold fixIt
  split
  · simp [putB, beBytes]
  · rename_i h
    obtain ⟨kind, size, n, v, l⟩ := x
    simp only [farIt, farHead, Bool.or_eq_false_iff, decide_eq_false_iff_not] at hf
    obtain ⟨⟨⟨⟨k0, k4⟩, hv⟩, hl⟩, hll⟩ := hf
    have ht := total_bound l hll (by omega)
    have h1 := lenSize_le v.length
    have h2 := lenSize_le (joinVecs l).length
    simp only at h
    unfold putB
    simp only
    split
    · rename_i h0
      have : size = 1 ∨ size = 2 ∨ size = 4 ∨ size = 8 := Classical.byContradiction fun h' => h ⟨h0, h'⟩
      rw [beBytes_length]; omega
    · split
      · simp only [vecBytes, List.length_append, lenBytes_length]; omega
      · split
        · simp only [vecBytes, List.length_append, lenBytes_length, joinVecs_length] at h2 ⊢; omega
        · split
          · simp
          · omega
theorem putFixed_length (l : List It) (hf : ∀ x ∈ l, farIt x = false) : (putFixed l).length ≤ l.length * 4100 := by
  induction l with
  | nil => simp [putFixed]
  | cons x l ih =>
    have h1 := putFixed1_length x (hf x (by simp))
    have h2 := ih (fun y hy => hf y (by simp [hy]))
    simp only [putFixed, List.map_cons, List.flatMap_cons, List.length_append, List.length_cons] at h2 ⊢
    omega
theorem blk_new' {w : World} {k : Nat} (hk : w.heap.size = k) (cs : Array Value) (t : TypeId) : (w.alloc (.cells cs t)).heap[k]? = some (.cells cs t (0, 0)) := by subst hk; exact heap_alloc_new w _

theorem Same_q (A : Option Addr) (xs : List UInt8) (m c : Nat) (A' : Option Addr) (ys : List UInt8) (m' c' : Nat) (w : World) (B B' : Nat) (hx : xs.length = m) (hy : ys.length = m') (hA : Lie w B A (bvs xs)) (hA' : Lie w B' A' (bvs ys)) (hm : m ≤ 140737488355328) :
    Calls Try.prog 10 #[.slice A m c, .slice A' m' c'] w fun e w' => e = .returned (.bool (xs == ys)) ∧ ∃ n, w' = w.drewN n := by
  subst hx hy
  exact Same_any A xs c A' ys c' w B B' hA hA' hm

theorem not_farP {l : List It} (h : farB l = false) : (∀ x ∈ l, farIt x = false) ∧ l.length ≤ 30 := by
  unfold farB at h
  rw [Bool.or_eq_false_iff] at h
  exact ⟨fun x hx => by have := List.any_eq_false.1 h.1 x hx; simpa using this, by simpa using h.2⟩

set_option maxRecDepth 100000 in
set_option maxHeartbeats 12800000 in
theorem puts_any (A : Option Addr) (ahead : List UInt8) (c : Nat) (A' : Option Addr) (l : List It) (c' : Nat) (w : World) (hA : Lie w w.heap.size A (bvs ahead)) (hI : Its w w.heap.size A' l) (hm : l.length ≤ 9223372036854775807) (hm1 : ahead.length ≤ 9223372036854775807) (hm2 : ∀ x ∈ l, x.l.length ≤ 9223372036854775807) (hn : ∀ x ∈ l, x.n < 18446744073709551616) :
    Calls Try.prog 3 #[.slice A ahead.length c, .slice A' l.length c'] w fun e w' => e = .returned (.bool true) ∧ Below w.heap.size w w' := by
  have HN := hid hn; have HM2 := hid hm2; have HA := hid hA; have HI := hid hI
  clear hn hm2 hA hI
  go_enter Try.func3, Try.ntmps3
  go_wp2_with fail
  refine (alive_any _).mono ?_
  rintro e w1 ⟨rfl, hb1⟩
  go_wp2_with fail
  refine (far_any A' l c' w1 _ (HI.out.below hb1) hm HM2.out).mono ?_
  rintro e w' ⟨rfl, rfl⟩
  by_cases hf : farB l = true
  · rw [hf]
    go_wp2
    go_ret
    exact ⟨rfl, hb1⟩
  have hff : farB l = false := by simpa using hf
  rw [hff]
  by_cases h300 : 300 < ahead.length
  · have h3i : (300 : Int) < (ahead.length : Int) := by omega
    go_wp2
    go_ret
    exact ⟨rfl, hb1⟩
  have HF := hid (not_farP hff)
  have h3i : ¬ (300 : Int) < (ahead.length : Int) := by omega
  clear hf hff
  have HB1 := hid hb1
  have hz1 := hb1.size
  clear hb1
  go_wp2_with (at_builtin; refine wpList_append_lie rfl _ _ 22 rfl w1.heap.size 5 (.int .u8 0) 1 Try.underlying22 infoU8 rfl rfl (ownsRow_empty _ _ (k := w1.heap.size) rfl (Nat.le_refl _)) (bvs_length ahead) rfl ((HA.out.below HB1.out).alloc hz1 _) (bvs_one ahead) ?d1 ?d2 ?d3 ?_)
  case d1 => unfold maxLen; omega
  case d2 => omega
  case d3 => simp
  intro v2 w2 hown2 hg2 _
  have ho2 : OwnB w2 w1.heap.size v2 ahead := by simpa [OwnB] using hown2
  obtain ⟨Aw0, cw0, rfl, hSw⟩ := own_sl ho2
  have hb2 : Below w.heap.size w w2 := (HB1.out.alloc hz1 _).grown hg2 (by simp; omega) (fun g h => by simp [Value.ownBlock] at h; omega)
  have HB2 := hid hb2
  have HW := hid hSw.lie
  have hz2 := hb2.size
  have HA2 := hid ((HA.out.below hb2).more hz2)
  have HI2 := hid (HI.out.below hb2)
  clear hown2 hg2 ho2 hSw hb2 HB1 hz1
  go_wp2
  go_loopg [6, 7, 8] l.length (fun g u6 u7 i wr => ∃ (k : Nat) (Ab : Option Addr) (cb : Nat) (Aw : Option Addr) (cw : Nat), k + g = l.length ∧ i = .int .i64 (k : Int) ∧ u6 = .slice Ab (ahead ++ putFixed (l.take k)).length cb ∧ u7 = .slice Aw (ahead ++ putFixed (l.take k)).length cw ∧ Lie wr wr.heap.size Ab (bvs (ahead ++ putFixed (l.take k))) ∧ Lie wr wr.heap.size Aw (bvs (ahead ++ putFixed (l.take k))) ∧ Below w2.heap.size w2 wr)
  case atStart =>
    have hz : ahead ++ putFixed (l.take 0) = ahead := by simp [putFixed]
    exact ⟨0, A, c, Aw0, cw0, by omega, rfl, by rw [hz], by rw [hz], by rw [hz]; exact HA2.out, by rw [hz]; exact HW.out, Below.refl _ _⟩
  case round =>
    obtain ⟨k, Ab, cb, Aw, cw, hk, rfl, rfl, rfl, hLb, hLw, hB⟩ := hrel
    have HK := hid hk; have HLB := hid hLb; have HLW := hid hLw; have HB := hid hB
    clear hk hLb hLw hB
    by_cases hlt : k < l.length
    · have hmem := List.getElem_mem hlt
      obtain ⟨b, o, rfl, hbb, h1, h2, h3, ⟨A1, c1, h4, h5⟩, A2, c2, h6, h7⟩ := (HI2.out.below (HB.out.mono hz2)).at_ hlt
      have HFX := hid (HF.out.1 _ hmem)
      have HNX := hid (HN.out _ hmem)
      have HX := hid (putFixed_snoc l k hlt)
      have HLEN : Hid ((ahead ++ putFixed (l.take k)).length ≤ 1048576) := hid (by
        have h := putFixed_length (l.take k) (fun x hx => HF.out.1 x (List.mem_of_mem_take hx))
        have h30 := HF.out.2
        rw [List.length_take] at h
        rw [List.length_append]
        omega)
      have hz3 := HB.out.size
      generalize hx : l[k] = x at h1 h2 h3 h4 h5 h6 h7 HFX HNX HX
      clear hx hmem
      have HPL := hid (putFixed1_length x HFX.out)
      have HV := hid (h5.more (Nat.le_trans hz2 hz3)); have HLS := hid (h7.more (Nat.le_trans hz2 hz3))
      clear h5 h7
      generalize hbs : ahead ++ putFixed (l.take k) = bs at HLB HLW HLEN
      have hbs2 : ahead ++ putFixed (l.take (k + 1)) = bs ++ putB (fixIt x) := by rw [HX.out, ← List.append_assoc, hbs]
      have HBS := hid hbs2
      clear hbs hbs2 HX
      have hdec : (x.kind == 0) = false ∨ (x.kind = 0 ∧ (x.size = 1 ∨ x.size = 2 ∨ x.size = 4 ∨ x.size = 8)) ∨ (x.kind = 0 ∧ ((x.size != 1) = true ∧ (x.size != 2) = true ∧ (x.size != 4) = true ∧ (x.size != 8) = true)) := by
        by_cases h0 : x.kind = 0
        · by_cases hs : x.size = 1 ∨ x.size = 2 ∨ x.size = 4 ∨ x.size = 8
          · exact .inr (.inl ⟨h0, hs⟩)
          · exact .inr (.inr ⟨h0, by simp only [bne_iff_ne]; omega⟩)
        · exact .inl (by simpa using h0)
      have hfix1 : (x.kind == 0) = false → fixIt x = x := fun h => by unfold fixIt; rw [if_neg (fun h' => by simp [h'.1] at h)]
      have hfix2 : (x.size = 1 ∨ x.size = 2 ∨ x.size = 4 ∨ x.size = 8) → fixIt x = x := fun h => by unfold fixIt; rw [if_neg (fun h' => h'.2 h)]
      have hfix3 : x.kind = 0 → (x.size != 1) = true ∧ (x.size != 2) = true ∧ (x.size != 4) = true ∧ (x.size != 8) = true → fixIt x = ⟨0, 0, x.n, x.v, x.l⟩ := fun h h' => by
        simp only [bne_iff_ne] at h'
        unfold fixIt; rw [if_pos ⟨h, by omega⟩]
      have F1 := hid hfix1; have F2 := hid hfix2; have F3 := hid hfix3
      clear hfix1 hfix2 hfix3
      have HPUT := hid (fun (W : World) h1 h2 h3 => put_fixed Ab bs cb x A1 c1 A2 c2 W h1 HLEN.out h2 h3 HFX.out HNX.out)
      have HREF := hid (fun (W : World) h1 h2 => RefPut_any (fixIt x) A1 c1 A2 c2 W h1 h2 (farIt_fix HFX.out) (sizeFix x) (nFix HNX.out))
      obtain ⟨kind, size, n, v, ls⟩ := x
      simp only at h1 h2 h3 h4 h6 hdec HV HLS
      rcases hdec with hd | ⟨rfl, rfl | rfl | rfl | rfl⟩ | ⟨rfl, q1, q2, q4, q8⟩
      · have hfx := F1.out hd
        rw [hfx] at HPUT HREF HBS HPL
        simp only [itV] at HPUT HREF
        clear F1 F2 F3 hfx
        have hLb1 := (HLB.out.alloc (Nat.le_refl _) (.cells #[.int .i64 kind, .int .i64 size, .int .u64 (n : Int), .slice A1 v.length c1, .slice A2 ls.length c2] 29)).more (B' := wr.heap.size + 1) (by omega)
        go_wp2_with fail
        refine (HPUT.out _ (by simpa using hLb1) ((HV.out.alloc (Nat.le_refl _) _).more (by simp)) ((HLS.out.below ((Below.refl _ _).alloc (Nat.le_refl _) _)).more (by simp))).mono ?_
        rintro e w3 ⟨v3, rfl, ho3, hb3⟩
        obtain ⟨A3, c3, rfl, hS3⟩ := own_sl ho3
        have hX : w3.heap[wr.heap.size]? = some (.cells #[.int .i64 kind, .int .i64 size, .int .u64 (n : Int), .slice A1 v.length c1, .slice A2 ls.length c2] 29 (0, 0)) := (hb3.block _ (by simp)).trans (blk_new' rfl _ _)
        have hXlt := block_lt hX
        have HSS : Hid (∀ w', Below w3.heap.size w3 w' → (Below w3.heap.size w3 w' ∧ w'.cell? ⟨wr.heap.size, 0, none⟩ = some (.int .i64 kind) ∧ w'.cell? ⟨wr.heap.size, 1, none⟩ = some (.int .i64 size) ∧ w'.cell? ⟨wr.heap.size, 2, none⟩ = some (.int .u64 (n : Int)) ∧ w'.cell? ⟨wr.heap.size, 3, none⟩ = some (.slice A1 v.length c1) ∧ w'.cell? ⟨wr.heap.size, 4, none⟩ = some (.slice A2 ls.length c2))) := hid (fun w' hB => by
            have hX' : w'.heap[wr.heap.size]? = _ := (hB.block _ hXlt).trans hX
            exact ⟨hB, cell_of hX' 0 _ rfl, cell_of hX' 1 _ rfl, cell_of hX' 2 _ rfl, cell_of hX' 3 _ rfl, cell_of hX' 4 _ rfl⟩)
        have hBw : Below wr.heap.size wr w3 := ((Below.refl _ _).alloc (Nat.le_refl _) _).trans (hb3.mono (by simp))
        have hz4 : wr.heap.size ≤ w3.heap.size := hBw.size
        have HLW3 := hid ((HLW.out.below hBw).more hz4)
        have HV3 := hid ((HV.out.below hBw).more hz4)
        have HLS3 := hid ((HLS.out.below hBw).more hz4)
        have HB3 := hid ho3
        have HBW := hid hBw
        clear hb3 hX hXlt hS3 ho3 hBw
        go_wp2_with fail
        go_region_held3 (fun w' => Below w3.heap.size w3 w' ∧ w'.cell? ⟨wr.heap.size, 0, none⟩ = some (.int .i64 kind) ∧ w'.cell? ⟨wr.heap.size, 1, none⟩ = some (.int .i64 size) ∧ w'.cell? ⟨wr.heap.size, 2, none⟩ = some (.int .u64 (n : Int)) ∧ w'.cell? ⟨wr.heap.size, 3, none⟩ = some (.slice A1 v.length c1) ∧ w'.cell? ⟨wr.heap.size, 4, none⟩ = some (.slice A2 ls.length c2))
          (first | (exact HSS.out _ (Below.drew (Below.refl _ _))) | (exact HSS.out _ (Below.drew (Below.alloc (Below.refl _ _) (Nat.le_refl _) _))) | (exact HSS.out _ hB5) | (exact HSS.out _ hB6) | (exact HSS.out _ hB7))
          ((first
            | (refine step_append_lie (by rfl) (.tmp 61) (.tmp 62) _ (by rfl) w3.heap.size 5 (.int .u8 0) 1 Try.underlying22 infoU8 rfl (by rfl) (World.ownsRow.drew (ownsRow_empty _ _ (k := w3.heap.size) rfl (Nat.le_refl _))) (bvs_length bs) (by rfl) ((HLW3.out.alloc (Nat.le_refl _) _).drew) (bvs_one bs) (by have := HLEN.out; unfold maxLen; omega) (by have := HLEN.out; omega) (by simp) ?_; intro v5 w5 hown5 hg5 hat5; have hB5 : Below w3.heap.size w3 w5 := (((Below.refl _ _).alloc (Nat.le_refl _) _).drew).grown hg5 (by simp) (by intro q hq; simp [Value.ownBlock] at hq; omega))
            | (go_at_call 9; refine (HREF.out w5 ((HV3.out.below hB5).more hB5.size) ((HLS3.out.below hB5).more hB5.size)).mono ?_; intro e w6 hp6; unfold RefPost at hp6; obtain ⟨A6, c6, rfl, hL6, hg6⟩ := hp6; have hB6 : Below w3.heap.size w3 w6 := hB5.grown hg6 hB5.size (fun _ h => by cases h))
            | (refine step_append_lie (by rfl) (.tmp 63) (.tmp 65) _ (by rfl) w3.heap.size 5 (.int .u8 0) 1 Try.underlying22 infoU8 rfl (by rfl) (World.ownsRow.kept hown5 hg6 (by cases hv : v5.ownBlock <;> simp)) (bvs_length _) (by rfl) hL6 (bvs_one _) (by have := HLEN.out; have := HPL.out; unfold maxLen; omega) (by have := HLEN.out; have := HPL.out; omega) hB6.size ?_; intro v7 w7 hown7 hg7 hat7; have hB7 : Below w3.heap.size w3 w7 := hB6.grown hg7 hB6.size (own_lt hown5))))
        have ho7 : OwnB w7 w3.heap.size v7 (bs ++ putB ⟨kind, size, n, v, ls⟩) := by simpa [OwnB, bvs_append] using hown7
        have HO7 := hid ho7; have HB7 := hid hB7
        clear hown5 hg5 hat5 hL6 hg6 hown7 hg7 hat7 ho7 hB5 hB6 hB7
        obtain ⟨A8, c8, rfl, hS8⟩ := own_sl HO7.out
        obtain ⟨A9, c9, hA9, hS9⟩ := own_sl HB3.out
        simp only [Value.slice.injEq, true_and] at hA9
        obtain ⟨rfl, rfl⟩ := hA9
        have HS8 := hid hS8.lie; have HS9 := hid ((hS9.lie.below HB7.out).more HB7.out.size)
        have HEND : Hid (∀ q : Nat, Below w2.heap.size w2 (w7.drewN q)) := hid (fun q => by
          have h := HB.out.trans ((HBW.out.mono hz3).trans (HB7.out.mono (Nat.le_trans hz3 hz4)))
          exact ⟨h.os, h.tape, h.output, h.size, h.block⟩)
        have HLN : Hid ((bs ++ putB ⟨kind, size, n, v, ls⟩).length = bs.length + (putB ⟨kind, size, n, v, ls⟩).length) := hid (List.length_append ..)
        clear hS8 hS9
        go_wp2_with fail
        refine (Same_q _ (bs ++ putB ⟨kind, size, n, v, ls⟩) _ _ _ (bs ++ putB ⟨kind, size, n, v, ls⟩) _ _ _ _ _ HLN.out HLN.out HS9.out HS8.out (by have := HLEN.out; have := HPL.out; omega)).mono ?_
        rintro e w9 ⟨rfl, q9, rfl⟩
        rw [show ((bs ++ putB ⟨kind, size, n, v, ls⟩) == (bs ++ putB ⟨kind, size, n, v, ls⟩)) = true from beq_self_eq_true _]
        go_wp2
        have hk := HK.out
        go_roundg (l.length - k - 1)
        case measure => omega
        case rel => exact ⟨k + 1, A3, c3, A8, c8, by omega, by go_num, by rw [HBS.out, HLN.out], by rw [HBS.out, HLN.out], by rw [HBS.out]; exact HS9.out, by rw [HBS.out]; exact HS8.out, HEND.out _⟩
      · have hfx := F2.out (.inl rfl)
        rw [hfx] at HPUT HREF HBS HPL
        simp only [itV] at HPUT HREF
        clear F1 F2 F3 hfx
        have hLb1 := (HLB.out.alloc (Nat.le_refl _) (.cells #[.int .i64 0, .int .i64 1, .int .u64 (n : Int), .slice A1 v.length c1, .slice A2 ls.length c2] 29)).more (B' := wr.heap.size + 1) (by omega)
        go_wp2_with fail
        refine (HPUT.out _ (by simpa using hLb1) ((HV.out.alloc (Nat.le_refl _) _).more (by simp)) ((HLS.out.below ((Below.refl _ _).alloc (Nat.le_refl _) _)).more (by simp))).mono ?_
        rintro e w3 ⟨v3, rfl, ho3, hb3⟩
        obtain ⟨A3, c3, rfl, hS3⟩ := own_sl ho3
        have hX : w3.heap[wr.heap.size]? = some (.cells #[.int .i64 0, .int .i64 1, .int .u64 (n : Int), .slice A1 v.length c1, .slice A2 ls.length c2] 29 (0, 0)) := (hb3.block _ (by simp)).trans (blk_new' rfl _ _)
        have hXlt := block_lt hX
        have HSS : Hid (∀ w', Below w3.heap.size w3 w' → (Below w3.heap.size w3 w' ∧ w'.cell? ⟨wr.heap.size, 0, none⟩ = some (.int .i64 0) ∧ w'.cell? ⟨wr.heap.size, 1, none⟩ = some (.int .i64 1) ∧ w'.cell? ⟨wr.heap.size, 2, none⟩ = some (.int .u64 (n : Int)) ∧ w'.cell? ⟨wr.heap.size, 3, none⟩ = some (.slice A1 v.length c1) ∧ w'.cell? ⟨wr.heap.size, 4, none⟩ = some (.slice A2 ls.length c2))) := hid (fun w' hB => by
            have hX' : w'.heap[wr.heap.size]? = _ := (hB.block _ hXlt).trans hX
            exact ⟨hB, cell_of hX' 0 _ rfl, cell_of hX' 1 _ rfl, cell_of hX' 2 _ rfl, cell_of hX' 3 _ rfl, cell_of hX' 4 _ rfl⟩)
        have hBw : Below wr.heap.size wr w3 := ((Below.refl _ _).alloc (Nat.le_refl _) _).trans (hb3.mono (by simp))
        have hz4 : wr.heap.size ≤ w3.heap.size := hBw.size
        have HLW3 := hid ((HLW.out.below hBw).more hz4)
        have HV3 := hid ((HV.out.below hBw).more hz4)
        have HLS3 := hid ((HLS.out.below hBw).more hz4)
        have HB3 := hid ho3
        have HBW := hid hBw
        clear hb3 hX hXlt hS3 ho3 hBw
        go_wp2_with fail
        go_region_held3 (fun w' => Below w3.heap.size w3 w' ∧ w'.cell? ⟨wr.heap.size, 0, none⟩ = some (.int .i64 0) ∧ w'.cell? ⟨wr.heap.size, 1, none⟩ = some (.int .i64 1) ∧ w'.cell? ⟨wr.heap.size, 2, none⟩ = some (.int .u64 (n : Int)) ∧ w'.cell? ⟨wr.heap.size, 3, none⟩ = some (.slice A1 v.length c1) ∧ w'.cell? ⟨wr.heap.size, 4, none⟩ = some (.slice A2 ls.length c2))
          (first | (exact HSS.out _ (Below.drew (Below.refl _ _))) | (exact HSS.out _ (Below.drew (Below.alloc (Below.refl _ _) (Nat.le_refl _) _))) | (exact HSS.out _ hB5) | (exact HSS.out _ hB6) | (exact HSS.out _ hB7))
          ((first
            | (refine step_append_lie (by rfl) (.tmp 61) (.tmp 62) _ (by rfl) w3.heap.size 5 (.int .u8 0) 1 Try.underlying22 infoU8 rfl (by rfl) (World.ownsRow.drew (ownsRow_empty _ _ (k := w3.heap.size) rfl (Nat.le_refl _))) (bvs_length bs) (by rfl) ((HLW3.out.alloc (Nat.le_refl _) _).drew) (bvs_one bs) (by have := HLEN.out; unfold maxLen; omega) (by have := HLEN.out; omega) (by simp) ?_; intro v5 w5 hown5 hg5 hat5; have hB5 : Below w3.heap.size w3 w5 := (((Below.refl _ _).alloc (Nat.le_refl _) _).drew).grown hg5 (by simp) (by intro q hq; simp [Value.ownBlock] at hq; omega))
            | (go_at_call 9; refine (HREF.out w5 ((HV3.out.below hB5).more hB5.size) ((HLS3.out.below hB5).more hB5.size)).mono ?_; intro e w6 hp6; unfold RefPost at hp6; obtain ⟨A6, c6, rfl, hL6, hg6⟩ := hp6; have hB6 : Below w3.heap.size w3 w6 := hB5.grown hg6 hB5.size (fun _ h => by cases h))
            | (refine step_append_lie (by rfl) (.tmp 63) (.tmp 65) _ (by rfl) w3.heap.size 5 (.int .u8 0) 1 Try.underlying22 infoU8 rfl (by rfl) (World.ownsRow.kept hown5 hg6 (by cases hv : v5.ownBlock <;> simp)) (bvs_length _) (by rfl) hL6 (bvs_one _) (by have := HLEN.out; have := HPL.out; unfold maxLen; omega) (by have := HLEN.out; have := HPL.out; omega) hB6.size ?_; intro v7 w7 hown7 hg7 hat7; have hB7 : Below w3.heap.size w3 w7 := hB6.grown hg7 hB6.size (own_lt hown5))))
        have ho7 : OwnB w7 w3.heap.size v7 (bs ++ putB ⟨0, 1, n, v, ls⟩) := by simpa [OwnB, bvs_append] using hown7
        have HO7 := hid ho7; have HB7 := hid hB7
        clear hown5 hg5 hat5 hL6 hg6 hown7 hg7 hat7 ho7 hB5 hB6 hB7
        obtain ⟨A8, c8, rfl, hS8⟩ := own_sl HO7.out
        obtain ⟨A9, c9, hA9, hS9⟩ := own_sl HB3.out
        simp only [Value.slice.injEq, true_and] at hA9
        obtain ⟨rfl, rfl⟩ := hA9
        have HS8 := hid hS8.lie; have HS9 := hid ((hS9.lie.below HB7.out).more HB7.out.size)
        have HEND : Hid (∀ q : Nat, Below w2.heap.size w2 (w7.drewN q)) := hid (fun q => by
          have h := HB.out.trans ((HBW.out.mono hz3).trans (HB7.out.mono (Nat.le_trans hz3 hz4)))
          exact ⟨h.os, h.tape, h.output, h.size, h.block⟩)
        have HLN : Hid ((bs ++ putB ⟨0, 1, n, v, ls⟩).length = bs.length + (putB ⟨0, 1, n, v, ls⟩).length) := hid (List.length_append ..)
        clear hS8 hS9
        go_wp2_with fail
        refine (Same_q _ (bs ++ putB ⟨0, 1, n, v, ls⟩) _ _ _ (bs ++ putB ⟨0, 1, n, v, ls⟩) _ _ _ _ _ HLN.out HLN.out HS9.out HS8.out (by have := HLEN.out; have := HPL.out; omega)).mono ?_
        rintro e w9 ⟨rfl, q9, rfl⟩
        rw [show ((bs ++ putB ⟨0, 1, n, v, ls⟩) == (bs ++ putB ⟨0, 1, n, v, ls⟩)) = true from beq_self_eq_true _]
        go_wp2
        have hk := HK.out
        go_roundg (l.length - k - 1)
        case measure => omega
        case rel => exact ⟨k + 1, A3, c3, A8, c8, by omega, by go_num, by rw [HBS.out, HLN.out], by rw [HBS.out, HLN.out], by rw [HBS.out]; exact HS9.out, by rw [HBS.out]; exact HS8.out, HEND.out _⟩
      · have hfx := F2.out (.inr (.inl rfl))
        rw [hfx] at HPUT HREF HBS HPL
        simp only [itV] at HPUT HREF
        clear F1 F2 F3 hfx
        have hLb1 := (HLB.out.alloc (Nat.le_refl _) (.cells #[.int .i64 0, .int .i64 2, .int .u64 (n : Int), .slice A1 v.length c1, .slice A2 ls.length c2] 29)).more (B' := wr.heap.size + 1) (by omega)
        go_wp2_with fail
        refine (HPUT.out _ (by simpa using hLb1) ((HV.out.alloc (Nat.le_refl _) _).more (by simp)) ((HLS.out.below ((Below.refl _ _).alloc (Nat.le_refl _) _)).more (by simp))).mono ?_
        rintro e w3 ⟨v3, rfl, ho3, hb3⟩
        obtain ⟨A3, c3, rfl, hS3⟩ := own_sl ho3
        have hX : w3.heap[wr.heap.size]? = some (.cells #[.int .i64 0, .int .i64 2, .int .u64 (n : Int), .slice A1 v.length c1, .slice A2 ls.length c2] 29 (0, 0)) := (hb3.block _ (by simp)).trans (blk_new' rfl _ _)
        have hXlt := block_lt hX
        have HSS : Hid (∀ w', Below w3.heap.size w3 w' → (Below w3.heap.size w3 w' ∧ w'.cell? ⟨wr.heap.size, 0, none⟩ = some (.int .i64 0) ∧ w'.cell? ⟨wr.heap.size, 1, none⟩ = some (.int .i64 2) ∧ w'.cell? ⟨wr.heap.size, 2, none⟩ = some (.int .u64 (n : Int)) ∧ w'.cell? ⟨wr.heap.size, 3, none⟩ = some (.slice A1 v.length c1) ∧ w'.cell? ⟨wr.heap.size, 4, none⟩ = some (.slice A2 ls.length c2))) := hid (fun w' hB => by
            have hX' : w'.heap[wr.heap.size]? = _ := (hB.block _ hXlt).trans hX
            exact ⟨hB, cell_of hX' 0 _ rfl, cell_of hX' 1 _ rfl, cell_of hX' 2 _ rfl, cell_of hX' 3 _ rfl, cell_of hX' 4 _ rfl⟩)
        have hBw : Below wr.heap.size wr w3 := ((Below.refl _ _).alloc (Nat.le_refl _) _).trans (hb3.mono (by simp))
        have hz4 : wr.heap.size ≤ w3.heap.size := hBw.size
        have HLW3 := hid ((HLW.out.below hBw).more hz4)
        have HV3 := hid ((HV.out.below hBw).more hz4)
        have HLS3 := hid ((HLS.out.below hBw).more hz4)
        have HB3 := hid ho3
        have HBW := hid hBw
        clear hb3 hX hXlt hS3 ho3 hBw
        go_wp2_with fail
        go_region_held3 (fun w' => Below w3.heap.size w3 w' ∧ w'.cell? ⟨wr.heap.size, 0, none⟩ = some (.int .i64 0) ∧ w'.cell? ⟨wr.heap.size, 1, none⟩ = some (.int .i64 2) ∧ w'.cell? ⟨wr.heap.size, 2, none⟩ = some (.int .u64 (n : Int)) ∧ w'.cell? ⟨wr.heap.size, 3, none⟩ = some (.slice A1 v.length c1) ∧ w'.cell? ⟨wr.heap.size, 4, none⟩ = some (.slice A2 ls.length c2))
          (first | (exact HSS.out _ (Below.drew (Below.refl _ _))) | (exact HSS.out _ (Below.drew (Below.alloc (Below.refl _ _) (Nat.le_refl _) _))) | (exact HSS.out _ hB5) | (exact HSS.out _ hB6) | (exact HSS.out _ hB7))
          ((first
            | (refine step_append_lie (by rfl) (.tmp 61) (.tmp 62) _ (by rfl) w3.heap.size 5 (.int .u8 0) 1 Try.underlying22 infoU8 rfl (by rfl) (World.ownsRow.drew (ownsRow_empty _ _ (k := w3.heap.size) rfl (Nat.le_refl _))) (bvs_length bs) (by rfl) ((HLW3.out.alloc (Nat.le_refl _) _).drew) (bvs_one bs) (by have := HLEN.out; unfold maxLen; omega) (by have := HLEN.out; omega) (by simp) ?_; intro v5 w5 hown5 hg5 hat5; have hB5 : Below w3.heap.size w3 w5 := (((Below.refl _ _).alloc (Nat.le_refl _) _).drew).grown hg5 (by simp) (by intro q hq; simp [Value.ownBlock] at hq; omega))
            | (go_at_call 9; refine (HREF.out w5 ((HV3.out.below hB5).more hB5.size) ((HLS3.out.below hB5).more hB5.size)).mono ?_; intro e w6 hp6; unfold RefPost at hp6; obtain ⟨A6, c6, rfl, hL6, hg6⟩ := hp6; have hB6 : Below w3.heap.size w3 w6 := hB5.grown hg6 hB5.size (fun _ h => by cases h))
            | (refine step_append_lie (by rfl) (.tmp 63) (.tmp 65) _ (by rfl) w3.heap.size 5 (.int .u8 0) 1 Try.underlying22 infoU8 rfl (by rfl) (World.ownsRow.kept hown5 hg6 (by cases hv : v5.ownBlock <;> simp)) (bvs_length _) (by rfl) hL6 (bvs_one _) (by have := HLEN.out; have := HPL.out; unfold maxLen; omega) (by have := HLEN.out; have := HPL.out; omega) hB6.size ?_; intro v7 w7 hown7 hg7 hat7; have hB7 : Below w3.heap.size w3 w7 := hB6.grown hg7 hB6.size (own_lt hown5))))
        have ho7 : OwnB w7 w3.heap.size v7 (bs ++ putB ⟨0, 2, n, v, ls⟩) := by simpa [OwnB, bvs_append] using hown7
        have HO7 := hid ho7; have HB7 := hid hB7
        clear hown5 hg5 hat5 hL6 hg6 hown7 hg7 hat7 ho7 hB5 hB6 hB7
        obtain ⟨A8, c8, rfl, hS8⟩ := own_sl HO7.out
        obtain ⟨A9, c9, hA9, hS9⟩ := own_sl HB3.out
        simp only [Value.slice.injEq, true_and] at hA9
        obtain ⟨rfl, rfl⟩ := hA9
        have HS8 := hid hS8.lie; have HS9 := hid ((hS9.lie.below HB7.out).more HB7.out.size)
        have HEND : Hid (∀ q : Nat, Below w2.heap.size w2 (w7.drewN q)) := hid (fun q => by
          have h := HB.out.trans ((HBW.out.mono hz3).trans (HB7.out.mono (Nat.le_trans hz3 hz4)))
          exact ⟨h.os, h.tape, h.output, h.size, h.block⟩)
        have HLN : Hid ((bs ++ putB ⟨0, 2, n, v, ls⟩).length = bs.length + (putB ⟨0, 2, n, v, ls⟩).length) := hid (List.length_append ..)
        clear hS8 hS9
        go_wp2_with fail
        refine (Same_q _ (bs ++ putB ⟨0, 2, n, v, ls⟩) _ _ _ (bs ++ putB ⟨0, 2, n, v, ls⟩) _ _ _ _ _ HLN.out HLN.out HS9.out HS8.out (by have := HLEN.out; have := HPL.out; omega)).mono ?_
        rintro e w9 ⟨rfl, q9, rfl⟩
        rw [show ((bs ++ putB ⟨0, 2, n, v, ls⟩) == (bs ++ putB ⟨0, 2, n, v, ls⟩)) = true from beq_self_eq_true _]
        go_wp2
        have hk := HK.out
        go_roundg (l.length - k - 1)
        case measure => omega
        case rel => exact ⟨k + 1, A3, c3, A8, c8, by omega, by go_num, by rw [HBS.out, HLN.out], by rw [HBS.out, HLN.out], by rw [HBS.out]; exact HS9.out, by rw [HBS.out]; exact HS8.out, HEND.out _⟩
      · have hfx := F2.out (.inr (.inr (.inl rfl)))
        rw [hfx] at HPUT HREF HBS HPL
        simp only [itV] at HPUT HREF
        clear F1 F2 F3 hfx
        have hLb1 := (HLB.out.alloc (Nat.le_refl _) (.cells #[.int .i64 0, .int .i64 4, .int .u64 (n : Int), .slice A1 v.length c1, .slice A2 ls.length c2] 29)).more (B' := wr.heap.size + 1) (by omega)
        go_wp2_with fail
        refine (HPUT.out _ (by simpa using hLb1) ((HV.out.alloc (Nat.le_refl _) _).more (by simp)) ((HLS.out.below ((Below.refl _ _).alloc (Nat.le_refl _) _)).more (by simp))).mono ?_
        rintro e w3 ⟨v3, rfl, ho3, hb3⟩
        obtain ⟨A3, c3, rfl, hS3⟩ := own_sl ho3
        have hX : w3.heap[wr.heap.size]? = some (.cells #[.int .i64 0, .int .i64 4, .int .u64 (n : Int), .slice A1 v.length c1, .slice A2 ls.length c2] 29 (0, 0)) := (hb3.block _ (by simp)).trans (blk_new' rfl _ _)
        have hXlt := block_lt hX
        have HSS : Hid (∀ w', Below w3.heap.size w3 w' → (Below w3.heap.size w3 w' ∧ w'.cell? ⟨wr.heap.size, 0, none⟩ = some (.int .i64 0) ∧ w'.cell? ⟨wr.heap.size, 1, none⟩ = some (.int .i64 4) ∧ w'.cell? ⟨wr.heap.size, 2, none⟩ = some (.int .u64 (n : Int)) ∧ w'.cell? ⟨wr.heap.size, 3, none⟩ = some (.slice A1 v.length c1) ∧ w'.cell? ⟨wr.heap.size, 4, none⟩ = some (.slice A2 ls.length c2))) := hid (fun w' hB => by
            have hX' : w'.heap[wr.heap.size]? = _ := (hB.block _ hXlt).trans hX
            exact ⟨hB, cell_of hX' 0 _ rfl, cell_of hX' 1 _ rfl, cell_of hX' 2 _ rfl, cell_of hX' 3 _ rfl, cell_of hX' 4 _ rfl⟩)
        have hBw : Below wr.heap.size wr w3 := ((Below.refl _ _).alloc (Nat.le_refl _) _).trans (hb3.mono (by simp))
        have hz4 : wr.heap.size ≤ w3.heap.size := hBw.size
        have HLW3 := hid ((HLW.out.below hBw).more hz4)
        have HV3 := hid ((HV.out.below hBw).more hz4)
        have HLS3 := hid ((HLS.out.below hBw).more hz4)
        have HB3 := hid ho3
        have HBW := hid hBw
        clear hb3 hX hXlt hS3 ho3 hBw
        go_wp2_with fail
        go_region_held3 (fun w' => Below w3.heap.size w3 w' ∧ w'.cell? ⟨wr.heap.size, 0, none⟩ = some (.int .i64 0) ∧ w'.cell? ⟨wr.heap.size, 1, none⟩ = some (.int .i64 4) ∧ w'.cell? ⟨wr.heap.size, 2, none⟩ = some (.int .u64 (n : Int)) ∧ w'.cell? ⟨wr.heap.size, 3, none⟩ = some (.slice A1 v.length c1) ∧ w'.cell? ⟨wr.heap.size, 4, none⟩ = some (.slice A2 ls.length c2))
          (first | (exact HSS.out _ (Below.drew (Below.refl _ _))) | (exact HSS.out _ (Below.drew (Below.alloc (Below.refl _ _) (Nat.le_refl _) _))) | (exact HSS.out _ hB5) | (exact HSS.out _ hB6) | (exact HSS.out _ hB7))
          ((first
            | (refine step_append_lie (by rfl) (.tmp 61) (.tmp 62) _ (by rfl) w3.heap.size 5 (.int .u8 0) 1 Try.underlying22 infoU8 rfl (by rfl) (World.ownsRow.drew (ownsRow_empty _ _ (k := w3.heap.size) rfl (Nat.le_refl _))) (bvs_length bs) (by rfl) ((HLW3.out.alloc (Nat.le_refl _) _).drew) (bvs_one bs) (by have := HLEN.out; unfold maxLen; omega) (by have := HLEN.out; omega) (by simp) ?_; intro v5 w5 hown5 hg5 hat5; have hB5 : Below w3.heap.size w3 w5 := (((Below.refl _ _).alloc (Nat.le_refl _) _).drew).grown hg5 (by simp) (by intro q hq; simp [Value.ownBlock] at hq; omega))
            | (go_at_call 9; refine (HREF.out w5 ((HV3.out.below hB5).more hB5.size) ((HLS3.out.below hB5).more hB5.size)).mono ?_; intro e w6 hp6; unfold RefPost at hp6; obtain ⟨A6, c6, rfl, hL6, hg6⟩ := hp6; have hB6 : Below w3.heap.size w3 w6 := hB5.grown hg6 hB5.size (fun _ h => by cases h))
            | (refine step_append_lie (by rfl) (.tmp 63) (.tmp 65) _ (by rfl) w3.heap.size 5 (.int .u8 0) 1 Try.underlying22 infoU8 rfl (by rfl) (World.ownsRow.kept hown5 hg6 (by cases hv : v5.ownBlock <;> simp)) (bvs_length _) (by rfl) hL6 (bvs_one _) (by have := HLEN.out; have := HPL.out; unfold maxLen; omega) (by have := HLEN.out; have := HPL.out; omega) hB6.size ?_; intro v7 w7 hown7 hg7 hat7; have hB7 : Below w3.heap.size w3 w7 := hB6.grown hg7 hB6.size (own_lt hown5))))
        have ho7 : OwnB w7 w3.heap.size v7 (bs ++ putB ⟨0, 4, n, v, ls⟩) := by simpa [OwnB, bvs_append] using hown7
        have HO7 := hid ho7; have HB7 := hid hB7
        clear hown5 hg5 hat5 hL6 hg6 hown7 hg7 hat7 ho7 hB5 hB6 hB7
        obtain ⟨A8, c8, rfl, hS8⟩ := own_sl HO7.out
        obtain ⟨A9, c9, hA9, hS9⟩ := own_sl HB3.out
        simp only [Value.slice.injEq, true_and] at hA9
        obtain ⟨rfl, rfl⟩ := hA9
        have HS8 := hid hS8.lie; have HS9 := hid ((hS9.lie.below HB7.out).more HB7.out.size)
        have HEND : Hid (∀ q : Nat, Below w2.heap.size w2 (w7.drewN q)) := hid (fun q => by
          have h := HB.out.trans ((HBW.out.mono hz3).trans (HB7.out.mono (Nat.le_trans hz3 hz4)))
          exact ⟨h.os, h.tape, h.output, h.size, h.block⟩)
        have HLN : Hid ((bs ++ putB ⟨0, 4, n, v, ls⟩).length = bs.length + (putB ⟨0, 4, n, v, ls⟩).length) := hid (List.length_append ..)
        clear hS8 hS9
        go_wp2_with fail
        refine (Same_q _ (bs ++ putB ⟨0, 4, n, v, ls⟩) _ _ _ (bs ++ putB ⟨0, 4, n, v, ls⟩) _ _ _ _ _ HLN.out HLN.out HS9.out HS8.out (by have := HLEN.out; have := HPL.out; omega)).mono ?_
        rintro e w9 ⟨rfl, q9, rfl⟩
        rw [show ((bs ++ putB ⟨0, 4, n, v, ls⟩) == (bs ++ putB ⟨0, 4, n, v, ls⟩)) = true from beq_self_eq_true _]
        go_wp2
        have hk := HK.out
        go_roundg (l.length - k - 1)
        case measure => omega
        case rel => exact ⟨k + 1, A3, c3, A8, c8, by omega, by go_num, by rw [HBS.out, HLN.out], by rw [HBS.out, HLN.out], by rw [HBS.out]; exact HS9.out, by rw [HBS.out]; exact HS8.out, HEND.out _⟩
      · have hfx := F2.out (.inr (.inr (.inr rfl)))
        rw [hfx] at HPUT HREF HBS HPL
        simp only [itV] at HPUT HREF
        clear F1 F2 F3 hfx
        have hLb1 := (HLB.out.alloc (Nat.le_refl _) (.cells #[.int .i64 0, .int .i64 8, .int .u64 (n : Int), .slice A1 v.length c1, .slice A2 ls.length c2] 29)).more (B' := wr.heap.size + 1) (by omega)
        go_wp2_with fail
        refine (HPUT.out _ (by simpa using hLb1) ((HV.out.alloc (Nat.le_refl _) _).more (by simp)) ((HLS.out.below ((Below.refl _ _).alloc (Nat.le_refl _) _)).more (by simp))).mono ?_
        rintro e w3 ⟨v3, rfl, ho3, hb3⟩
        obtain ⟨A3, c3, rfl, hS3⟩ := own_sl ho3
        have hX : w3.heap[wr.heap.size]? = some (.cells #[.int .i64 0, .int .i64 8, .int .u64 (n : Int), .slice A1 v.length c1, .slice A2 ls.length c2] 29 (0, 0)) := (hb3.block _ (by simp)).trans (blk_new' rfl _ _)
        have hXlt := block_lt hX
        have HSS : Hid (∀ w', Below w3.heap.size w3 w' → (Below w3.heap.size w3 w' ∧ w'.cell? ⟨wr.heap.size, 0, none⟩ = some (.int .i64 0) ∧ w'.cell? ⟨wr.heap.size, 1, none⟩ = some (.int .i64 8) ∧ w'.cell? ⟨wr.heap.size, 2, none⟩ = some (.int .u64 (n : Int)) ∧ w'.cell? ⟨wr.heap.size, 3, none⟩ = some (.slice A1 v.length c1) ∧ w'.cell? ⟨wr.heap.size, 4, none⟩ = some (.slice A2 ls.length c2))) := hid (fun w' hB => by
            have hX' : w'.heap[wr.heap.size]? = _ := (hB.block _ hXlt).trans hX
            exact ⟨hB, cell_of hX' 0 _ rfl, cell_of hX' 1 _ rfl, cell_of hX' 2 _ rfl, cell_of hX' 3 _ rfl, cell_of hX' 4 _ rfl⟩)
        have hBw : Below wr.heap.size wr w3 := ((Below.refl _ _).alloc (Nat.le_refl _) _).trans (hb3.mono (by simp))
        have hz4 : wr.heap.size ≤ w3.heap.size := hBw.size
        have HLW3 := hid ((HLW.out.below hBw).more hz4)
        have HV3 := hid ((HV.out.below hBw).more hz4)
        have HLS3 := hid ((HLS.out.below hBw).more hz4)
        have HB3 := hid ho3
        have HBW := hid hBw
        clear hb3 hX hXlt hS3 ho3 hBw
        go_wp2_with fail
        go_region_held3 (fun w' => Below w3.heap.size w3 w' ∧ w'.cell? ⟨wr.heap.size, 0, none⟩ = some (.int .i64 0) ∧ w'.cell? ⟨wr.heap.size, 1, none⟩ = some (.int .i64 8) ∧ w'.cell? ⟨wr.heap.size, 2, none⟩ = some (.int .u64 (n : Int)) ∧ w'.cell? ⟨wr.heap.size, 3, none⟩ = some (.slice A1 v.length c1) ∧ w'.cell? ⟨wr.heap.size, 4, none⟩ = some (.slice A2 ls.length c2))
          (first | (exact HSS.out _ (Below.drew (Below.refl _ _))) | (exact HSS.out _ (Below.drew (Below.alloc (Below.refl _ _) (Nat.le_refl _) _))) | (exact HSS.out _ hB5) | (exact HSS.out _ hB6) | (exact HSS.out _ hB7))
          ((first
            | (refine step_append_lie (by rfl) (.tmp 61) (.tmp 62) _ (by rfl) w3.heap.size 5 (.int .u8 0) 1 Try.underlying22 infoU8 rfl (by rfl) (World.ownsRow.drew (ownsRow_empty _ _ (k := w3.heap.size) rfl (Nat.le_refl _))) (bvs_length bs) (by rfl) ((HLW3.out.alloc (Nat.le_refl _) _).drew) (bvs_one bs) (by have := HLEN.out; unfold maxLen; omega) (by have := HLEN.out; omega) (by simp) ?_; intro v5 w5 hown5 hg5 hat5; have hB5 : Below w3.heap.size w3 w5 := (((Below.refl _ _).alloc (Nat.le_refl _) _).drew).grown hg5 (by simp) (by intro q hq; simp [Value.ownBlock] at hq; omega))
            | (go_at_call 9; refine (HREF.out w5 ((HV3.out.below hB5).more hB5.size) ((HLS3.out.below hB5).more hB5.size)).mono ?_; intro e w6 hp6; unfold RefPost at hp6; obtain ⟨A6, c6, rfl, hL6, hg6⟩ := hp6; have hB6 : Below w3.heap.size w3 w6 := hB5.grown hg6 hB5.size (fun _ h => by cases h))
            | (refine step_append_lie (by rfl) (.tmp 63) (.tmp 65) _ (by rfl) w3.heap.size 5 (.int .u8 0) 1 Try.underlying22 infoU8 rfl (by rfl) (World.ownsRow.kept hown5 hg6 (by cases hv : v5.ownBlock <;> simp)) (bvs_length _) (by rfl) hL6 (bvs_one _) (by have := HLEN.out; have := HPL.out; unfold maxLen; omega) (by have := HLEN.out; have := HPL.out; omega) hB6.size ?_; intro v7 w7 hown7 hg7 hat7; have hB7 : Below w3.heap.size w3 w7 := hB6.grown hg7 hB6.size (own_lt hown5))))
        have ho7 : OwnB w7 w3.heap.size v7 (bs ++ putB ⟨0, 8, n, v, ls⟩) := by simpa [OwnB, bvs_append] using hown7
        have HO7 := hid ho7; have HB7 := hid hB7
        clear hown5 hg5 hat5 hL6 hg6 hown7 hg7 hat7 ho7 hB5 hB6 hB7
        obtain ⟨A8, c8, rfl, hS8⟩ := own_sl HO7.out
        obtain ⟨A9, c9, hA9, hS9⟩ := own_sl HB3.out
        simp only [Value.slice.injEq, true_and] at hA9
        obtain ⟨rfl, rfl⟩ := hA9
        have HS8 := hid hS8.lie; have HS9 := hid ((hS9.lie.below HB7.out).more HB7.out.size)
        have HEND : Hid (∀ q : Nat, Below w2.heap.size w2 (w7.drewN q)) := hid (fun q => by
          have h := HB.out.trans ((HBW.out.mono hz3).trans (HB7.out.mono (Nat.le_trans hz3 hz4)))
          exact ⟨h.os, h.tape, h.output, h.size, h.block⟩)
        have HLN : Hid ((bs ++ putB ⟨0, 8, n, v, ls⟩).length = bs.length + (putB ⟨0, 8, n, v, ls⟩).length) := hid (List.length_append ..)
        clear hS8 hS9
        go_wp2_with fail
        refine (Same_q _ (bs ++ putB ⟨0, 8, n, v, ls⟩) _ _ _ (bs ++ putB ⟨0, 8, n, v, ls⟩) _ _ _ _ _ HLN.out HLN.out HS9.out HS8.out (by have := HLEN.out; have := HPL.out; omega)).mono ?_
        rintro e w9 ⟨rfl, q9, rfl⟩
        rw [show ((bs ++ putB ⟨0, 8, n, v, ls⟩) == (bs ++ putB ⟨0, 8, n, v, ls⟩)) = true from beq_self_eq_true _]
        go_wp2
        have hk := HK.out
        go_roundg (l.length - k - 1)
        case measure => omega
        case rel => exact ⟨k + 1, A3, c3, A8, c8, by omega, by go_num, by rw [HBS.out, HLN.out], by rw [HBS.out, HLN.out], by rw [HBS.out]; exact HS9.out, by rw [HBS.out]; exact HS8.out, HEND.out _⟩
      · have hfx := F3.out rfl ⟨q1, q2, q4, q8⟩
        rw [hfx] at HPUT HREF HBS HPL
        simp only [itV] at HPUT HREF
        clear F1 F2 F3 hfx
        have hLb1 := (HLB.out.alloc (Nat.le_refl _) (.cells #[.int .i64 0, .int .i64 0, .int .u64 (n : Int), .slice A1 v.length c1, .slice A2 ls.length c2] 29)).more (B' := wr.heap.size + 1) (by omega)
        go_wp2_with fail
        refine (HPUT.out _ (by simpa using hLb1) ((HV.out.alloc (Nat.le_refl _) _).more (by simp)) ((HLS.out.below ((Below.refl _ _).alloc (Nat.le_refl _) _)).more (by simp))).mono ?_
        rintro e w3 ⟨v3, rfl, ho3, hb3⟩
        obtain ⟨A3, c3, rfl, hS3⟩ := own_sl ho3
        have hX : w3.heap[wr.heap.size]? = some (.cells #[.int .i64 0, .int .i64 0, .int .u64 (n : Int), .slice A1 v.length c1, .slice A2 ls.length c2] 29 (0, 0)) := (hb3.block _ (by simp)).trans (blk_new' rfl _ _)
        have hXlt := block_lt hX
        have HSS : Hid (∀ w', Below w3.heap.size w3 w' → (Below w3.heap.size w3 w' ∧ w'.cell? ⟨wr.heap.size, 0, none⟩ = some (.int .i64 0) ∧ w'.cell? ⟨wr.heap.size, 1, none⟩ = some (.int .i64 0) ∧ w'.cell? ⟨wr.heap.size, 2, none⟩ = some (.int .u64 (n : Int)) ∧ w'.cell? ⟨wr.heap.size, 3, none⟩ = some (.slice A1 v.length c1) ∧ w'.cell? ⟨wr.heap.size, 4, none⟩ = some (.slice A2 ls.length c2))) := hid (fun w' hB => by
            have hX' : w'.heap[wr.heap.size]? = _ := (hB.block _ hXlt).trans hX
            exact ⟨hB, cell_of hX' 0 _ rfl, cell_of hX' 1 _ rfl, cell_of hX' 2 _ rfl, cell_of hX' 3 _ rfl, cell_of hX' 4 _ rfl⟩)
        have hBw : Below wr.heap.size wr w3 := ((Below.refl _ _).alloc (Nat.le_refl _) _).trans (hb3.mono (by simp))
        have hz4 : wr.heap.size ≤ w3.heap.size := hBw.size
        have HLW3 := hid ((HLW.out.below hBw).more hz4)
        have HV3 := hid ((HV.out.below hBw).more hz4)
        have HLS3 := hid ((HLS.out.below hBw).more hz4)
        have HB3 := hid ho3
        have HBW := hid hBw
        clear hb3 hX hXlt hS3 ho3 hBw
        go_wp2_with fail
        go_region_held3 (fun w' => Below w3.heap.size w3 w' ∧ w'.cell? ⟨wr.heap.size, 0, none⟩ = some (.int .i64 0) ∧ w'.cell? ⟨wr.heap.size, 1, none⟩ = some (.int .i64 0) ∧ w'.cell? ⟨wr.heap.size, 2, none⟩ = some (.int .u64 (n : Int)) ∧ w'.cell? ⟨wr.heap.size, 3, none⟩ = some (.slice A1 v.length c1) ∧ w'.cell? ⟨wr.heap.size, 4, none⟩ = some (.slice A2 ls.length c2))
          (first | (exact HSS.out _ (Below.drew (Below.refl _ _))) | (exact HSS.out _ (Below.drew (Below.alloc (Below.refl _ _) (Nat.le_refl _) _))) | (exact HSS.out _ hB5) | (exact HSS.out _ hB6) | (exact HSS.out _ hB7))
          ((first
            | (refine step_append_lie (by rfl) (.tmp 61) (.tmp 62) _ (by rfl) w3.heap.size 5 (.int .u8 0) 1 Try.underlying22 infoU8 rfl (by rfl) (World.ownsRow.drew (ownsRow_empty _ _ (k := w3.heap.size) rfl (Nat.le_refl _))) (bvs_length bs) (by rfl) ((HLW3.out.alloc (Nat.le_refl _) _).drew) (bvs_one bs) (by have := HLEN.out; unfold maxLen; omega) (by have := HLEN.out; omega) (by simp) ?_; intro v5 w5 hown5 hg5 hat5; have hB5 : Below w3.heap.size w3 w5 := (((Below.refl _ _).alloc (Nat.le_refl _) _).drew).grown hg5 (by simp) (by intro q hq; simp [Value.ownBlock] at hq; omega))
            | (go_at_call 9; refine (HREF.out w5 ((HV3.out.below hB5).more hB5.size) ((HLS3.out.below hB5).more hB5.size)).mono ?_; intro e w6 hp6; unfold RefPost at hp6; obtain ⟨A6, c6, rfl, hL6, hg6⟩ := hp6; have hB6 : Below w3.heap.size w3 w6 := hB5.grown hg6 hB5.size (fun _ h => by cases h))
            | (refine step_append_lie (by rfl) (.tmp 63) (.tmp 65) _ (by rfl) w3.heap.size 5 (.int .u8 0) 1 Try.underlying22 infoU8 rfl (by rfl) (World.ownsRow.kept hown5 hg6 (by cases hv : v5.ownBlock <;> simp)) (bvs_length _) (by rfl) hL6 (bvs_one _) (by have := HLEN.out; have := HPL.out; unfold maxLen; omega) (by have := HLEN.out; have := HPL.out; omega) hB6.size ?_; intro v7 w7 hown7 hg7 hat7; have hB7 : Below w3.heap.size w3 w7 := hB6.grown hg7 hB6.size (own_lt hown5))))
        have ho7 : OwnB w7 w3.heap.size v7 (bs ++ putB ⟨0, 0, n, v, ls⟩) := by simpa [OwnB, bvs_append] using hown7
        have HO7 := hid ho7; have HB7 := hid hB7
        clear hown5 hg5 hat5 hL6 hg6 hown7 hg7 hat7 ho7 hB5 hB6 hB7
        obtain ⟨A8, c8, rfl, hS8⟩ := own_sl HO7.out
        obtain ⟨A9, c9, hA9, hS9⟩ := own_sl HB3.out
        simp only [Value.slice.injEq, true_and] at hA9
        obtain ⟨rfl, rfl⟩ := hA9
        have HS8 := hid hS8.lie; have HS9 := hid ((hS9.lie.below HB7.out).more HB7.out.size)
        have HEND : Hid (∀ q : Nat, Below w2.heap.size w2 (w7.drewN q)) := hid (fun q => by
          have h := HB.out.trans ((HBW.out.mono hz3).trans (HB7.out.mono (Nat.le_trans hz3 hz4)))
          exact ⟨h.os, h.tape, h.output, h.size, h.block⟩)
        have HLN : Hid ((bs ++ putB ⟨0, 0, n, v, ls⟩).length = bs.length + (putB ⟨0, 0, n, v, ls⟩).length) := hid (List.length_append ..)
        clear hS8 hS9
        go_wp2_with fail
        refine (Same_q _ (bs ++ putB ⟨0, 0, n, v, ls⟩) _ _ _ (bs ++ putB ⟨0, 0, n, v, ls⟩) _ _ _ _ _ HLN.out HLN.out HS9.out HS8.out (by have := HLEN.out; have := HPL.out; omega)).mono ?_
        rintro e w9 ⟨rfl, q9, rfl⟩
        rw [show ((bs ++ putB ⟨0, 0, n, v, ls⟩) == (bs ++ putB ⟨0, 0, n, v, ls⟩)) = true from beq_self_eq_true _]
        go_wp2
        have hk := HK.out
        go_roundg (l.length - k - 1)
        case measure => omega
        case rel => exact ⟨k + 1, A3, c3, A8, c8, by omega, by go_num, by rw [HBS.out, HLN.out], by rw [HBS.out, HLN.out], by rw [HBS.out]; exact HS9.out, by rw [HBS.out]; exact HS8.out, HEND.out _⟩
    · have hk := HK.out
      obtain rfl : k = l.length := by omega
      clear hk
      go_wp2_with fail
      refine (Same_any A ahead c Aw0 ahead cw0 _ _ _ (HA2.out.below HB.out) (HW.out.below HB.out) (by omega)).mono ?_
      rintro e w9 ⟨rfl, q9, rfl⟩
      rw [show (ahead == ahead) = true from beq_self_eq_true _]
      go_wp2
      go_ret
      have h := HB2.out.trans (HB.out.mono hz2)
      exact ⟨rfl, ⟨h.os, h.tape, h.output, h.size, h.block⟩⟩
end Go.Proofs.Ytkdpaaaleicopaa
