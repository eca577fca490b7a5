/-
  The statement ShaStays: the walk.
-/
import Derived.Test.YtihgolnkdepkmaaDoorLaw02b
namespace Go.Proofs.YtihgolnkdepkmaaDoor
open Go.RowKit
set_option linter.unusedVariables false
set_option linter.unusedSimpArgs false

theorem empty_row (W : World) (e : TypeId) {k base : Nat} (h : W.heap.size = k) (hb : base ≤ k) : (W.alloc (.cells #[] e)).ownsRow base e 1 (.slice (some ⟨k, 0, none⟩) 0 0) 0 [] := by
  subst h
  exact World.ownsRow_lit W #[] 0 hb (by simp) rfl
/-- A new row of byte slices. -/
theorem rows_new (w : World) (l : List (Option Addr × List UInt8 × Nat)) (h : ∀ p ∈ l, Sq w w.heap.size p.1 p.2.2 (bvs p.2.1)) (t : TypeId) :
    Rows2' (w.alloc (.cells (l.map fun p => Value.slice p.1 p.2.1.length p.2.2).toArray t)) (w.heap.size + 1) (some ⟨w.heap.size, 0, none⟩) (l.map fun p => p.2.1) := by
  refine ⟨l.map fun p => Value.slice p.1 p.2.1.length p.2.2, by simp, ?_, fun j x hx => ?_⟩
  · have := Lie.newA w (l.map fun p => Value.slice p.1 p.2.1.length p.2.2).toArray t
    simpa using this
  · rw [List.getElem?_map] at hx
    obtain ⟨p, hp, rfl⟩ := Option.map_eq_some_iff.1 hx
    refine ⟨p.1, p.2.2, by simp [hp], ((h p (List.mem_of_getElem? hp)).alloc (Nat.le_refl _) _).more (by omega)⟩
theorem own_dg {w : World} {B : Nat} {v : Value} {xs : List UInt8} (h : OwnB w B v xs) : ∃ A c, v = .slice A xs.length c ∧ Sq w w.heap.size A c (bvs xs) ∧ (∀ b o sp, A = some ⟨b, o, sp⟩ → B ≤ b ∧ b < w.heap.size) := by
  rcases h.2 with ⟨rfl, h0⟩ | ⟨g, cap, cur, rfl, hb, hg, h1, h2, h3, h4⟩
  · obtain ⟨A, c, he, hS⟩ := own_sl h
    exact ⟨A, c, he, hS.sq, fun b o sp e => by rw [e] at he; simp at he⟩
  · obtain ⟨A, c, he, hS⟩ := own_sl h
    refine ⟨A, c, he, hS.sq, fun b o sp e => ?_⟩
    rw [e] at he
    simp only [Value.slice.injEq, Option.some.injEq, Addr.mk.injEq] at he
    exact ⟨by rw [← he.1.1]; exact hb, by rw [← he.1.1]; exact block_lt hg⟩

/-- The digest of parts that stand in a new row. -/
theorem ofs_any (l : List (Option Addr × List UInt8 × Nat)) (w : World) (h : ∀ p ∈ l, Sq w w.heap.size p.1 p.2.2 (bvs p.2.1)) (hG : Glob w) (hn : (l.map fun p => p.2.1).flatten.length ≤ 1152921504606846976) (hl : l.length ≤ 9223372036854775807) :
    Calls Tryd.prog 15 #[.slice (some ⟨w.heap.size, 0, none⟩) l.length l.length] (w.alloc (.cells (l.map fun p => Value.slice p.1 p.2.1.length p.2.2).toArray 22)) (fun e W' => ∃ b, e = .returned (.slice (some ⟨b, 0, none⟩) 32 32) ∧ W'.heap[b]? = some (.cells (byA (shaB (l.map fun p => p.2.1).flatten)) A32 (0, 0)) ∧ w.heap.size < b ∧ Below w.heap.size w W') := by
  have hr := rows_new w l h 22
  have hb : Below w.heap.size w (w.alloc (.cells (l.map fun p => Value.slice p.1 p.2.1.length p.2.2).toArray 22)) := (Below.refl _ _).alloc (Nat.le_refl _) _
  have h1 := Of_any (some ⟨w.heap.size, 0, none⟩) (l.map fun p => p.2.1) l.length (w.alloc (.cells (l.map fun p => Value.slice p.1 p.2.1.length p.2.2).toArray 22)) (by simpa using hr) (hG.below hb (Nat.le_refl _)) hn (by simpa using hl)
  rw [List.length_map] at h1
  exact h1.mono fun e W' ⟨v, he, ⟨b, hv, hbk, hbz, _⟩, hB⟩ => ⟨b, by rw [he, hv], hbk, by rw [World.size_alloc] at hbz; omega, hb.trans (hB.mono (by simp))⟩

set_option maxRecDepth 100000 in
set_option maxHeartbeats 1600000 in
theorem stays_any (A : Option Addr) (a : List UInt8) (c : Nat) (A' : Option Addr) (b : List UInt8) (c' : Nat) (t : Int) (w : World) (hA : Sq w w.heap.size A c (bvs a)) (hA' : Sq w w.heap.size A' c' (bvs b)) (ht0 : 0 ≤ t) (ht1 : t ≤ 65535) (hG : Glob w) :
    Calls Tryd.prog 5 #[.slice A a.length c, .slice A' b.length c', .int .u16 t] w fun e w' => e = .returned (.bool true) ∧ Below w.heap.size w w' := by
  have hc1 := hA.cap; have hc2 := hA'.cap
  rw [bvs_length] at hc1 hc2
  obtain ⟨hc1, hc1'⟩ := hc1; obtain ⟨hc2, hc2'⟩ := hc2
  have HA := hid hA; have HA' := hid hA'; have HG := hid hG
  clear hA hA' hG
  by_cases h1 : 300 < a.length
  · have hx : (300 : Int) < (a.length : Int) := by omega
    go_enter Tryd.func5, Tryd.ntmps5
    go_wp2_with fail
    refine (alive_any _ HG.out).mono ?_
    rintro e w1 ⟨rfl, hb1⟩
    go_wp2
    go_ret
    exact ⟨rfl, hb1⟩
  have hx1 : ¬ (300 : Int) < (a.length : Int) := by omega
  have hx1' : decide ((300 : Int) < (a.length : Int)) = false := by simpa using hx1
  by_cases h2 : 300 < b.length
  · have hx : (300 : Int) < (b.length : Int) := by omega
    go_enter Tryd.func5, Tryd.ntmps5
    go_wp2_with fail
    refine (alive_any _ HG.out).mono ?_
    rintro e w1 ⟨rfl, hb1⟩
    go_wp2
    go_ret
    exact ⟨rfl, hb1⟩
  have hx2 : ¬ (300 : Int) < (b.length : Int) := by omega
  have hx2' : decide ((300 : Int) < (b.length : Int)) = false := by simpa using hx2
  go_enter Tryd.func5, Tryd.ntmps5
  go_wp2_with fail
  refine (alive_any _ HG.out).mono ?_
  rintro e w1 ⟨rfl, hb1⟩
  have hw1 := hb1.size
  have hAl1 : Lie (w1.alloc (.cells #[] 5)) w.heap.size A (bvs a) := (HA.out.lie.below hb1).alloc hw1 _
  have HAL1 := hid hAl1; have HB1 := hid hb1
  clear hAl1 hb1
  go_wp2_with (at_builtin; refine wpList_append_lie rfl _ _ 22 rfl w1.heap.size 5 (.int .u8 0) 1 Tryd.underlying22 infoU8 rfl rfl (empty_row _ _ (k := w1.heap.size) rfl (Nat.le_refl _)) (bvs_length a) rfl HAL1.out (bvs_one a) ?d1 ?d2 ?d3 ?_)
  case d1 => unfold maxLen; omega
  case d2 => omega
  case d3 => simp
  intro v2 w2 hown2 hg2 hat2
  have hO2 : OwnB w2 w1.heap.size v2 a := by simpa [OwnB] using hown2
  have hB2 : Below w.heap.size w w2 := (HB1.out.alloc hw1 _).grown hg2 (by simp; omega) (fun q h => by simp [Value.ownBlock] at h; omega)
  have hw2 : w1.heap.size < w2.heap.size := Nat.lt_of_lt_of_le (by simp) hg2.size
  have hAl2 : Lie (w2.alloc (.cells #[] 5)) w.heap.size A (bvs a) := (HA.out.lie.below hB2).alloc (by omega) _
  have HAL2 := hid hAl2; have HB2 := hid hB2; have HO2 := hid hO2
  clear hAl2 hB2 hO2 hown2 hg2 hat2
  go_wp2_with (at_builtin; refine wpList_append_lie rfl _ _ 22 rfl w2.heap.size 5 (.int .u8 0) 1 Tryd.underlying22 infoU8 rfl rfl (empty_row _ _ (k := w2.heap.size) rfl (Nat.le_refl _)) (bvs_length a) rfl HAL2.out (bvs_one a) ?d1 ?d2 ?d3 ?_)
  case d1 => unfold maxLen; omega
  case d2 => omega
  case d3 => simp
  intro v3 w3 hown3 hg3 hat3
  have hO3 : OwnB w3 w2.heap.size v3 a := by simpa [OwnB] using hown3
  have hB3 : Below w2.heap.size w2 w3 := ((Below.refl _ _).alloc (Nat.le_refl _) _).grown hg3 (by simp) (fun q h => by simp [Value.ownBlock] at h; omega)
  obtain ⟨Ax, cx, rfl, hSx, hbx⟩ := own_dg hO3
  have hw3 : w2.heap.size < w3.heap.size := Nat.lt_of_lt_of_le (by simp) hg3.size
  have HB3 := hid (HB2.out.trans (hB3.mono (by omega)))
  have HO23 : Hid (OwnB w3 w1.heap.size v2 a ∧ ∀ q, v2.ownBlock = some q → q < w2.heap.size) := hid ⟨World.ownsRow.kept HO2.out (grown_of_below hB3) (Classical.em _), fun q h => by
    obtain ⟨A2, c2, rfl, _, hb⟩ := own_dg HO2.out
    rcases A2 with _ | ⟨x, o, sp⟩
    · simp [Value.ownBlock] at h
    · simp [Value.ownBlock] at h
      rw [← h]; exact (hb x o sp rfl).2⟩
  have HO3 := hid hO3; have HSX := hid hSx; have HBX := hid hbx
  clear hO3 hB3 hSx hbx hown3 hg3 hat3 HO2
  go_wp2_with fail
  refine (New_any w3).mono ?_
  rintro e w4 ⟨rfl, hH4, hz4, hb4⟩
  have hO4 : OwnB w4 w2.heap.size (.slice Ax a.length cx) a := World.ownsRow.kept HO3.out (grown_of_below hb4) (Classical.em _)
  have hO24 : OwnB w4 w1.heap.size v2 a := World.ownsRow.kept HO23.out.1 (grown_of_below hb4) (Classical.em _)
  have hB4 : Below w.heap.size w w4 := HB3.out.trans (hb4.mono (by omega))
  have hSx4 : Sq w4 w3.heap.size Ax cx (bvs a) := HSX.out.below hb4
  have HW := hid (Write_any w3.heap.size [] a Ax cx w4 hH4 (HG.out.below hB4 (Nat.le_refl _)) (HG.out.notGlob (by omega)) (by simp; omega) (hSx4.more (by omega)) (hSx4.notIn (Nat.le_refl _)))
  rw [List.nil_append] at HW
  have HO4 := hid hO4; have HO24 := hid hO24; have HB4 := hid hB4
  clear hH4 hb4 hO4 hO24 hB4 hSx4 HSX HO3 HB3
  generalize w3.heap.size = g at *
  go_wp2_with fail
  refine HW.out.mono ?_
  rintro e w5 ⟨rfl, hH5, hg5⟩
  have hgw : w2.heap.size < g := hw3
  have hO5 : OwnB w5 w2.heap.size (.slice Ax a.length cx) a ∧ ∀ q, (Value.slice Ax a.length cx).ownBlock = some q → q < g := ⟨World.ownsRow.kept HO4.out hg5 (by
    rcases Ax with _ | ⟨x, o, sp⟩
    · exact .inl rfl
    · refine .inr ?_
      have := (HBX.out x o sp rfl).2
      simp [Value.ownBlock]; omega), fun q h => by
    rcases Ax with _ | ⟨x, o, sp⟩
    · simp [Value.ownBlock] at h
    · simp [Value.ownBlock] at h
      have := (HBX.out x o sp rfl).2
      omega⟩
  have hO25 : OwnB w5 w1.heap.size v2 a := World.ownsRow.kept HO24.out hg5 (.inr (fun h => by have := HO23.out.2 g h; omega))
  have hB5 : Below w.heap.size w w5 := HB4.out.grown hg5 (by omega) (fun q h => by injection h with h; omega)
  have hz5 : g < w5.heap.size := hH5.lt
  have HS := hid (HSum_any g a w5 hH5 (HG.out.below hB5 (Nat.le_refl _)) (by omega))
  have HH5 := hid hH5; have HO5 := hid hO5; have HO25 := hid hO25; have HB5 := hid hB5
  clear hH5 hg5 hO5 hO25 hB5 HO4 HO24
  go_wp2_with fail
  refine HS.out.mono ?_
  rintro e w6 ⟨v6, rfl, ⟨b1, rfl, hbk6, hbz6, hl6⟩, hb6⟩
  have hbl6 := block_lt hbk6
  have HH6 := hid (HH5.out.keep (hb6.block g hz5))
  have HO6 : Hid (OwnB w6 w2.heap.size (.slice Ax a.length cx) a) := hid (World.ownsRow.kept HO5.out.1 (grown_of_below hb6) (Classical.em _))
  have HO26 : Hid (OwnB w6 w1.heap.size v2 a) := hid (World.ownsRow.kept HO25.out (grown_of_below hb6) (Classical.em _))
  have HB6 := hid (HB5.out.trans (hb6.mono (by omega)))
  have HK6 := hid hbk6
  have hb1g : g < b1 := by omega
  clear hb6 hbk6
  go_wp2
  have hxg : ∀ q, (Value.slice Ax a.length cx).ownBlock = some q → w2.heap.size ≤ q ∧ q < g := fun q h => ⟨own_lt HO6.out q h, HO5.out.2 q h⟩
  have HXG := hid hxg
  clear hxg
  go_loopg [11] a.length (fun r i wr => ∃ (k : Nat) (zs : List UInt8), k + r = a.length ∧ i = .int .i64 (k : Int) ∧ zs.length = a.length ∧ wr.ownsRow w2.heap.size 5 1 (.slice Ax a.length cx) a.length (bvs zs) ∧ w6.grownBy wr (Value.slice Ax a.length cx).ownBlock)
  case atStart => exact ⟨0, a, by omega, rfl, rfl, HO6.out, World.grownBy.refl _ _⟩
  case round =>
    obtain ⟨k, zs, hk, rfl, hzl, ho, hg⟩ := hrel
    have HK := hid hk; have HZL := hid hzl; have HGR := hid hg
    by_cases hlt : k < a.length
    · obtain ⟨bx, cap, he, hbx1, hbx2⟩ := ho.form (by omega)
      simp only [Value.slice.injEq, true_and] at he
      obtain ⟨rfl, rfl⟩ := he
      have hkx : (k : Int) < (a.length : Int) := by omega
      have hk0 : (0 : Int) ≤ (k : Int) := by omega
      obtain ⟨z, hcell⟩ : ∃ z : Nat, wr.cell? ⟨bx, k, none⟩ = some (.int .u8 (z : Int)) := by
        rw [ho.cellAt k (by omega), List.getElem?_eq_getElem (by rw [bvs_length]; omega), bvs_get]
        exact ⟨_, rfl⟩
      have hfz := ho.frozenAt k
      have hst := ho.stored k (.int .u8 (t % 256))
      have hset : (bvs zs).set k (.int .u8 (t % 256)) = bvs (zs.set k (UInt8.ofNat t.toNat)) := by
        have e : t % 256 = (((UInt8.ofNat t.toNat).toNat : Nat) : Int) := by rw [ofNat_val]; omega
        rw [e, bvs, bvs, List.map_set]
      rw [hset] at hst
      have HST := hid hst
      clear hk hzl hg ho hst hset
      go_wp2
      have hk := HK.out
      go_roundg (a.length - k - 1)
      case measure => omega
      case rel => exact ⟨k + 1, zs.set k (UInt8.ofNat t.toNat), by omega, by go_num, by rw [List.length_set]; exact HZL.out, HST.out.1, grown_step HGR.out (.inl rfl) HST.out.2⟩
    · obtain rfl : k = a.length := by omega
      have hgne : ∀ q, g ≤ q → some q ≠ (Value.slice Ax a.length cx).ownBlock := fun q hq h => by have := (HXG.out q h.symm).2; omega
      have hg6 : g < w6.heap.size := HH6.out.lt
      have hH7 : HashIs wr g a := HH6.out.keep (hg.block g hg6 (hgne g (Nat.le_refl _)))
      have hK7 : wr.heap[b1]? = some (.cells (byA (shaB a)) A32 (0, 0)) := (hg.block b1 hbl6 (hgne b1 (by omega))).trans HK6.out
      have hB7 : Below w.heap.size w wr := HB6.out.grown hg (by have := HB6.out.size; omega) (fun q h => by have := (HXG.out q h).1; omega)
      have hO27 : OwnB wr w1.heap.size v2 a := World.ownsRow.kept HO26.out hg (by
        rcases hv : v2.ownBlock with _ | q
        · exact .inl rfl
        · refine .inr (fun h => ?_)
          have h1 := HO23.out.2 q hv
          have h2 := (HXG.out q h.symm).1
          omega)
      have hz7 : g < wr.heap.size := hH7.lt
      have hb17 : b1 < wr.heap.size := block_lt hK7
      have HS7 := hid (HSum_any g a wr hH7 (HG.out.below hB7 (Nat.le_refl _)) (by omega))
      have HH7 := hid hH7; have HK7 := hid hK7; have HB7 := hid hB7; have HO27 := hid hO27
      clear hk hzl hg ho hgne hH7 hK7 hB7 hO27 HK HZL HGR HO6 HO26 HB6 HK6 HH6 HO5 HO25
      go_wp2_with fail
      refine HS7.out.mono ?_
      rintro e w8 ⟨v8, rfl, ⟨b2, rfl, hbk8, hbz8, hl8⟩, hb8⟩
      have HB8 := hid (HB7.out.trans (hb8.mono (by have := HB7.out.size; omega)))
      have HO28 : Hid (OwnB w8 w1.heap.size v2 a) := hid (World.ownsRow.kept HO27.out (grown_of_below hb8) (Classical.em _))
      have HH8 := hid (HH7.out.keep (hb8.block g hz7))
      have HK8 : Hid (w8.heap[b1]? = some (.cells (byA (shaB a)) A32 (0, 0))) := hid ((hb8.block b1 hb17).trans HK7.out)
      have hz8 : wr.heap.size ≤ w8.heap.size := hb8.size
      have HC8 := hid (Same_32 (some ⟨b1, 0, none⟩) (shaB a) 32 (some ⟨b2, 0, none⟩) (shaB a) 32 w8 w8.heap.size w8.heap.size 32 (lie_block HK8.out) (lie_block hbk8) hl8 hl8 (by omega))
      rw [show (shaB a == shaB a) = true from beq_self_eq_true _] at HC8
      have h32 : ((32 : Int) != 32) = false := rfl
      clear hb8 hbk8 HH7 HK7 HB7 HO27
      go_wp2_with fail
      refine HC8.out.mono ?_
      rintro e w9 ⟨rfl, n9, rfl⟩
      have HB10 : Hid (Below w.heap.size w (w8.drewN n9)) := hid (below_drewN HB8.out n9)
      have HO210 : Hid (OwnB (w8.drewN n9) w1.heap.size v2 a) := hid (World.ownsRow.kept HO28.out (grown_of_below (below_drewN (Below.refl _ w8) n9)) (Classical.em _))
      have HH10 : Hid (HashIs (w8.drewN n9) g a) := hid (HH8.out.keep rfl)
      have HK10 : Hid ((w8.drewN n9).heap[b1]? = some (.cells (byA (shaB a)) A32 (0, 0))) := HK8
      have hz10 : wr.heap.size ≤ (w8.drewN n9).heap.size := hz8
      clear HB8 HO28 HH8 HK8 HC8
      generalize w8.drewN n9 = w10 at *
      have hww : w.heap.size ≤ w10.heap.size := HB10.out.size
      have HOFA := hid (ofs_any [(A, a, c)] w10 (by
        intro p hp
        simp at hp
        subst hp
        exact (HA.out.below HB10.out).more hww) (HG.out.below HB10.out (Nat.le_refl _)) (by simp; omega) (by simp))
      simp only [List.map_cons, List.map_nil, List.flatten_cons, List.flatten_nil, List.append_nil, List.length_cons, List.length_nil] at HOFA
      go_wp2_with fail
      refine HOFA.out.mono ?_
      rintro e w11 ⟨b3, rfl, hbk11, hbz11, hb11⟩
      have hb1z : b1 < w10.heap.size := by omega
      have HB11 := hid (HB10.out.trans (hb11.mono hww))
      have HO211 : Hid (OwnB w11 w1.heap.size v2 a) := hid (World.ownsRow.kept HO210.out (grown_of_below hb11) (Classical.em _))
      have HH11 := hid (HH10.out.keep (hb11.block g (by omega)))
      have HK11 : Hid (w11.heap[b1]? = some (.cells (byA (shaB a)) A32 (0, 0))) := hid ((hb11.block b1 hb1z).trans HK10.out)
      have hz11 : w10.heap.size ≤ w11.heap.size := hb11.size
      have HC11 := hid (Same_32 (some ⟨b1, 0, none⟩) (shaB a) 32 (some ⟨b3, 0, none⟩) (shaB a) 32 w11 w11.heap.size w11.heap.size 32 (lie_block HK11.out) (lie_block hbk11) (shaB_length _) (shaB_length _) (by omega))
      rw [show (shaB a == shaB a) = true from beq_self_eq_true _] at HC11
      clear hb11 hbk11 HB10 HO210 HH10 HK10 HOFA
      go_wp2_with fail
      refine HC11.out.mono ?_
      rintro e w12 ⟨rfl, n12, rfl⟩
      obtain ⟨Aw, cw, hve, hSw, _⟩ := own_dg HO211.out
      have HVE := hid hve
      have HC12 := hid (Same_any A a c Aw a cw (w11.drewN n12) w.heap.size w11.heap.size (HA.out.lie.below (below_drewN HB11.out n12)) hSw.lie (by omega))
      rw [show (a == a) = true from beq_self_eq_true _] at HC12
      clear hve hSw
      rw [HVE.out]
      go_wp2_with fail
      refine HC12.out.mono ?_
      rintro e w13 ⟨rfl, n13, rfl⟩
      have HB14 : Hid (Below w.heap.size w ((w11.drewN n12).drewN n13)) := hid (below_drewN (below_drewN HB11.out n12) n13)
      have HH14 : Hid (HashIs ((w11.drewN n12).drewN n13) g a) := hid (HH11.out.keep rfl)
      have HK14 : Hid (((w11.drewN n12).drewN n13).heap[b1]? = some (.cells (byA (shaB a)) A32 (0, 0))) := HK11
      have hz14 : w10.heap.size ≤ ((w11.drewN n12).drewN n13).heap.size := hz11
      clear HB11 HO211 HH11 HK11 HC11 HC12 HVE
      generalize (w11.drewN n12).drewN n13 = w14 at *
      obtain ⟨tk, htk⟩ : ∃ tk, tk = (t % 32).toNat := ⟨_, rfl⟩
      have htk1 : (0 : Int) ≤ t % 32 := by omega
      have htk2 : t % 32 < 32 := by omega
      have htk3 : (t % 32).toNat = tk := htk.symm
      have htk4 : tk < 32 := by omega
      obtain ⟨z, hcz⟩ : ∃ z : Nat, w14.cell? ⟨b1, tk, none⟩ = some (.int .u8 (z : Int)) := by
        refine ⟨((shaB a)[tk]'(by rw [shaB_length]; exact htk4)).toNat, cell_of HK14.out tk _ ?_⟩
        rw [byA, List.getElem?_toArray, List.getElem?_eq_getElem (by rw [bvs_length, shaB_length]; exact htk4), bvs_get]
      have hfz : w14.frozen? ⟨b1, tk, none⟩ = false := frozen_of_row _ _ _ _ _ HK14.out
      clear htk
      go_wp2_with fail
      have hB15 : Below w.heap.size w (w14.setCell ⟨b1, tk, none⟩ (.int .u8 (bits .xor .u8 (z : Int) 1))) := HB14.out.setCell (show w.heap.size ≤ b1 by omega) _
      have hH15 : HashIs (w14.setCell ⟨b1, tk, none⟩ (.int .u8 (bits .xor .u8 (z : Int) 1))) g a := HH14.out.keep (heap_setCell_other _ _ _ _ (show g ≠ b1 by omega))
      clear hcz hfz HK14 HB14 HH14
      generalize w14.setCell ⟨b1, tk, none⟩ (.int .u8 (bits .xor .u8 (z : Int) 1)) = w15 at *
      have hw15 := hB15.size
      obtain ⟨ab, hab⟩ : ∃ ab, ab = a ++ b := ⟨_, rfl⟩
      have habl : ab.length = a.length + b.length := by rw [hab]; simp
      have HW15 := hid (Write_any g a b A' c' w15 hH15 (HG.out.below hB15 (Nat.le_refl _)) (HG.out.notGlob (by omega)) (by omega) ((HA'.out.below hB15).more hw15) ((HA'.out.below hB15).notIn (by omega)))
      rw [← hab] at HW15
      have HB15 := hid hB15; have HAB := hid hab; have HABL := hid habl
      clear hB15 hH15 hab habl
      go_wp2_with fail
      refine HW15.out.mono ?_
      rintro e w16 ⟨rfl, hH16, hg16⟩
      have hB16 : Below w.heap.size w w16 := HB15.out.grown hg16 hw15 (fun q h => by injection h with h; omega)
      have hz16 : g < w16.heap.size := hH16.lt
      have hw16 := hB16.size
      have HAL16 : Hid (Lie (w16.alloc (.cells #[] 5)) w.heap.size A (bvs a)) := hid ((HA.out.lie.below hB16).alloc hw16 _)
      have HH16 := hid hH16; have HB16 := hid hB16
      clear hH16 hB16 hg16 HW15 HB15
      go_wp2_with (at_builtin; refine wpList_append_lie rfl (.tmp 88) (.tmp 89) 22 rfl w16.heap.size 5 (.int .u8 0) 1 Tryd.underlying22 infoU8 rfl rfl (empty_row _ _ (k := w16.heap.size) rfl (Nat.le_refl _)) (bvs_length a) rfl HAL16.out (bvs_one a) ?d1 ?d2 ?d3 ?_)
      case d1 => unfold maxLen; omega
      case d2 => omega
      case d3 => simp
      intro v17 w17 hown17 hg17 hat17
      have hB17 : Below w16.heap.size w16 w17 := ((Below.refl _ _).alloc (Nat.le_refl _) _).grown hg17 (by simp) (fun q h => by simp [Value.ownBlock] at h; omega)
      have hw17 := hB17.size
      have hO17 : w17.ownsRow w16.heap.size 5 1 v17 a.length (bvs a) := by simpa using hown17
      have HAL17 : Hid (Lie w17 w.heap.size A' (bvs b)) := hid (HA'.out.lie.below (HB16.out.trans (hB17.mono hw16)))
      have HB17 := hid hB17
      clear hg17 hat17 hown17 hB17 HAL16
      go_wp2_with (at_builtin; refine wpList_append_lie rfl (.tmp 90) (.tmp 91) 22 rfl w16.heap.size 5 (.int .u8 0) 1 Tryd.underlying22 infoU8 rfl rfl hO17 (bvs_length b) rfl HAL17.out (bvs_one b) ?d1 ?d2 ?d3 ?_)
      case d1 => unfold maxLen; omega
      case d2 => omega
      case d3 => omega
      intro v18 w18 hown18 hg18 hat18
      have hO18 : OwnB w18 w16.heap.size v18 ab := by
        rw [HAB.out]
        simpa [OwnB, bvs_append] using hown18
      have hB18 : Below w16.heap.size w16 w18 := HB17.out.grown hg18 hw17 (fun q h => own_lt hO17 q h)
      have hw18 := hB18.size
      obtain ⟨Ac, cc, rfl, hSc, _⟩ := own_dg hO18
      have hBw18 : Below w.heap.size w w18 := HB16.out.trans (hB18.mono hw16)
      have HS18 := hid (Sum_any Ac ab cc w18 (by rw [HABL.out]; omega) hSc (HG.out.below hBw18 (Nat.le_refl _)))
      have HH18 := hid (HH16.out.keep (hB18.block g hz16)); have HBW18 := hid hBw18
      clear hown18 hg18 hat18 hO18 hB18 hSc hBw18 hO17 HB17 HAL17 HH16 HB16
      go_wp2_with fail
      refine HS18.out.mono ?_
      rintro e w19 ⟨rfl, hb19⟩
      have hB19 : Below w.heap.size w w19 := HBW18.out.trans (hb19.mono (by omega))
      have hw19 := hb19.size
      have hww19 : w.heap.size ≤ w19.heap.size := hB19.size
      have HOF := hid (ofs_any [(A, a, c), (none, [], 0), (A', b, c')] w19 (by
        intro p hp
        simp at hp
        rcases hp with rfl | rfl | rfl
        · exact (HA.out.below hB19).more hww19
        · exact Sq.nil
        · exact (HA'.out.below hB19).more hww19) (HG.out.below hB19 (Nat.le_refl _)) (by simp; omega) (by simp))
      simp only [List.map_cons, List.map_nil, List.flatten_cons, List.flatten_nil, List.append_nil, List.nil_append, List.length_cons, List.length_nil] at HOF
      rw [← HAB.out] at HOF
      have HH19 := hid (HH18.out.keep (hb19.block g (by omega))); have HB19 := hid hB19
      obtain ⟨d, hd⟩ : ∃ d, d = byA (shaB ab) := ⟨_, rfl⟩
      have hdz : d.size = 32 := by rw [hd]; simp [byA, shaB_length]
      have hdo : d.all (·.oneCell') = true := by rw [hd]; exact byA_one _
      rw [← hd]
      have HI : Hid ((Tryd.prog.info? 24).map (·.size) = some d.size) := hid (info24.trans (congrArg some hdz.symm))
      have HDO := hid hdo
      have HZ : Hid ((#[Value.int .u8 0, .int .u8 0, .int .u8 0, .int .u8 0, .int .u8 0, .int .u8 0, .int .u8 0, .int .u8 0, .int .u8 0, .int .u8 0, .int .u8 0, .int .u8 0, .int .u8 0, .int .u8 0, .int .u8 0, .int .u8 0, .int .u8 0, .int .u8 0, .int .u8 0, .int .u8 0, .int .u8 0, .int .u8 0, .int .u8 0, .int .u8 0, .int .u8 0, .int .u8 0, .int .u8 0, .int .u8 0, .int .u8 0, .int .u8 0, .int .u8 0, .int .u8 0] : Array Value).size = d.size) := hid hdz.symm
      have HD := hid hd
      clear hb19 hB19 hd hdz hdo HH18 HBW18
      go_wp2_with fail
      refine HOF.out.mono ?_
      rintro e w20 ⟨b4, rfl, hbk20, hbz20, hb20⟩
      have hH20 : HashIs w20 g ab := HH19.out.keep (hb20.block g (by omega))
      have hB20 : Below w.heap.size w w20 := HB19.out.trans (hb20.mono hww19)
      have HH20 := hid hH20; have HB20 := hid hB20; have HK20 := hid hbk20
      have hbl20 := block_lt hbk20
      clear hb20 hH20 hB20 hbk20 HH19 HB19
      go_wp2_with (first
        | fail
        | (with_reducible refine wpList_store_row rfl 24 (.tmp 13) _ rfl w20.heap.size d rfl rfl A32 _ (heap_alloc_new _ _) HI.out HZ.out HDO.out ?_; rw [World.setRow_alloc_new]))
      have hg20 : g < w20.heap.size := HH20.out.lt
      have HH21 : Hid (HashIs (w20.alloc (.cells d A32)) g ab) := hid (HH20.out.keep (Below.heap_alloc _ _ _ hg20))
      have HB21 : Hid (Below w.heap.size w (w20.alloc (.cells d A32))) := hid (HB20.out.alloc HB20.out.size _)
      have HK21 : Hid ((w20.alloc (.cells d A32)).heap[b4]? = some (.cells (byA (shaB ab)) A32 (0, 0))) := hid ((Below.heap_alloc _ _ _ hbl20).trans HK20.out)
      have HD21 : Hid ((w20.alloc (.cells d A32)).heap[w20.heap.size]? = some (.cells (byA (shaB ab)) A32 (0, 0))) := hid (by rw [HD.out]; exact heap_alloc_new _ _)
      clear HH20 HB20 HK20 HI HDO HZ HD
      generalize w20.alloc (.cells d A32) = w21 at *
      generalize w20.heap.size = D at *
      have hg21 : g < w21.heap.size := HH21.out.lt
      have hb421 : b4 < w21.heap.size := block_lt HK21.out
      have hD21 : D < w21.heap.size := block_lt HD21.out
      have heq : ((ab.length : Int) == IntKind.i64.wrap ((a.length : Int) + (b.length : Int))) = true := by rw [beq_iff_eq, show IntKind.i64.wrap ((a.length : Int) + (b.length : Int)) = (a.length : Int) + (b.length : Int) from IntWalk.i64_in _ ⟨by omega, by omega⟩, HABL.out]; omega
      have hn21 : ab.length ≤ 1152921504606846976 := by rw [HABL.out]; omega
      have HSAME : Hid (∀ (W : World) (p q : Nat) (xs : List UInt8), xs.length = 32 → W.heap[p]? = some (.cells (byA xs) A32 (0, 0)) → W.heap[q]? = some (.cells (byA xs) A32 (0, 0)) → Calls Tryd.prog 9 #[.slice (some ⟨p, 0, none⟩) 32 32, .slice (some ⟨q, 0, none⟩) 32 32] W (fun e W' => e = .returned (.bool true) ∧ ∃ n, W' = W.drewN n)) := hid fun W p q xs hx h1 h2 => by
        have h := Same_32 (some ⟨p, 0, none⟩) xs 32 (some ⟨q, 0, none⟩) xs 32 W W.heap.size W.heap.size 32 (lie_block h1) (lie_block h2) hx hx (by omega)
        rw [show (xs == xs) = true from beq_self_eq_true _] at h
        exact h
      have HSUM := hid (HSum_any g ab w21.drew (HH21.out.keep rfl) (HG.out.below HB21.out.drew (Nat.le_refl _)) hn21)
      clear HA HA' HS18 HG
      refine wp_region_any (by kernel_rfl) ?_
      try (change wpAny _ _ _ _ _ _ _ (World.drew _))
      refine wpAny_take (i := 0) (v := ?vv0) rfl (by kernel_rfl) (by kernel_rfl) (by kernel_rfl) (fun _ _ _ h => h) (Or.inl ⟨by rfl, ?hy0⟩) ?_
      case hy0 => (intro w'; go_simp; try with_reducible rfl)
      try go_simp
      refine wpAny_take (i := 2) (v := ?vv2) rfl (by kernel_rfl) (by kernel_rfl) (by kernel_rfl) (fun _ _ _ h => h) (Or.inl ⟨by rfl, ?hy2⟩) ?_
      case hy2 => (intro w'; go_simp; try with_reducible rfl)
      try go_simp
      refine wpAny_ready (rs := [1]) (by kernel_rfl) (by simp) ?_
      refine AllReady.cons rfl (fun K hK => ?_) AllReady.nil
      go_simp
      go_at_call 13
      with_reducible refine HSUM.out.mono ?_
      rintro e w22 ⟨v22, rfl, ⟨b5, rfl, hbk22, hbz22, hl22⟩, hb22⟩
      have hB22 : Below w21.heap.size w21 w22 := (Below.refl _ _).drew.trans hb22
      try go_simp
      refine hK _ _ ?_
      clear hK K
      refine wpAny_ready (rs := [3]) (by kernel_rfl) (by simp) ?_
      refine AllReady.cons rfl (fun K hK => ?_) AllReady.nil
      go_simp
      go_at_call 9
      with_reducible refine (HSAME.out w22 b5 D (shaB ab) (shaB_length _) hbk22 ((hB22.block D hD21).trans HD21.out)).mono ?_
      rintro e w23 ⟨rfl, n23, rfl⟩
      have hB23 : ∀ n, Below w21.heap.size w21 (w22.drewN n) := below_drewN hB22
      try go_simp
      refine hK _ _ ?_
      clear hK K
      refine wpAny_take (i := 4) (v := ?vv4) rfl (by kernel_rfl) (by kernel_rfl) (by kernel_rfl) (fun _ _ _ h => h) (Or.inl ⟨by rfl, ?hy4⟩) ?_
      case hy4 => (intro w'; go_simp; try with_reducible rfl)
      try go_simp
      refine wpAny_take (i := 5) (v := ?vv5) rfl (by kernel_rfl) (by kernel_rfl) (by kernel_rfl) (fun _ _ _ h => h) (Or.inl ⟨by rfl, ?hy5⟩) ?_
      case hy5 => (intro w'; go_simp; try with_reducible rfl)
      try go_simp
      refine wpAny_take (i := 6) (v := ?vv6) rfl (by kernel_rfl) (by kernel_rfl) (by kernel_rfl) (fun _ _ _ h => h) (Or.inl ⟨by rfl, ?hy6⟩) ?_
      case hy6 => (intro w'; go_simp; try with_reducible rfl)
      try go_simp
      refine wpAny_ready (rs := [7]) (by kernel_rfl) (by simp) ?_
      refine AllReady.cons rfl (fun K hK => ?_) AllReady.nil
      go_simp
      go_at_call 9
      with_reducible refine (HSAME.out (w22.drewN n23) b4 D (shaB ab) (shaB_length _) (((hB23 n23).block b4 hb421).trans HK21.out) (((hB23 n23).block D hD21).trans HD21.out)).mono ?_
      rintro e w24 ⟨rfl, n24, rfl⟩
      have hH24 : ∀ n, HashIs (w22.drewN n) g ab := fun n => HH21.out.keep ((hB23 n).block g hg21)
      try go_simp
      refine hK _ _ ?_
      clear hK K
      refine wpAny_take (i := 8) (v := ?vv8) rfl (by kernel_rfl) (by kernel_rfl) (by kernel_rfl) (fun _ _ _ h => h) (Or.inl ⟨by rfl, ?hy8⟩) ?_
      case hy8 => (intro w'; go_simp; try with_reducible rfl)
      try go_simp
      refine wpAny_take (i := 9) (v := ?vv9) rfl (by kernel_rfl) (by kernel_rfl) (by kernel_rfl) (fun _ _ _ h => h) (Or.inl ⟨by rfl, ?hy9⟩) ?_
      case hy9 => (intro w'; go_simp; try with_reducible rfl)
      try go_simp
      refine wpAny_take (i := 10) (v := ?vv10) rfl (by kernel_rfl) (by kernel_rfl) (by kernel_rfl) (fun _ _ _ h => h) (Or.inl ⟨by rfl, ?hy10⟩) ?_
      case hy10 => (intro w'; go_simp; try with_reducible rfl)
      try go_simp
      refine wpAny_take (i := 12) (v := ?vv12) rfl (by kernel_rfl) (by kernel_rfl) (by kernel_rfl) (fun _ _ _ h => h) (Or.inl ⟨by rfl, ?hy12⟩) ?_
      case hy12 => (intro w'; go_simp; try with_reducible rfl)
      try go_simp
      refine wpAny_take (i := 13) (v := ?vv13) rfl (by kernel_rfl) (by kernel_rfl) (by kernel_rfl) (fun _ _ _ h => h) (Or.inl ⟨by rfl, ?hy13⟩) ?_
      case hy13 => (intro w'; go_simp; try with_reducible rfl)
      try go_simp
      refine wpAny_take (i := 14) (v := ?vv14) rfl (by kernel_rfl) (by kernel_rfl) (by kernel_rfl) (fun _ _ _ h => h) (Or.inl ⟨by rfl, ?hy14⟩) ?_
      case hy14 => (intro w'; go_simp; try with_reducible rfl)
      try go_simp
      refine wpAny_take (i := 15) (v := ?vv15) rfl (by kernel_rfl) (by kernel_rfl) (by kernel_rfl) (fun _ _ _ h => h) (Or.inl ⟨by rfl, ?hy15⟩) ?_
      case hy15 => (intro w'; go_simp; try with_reducible rfl)
      try go_simp
      refine wpAny_take (i := 16) (v := ?vv16) rfl (by kernel_rfl) (by kernel_rfl) (by kernel_rfl) (fun _ _ _ h => h) (Or.inl ⟨by rfl, ?hy16⟩) ?_
      case hy16 => (intro w'; go_simp; try with_reducible rfl)
      try go_simp
      refine wpAny_ready (rs := [11]) (by kernel_rfl) (by simp) ?_
      refine AllReady.cons rfl (fun K hK => ?_) AllReady.nil
      go_simp
      go_at_call 14
      with_reducible refine (Len_any g ab _ (hH24 _)).mono ?_
      rintro e w25 ⟨rfl, rfl⟩
      try go_simp
      refine hK _ _ ?_
      clear hK K
      refine wpAny_take (i := 17) (v := ?vv17) rfl (by kernel_rfl) (by kernel_rfl) (by kernel_rfl) (fun _ _ _ h => h) (Or.inl ⟨by rfl, ?hy17⟩) ?_
      case hy17 => (intro w'; go_simp; try with_reducible rfl)
      try go_simp
      refine wpAny_take (i := 18) (v := ?vv18) rfl (by kernel_rfl) (by kernel_rfl) (by kernel_rfl) (fun _ _ _ h => h) (Or.inl ⟨by rfl, ?hy18⟩) ?_
      case hy18 => (intro w'; go_simp; try with_reducible rfl)
      try go_simp
      refine wpAny_take (i := 19) (v := ?vv19) rfl (by kernel_rfl) (by kernel_rfl) (by kernel_rfl) (fun _ _ _ h => h) (Or.inl ⟨by rfl, ?hy19⟩) ?_
      case hy19 => (intro w'; go_simp; try with_reducible rfl)
      try go_simp
      refine wpAny_done (by kernel_rfl) ?_ _
      have HEND : Hid (∀ n, Below w.heap.size w (w22.drewN n)) := hid fun n => HB21.out.trans ((hB23 n).mono HB21.out.size)
      go_wp2
      go_ret
      exact ⟨rfl, HEND.out _⟩
end Go.Proofs.YtihgolnkdepkmaaDoor
