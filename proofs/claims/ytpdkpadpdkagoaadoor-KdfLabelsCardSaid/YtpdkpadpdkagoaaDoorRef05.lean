/-
  The document's own expansion.
-/
import Derived.Test.YtpdkpadpdkagoaaDoorRef04b
import Derived.Test.YtpdkpadpdkagoaaDoorKdfP
namespace Go.Proofs.YtpdkpadpdkagoaaDoor
open Go.RowKit
set_option linter.unusedVariables false
set_option linter.unusedSimpArgs false

theorem infoSB : (Tryd.prog.info? 22).map (fun i => (i.zero, i.size, i.bytes)) = some (some (.slice none 0 0), 1, 24) := by kernel_rfl
/-- Two rows whose element types differ share no block. -/
theorem own_ne {w : World} {B B' : Nat} {e e' : TypeId} {s s' n n' : Nat} {v v' : Value} {xs ys : List Value} (h : w.ownsRow B e s v n xs) (h' : w.ownsRow B' e' s' v' n' ys) (hne : e ≠ e') : v.ownBlock = none ∨ v.ownBlock ≠ v'.ownBlock := by
  rcases h.2 with ⟨rfl, _⟩ | ⟨g, cap, cur, rfl, _, hg, _⟩
  · exact .inl rfl
  rcases h'.2 with ⟨rfl, _⟩ | ⟨g', cap', cur', rfl, _, hg', _⟩
  · exact .inr (by simp [Value.ownBlock])
  · refine .inr fun e0 => ?_
    have : g = g' := by simpa [Value.ownBlock] using e0
    subst this
    rw [hg] at hg'
    injection hg' with hg'
    injection hg' with _ ht
    exact hne ht
/-- The blocks as a row of rows, each the call's own. -/
def Blks (w : World) (B : Nat) (key info : List UInt8) (v : Value) (i : Nat) : Prop :=
  ∃ vs : List Value, vs.length = i ∧ w.ownsRow B 22 1 v i vs ∧ ∀ j x, vs[j]? = some x → OwnB w B x (kBlk key info (j + 1))
theorem Blks.kept {w w' : World} {B : Nat} {key info : List UInt8} {v : Value} {i : Nat} (h : Blks w B key info v i) (hb : Below w.heap.size w w') : Blks w' B key info v i := by
  obtain ⟨vs, hl, ho, he⟩ := h
  exact ⟨vs, hl, World.ownsRow.kept ho (grown_of_below hb) (Classical.em _), fun j x hx => World.ownsRow.kept (he j x hx) (grown_of_below hb) (Classical.em _)⟩
theorem Blks.nil (w : World) (B : Nat) (key info : List UInt8) : Blks w B key info (.slice none 0 0) 0 := ⟨[], rfl, World.ownsRow_nil _ _ _ _, fun j x h => by simp at h⟩
/-- One block more. -/
theorem Blks.snoc {w2 w3 : World} {B : Nat} {key info : List UInt8} {v v2 x : Value} {i : Nat} {vs : List Value} {o : Obj} (hl : vs.length = i) (he : ∀ j y, vs[j]? = some y → OwnB w2 B y (kBlk key info (j + 1))) (ho : w2.ownsRow B 22 1 v i vs) (hx : OwnB w2 B x (kBlk key info (i + 1)))
    (hn : w3.ownsRow B 22 1 v2 (i + 1) (vs ++ [x])) (hg : (w2.alloc o).grownBy w3 v.ownBlock) : Blks w3 B key info v2 (i + 1) := by
  refine ⟨vs ++ [x], by simp [hl], hn, fun j y hy => ?_⟩
  have hk : OwnB w2 B y (kBlk key info (j + 1)) := by
    by_cases hj : j < vs.length
    · rw [List.getElem?_append_left hj] at hy; exact he j y hy
    · rw [List.getElem?_append_right (by omega)] at hy
      have : j - vs.length = 0 := by
        have := (List.getElem?_eq_some_iff.1 hy).1
        simp at this; omega
      rw [this] at hy
      have hji : j = i := by omega
      subst hji
      simp at hy
      subst hy
      exact hx
  exact World.ownsRow.kept (World.ownsRow.alloc hk o) hg (own_ne hk ho (by decide))
/-- The j-th block, where there is one: its cell, and what it leads to. -/
theorem Blks.at_ {w : World} {B : Nat} {key info : List UInt8} {A : Option Addr} {c i j : Nat} (h : Blks w B key info (.slice A i c) i) (hj : j < i) :
    ∃ b A' c', A = some ⟨b, 0, none⟩ ∧ i ≤ c ∧ c ≤ 9223372036854775807 ∧ b < w.heap.size ∧ w.cell? ⟨b, j, none⟩ = some (.slice A' 32 c') ∧ Lie w w.heap.size A' (bvs (kBlk key info (j + 1))) := by
  obtain ⟨vs, hl, ho, he⟩ := h
  obtain ⟨g, cap, cur, hv, _, hg, h1, h2, _, _⟩ := ho.2.resolve_left (fun h => by have := h.2; omega)
  injection hv with hA hn hc
  subst hA; subst hc
  have hx : vs[j]? = some vs[j] := List.getElem?_eq_getElem (by omega)
  have hO := he j _ hx
  obtain ⟨A', c', hv', hS⟩ := own_sl hO
  rw [kBlk_length] at hv'
  refine ⟨g, A', c', rfl, h1, by simpa [maxLen] using h2, block_lt hg, ?_, hS.lie⟩
  have := ho.cells (g := g) rfl j _ hx
  rw [← hv']
  simpa [Addr.add_lit] using this

theorem ref4_tag_n (A : Option Addr) (key : List UInt8) (c : Nat) (A' : Option Addr) (text : List UInt8) (n c' : Nat) (w : World) (hA : Sq w w.heap.size A c (bvs key)) (hA' : Sq w w.heap.size A' c' (bvs text)) (ht : text.length = n) (hn : key.length ≤ 1000000000) (hn2 : n ≤ 1000000000) :
    Calls Tryd.prog 9 #[.slice A key.length c, .slice A' n c'] w fun e w' => ∃ v, e = .returned v ∧ OwnB w' w.heap.size v (macB key text) ∧ Below w.heap.size w w' := by
  subst ht
  exact ref4_tag A key c A' text c' w hA hA' hn hn2

set_option maxRecDepth 100000 in
set_option maxHeartbeats 1600000 in
theorem ref5_expand (A : Option Addr) (key : List UInt8) (c : Nat) (A' : Option Addr) (info : List UInt8) (c' n : Nat) (w : World) (hA : Sq w w.heap.size A c (bvs key)) (hA' : Sq w w.heap.size A' c' (bvs info))
    (hn : n ≤ 8160) (hk : key.length ≤ 1000000000) (hi : info.length ≤ 100000000) :
    Calls Tryd.prog 11 #[.slice A key.length c, .slice A' info.length c', .int .i64 (n : Int)] w fun e w' => ∃ A2 c2, e = .returned (.slice A2 n c2) ∧ Lie w' w'.heap.size A2 (bvs (kdfB key info n)) ∧ Below w.heap.size w w' := by
  have HA := hid hA; have HA' := hid hA'
  clear hA hA'
  obtain ⟨K, hK⟩ : ∃ K, K = (n + 31) / 32 := ⟨_, rfl⟩
  have hKl : K ≤ 255 := by omega
  have hdiv : Int.tdiv ((n : Int) + 31) 32 = (K : Int) := by
    rw [hK, show (n : Int) + 31 = ((n + 31 : Nat) : Int) by omega]; exact (Int.ofNat_tdiv (n + 31) 32).symm
  have HK := hid hK
  clear hK
  go_enter Tryd.func11, Tryd.ntmps11
  go_wp2
  go_loopg [7, 8] K (fun r bl i wr => ∃ k : Nat, k + r = K ∧ i = .int .i64 (k : Int) ∧ Blks wr w.heap.size key info bl k ∧ Below w.heap.size w wr)
  case atStart => exact ⟨0, by omega, rfl, Blks.nil _ _ _ _, Below.refl _ _⟩
  case round =>
    obtain ⟨k, hk', rfl, hbl, hb⟩ := hrel
    have HK' := hid hk'; have HBL := hid hbl; have HB := hid hb
    clear hk' hbl hb
    by_cases hlt : k < K
    · have hx : (k : Int) < (K : Int) := by omega
      obtain ⟨Ab, cb, rfl⟩ : ∃ Ab cb, u7 = .slice Ab k cb := by
        obtain ⟨vs, hl, ho, _⟩ := HBL.out
        obtain ⟨Ab, cb, hv, _⟩ := own_sl ho
        exact ⟨Ab, cb, hv⟩
      by_cases h0 : k = 0
      · have h0i : ¬ (0 : Int) < (k : Int) := by omega
        obtain ⟨wt, hwt⟩ : ∃ wt, wt = wr := ⟨_, rfl⟩
        have OT : Hid (OwnB wt wr.heap.size (.slice none 0 0) (kBlk key info k)) := hid (by rw [h0]; exact World.ownsRow_nil _ _ _ _)
        have BT : Hid (Below wr.heap.size wr wt) := hid (by rw [hwt]; exact Below.refl _ _)
        rw [← hwt]
        clear hwt h0
        have hOT := OT.out
        have hBT := BT.out
        have hzt : w.heap.size ≤ wt.heap.size := Nat.le_trans HB.out.size hBT.size
        have HLI : Hid (Lie wt w.heap.size A' (bvs info)) := hid (HA'.out.lie.below (HB.out.trans (hBT.mono HB.out.size)))
        have hklen := kBlk_le key info k
        clear hOT hBT
        go_wp2_with (at_builtin; go_loud (refine wpList_append_lie rfl (.tmp 28) (.tmp 29) 22 rfl wr.heap.size 5 (.int .u8 0) 1 Tryd.underlying22 infoU8 rfl rfl OT.out (bvs_length info) rfl HLI.out (bvs_one info) ?p1 ?p2 ?p3 ?_))
        case p1 => unfold maxLen; omega
        case p2 => omega
        case p3 => exact BT.out.size
        intro v5 w5 hown5 hg5 hat5
        have hO5 : OwnB w5 wr.heap.size v5 (kBlk key info k ++ info) := by unfold OwnB; rw [bvs_append, List.length_append]; exact hown5
        have hB5 : Below wr.heap.size wr w5 := BT.out.grown hg5 BT.out.size (fun q h => own_lt OT.out q h)
        obtain ⟨A5, c5, rfl, _⟩ := own_sl hO5
        obtain ⟨L5, hL5⟩ : ∃ L, L = (kBlk key info k ++ info).length := ⟨_, rfl⟩
        rw [← hL5]
        have hl5 : L5 ≤ 100000032 := by rw [hL5, List.length_append]; omega
        have HO5 : Hid (w5.ownsRow wr.heap.size 5 1 (.slice A5 L5 c5) L5 (bvs (kBlk key info k ++ info))) := hid (by have h := hO5; unfold OwnB at h; rwa [← hL5] at h)
        have HB5 := hid hB5; have HL5 := hid hL5.symm
        have HO5' := hid (World.ownsRow.alloc HO5.out (.cells #[.int .u8 ((k : Int) + 1)] 5))
        clear hown5 hg5 hat5 hO5 hB5 hL5 OT BT HLI
        have hkw : IntKind.i64.wrap ((k : Int) + 1) = (k : Int) + 1 := IntWalk.i64_in _ (by omega)
        go_wp2_with (at_builtin; go_loud (refine wpList_append_lie rfl (.tmp 30) (.tmp 34) 22 rfl wr.heap.size 5 (.int .u8 0) 1 Tryd.underlying22 infoU8 rfl rfl HO5'.out rfl rfl (Lie.new1 _ _ _) ?p0 ?p4 ?p5 ?p6 ?_))
        case p0 => intro u hu; simp at hu; subst hu; rfl
        case p4 => rw [List.length_singleton]; unfold maxLen; omega
        case p5 => rw [List.length_singleton]; omega
        case p6 => (have := HB5.out.size; simp; omega)
        intro v6 w6 hown6 hg6 hat6
        have hO6 : OwnB w6 wr.heap.size v6 (kBlk key info k ++ info ++ [UInt8.ofNat (k + 1)]) := own_snoc hown6 (by rw [← HL5.out]) (by rw [ofNat_val]; omega)
        have hB6 : Below wr.heap.size wr w6 := (HB5.out.alloc HB5.out.size _).grown hg6 (by have := HB5.out.size; simp; omega) (fun q h => own_lt HO5.out q h)
        obtain ⟨A6, c6, rfl, hS6⟩ := own_sl hO6
        obtain ⟨L6, hL6⟩ : ∃ L, L = (kBlk key info k ++ info ++ [UInt8.ofNat (k + 1)]).length := ⟨_, rfl⟩
        rw [← hL6]
        have hl6 : L6 ≤ 100000033 := by rw [hL6, List.length_append, HL5.out]; simp; omega
        have hB6w : Below w.heap.size w w6 := HB.out.trans (hB6.mono HB.out.size)
        have HT := ref4_tag_n A key c A6 (kBlk key info k ++ info ++ [UInt8.ofNat (k + 1)]) L6 c6 w6 ((HA.out.below hB6w).more hB6w.size) hS6.sq hL6.symm hk (by omega)
        have hkb : macB key (kBlk key info k ++ (info ++ [UInt8.ofNat (k + 1)])) = kBlk key info (k + 1) := rfl
        rw [List.append_assoc, hkb] at HT
        have HT := hid HT; have HB6 := hid hB6; have HB6w := hid hB6w
        clear hown6 hg6 hat6 hO6 hB6 hL6 hS6 hB6w HO5 HO5' HL5
        go_wp2_with fail
        refine HT.out.mono ?_
        rintro e w7 ⟨v7, rfl, ho7, hb7⟩
        obtain ⟨A7, c7, rfl, _⟩ := own_sl ho7
        rw [kBlk_length]
        rw [kBlk_length] at ho7
        have hb7r : Below wr.heap.size wr w7 := HB6.out.trans (hb7.mono HB6.out.size)
        have HBL7 := hid (HBL.out.kept hb7r)
        have HO7 : Hid (OwnB w7 w.heap.size (.slice A7 32 c7) (kBlk key info (k + 1))) := hid (own_base ho7 HB6w.out.size)
        have HB7 := hid (HB.out.trans (hb7r.mono HB.out.size))
        obtain ⟨vs, hvl, hvo, hve⟩ := HBL7.out
        have HVO := hid (World.ownsRow.alloc hvo (.cells #[.slice A7 32 c7] 22)); have HV0 := hid hvo; have HVE := hid hve; have HVL := hid hvl
        clear ho7 hb7 hb7r hvl hvo hve HT HBL7
        go_wp2_with (at_builtin; go_loud (refine wpList_append_lie rfl (.tmp 36) (.tmp 40) 41 rfl w.heap.size 22 (.slice none 0 0) 24 Tryd.underlying41 infoSB rfl rfl HVO.out rfl rfl (Lie.new1 _ _ _) ?p7 ?p8 ?p9 ?pa ?_))
        case p7 => intro u hu; simp at hu; subst hu; rfl
        case p8 => rw [List.length_singleton]; unfold maxLen; omega
        case p9 => rw [List.length_singleton]; omega
        case pa => (have := HB7.out.size; simp; omega)
        intro v8 w8 hown8 hg8 hat8
        have hBL8 : Blks w8 w.heap.size key info v8 (k + 1) := Blks.snoc HVL.out HVE.out HV0.out HO7.out hown8 hg8
        have hB8 : Below w.heap.size w w8 := (HB7.out.alloc HB7.out.size _).grown hg8 (by have := HB7.out.size; simp; omega) (fun q h => own_lt HV0.out q h)
        have HBL8 := hid hBL8; have HB8 := hid hB8
        clear hown8 hg8 hat8 hBL8 hB8 HVO HV0 HVE HVL HO7
        go_wp2
        have hk2 := HK'.out
        go_roundg (K - k - 1)
        case measure => omega
        case rel => exact ⟨k + 1, by omega, by go_num, HBL8.out, HB8.out⟩
      · have h0i : (0 : Int) < (k : Int) := by omega
        obtain ⟨b, Aj, cj, rfl, hkc, hc63, hbl, hcell, hlie⟩ := HBL.out.at_ (j := k - 1) (by omega)
        rw [Nat.sub_add_cancel (by omega)] at hlie
        have hk1w : IntKind.i64.wrap ((k : Int) - 1) = ((k - 1 : Nat) : Int) := by rw [IntWalk.i64_in _ (by omega)]; omega
        have hk1 : (k : Int) - 1 = ((k - 1 : Nat) : Int) := by omega
        have hk0 : (0 : Int) ≤ ((k - 1 : Nat) : Int) := by omega
        have hkk : ((k - 1 : Nat) : Int) < (k : Int) := by omega
        obtain ⟨j, hj⟩ : ∃ j, j = k - 1 := ⟨_, rfl⟩
        rw [← hj] at hk1w hk1 hk0 hkk hcell
        have HLJ := hid hlie
        have HKL : Hid ((bvs (kBlk key info k)).length = 32) := hid (by rw [bvs_length, show k = (k - 1) + 1 by omega, kBlk_length])
        have HKL2 : Hid ((kBlk key info k).length = 32) := hid (by have := HKL.out; rwa [bvs_length] at this)
        clear hj hlie
        go_wp2_with (at_builtin; go_loud (refine wpList_append_lie rfl (.tmp 21) (.tmp 26) 22 rfl wr.heap.size 5 (.int .u8 0) 1 Tryd.underlying22 infoU8 rfl rfl (World.ownsRow_nil _ _ _ _) HKL.out rfl HLJ.out (bvs_one _) ?z1 ?z2 ?z3 ?_))
        case z1 => unfold maxLen; omega
        case z2 => omega
        case z3 => exact Nat.le_refl _
        intro v4 wt hown4 hg4 hat4
        have OT : Hid (OwnB wt wr.heap.size v4 (kBlk key info k)) := hid (by
          unfold OwnB
          rw [HKL2.out]
          simpa using hown4)
        have BT : Hid (Below wr.heap.size wr wt) := hid ((Below.refl _ _).grown hg4 (Nat.le_refl _) (fun q h => by simp [Value.ownBlock] at h))
        obtain ⟨A4, c4, rfl, _⟩ := own_sl OT.out
        rw [HKL2.out] at OT
        rw [HKL2.out]
        clear hown4 hg4 hat4 hcell hkk hk0 hk1 hk1w HKL HLJ
        have hOT := OT.out
        have hBT := BT.out
        have hzt : w.heap.size ≤ wt.heap.size := Nat.le_trans HB.out.size hBT.size
        have HLI : Hid (Lie wt w.heap.size A' (bvs info)) := hid (HA'.out.lie.below (HB.out.trans (hBT.mono HB.out.size)))
        have hklen := kBlk_le key info k
        clear hOT hBT
        go_wp2_with (at_builtin; go_loud (refine wpList_append_lie rfl (.tmp 28) (.tmp 29) 22 rfl wr.heap.size 5 (.int .u8 0) 1 Tryd.underlying22 infoU8 rfl rfl OT.out (bvs_length info) rfl HLI.out (bvs_one info) ?q1 ?q2 ?q3 ?_))
        case q1 => unfold maxLen; omega
        case q2 => omega
        case q3 => exact BT.out.size
        intro v5 w5 hown5 hg5 hat5
        have hO5 : OwnB w5 wr.heap.size v5 (kBlk key info k ++ info) := by unfold OwnB; rw [bvs_append, List.length_append]; exact hown5
        have hB5 : Below wr.heap.size wr w5 := BT.out.grown hg5 BT.out.size (fun q h => own_lt OT.out q h)
        obtain ⟨A5, c5, rfl, _⟩ := own_sl hO5
        obtain ⟨L5, hL5⟩ : ∃ L, L = (kBlk key info k ++ info).length := ⟨_, rfl⟩
        rw [← hL5]
        have hl5 : L5 ≤ 100000032 := by rw [hL5, List.length_append]; omega
        have HO5 : Hid (w5.ownsRow wr.heap.size 5 1 (.slice A5 L5 c5) L5 (bvs (kBlk key info k ++ info))) := hid (by have h := hO5; unfold OwnB at h; rwa [← hL5] at h)
        have HB5 := hid hB5; have HL5 := hid hL5.symm
        have HO5' := hid (World.ownsRow.alloc HO5.out (.cells #[.int .u8 ((k : Int) + 1)] 5))
        clear hown5 hg5 hat5 hO5 hB5 hL5 OT BT HLI
        have hkw : IntKind.i64.wrap ((k : Int) + 1) = (k : Int) + 1 := IntWalk.i64_in _ (by omega)
        go_wp2_with (at_builtin; go_loud (refine wpList_append_lie rfl (.tmp 30) (.tmp 34) 22 rfl wr.heap.size 5 (.int .u8 0) 1 Tryd.underlying22 infoU8 rfl rfl HO5'.out rfl rfl (Lie.new1 _ _ _) ?q0 ?q4 ?q5 ?q6 ?_))
        case q0 => intro u hu; simp at hu; subst hu; rfl
        case q4 => rw [List.length_singleton]; unfold maxLen; omega
        case q5 => rw [List.length_singleton]; omega
        case q6 => (have := HB5.out.size; simp; omega)
        intro v6 w6 hown6 hg6 hat6
        have hO6 : OwnB w6 wr.heap.size v6 (kBlk key info k ++ info ++ [UInt8.ofNat (k + 1)]) := own_snoc hown6 (by rw [← HL5.out]) (by rw [ofNat_val]; omega)
        have hB6 : Below wr.heap.size wr w6 := (HB5.out.alloc HB5.out.size _).grown hg6 (by have := HB5.out.size; simp; omega) (fun q h => own_lt HO5.out q h)
        obtain ⟨A6, c6, rfl, hS6⟩ := own_sl hO6
        obtain ⟨L6, hL6⟩ : ∃ L, L = (kBlk key info k ++ info ++ [UInt8.ofNat (k + 1)]).length := ⟨_, rfl⟩
        rw [← hL6]
        have hl6 : L6 ≤ 100000033 := by rw [hL6, List.length_append, HL5.out]; simp; omega
        have hB6w : Below w.heap.size w w6 := HB.out.trans (hB6.mono HB.out.size)
        have HT := ref4_tag_n A key c A6 (kBlk key info k ++ info ++ [UInt8.ofNat (k + 1)]) L6 c6 w6 ((HA.out.below hB6w).more hB6w.size) hS6.sq hL6.symm hk (by omega)
        have hkb : macB key (kBlk key info k ++ (info ++ [UInt8.ofNat (k + 1)])) = kBlk key info (k + 1) := rfl
        rw [List.append_assoc, hkb] at HT
        have HT := hid HT; have HB6 := hid hB6; have HB6w := hid hB6w
        clear hown6 hg6 hat6 hO6 hB6 hL6 hS6 hB6w HO5 HO5' HL5
        go_wp2_with fail
        refine HT.out.mono ?_
        rintro e w7 ⟨v7, rfl, ho7, hb7⟩
        obtain ⟨A7, c7, rfl, _⟩ := own_sl ho7
        rw [kBlk_length]
        rw [kBlk_length] at ho7
        have hb7r : Below wr.heap.size wr w7 := HB6.out.trans (hb7.mono HB6.out.size)
        have HBL7 := hid (HBL.out.kept hb7r)
        have HO7 : Hid (OwnB w7 w.heap.size (.slice A7 32 c7) (kBlk key info (k + 1))) := hid (own_base ho7 HB6w.out.size)
        have HB7 := hid (HB.out.trans (hb7r.mono HB.out.size))
        obtain ⟨vs, hvl, hvo, hve⟩ := HBL7.out
        have HVO := hid (World.ownsRow.alloc hvo (.cells #[.slice A7 32 c7] 22)); have HV0 := hid hvo; have HVE := hid hve; have HVL := hid hvl
        clear ho7 hb7 hb7r hvl hvo hve HT HBL7
        go_wp2_with (at_builtin; go_loud (refine wpList_append_lie rfl (.tmp 36) (.tmp 40) 41 rfl w.heap.size 22 (.slice none 0 0) 24 Tryd.underlying41 infoSB rfl rfl HVO.out rfl rfl (Lie.new1 _ _ _) ?q7 ?q8 ?q9 ?qa ?_))
        case q7 => intro u hu; simp at hu; subst hu; rfl
        case q8 => rw [List.length_singleton]; unfold maxLen; omega
        case q9 => rw [List.length_singleton]; omega
        case qa => (have := HB7.out.size; simp; omega)
        intro v8 w8 hown8 hg8 hat8
        have hBL8 : Blks w8 w.heap.size key info v8 (k + 1) := Blks.snoc HVL.out HVE.out HV0.out HO7.out hown8 hg8
        have hB8 : Below w.heap.size w w8 := (HB7.out.alloc HB7.out.size _).grown hg8 (by have := HB7.out.size; simp; omega) (fun q h => own_lt HV0.out q h)
        have HBL8 := hid hBL8; have HB8 := hid hB8
        clear hown8 hg8 hat8 hBL8 hB8 HVO HV0 HVE HVL HO7
        go_wp2
        have hk2 := HK'.out
        go_roundg (K - k - 1)
        case measure => omega
        case rel => exact ⟨k + 1, by omega, by go_num, HBL8.out, HB8.out⟩
    · obtain rfl : k = K := by have := HK'.out; omega
      obtain ⟨Ab, cb, rfl⟩ : ∃ Ab cb, u7 = .slice Ab k cb := by
        obtain ⟨vs, hl, ho, _⟩ := HBL.out
        obtain ⟨Ab, cb, hv, _⟩ := own_sl ho
        exact ⟨Ab, cb, hv⟩
      obtain ⟨w9, rfl⟩ : ∃ w9 : World, w9 = wr := ⟨_, rfl⟩
      have HW := hid HB.out.size
      clear HK' hlt
      go_wp2
      go_loopg [10, 11] k (fun r out i wr => ∃ j : Nat, j + r = k ∧ i = .int .i64 (j : Int) ∧ OwnB wr w9.heap.size out (kAll key info j) ∧ Below w9.heap.size w9 wr)
      case atStart => exact ⟨0, by omega, rfl, World.ownsRow_nil _ _ _ _, Below.refl _ _⟩
      case round =>
        obtain ⟨j, hj, rfl, ho, hbq⟩ := hrel
        have HJ := hid hj; have HO := hid ho; have HBQ := hid hbq
        have HBK := hid (HBL.out.kept hbq)
        clear hj ho hbq
        by_cases hlt : j < k
        · obtain ⟨b, Aj, cj, rfl, hkc, hc63, hbl, hcell, hlie⟩ := HBK.out.at_ hlt
          have hxj : (j : Int) < (k : Int) := by omega
          have hj0 : (0 : Int) ≤ (j : Int) := by omega
          have hlen := kAll_length key info j
          have HLJ := hid hlie
          have HKL : Hid ((bvs (kBlk key info (j + 1))).length = 32) := hid (by rw [bvs_length, kBlk_length])
          have HLN := hid hlen
          clear hlie hlen
          go_wp2_with (at_builtin; go_loud (refine wpList_append_lie rfl (.tmp 48) (.tmp 52) 22 rfl w9.heap.size 5 (.int .u8 0) 1 Tryd.underlying22 infoU8 rfl rfl HO.out HKL.out rfl HLJ.out (bvs_one _) ?y1 ?y2 ?y3 ?_))
          case y1 => rw [HLN.out]; unfold maxLen; omega
          case y2 => rw [HLN.out]; omega
          case y3 => exact HBQ.out.size
          intro v4 w4 hown4 hg4 hat4
          have hO4 : OwnB w4 w9.heap.size v4 (kAll key info (j + 1)) := by
            unfold OwnB
            rw [kAll, List.length_append, kBlk_length, bvs_append]
            exact hown4
          have hB4 : Below w9.heap.size w9 w4 := HBQ.out.grown hg4 HBQ.out.size (fun q h => own_lt HO.out q h)
          have HO4 := hid hO4; have HB4 := hid hB4
          clear hown4 hg4 hat4 hO4 hB4 hcell HBK
          go_wp2
          have hj2 := HJ.out
          go_roundg (k - j - 1)
          case measure => omega
          case rel => exact ⟨j + 1, by omega, by go_num, HO4.out, HB4.out⟩
        · obtain rfl : j = k := by have := HJ.out; omega
          have hxj : ¬ (j : Int) < (j : Int) := by omega
          obtain ⟨Ao, co, rfl, hSo⟩ := own_sl HO.out
          have hcap := hSo.cap
          rw [bvs_length, kAll_length] at hcap
          rw [kAll_length]
          obtain ⟨hcp1, hcp2⟩ := hcap
          have hKn := HK.out
          have hn1 : (n : Int) ≤ (co : Int) := by omega
          have hn0 : (0 : Int) ≤ (n : Int) := by omega
          have HLO : Hid (Lie wr wr.heap.size Ao (bvs (kdfB key info n))) := hid (by
            have h := hSo.lie.take n
            rw [bvs, ← List.map_take, HK.out] at h
            exact h)
          have HBE := hid (HB.out.trans (HBQ.out.mono HB.out.size))
          clear hSo HO HBQ HBK hKn
          go_wp2
          go_ret
          exact ⟨Ao, ⟨co, rfl⟩, HLO.out, HBE.out⟩
end Go.Proofs.YtpdkpadpdkagoaaDoor
