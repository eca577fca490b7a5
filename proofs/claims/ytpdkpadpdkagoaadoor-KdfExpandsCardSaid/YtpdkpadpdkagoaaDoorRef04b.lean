/-
  The document's own tag.
  The document's own tag, whole.
-/
import Derived.Test.YtpdkpadpdkagoaaDoorRef02j
import Derived.Test.YtpdkpadpdkagoaaDoorMac3
namespace Go.Proofs.YtpdkpadpdkagoaaDoor
section
open Go.RowKit
set_option linter.unusedVariables false
set_option linter.unusedSimpArgs false

theorem padX_snoc (x : UInt8) (k : List UInt8) (n : Nat) (h : n < 64) : (padX x k).take (n + 1) = (padX x k).take n ++ [k.getD n 0 ^^^ x] := by
  rw [List.take_succ_eq_append_getElem (by simpa using h)]
  congr 2
  simp [padX]

/-- Of two owned rows that lie apart one grows by a byte. -/
theorem append_two {wq w5 : World} {B : Nat} {va vb v5 : Value} {xs ys : List UInt8} {z : UInt8} {i : Int} {o : Obj} (ha : OwnB wq B va xs) (hb : OwnB wq B vb ys) (hne : ∀ q, vb.ownBlock = some q → va.ownBlock ≠ some q)
    (h1 : w5.ownsRow B 5 1 v5 (xs.length + 1) (bvs xs ++ [.int .u8 i])) (hg : (wq.alloc o).grownBy w5 va.ownBlock) (hat : v5.ownBlock = va.ownBlock ∨ v5.ownBlock = some (wq.heap.size + 1)) (hz : i = (z.toNat : Int)) :
    OwnB w5 B v5 (xs ++ [z]) ∧ OwnB w5 B vb ys ∧ (∀ q, vb.ownBlock = some q → v5.ownBlock ≠ some q) := by
  refine ⟨own_snoc h1 rfl hz, World.ownsRow.kept (World.ownsRow.alloc hb o) hg ?_, fun q h e => ?_⟩
  · rcases hq : vb.ownBlock with _ | q
    · exact .inl rfl
    · exact .inr fun e => hne q hq e.symm
  · rcases hat with h2 | h2
    · exact hne q h (h2.symm.trans e)
    · rw [h2] at e
      injection e with e
      have := (World.ownsRow.lt hb q h).2
      omega

set_option maxRecDepth 100000 in
set_option maxHeartbeats 1600000 in
theorem pads_loop {Q : Exit → Act → World → Prop} (A : Option Addr) (k : List UInt8) (c : Nat) (w0 : World) (t1 t2 t3 t4 t8 t9 t10 t11 t12 t13 t14 t15 t16 t17 t18 t19 t20 t21 t22 t23 t24 t25 t26 t27 t28 t29 t30 t31 t32 t33 t34 t35 t36 t37 t38 t39 t40 t41 t42 : Value)
    (hk : Lie w0 w0.heap.size A (bvs k)) (hkl : k.length ≤ 1099511627776)
    (hexit : ∀ (vi vo : Value) (w' : World) (u7 u8 u14 u15 u16 u17 u18 u19 u20 u21 u22 u23 u24 u25 u26 u27 u28 u29 u30 u31 u32 u33 u34 u35 : Value), OwnB w' w0.heap.size vi (padX 54 k) → OwnB w' w0.heap.size vo (padX 92 k) → (∀ q, vo.ownBlock = some q → vi.ownBlock ≠ some q) → Below w0.heap.size w0 w' → Q (.exit 0) ⟨((.slice A k.length c) :: t1 :: t2 :: t3 :: t4 :: vi :: vo :: u7 :: u8 :: t9 :: t10 :: t11 :: t12 :: t13 :: u14 :: u15 :: u16 :: u17 :: u18 :: u19 :: u20 :: u21 :: u22 :: u23 :: u24 :: u25 :: u26 :: u27 :: u28 :: u29 :: u30 :: u31 :: u32 :: u33 :: u34 :: u35 :: t36 :: t37 :: t38 :: t39 :: t40 :: t41 :: t42 :: []).toArray, []⟩ w') :
    Code.wp Tryd.prog (Code.loop (loopN Tryd.f9 0)) Q ⟨((.slice A k.length c) :: t1 :: t2 :: t3 :: t4 :: (.slice none 0 0) :: (.slice none 0 0) :: (.int .i64 0) :: t8 :: t9 :: t10 :: t11 :: t12 :: t13 :: t14 :: t15 :: t16 :: t17 :: t18 :: t19 :: t20 :: t21 :: t22 :: t23 :: t24 :: t25 :: t26 :: t27 :: t28 :: t29 :: t30 :: t31 :: t32 :: t33 :: t34 :: t35 :: t36 :: t37 :: t38 :: t39 :: t40 :: t41 :: t42 :: []).toArray, []⟩ w0 := by
  conv => arg 2; arg 1; whnf
  have HK := hid hk
  clear hk
  go_loopg [5, 6, 7] 64 (fun g a b i wr => ∃ n : Nat, n + g = 64 ∧ i = .int .i64 (n : Int) ∧ OwnB wr w0.heap.size a ((padX 54 k).take n) ∧ OwnB wr w0.heap.size b ((padX 92 k).take n) ∧ (∀ q, b.ownBlock = some q → a.ownBlock ≠ some q) ∧ Below w0.heap.size w0 wr)
  case atStart => exact ⟨0, rfl, rfl, ⟨rfl, .inl ⟨rfl, rfl⟩⟩, ⟨rfl, .inl ⟨rfl, rfl⟩⟩, (fun q h => by simp [Value.ownBlock] at h), Below.refl _ _⟩
  case round =>
    obtain ⟨n, hn, rfl, ha, hb, hne, hB⟩ := hrel
    obtain ⟨wq, rfl⟩ : ∃ wq : World, wq = wr := ⟨_, rfl⟩
    have hn64 : n ≤ 64 := by omega
    obtain ⟨xs, hxs⟩ : ∃ xs, xs = (padX 54 k).take n := ⟨_, rfl⟩
    obtain ⟨ys, hys⟩ : ∃ ys, ys = (padX 92 k).take n := ⟨_, rfl⟩
    rw [← hxs] at ha
    rw [← hys] at hb
    have hxl : xs.length = n := by rw [hxs, List.length_take, padX_length]; omega
    have hyl : ys.length = n := by rw [hys, List.length_take, padX_length]; omega
    have HN := hid hn; have HXS := hid hxs; have HYS := hid hys; have HXL := hid hxl; have HYL := hid hyl; have HNE := hid hne; have HB := hid hB
    obtain ⟨A1, c1, rfl, _⟩ := own_sl ha
    obtain ⟨A2, c2, rfl, _⟩ := own_sl hb
    have HA := hid ha; have HBB := hid hb
    clear hn hxs hys hxl hyl ha hb hne hB
    by_cases hlt : n < 64
    · have hni : (n : Int) < 64 := by omega
      have hn0 : (0 : Int) ≤ (n : Int) := by omega
      clear hexit
      obtain ⟨y, hy⟩ : ∃ y, y = k.getD n 0 := ⟨_, rfl⟩
      obtain ⟨z1, hz1⟩ : ∃ z : UInt8, z = y ^^^ 54 := ⟨_, rfl⟩
      obtain ⟨z2, hz2⟩ : ∃ z : UInt8, z = y ^^^ 92 := ⟨_, rfl⟩
      obtain ⟨i1, hi1⟩ : ∃ i : Int, i = (z1.toNat : Int) := ⟨_, rfl⟩
      obtain ⟨i2, hi2⟩ : ∃ i : Int, i = (z2.toNat : Int) := ⟨_, rfl⟩
      obtain ⟨yi, hyi⟩ : ∃ i : Int, i = (y.toNat : Int) := ⟨_, rfl⟩
      have e1 : bits .xor .u8 yi 54 = i1 := by rw [hi1, hz1, hyi]; exact xor_u8 y 54
      have e2 : bits .xor .u8 yi 92 = i2 := by rw [hi2, hz2, hyi]; exact xor_u8 y 92
      have HI1 := hid hi1; have HI2 := hid hi2; have HZ1 := hid hz1; have HZ2 := hid hz2; have HY := hid hy; have HYI := hid hyi
      have HO1 := hid (World.ownsRow.alloc HA.out (.cells #[.int .u8 i1] 5))
      clear hi1 hi2 hz1 hz2
      by_cases hkn : n < k.length
      · have hki : (n : Int) < (k.length : Int) := by omega
        obtain ⟨b, o, rfl, hbl, hc⟩ := (HK.out.below HB.out).byte hkn
        have hyk : k[n] = y := by rw [hy, List.getD_eq_getElem?_getD, List.getElem?_eq_getElem hkn]; rfl
        rw [hyk, ← hyi] at hc
        clear hyk hy hyi
        go_wp2_with (at_builtin; refine wpList_append_lie rfl (.tmp 26) (.tmp 29) 22 rfl w0.heap.size 5 (.int .u8 0) 1 Tryd.underlying22 infoU8 rfl rfl HO1.out rfl rfl (Lie.new1 _ _ _) (by intro u hu; simp at hu; subst hu; rfl) (by rw [List.length_singleton, HXL.out]; unfold maxLen; omega) (by rw [List.length_singleton, HXL.out]; omega) (by have := HB.out.size; simp; omega) ?_)
        intro v5 w5 hown5 hg5 hat5
        obtain ⟨ha5, hb5, hne5⟩ := append_two HA.out HBB.out HNE.out hown5 hg5 hat5 HI1.out
        have hB5 : Below w0.heap.size w0 w5 := (HB.out.alloc HB.out.size _).grown hg5 (by have := HB.out.size; simp; omega) (fun q h => own_lt HA.out q h)
        obtain ⟨A5, c5, rfl, _⟩ := own_sl ha5
        have HA5 := hid ha5; have HBB5 := hid hb5; have HNE5 := hid hne5; have HB5 := hid hB5
        have HO2 := hid (World.ownsRow.alloc hb5 (.cells #[.int .u8 i2] 5))
        clear hown5 hg5 hat5 ha5 hb5 hne5 hB5 HO1
        go_wp2_with (at_builtin; refine wpList_append_lie rfl (.tmp 31) (.tmp 34) 22 rfl w0.heap.size 5 (.int .u8 0) 1 Tryd.underlying22 infoU8 rfl rfl HO2.out rfl rfl (Lie.new1 _ _ _) (by intro u hu; simp at hu; subst hu; rfl) (by rw [List.length_singleton, HYL.out]; unfold maxLen; omega) (by rw [List.length_singleton, HYL.out]; omega) (by have := HB5.out.size; simp; omega) ?_)
        intro v6 w6 hown6 hg6 hat6
        obtain ⟨hb6, ha6, hne6⟩ := append_two HBB5.out HA5.out (fun q h e => HNE5.out q e h) hown6 hg6 hat6 HI2.out
        have hB6 : Below w0.heap.size w0 w6 := (HB5.out.alloc HB5.out.size _).grown hg6 (by have := HB5.out.size; simp; omega) (fun q h => own_lt HBB5.out q h)
        have hfa : OwnB w6 w0.heap.size (.slice A5 (xs ++ [z1]).length c5) ((padX 54 k).take (n + 1)) := by rw [padX_snoc 54 k n hlt, ← HXS.out, ← HY.out, ← HZ1.out]; exact ha6
        have hfb : OwnB w6 w0.heap.size v6 ((padX 92 k).take (n + 1)) := by rw [padX_snoc 92 k n hlt, ← HYS.out, ← HY.out, ← HZ2.out]; exact hb6
        have HFA := hid hfa; have HFB := hid hfb; have HNE6 := hid hne6; have HB6 := hid hB6
        clear hown6 hg6 hat6 hb6 ha6 hne6 hB6 hfa hfb HO2
        rw [List.length_append, List.length_singleton] at HFA
        go_wp2
        have hn := HN.out
        go_roundg (64 - n - 1)
        case measure => omega
        case rel => exact ⟨n + 1, by omega, by go_num, HFA.out, HFB.out, fun q h e => HNE6.out q (by simpa [Value.ownBlock] using e) h, HB6.out⟩
      · have hki : ¬ (n : Int) < (k.length : Int) := by omega
        have hy0 : y = 0 := by rw [hy, List.getD_eq_getElem?_getD, List.getElem?_eq_none (by omega)]; rfl
        have hyi0 : yi = 0 := by rw [hyi, hy0]; rfl
        subst hyi0
        clear hy hyi hy0
        go_wp2_with (at_builtin; refine wpList_append_lie rfl (.tmp 26) (.tmp 29) 22 rfl w0.heap.size 5 (.int .u8 0) 1 Tryd.underlying22 infoU8 rfl rfl HO1.out rfl rfl (Lie.new1 _ _ _) (by intro u hu; simp at hu; subst hu; rfl) (by rw [List.length_singleton, HXL.out]; unfold maxLen; omega) (by rw [List.length_singleton, HXL.out]; omega) (by have := HB.out.size; simp; omega) ?_)
        intro v5 w5 hown5 hg5 hat5
        obtain ⟨ha5, hb5, hne5⟩ := append_two HA.out HBB.out HNE.out hown5 hg5 hat5 HI1.out
        have hB5 : Below w0.heap.size w0 w5 := (HB.out.alloc HB.out.size _).grown hg5 (by have := HB.out.size; simp; omega) (fun q h => own_lt HA.out q h)
        obtain ⟨A5, c5, rfl, _⟩ := own_sl ha5
        have HA5 := hid ha5; have HBB5 := hid hb5; have HNE5 := hid hne5; have HB5 := hid hB5
        have HO2 := hid (World.ownsRow.alloc hb5 (.cells #[.int .u8 i2] 5))
        clear hown5 hg5 hat5 ha5 hb5 hne5 hB5 HO1
        go_wp2_with (at_builtin; refine wpList_append_lie rfl (.tmp 31) (.tmp 34) 22 rfl w0.heap.size 5 (.int .u8 0) 1 Tryd.underlying22 infoU8 rfl rfl HO2.out rfl rfl (Lie.new1 _ _ _) (by intro u hu; simp at hu; subst hu; rfl) (by rw [List.length_singleton, HYL.out]; unfold maxLen; omega) (by rw [List.length_singleton, HYL.out]; omega) (by have := HB5.out.size; simp; omega) ?_)
        intro v6 w6 hown6 hg6 hat6
        obtain ⟨hb6, ha6, hne6⟩ := append_two HBB5.out HA5.out (fun q h e => HNE5.out q e h) hown6 hg6 hat6 HI2.out
        have hB6 : Below w0.heap.size w0 w6 := (HB5.out.alloc HB5.out.size _).grown hg6 (by have := HB5.out.size; simp; omega) (fun q h => own_lt HBB5.out q h)
        have hfa : OwnB w6 w0.heap.size (.slice A5 (xs ++ [z1]).length c5) ((padX 54 k).take (n + 1)) := by rw [padX_snoc 54 k n hlt, ← HXS.out, ← HY.out, ← HZ1.out]; exact ha6
        have hfb : OwnB w6 w0.heap.size v6 ((padX 92 k).take (n + 1)) := by rw [padX_snoc 92 k n hlt, ← HYS.out, ← HY.out, ← HZ2.out]; exact hb6
        have HFA := hid hfa; have HFB := hid hfb; have HNE6 := hid hne6; have HB6 := hid hB6
        clear hown6 hg6 hat6 hb6 ha6 hne6 hB6 hfa hfb HO2
        rw [List.length_append, List.length_singleton] at HFA
        go_wp2
        have hn := HN.out
        go_roundg (64 - n - 1)
        case measure => omega
        case rel => exact ⟨n + 1, by omega, by go_num, HFA.out, HFB.out, fun q h e => HNE6.out q (by simpa [Value.ownBlock] using e) h, HB6.out⟩
    · obtain rfl : n = 64 := by omega
      have hni : ¬ ((64 : Nat) : Int) < 64 := by omega
      have h1 := HXS.out
      have h2 := HYS.out
      rw [List.take_of_length_le (by simp)] at h1 h2
      subst h1; subst h2
      clear HXS HYS HXL HYL
      go_wp2
      exact hexit _ _ wq _ _ _ _ _ _ _ _ _ _ _ _ _ _ _ _ _ _ _ _ _ _ _ _ HA.out HBB.out HNE.out HB.out
end

section
open Go.RowKit
set_option linter.unusedVariables false
set_option linter.unusedSimpArgs false

set_option maxRecDepth 100000 in
set_option maxHeartbeats 1600000 in
theorem ref4_tag (A : Option Addr) (key : List UInt8) (c : Nat) (A' : Option Addr) (text : List UInt8) (c' : Nat) (w : World) (hA : Sq w w.heap.size A c (bvs key)) (hA' : Sq w w.heap.size A' c' (bvs text)) (hn : key.length ≤ 1000000000) (hn2 : text.length ≤ 1000000000) :
    Calls Tryd.prog 9 #[.slice A key.length c, .slice A' text.length c'] w fun e w' => ∃ v, e = .returned v ∧ OwnB w' w.heap.size v (macB key text) ∧ Below w.heap.size w w' := by
  have HA := hid hA; have HA' := hid hA'
  by_cases h64 : 64 < key.length
  · have hx : (64 : Int) < (key.length : Int) := by omega
    have HD := hid (ref2_digest A key c w (by omega) hA)
    have HPK : Hid (padK key = shaB key) := hid (by unfold padK; rw [if_pos h64])
    clear hA hA' h64
    go_enter Tryd.func9, Tryd.ntmps9
    go_wp2_with fail
    refine HD.out.mono ?_
    rintro e w1 ⟨v, rfl, ho1, hb1⟩
    obtain ⟨A1, c1, rfl, hS1⟩ := own_sl ho1
    rw [← HPK.out] at hS1
    rw [← HPK.out]
    have HK1 : Hid (Lie w1 w1.heap.size A1 (bvs (padK key))) := hid hS1.lie
    have HB1 := hid hb1
    have HKL : Hid ((padK key).length ≤ 64) := hid (padK_length key)
    clear ho1 hS1 hb1 HD HPK
    go_wp2
    refine pads_loop A1 (padK key) c1 w1 _ _ _ _ _ _ _ _ _ _ _ _ _ _ _ _ _ _ _ _ _ _ _ _ _ _ _ _ _ _ _ _ _ _ _ _ _ _ _ HK1.out (by have := HKL.out; omega) ?_
    intro vi vo w2 u7 u8 u14 u15 u16 u17 u18 u19 u20 u21 u22 u23 u24 u25 u26 u27 u28 u29 u30 u31 u32 u33 u34 u35 hvi hvo hne hb2
    obtain ⟨Ai, ci, rfl, _⟩ := own_sl hvi
    obtain ⟨Ao, co, rfl, _⟩ := own_sl hvo
    have hB2 : Below w.heap.size w w2 := HB1.out.trans (hb2.mono HB1.out.size)
    have hzz : w1.heap.size ≤ w2.heap.size := hb2.size
    have hwz : w.heap.size ≤ w1.heap.size := HB1.out.size
    rw [padX_length, padX_length] at hne
    rw [padX_length, padX_length]
    have HVI : Hid (w2.ownsRow w1.heap.size 5 1 (.slice Ai 64 ci) 64 (bvs (padX 54 (padK key)))) := hid (by have h := hvi; unfold OwnB at h; rwa [padX_length] at h)
    have HVO : Hid (w2.ownsRow w1.heap.size 5 1 (.slice Ao 64 co) 64 (bvs (padX 92 (padK key)))) := hid (by have h := hvo; unfold OwnB at h; rwa [padX_length] at h)
    have HNE := hid hne; have HB2 := hid hB2
    have HT2 : Hid (Lie w2 w.heap.size A' (bvs text)) := hid (HA'.out.lie.below hB2)
    clear hvi hvo hne hb2 hB2
    go_wp2_with (at_builtin; refine wpList_append_lie rfl (.tmp 37) (.tmp 38) 22 rfl w1.heap.size 5 (.int .u8 0) 1 Tryd.underlying22 infoU8 rfl rfl HVI.out (bvs_length text) rfl HT2.out (bvs_one text) (by unfold maxLen; omega) (by omega) hzz ?_)
    intro v3 w3 hown3 hg3 _
    have ho3 : OwnB w3 w1.heap.size v3 (padX 54 (padK key) ++ text) := by unfold OwnB; rw [bvs_append, List.length_append, padX_length]; exact hown3
    have hvo3 : w3.ownsRow w1.heap.size 5 1 (.slice Ao 64 co) 64 (bvs (padX 92 (padK key))) := World.ownsRow.kept HVO.out hg3 (by
      rcases hq : (Value.slice Ao 64 co).ownBlock with _ | q
      · exact .inl rfl
      · exact .inr fun e => HNE.out q hq e.symm)
    have hB3 : Below w.heap.size w w3 := HB2.out.grown hg3 HB2.out.size (fun q h => by have := own_lt HVI.out q h; omega)
    have hz3 : w1.heap.size ≤ w3.heap.size := by have := hg3.size; omega
    obtain ⟨A3, c3, rfl, hS3⟩ := own_sl ho3
    have HD3 := hid (ref2_digest A3 (padX 54 (padK key) ++ text) c3 w3 (by rw [List.length_append, padX_length]; omega) hS3.sq)
    rw [List.length_append, padX_length] at HD3
    rw [List.length_append, padX_length]
    have HVO3 := hid hvo3; have HB3 := hid hB3
    clear hown3 hg3 ho3 hvo3 hB3 hS3 HVI HVO HT2
    go_wp2_with fail
    refine HD3.out.mono ?_
    rintro e w4 ⟨v4, rfl, ho4, hb4⟩
    obtain ⟨inn, hin⟩ : ∃ x, x = shaB (padX 54 (padK key) ++ text) := ⟨_, rfl⟩
    rw [← hin] at ho4
    have hil : inn.length = 32 := by rw [hin]; exact shaB_length _
    obtain ⟨A4, c4, rfl, hS4⟩ := own_sl ho4
    have hB4 : Below w.heap.size w w4 := HB3.out.trans (hb4.mono HB3.out.size)
    have hz4 : w1.heap.size ≤ w4.heap.size := by have := hb4.size; omega
    have HVO4 : Hid (w4.ownsRow w1.heap.size 5 1 (.slice Ao 64 co) 64 (bvs (padX 92 (padK key)))) := hid (World.ownsRow.kept HVO3.out (grown_of_below hb4) (Classical.em _))
    have HL4 := hid hS4.lie; have HB4 := hid hB4; have HIN := hid hin; have HIL := hid hil
    clear ho4 hb4 hS4 hB4 hin hil HD3 HVO3
    go_wp2_with (at_builtin; refine wpList_append_lie rfl (.tmp 36) (.tmp 40) 22 rfl w1.heap.size 5 (.int .u8 0) 1 Tryd.underlying22 infoU8 rfl rfl HVO4.out (bvs_length inn) rfl HL4.out (bvs_one inn) (by rw [HIL.out]; unfold maxLen; omega) (by rw [HIL.out]; omega) hz4 ?_)
    intro v5 w5 hown5 hg5 _
    have ho5 : OwnB w5 w1.heap.size v5 (padX 92 (padK key) ++ inn) := by unfold OwnB; rw [bvs_append, List.length_append, padX_length]; exact hown5
    have hB5 : Below w.heap.size w w5 := HB4.out.grown hg5 HB4.out.size (fun q h => by have := own_lt HVO4.out q h; omega)
    obtain ⟨A5, c5, rfl, hS5⟩ := own_sl ho5
    have HD5 := hid (ref2_digest A5 (padX 92 (padK key) ++ inn) c5 w5 (by rw [List.length_append, padX_length, HIL.out]; omega) hS5.sq)
    rw [List.length_append, padX_length] at HD5
    rw [List.length_append, padX_length]
    have HB5 := hid hB5
    clear hown5 hg5 ho5 hB5 hS5 HVO4 HL4
    go_wp2_with fail
    refine HD5.out.mono ?_
    rintro e w6 ⟨v6, rfl, ho6, hb6⟩
    have hfin : OwnB w6 w.heap.size v6 (macB key text) := by
      have h := own_base ho6 HB5.out.size
      rw [HIN.out] at h
      exact h
    have HFIN := hid hfin; have HBF := hid (HB5.out.trans (hb6.mono HB5.out.size))
    clear ho6 hb6 hfin HD5
    go_wp2
    go_ret
    exact ⟨_, rfl, HFIN.out, HBF.out⟩
  · have hx : ¬ (64 : Int) < (key.length : Int) := by omega
    have HPK : Hid (padK key = key) := hid (by unfold padK; rw [if_neg h64])
    have HK1 : Hid (Lie w w.heap.size A (bvs key)) := hid hA.lie
    have HB1 : Hid (Below w.heap.size w w) := hid (Below.refl _ _)
    clear hA hA' h64
    go_enter Tryd.func9, Tryd.ntmps9
    go_wp2
    refine pads_loop A key c w _ _ _ _ _ _ _ _ _ _ _ _ _ _ _ _ _ _ _ _ _ _ _ _ _ _ _ _ _ _ _ _ _ _ _ _ _ _ _ HK1.out (by omega) ?_
    rw [← HPK.out]
    intro vi vo w2 u7 u8 u14 u15 u16 u17 u18 u19 u20 u21 u22 u23 u24 u25 u26 u27 u28 u29 u30 u31 u32 u33 u34 u35 hvi hvo hne hb2
    obtain ⟨Ai, ci, rfl, _⟩ := own_sl hvi
    obtain ⟨Ao, co, rfl, _⟩ := own_sl hvo
    have hB2 : Below w.heap.size w w2 := HB1.out.trans (hb2.mono HB1.out.size)
    have hzz : w.heap.size ≤ w2.heap.size := hb2.size
    have hwz : w.heap.size ≤ w.heap.size := HB1.out.size
    rw [padX_length, padX_length] at hne
    rw [padX_length, padX_length]
    have HVI : Hid (w2.ownsRow w.heap.size 5 1 (.slice Ai 64 ci) 64 (bvs (padX 54 (padK key)))) := hid (by have h := hvi; unfold OwnB at h; rwa [padX_length] at h)
    have HVO : Hid (w2.ownsRow w.heap.size 5 1 (.slice Ao 64 co) 64 (bvs (padX 92 (padK key)))) := hid (by have h := hvo; unfold OwnB at h; rwa [padX_length] at h)
    have HNE := hid hne; have HB2 := hid hB2
    have HT2 : Hid (Lie w2 w.heap.size A' (bvs text)) := hid (HA'.out.lie.below hB2)
    clear hvi hvo hne hb2 hB2
    go_wp2_with (at_builtin; refine wpList_append_lie rfl (.tmp 37) (.tmp 38) 22 rfl w.heap.size 5 (.int .u8 0) 1 Tryd.underlying22 infoU8 rfl rfl HVI.out (bvs_length text) rfl HT2.out (bvs_one text) (by unfold maxLen; omega) (by omega) hzz ?_)
    intro v3 w3 hown3 hg3 _
    have ho3 : OwnB w3 w.heap.size v3 (padX 54 (padK key) ++ text) := by unfold OwnB; rw [bvs_append, List.length_append, padX_length]; exact hown3
    have hvo3 : w3.ownsRow w.heap.size 5 1 (.slice Ao 64 co) 64 (bvs (padX 92 (padK key))) := World.ownsRow.kept HVO.out hg3 (by
      rcases hq : (Value.slice Ao 64 co).ownBlock with _ | q
      · exact .inl rfl
      · exact .inr fun e => HNE.out q hq e.symm)
    have hB3 : Below w.heap.size w w3 := HB2.out.grown hg3 HB2.out.size (fun q h => by have := own_lt HVI.out q h; omega)
    have hz3 : w.heap.size ≤ w3.heap.size := by have := hg3.size; omega
    obtain ⟨A3, c3, rfl, hS3⟩ := own_sl ho3
    have HD3 := hid (ref2_digest A3 (padX 54 (padK key) ++ text) c3 w3 (by rw [List.length_append, padX_length]; omega) hS3.sq)
    rw [List.length_append, padX_length] at HD3
    rw [List.length_append, padX_length]
    have HVO3 := hid hvo3; have HB3 := hid hB3
    clear hown3 hg3 ho3 hvo3 hB3 hS3 HVI HVO HT2
    go_wp2_with fail
    refine HD3.out.mono ?_
    rintro e w4 ⟨v4, rfl, ho4, hb4⟩
    obtain ⟨inn, hin⟩ : ∃ x, x = shaB (padX 54 (padK key) ++ text) := ⟨_, rfl⟩
    rw [← hin] at ho4
    have hil : inn.length = 32 := by rw [hin]; exact shaB_length _
    obtain ⟨A4, c4, rfl, hS4⟩ := own_sl ho4
    have hB4 : Below w.heap.size w w4 := HB3.out.trans (hb4.mono HB3.out.size)
    have hz4 : w.heap.size ≤ w4.heap.size := by have := hb4.size; omega
    have HVO4 : Hid (w4.ownsRow w.heap.size 5 1 (.slice Ao 64 co) 64 (bvs (padX 92 (padK key)))) := hid (World.ownsRow.kept HVO3.out (grown_of_below hb4) (Classical.em _))
    have HL4 := hid hS4.lie; have HB4 := hid hB4; have HIN := hid hin; have HIL := hid hil
    clear ho4 hb4 hS4 hB4 hin hil HD3 HVO3
    go_wp2_with (at_builtin; refine wpList_append_lie rfl (.tmp 36) (.tmp 40) 22 rfl w.heap.size 5 (.int .u8 0) 1 Tryd.underlying22 infoU8 rfl rfl HVO4.out (bvs_length inn) rfl HL4.out (bvs_one inn) (by rw [HIL.out]; unfold maxLen; omega) (by rw [HIL.out]; omega) hz4 ?_)
    intro v5 w5 hown5 hg5 _
    have ho5 : OwnB w5 w.heap.size v5 (padX 92 (padK key) ++ inn) := by unfold OwnB; rw [bvs_append, List.length_append, padX_length]; exact hown5
    have hB5 : Below w.heap.size w w5 := HB4.out.grown hg5 HB4.out.size (fun q h => by have := own_lt HVO4.out q h; omega)
    obtain ⟨A5, c5, rfl, hS5⟩ := own_sl ho5
    have HD5 := hid (ref2_digest A5 (padX 92 (padK key) ++ inn) c5 w5 (by rw [List.length_append, padX_length, HIL.out]; omega) hS5.sq)
    rw [List.length_append, padX_length] at HD5
    rw [List.length_append, padX_length]
    have HB5 := hid hB5
    clear hown5 hg5 ho5 hB5 hS5 HVO4 HL4
    go_wp2_with fail
    refine HD5.out.mono ?_
    rintro e w6 ⟨v6, rfl, ho6, hb6⟩
    have hfin : OwnB w6 w.heap.size v6 (macB key text) := by
      have h := own_base ho6 HB5.out.size
      rw [HIN.out] at h
      exact h
    have HFIN := hid hfin; have HBF := hid (HB5.out.trans (hb6.mono HB5.out.size))
    clear ho6 hb6 hfin HD5
    go_wp2
    go_ret
    exact ⟨_, rfl, HFIN.out, HBF.out⟩
end
end Go.Proofs.YtpdkpadpdkagoaaDoor
