/-
  The document's layer 11: rows of whole numbers; all boxes; a power of x.
-/
import Derived.Test.YtfjcedfjfadfpaaLan
import Derived.Test.YtfjcedfjfadfpaaRef11b
import Derived.Test.YtfjcedfjfadfpaaAesL
import Derived.Deep.OwnRows
namespace Go.Proofs.Ytfjcedfjfadfpaa
open Go.RowKit
set_option linter.unusedVariables false
set_option linter.unusedSimpArgs false

/-- Whole numbers as cells. -/
def iR (f : Nat → Nat) (n : Nat) : List Value := (List.range n).map fun i => .int .i64 ((f i : Nat) : Int)
theorem iR_length (f : Nat → Nat) (n : Nat) : (iR f n).length = n := by simp [iR]
theorem iR_succ (f : Nat → Nat) (n : Nat) : iR f (n + 1) = iR f n ++ [.int .i64 ((f n : Nat) : Int)] := by unfold iR; rw [List.range_succ, List.map_append]; rfl
theorem iR_at (f : Nat → Nat) (n j : Nat) (h : j < n) : (iR f n)[j]? = some (.int .i64 ((f j : Nat) : Int)) := by unfold iR; simp [h]
theorem iR_congr {f g : Nat → Nat} (n : Nat) (h : ∀ i, i < n → f i = g i) : iR f n = iR g n := by
  unfold iR
  exact List.map_congr_left fun i hi => by rw [h i (by simpa using hi)]
/-- A row of whole numbers lies below B. -/
structure Ints (w : World) (B : Nat) (A : Option Addr) (c : Nat) (f : Nat → Nat) (n : Nat) : Prop where
  at_ : ∃ g, A = some ⟨g, 0, none⟩ ∧ g < B ∧ ∀ j, j < n → w.cell? ⟨g, j, none⟩ = some (.int .i64 ((f j : Nat) : Int))
  cap : n ≤ c ∧ c ≤ 9223372036854775807
theorem Ints.below {w w' : World} {B c n : Nat} {A : Option Addr} {f : Nat → Nat} (h : Ints w B A c f n) (hb : Below B w w') : Ints w' B A c f n := by
  obtain ⟨⟨g, hA, hg, hc⟩, h2⟩ := h
  exact ⟨⟨g, hA, hg, fun j hj => (hb.cell (p := ⟨g, j, none⟩) hg).trans (hc j hj)⟩, h2⟩
theorem Ints.more {w : World} {B B' c n : Nat} {A : Option Addr} {f : Nat → Nat} (h : Ints w B A c f n) (hB : B ≤ B') : Ints w B' A c f n := by
  obtain ⟨⟨g, hA, hg, hc⟩, h2⟩ := h
  exact ⟨⟨g, hA, by omega, hc⟩, h2⟩
/-- A row that the call owns. -/
theorem ints_own {w : World} {B n : Nat} {v : Value} {f : Nat → Nat} (h : w.ownsRow B 3 1 v n (iR f n)) (hn : 0 < n) : ∃ A c, v = .slice A n c ∧ Ints w w.heap.size A c f n := by
  obtain ⟨hl, h⟩ := h
  rcases h with ⟨h1, h2⟩ | ⟨g, cap, cur, hv, hb, hg, h1, h2, h3, h4⟩
  · omega
  · refine ⟨_, cap, hv, ⟨g, rfl, block_lt hg, fun j hj => cell_of hg j _ ?_⟩, h1, by simpa [maxLen] using h2⟩
    have h9 := iR_at f n j hj
    rw [← h4, Nat.mul_one, List.getElem?_take_of_lt hj] at h9
    rw [← Array.getElem?_toList]
    exact h9
theorem ints_new {w : World} {B n : Nat} {v v2 : Value} {w3 : World} {f : Nat → Nat} {z : Int} (h : w3.ownsRow B 3 1 v2 (n + 1) (iR f n ++ [.int .i64 z])) (hz : z = ((f n : Nat) : Int)) : w3.ownsRow B 3 1 v2 (n + 1) (iR f (n + 1)) := by
  rw [iR_succ, ← hz]; exact h
theorem infoI1 : (Try.prog.info? 3).map (fun i => (i.zero, i.size, i.bytes)) = some (some (.int .i64 0), 1, 8) := by kernel_rfl
theorem boxN_lt (a : Nat) : boxN a < 256 := bxN_lt _ 8
set_option maxHeartbeats 1000000 in
theorem Boxes11_any (w : World) : Calls Try.prog 13 #[] w fun e w' => ∃ A c, e = .returned (.slice A 256 c) ∧ Ints w' w'.heap.size A c boxN 256 ∧ Below w.heap.size w w' := by
  go_enter Try.func13, Try.ntmps13
  go_wp2
  go_loopg [1, 2] 256 (fun g v i wr => ∃ k : Nat, k + g = 256 ∧ i = .int .i64 (k : Int) ∧ wr.ownsRow w.heap.size 3 1 v k (iR boxN k) ∧ Below w.heap.size w wr)
  case atStart => exact ⟨0, rfl, rfl, ⟨rfl, .inl ⟨rfl, rfl⟩⟩, Below.refl _ _⟩
  case round =>
    obtain ⟨k, hk, rfl, ho, hb⟩ := hrel
    have HK := hid hk; have HO := hid ho; have HB := hid hb
    have hk256 : k ≤ 256 := by omega
    clear hk ho hb
    by_cases hlt : k < 256
    · have hx : (k : Int) < 256 := by omega
      have KB := hid (Box11_any k hlt wr)
      obtain ⟨t, ht⟩ : ∃ t, t = boxN k := ⟨_, rfl⟩
      rw [← ht] at KB
      have HT := hid ht
      have hwi : IntKind.i64.wrap ((k : Int) + 1) = ((k + 1 : Nat) : Int) := (IntWalk.i64_in _ (by omega)).trans (by omega)
      clear ht
      go_wp2_with fail
      refine KB.out.mono ?_
      rintro e w2 ⟨rfl, hb2⟩
      have ho2 : w2.ownsRow w.heap.size 3 1 u1 k (iR boxN k) := World.ownsRow.kept HO.out (row := none) ⟨hb2.os, hb2.tape, hb2.output, hb2.size, fun q hq _ => hb2.block q hq⟩ (by cases hv : u1.ownBlock <;> simp)
      have HO2 := hid (World.ownsRow.alloc ho2 (.cells #[.int .i64 (t : Int)] 3))
      have HB2 : Hid (Below w.heap.size w w2) := hid (HB.out.trans (hb2.mono HB.out.size))
      clear ho2 hb2 HO HB
      have hsz := HB2.out.size
      go_wp2_with (at_builtin; refine wpList_append_lie rfl _ _ 32 rfl w.heap.size 3 (.int .i64 0) 8 Try.underlying32 infoI1 rfl rfl HO2.out rfl rfl (Lie.new1 _ _ _) (by intro u hu; simp at hu; subst hu; rfl) ?e1 ?e2 ?e3 ?_)
      case e1 => rw [List.length_singleton]; unfold maxLen; omega
      case e2 => rw [List.length_singleton]; omega
      case e3 => simp; omega
      intro v3 w3 hown3 hg3 _
      have hb3 : Below w.heap.size w w3 := (HB2.out.alloc hsz _).grown hg3 (by simp; omega) (fun q h => own_lt HO2.out q h)
      have HO3 : Hid (w3.ownsRow w.heap.size 3 1 v3 (k + 1) (iR boxN (k + 1))) := hid (by rw [iR_succ, ← HT.out]; exact hown3)
      have HB3 := hid hb3
      clear hown3 hg3 hb3 HO2 HB2 hsz
      go_wp2
      have hk := HK.out
      go_roundg (256 - k - 1)
      case measure => omega
      case rel => exact ⟨k + 1, by omega, rfl, HO3.out, HB3.out⟩
    · have hke : k = 256 := by omega
      have hx : ¬ (k : Int) < 256 := by omega
      rw [hke] at HO
      obtain ⟨A, c, rfl, hI⟩ := ints_own HO.out (by omega)
      have HI := hid hI
      clear hI hke
      go_wp2
      go_ret
      exact ⟨A, c, rfl, HI.out, HB.out⟩
set_option maxRecDepth 100000 in
set_option maxHeartbeats 2000000 in
theorem pw11_loop {Q : Exit → Act → World → Prop} (i m : Nat) (w : World) (t0 t1 t2 t3 t4 t5 t7 t8 t9 t12 t13 t14 t15 t16 t17 t18 t19 t20 t21 t22 t23 t24 t25 t26 t27 t28 t29 t30 t31 t32 t33 t34 t35 t36 t37 t38 t39 t40 t41 t42 t43 t44 t45 t46 t47 t48 t49 t50 t51 t52 t53 t54 t55 t56 t57 t58 t59 t60 t61 t62 t63 t64 t65 t66 t67 t68 t69 t70 t71 t72 t73 t74 t75 t76 t77 t78 t79 t80 t81 t82 t83 t84 t85 t86 t87 t88 t89 t90 t91 t92 : Value) (hi : i < 44) (hm : m = i / 4) (hm1 : 1 ≤ m)
    (hexit : ∀ u64 u65 u66 u67 u68 u69 u70 u71 : Value, Q (.exit 4) ⟨(t0 :: t1 :: t2 :: t3 :: t4 :: t5 :: (.int .i64 (i : Int)) :: t7 :: t8 :: t9 :: (.int .i64 ((dbk 1 (m - 1) : Nat) : Int)) :: (.int .i64 (m : Int)) :: t12 :: t13 :: t14 :: t15 :: t16 :: t17 :: t18 :: t19 :: t20 :: t21 :: t22 :: t23 :: t24 :: t25 :: t26 :: t27 :: t28 :: t29 :: t30 :: t31 :: t32 :: t33 :: t34 :: t35 :: t36 :: t37 :: t38 :: t39 :: t40 :: t41 :: t42 :: t43 :: t44 :: t45 :: t46 :: t47 :: t48 :: t49 :: t50 :: t51 :: t52 :: t53 :: t54 :: t55 :: t56 :: t57 :: t58 :: t59 :: t60 :: t61 :: t62 :: t63 :: u64 :: u65 :: u66 :: u67 :: u68 :: u69 :: u70 :: u71 :: t72 :: t73 :: t74 :: t75 :: t76 :: t77 :: t78 :: t79 :: t80 :: t81 :: t82 :: t83 :: t84 :: t85 :: t86 :: t87 :: t88 :: t89 :: t90 :: t91 :: t92 :: []).toArray, []⟩ w) :
    Code.wp Try.prog (Code.loop (loopN Try.f14 2)) Q ⟨(t0 :: t1 :: t2 :: t3 :: t4 :: t5 :: (.int .i64 (i : Int)) :: t7 :: t8 :: t9 :: (.int .i64 1) :: (.int .i64 1) :: t12 :: t13 :: t14 :: t15 :: t16 :: t17 :: t18 :: t19 :: t20 :: t21 :: t22 :: t23 :: t24 :: t25 :: t26 :: t27 :: t28 :: t29 :: t30 :: t31 :: t32 :: t33 :: t34 :: t35 :: t36 :: t37 :: t38 :: t39 :: t40 :: t41 :: t42 :: t43 :: t44 :: t45 :: t46 :: t47 :: t48 :: t49 :: t50 :: t51 :: t52 :: t53 :: t54 :: t55 :: t56 :: t57 :: t58 :: t59 :: t60 :: t61 :: t62 :: t63 :: t64 :: t65 :: t66 :: t67 :: t68 :: t69 :: t70 :: t71 :: t72 :: t73 :: t74 :: t75 :: t76 :: t77 :: t78 :: t79 :: t80 :: t81 :: t82 :: t83 :: t84 :: t85 :: t86 :: t87 :: t88 :: t89 :: t90 :: t91 :: t92 :: []).toArray, []⟩ w := by
  conv => arg 2; arg 1; whnf
  have HM := hid hm
  have hml : m ≤ 10 := by omega
  have hq1 : ((i : Int)).tdiv 4 = (m : Int) := by rw [Int.tdiv_eq_ediv_of_nonneg (by omega)]; omega
  have hq2 : (i : Int) / 4 = (m : Int) := by omega
  have hqw : IntKind.i64.wrap (m : Int) = (m : Int) := IntWalk.i64_in _ (by omega)
  clear hm
  go_loopg [10, 11] (m - 1) (fun g p n wr => ∃ k : Nat, k + g = m - 1 ∧ n = .int .i64 ((k + 1 : Nat) : Int) ∧ p = .int .i64 ((dbk 1 k : Nat) : Int) ∧ w = wr)
  case atStart => exact ⟨0, by omega, rfl, rfl, rfl⟩
  case round =>
    obtain ⟨k, hk, rfl, rfl, rfl⟩ := hrel
    have HK := hid hk
    obtain ⟨p, hp⟩ : ∃ p, p = dbk 1 k := ⟨_, rfl⟩
    have hpl : p < 256 := by rw [hp]; exact dbk_lt (by decide) k
    rw [← hp]
    obtain ⟨n, hn⟩ : ∃ n, n = k + 1 := ⟨_, rfl⟩
    rw [← hn]
    have hnm : n ≤ m := by omega
    have HP := hid hp; have HN := hid hn
    clear hp hk hn
    by_cases hlt : n < m
    · have hx : (n : Int) < (m : Int) := by omega
      have KT : Hid (∀ W, _) := hid fun W => Times11_any p 2 hpl (by decide) W
      have ht : tmN p 2 = dbk 1 (k + 1) := by rw [← dblN_tm p hpl, HP.out]; rfl
      rw [ht] at KT
      have hwi : IntKind.i64.wrap ((n : Int) + 1) = ((k + 1 + 1 : Nat) : Int) := (IntWalk.i64_in _ (by omega)).trans (by have := HN.out; omega)
      clear ht hpl hexit
      go_wp2_with fail
      refine (KT.out _).mono ?_
      rintro e w' ⟨rfl, rfl⟩
      go_wp2
      have hk := HK.out
      have hn := HN.out
      go_roundg (m - 1 - k - 1)
      case measure => omega
      case rel => exact ⟨k + 1, by omega, rfl, rfl, rfl⟩
    · have hnm2 : n = m := by omega
      have hx : ¬ (n : Int) < (m : Int) := by omega
      have hpe : p = dbk 1 (m - 1) := by rw [HP.out]; congr 1; have := HN.out; omega
      subst hnm2
      subst hpe
      go_wp2
      exact hexit _ _ _ _ _ _ _ _
end Go.Proofs.Ytfjcedfjfadfpaa
