/-
  The document's layer 11: a key's words.
-/
import Derived.Test.YtfjcedfjfadfpaaRef11c
import Derived.Test.YtfjcedfjfadfpaaAesF
namespace Go.Proofs.Ytfjcedfjfadfpaa
open Go.RowKit
set_option linter.unusedVariables false
set_option linter.unusedSimpArgs false

/-- The byte k of word i. -/
def dwW (K : Nat → Nat) (i k : Nat) : Nat := kW K (i / 4) (4 * (i % 4) + k)
theorem dwW_lt {K : Nat → Nat} (hK : ∀ i, K i < 256) (i k : Nat) : dwW K i k < 256 := kW_lt hK _ _
theorem dwW_first (K : Nat → Nat) (i k : Nat) (hi : i < 4) : dwW K i k = K (4 * i + k) := by
  unfold dwW
  rw [show i / 4 = 0 by omega, show i % 4 = i by omega]; rfl
theorem nx_at (S : Nat → Nat) (p c k : Nat) (hk : k < 4) : nx S p (4 * c + k) = nxc S p c k := by
  unfold nx
  rw [show (4 * c + k) / 4 = c by omega, show (4 * c + k) % 4 = k by omega]
theorem dwW_plain (K : Nat → Nat) (i k : Nat) (hi : 4 ≤ i) (hk : k < 4) (h0 : i % 4 ≠ 0) : dwW K i k = dwW K (i - 4) k ^^^ dwW K (i - 1) k := by
  obtain ⟨n, c, rfl, hc⟩ : ∃ n c, i = 4 * (n + 1) + (c + 1) ∧ c < 3 := ⟨i / 4 - 1, i % 4 - 1, by omega, by omega⟩
  unfold dwW
  rw [show (4 * (n + 1) + (c + 1)) / 4 = n + 1 by omega, show (4 * (n + 1) + (c + 1)) % 4 = c + 1 by omega, show (4 * (n + 1) + (c + 1) - 4) / 4 = n by omega, show (4 * (n + 1) + (c + 1) - 4) % 4 = c + 1 by omega,
    show (4 * (n + 1) + (c + 1) - 1) / 4 = n + 1 by omega, show (4 * (n + 1) + (c + 1) - 1) % 4 = c by omega]
  show nx (kW K n) (dbk 1 n) (4 * (c + 1) + k) = kW K n (4 * (c + 1) + k) ^^^ nx (kW K n) (dbk 1 n) (4 * c + k)
  rw [nx_at _ _ _ _ hk, nx_at _ _ _ _ hk, Nat.xor_comm]; rfl
theorem dwW_turn {K : Nat → Nat} (hK : ∀ i, K i < 256) (i k : Nat) (hi : 4 ≤ i) (hk : k < 4) (h0 : i % 4 = 0) :
    dwW K i k = dwW K (i - 4) k ^^^ (boxN (dwW K (i - 1) ((k + 1) % 4)) ^^^ (if k = 0 then dbk 1 (i / 4 - 1) else 0)) := by
  obtain ⟨n, rfl⟩ : ∃ n, i = 4 * (n + 1) := ⟨i / 4 - 1, by omega⟩
  unfold dwW
  rw [show 4 * (n + 1) / 4 = n + 1 by omega, show 4 * (n + 1) % 4 = 0 by omega, show (4 * (n + 1) - 4) / 4 = n by omega, show (4 * (n + 1) - 4) % 4 = 0 by omega,
    show (4 * (n + 1) - 1) / 4 = n by omega, show (4 * (n + 1) - 1) % 4 = 3 by omega, show n + 1 - 1 = n by omega]
  show nx (kW K n) (dbk 1 n) (4 * 0 + k) = _
  rw [nx_at _ _ _ _ hk, ← boxC_is _ (kW_lt hK _ _), Nat.xor_comm, Nat.mul_zero, Nat.zero_add]; rfl
theorem kW_dw (K : Nat → Nat) (n i : Nat) (hi : i < 16) : kW K n i = dwW K (4 * n + i / 4) (i % 4) := by
  unfold dwW
  rw [show (4 * n + i / 4) / 4 = n by omega, show (4 * n + i / 4) % 4 = i / 4 by omega, show 4 * (i / 4) + i % 4 = i by omega]
/-- The j-th of i rows lies there. -/
def RowAt (w : World) (Aw : Option Addr) (i cw : Nat) (K : Nat → Nat) (j : Nat) : Prop :=
  ∃ b A c, Aw = some ⟨b, 0, none⟩ ∧ i ≤ cw ∧ cw ≤ 9223372036854775807 ∧ b < w.heap.size ∧ w.cell? ⟨b, j, none⟩ = some (.slice A 4 c) ∧ Ints w w.heap.size A c (dwW K j) 4
set_option maxRecDepth 100000 in
set_option maxHeartbeats 4000000 in
theorem word11_loop {Q : Exit → Act → World → Prop} (i : Nat) (A Ab Aw : Option Addr) (c cb cw : Nat) (key : List UInt8) (wi : World) (t2 t3 t4 t9 t10 t11 t12 t13 t14 t15 t16 t17 t18 t19 t20 t21 t22 t23 t24 t25 t26 t27 t28 t29 t30 t31 t32 t33 t34 t35 t36 t37 t38 t39 t40 t41 t42 t43 t44 t45 t46 t47 t48 t49 t50 t51 t52 t53 t54 t55 t56 t57 t58 t59 t60 t61 t62 t63 t64 t65 t66 t67 t68 t69 t70 t71 t72 t73 t74 t75 t76 t77 t78 t79 t80 t81 t82 t83 t84 t85 t86 t87 t88 t89 t90 t91 t92 : Value) (hi : i < 44) (hkey : key.length = 16) (hA : Lie wi wi.heap.size A (bvs key)) (hc : 16 ≤ c ∧ c ≤ 9223372036854775807)
    (hBox : Ints wi wi.heap.size Ab cb boxN 256) (hW : ∀ j, j < i → RowAt wi Aw i cw (bf key) j)
    (hexit : ∀ (v : Value) (w' : World) (u9 u10 u11 u16 u17 u18 u19 u20 u21 u22 u23 u24 u25 u26 u27 u28 u29 u30 u31 u32 u33 u34 u35 u36 u37 u38 u39 u40 u41 u42 u43 u44 u45 u46 u47 u48 u49 u50 u51 u52 u53 u54 u55 u56 u57 u58 u59 u60 u61 u62 u63 u64 u65 u66 u67 u68 u69 u70 u71 u72 u73 u74 u75 u76 u77 u78 u79 u80 u81 u82 u83 u84 u85 u86 u87 : Value), w'.ownsRow wi.heap.size 3 1 v 4 (iR (dwW (bf key) i) 4) → Below wi.heap.size wi w' → Q (.exit 2) ⟨((.slice A 16 c) :: (.slice Ab 256 cb) :: t2 :: t3 :: t4 :: (.slice Aw i cw) :: (.int .i64 (i : Int)) :: v :: (.int .i64 4) :: u9 :: u10 :: u11 :: t12 :: t13 :: t14 :: t15 :: u16 :: u17 :: u18 :: u19 :: u20 :: u21 :: u22 :: u23 :: u24 :: u25 :: u26 :: u27 :: u28 :: u29 :: u30 :: u31 :: u32 :: u33 :: u34 :: u35 :: u36 :: u37 :: u38 :: u39 :: u40 :: u41 :: u42 :: u43 :: u44 :: u45 :: u46 :: u47 :: u48 :: u49 :: u50 :: u51 :: u52 :: u53 :: u54 :: u55 :: u56 :: u57 :: u58 :: u59 :: u60 :: u61 :: u62 :: u63 :: u64 :: u65 :: u66 :: u67 :: u68 :: u69 :: u70 :: u71 :: u72 :: u73 :: u74 :: u75 :: u76 :: u77 :: u78 :: u79 :: u80 :: u81 :: u82 :: u83 :: u84 :: u85 :: u86 :: u87 :: t88 :: t89 :: t90 :: t91 :: t92 :: []).toArray, []⟩ w') :
    Code.wp Try.prog (Code.loop (loopN Try.f14 1)) Q ⟨((.slice A 16 c) :: (.slice Ab 256 cb) :: t2 :: t3 :: t4 :: (.slice Aw i cw) :: (.int .i64 (i : Int)) :: (.slice none 0 0) :: (.int .i64 0) :: t9 :: t10 :: t11 :: t12 :: t13 :: t14 :: t15 :: t16 :: t17 :: t18 :: t19 :: t20 :: t21 :: t22 :: t23 :: t24 :: t25 :: t26 :: t27 :: t28 :: t29 :: t30 :: t31 :: t32 :: t33 :: t34 :: t35 :: t36 :: t37 :: t38 :: t39 :: t40 :: t41 :: t42 :: t43 :: t44 :: t45 :: t46 :: t47 :: t48 :: t49 :: t50 :: t51 :: t52 :: t53 :: t54 :: t55 :: t56 :: t57 :: t58 :: t59 :: t60 :: t61 :: t62 :: t63 :: t64 :: t65 :: t66 :: t67 :: t68 :: t69 :: t70 :: t71 :: t72 :: t73 :: t74 :: t75 :: t76 :: t77 :: t78 :: t79 :: t80 :: t81 :: t82 :: t83 :: t84 :: t85 :: t86 :: t87 :: t88 :: t89 :: t90 :: t91 :: t92 :: []).toArray, []⟩ wi := by
  conv => arg 2; arg 1; whnf
  have HA := hid hA; have HBX := hid hBox; have HW := hid hW; have HKEY := hid hkey
  clear hA hBox hW hkey
  go_loopg [7, 8] 4 (fun g v kk wr => ∃ k : Nat, k + g = 4 ∧ kk = .int .i64 (k : Int) ∧ wr.ownsRow wi.heap.size 3 1 v k (iR (dwW (bf key) i) k) ∧ Below wi.heap.size wi wr)
  case atStart => exact ⟨0, rfl, rfl, ⟨rfl, .inl ⟨rfl, rfl⟩⟩, Below.refl _ _⟩
  case round =>
    obtain ⟨k, hk, rfl, ho, hb⟩ := hrel
    have HK := hid hk; have HO := hid ho; have HB := hid hb
    have hk4 : k ≤ 4 := by omega
    have hsz := hb.size
    clear hk ho hb
    by_cases hlt : k < 4
    · have hx : (k : Int) < 4 := by omega
      have hk0 : (0 : Int) ≤ (k : Int) := by omega
      have hwk : IntKind.i64.wrap ((k : Int) + 1) = ((k + 1 : Nat) : Int) := (IntWalk.i64_in _ (by omega)).trans (by omega)
      clear hexit
      by_cases hi4 : i < 4
      · have hi4i : (i : Int) < 4 := by omega
        obtain ⟨m, hm⟩ : ∃ m, m = 4 * i := ⟨_, rfl⟩
        obtain ⟨q, hq⟩ : ∃ q, q = m + k := ⟨_, rfl⟩
        have hmw : IntKind.i64.wrap (4 * (i : Int)) = (m : Int) := (IntWalk.i64_in _ (by omega)).trans (by omega)
        have hqw : IntKind.i64.wrap ((m : Int) + (k : Int)) = (q : Int) := (IntWalk.i64_in _ (by omega)).trans (by omega)
        have hq16 : (q : Int) < 16 := by omega
        have hq0 : (0 : Int) ≤ (q : Int) := by omega
        obtain ⟨gb, ob, rfl, hgb, hcell⟩ := (HA.out.below HB.out).byte (k := q) (by rw [HKEY.out]; omega)
        have hyb := bf_at key q (by rw [HKEY.out]; omega)
        obtain ⟨y, hy⟩ : ∃ y, y = bf key q := ⟨_, rfl⟩
        rw [← hyb, ← hy] at hcell
        have hyl : y < 256 := by rw [hy]; exact bf_lt key q
        have hyw : IntKind.i64.wrap (y : Int) = (y : Int) := IntWalk.i64_in _ (by omega)
        have HVAL : Hid (dwW (bf key) i k = y) := hid (by rw [dwW_first _ _ _ hi4, hy, hq, hm])
        have HO1 := hid (World.ownsRow.alloc HO.out (.cells #[.int .i64 (y : Int)] 3))
        clear hm hq hy hyb hyl HO
        go_wp2_with (at_builtin; refine wpList_append_lie rfl _ _ 32 rfl wi.heap.size 3 (.int .i64 0) 8 Try.underlying32 infoI1 rfl rfl HO1.out rfl rfl (Lie.new1 _ _ _) (by intro u hu; simp at hu; subst hu; rfl) ?e1 ?e2 ?e3 ?_)
        case e1 => first | (rw [List.length_singleton]; unfold maxLen; omega) | (unfold maxLen; omega)
        case e2 => first | (rw [List.length_singleton]; omega) | omega
        case e3 => first | (simp; omega) | omega
        intro v3 w3 hown3 hg3 _
        have hb3 : Below wi.heap.size wi w3 := (HB.out.alloc hsz _).grown hg3 (by simp; omega) (fun q h => own_lt HO1.out q h)
        have HO3 : Hid (w3.ownsRow wi.heap.size 3 1 v3 (k + 1) (iR (dwW (bf key) i) (k + 1))) := hid (by rw [iR_succ, HVAL.out]; exact hown3)
        have HB3 := hid hb3
        clear hown3 hg3 hb3 HO1 HB hsz
        go_wp2
        have hk := HK.out
        go_roundg (4 - k - 1)
        case measure => omega
        case rel => exact ⟨k + 1, by omega, rfl, HO3.out, HB3.out⟩
      · have hi4i : ¬ (i : Int) < 4 := by omega
        obtain ⟨j1, hj1⟩ : ∃ j, j = i - 1 := ⟨_, rfl⟩
        obtain ⟨j4, hj4⟩ : ∃ j, j = i - 4 := ⟨_, rfl⟩
        have hw1 : IntKind.i64.wrap ((i : Int) - 1) = (j1 : Int) := (IntWalk.i64_in _ (by omega)).trans (by omega)
        have hw4 : IntKind.i64.wrap ((i : Int) - 4) = (j4 : Int) := (IntWalk.i64_in _ (by omega)).trans (by omega)
        have hj1i : (j1 : Int) < (i : Int) := by omega
        have hj10 : (0 : Int) ≤ (j1 : Int) := by omega
        have hj4i : (j4 : Int) < (i : Int) := by omega
        have hj40 : (0 : Int) ≤ (j4 : Int) := by omega
        obtain ⟨b, A1, c1, rfl, hcw, hcw2, hb, hc1, ⟨g1, rfl, hg1, hd1⟩, hcap1⟩ := HW.out j1 (by omega)
        obtain ⟨b4, A4, c4, hb4, _, _, _, hc4, ⟨g4, rfl, hg4, hd4⟩, hcap4⟩ := HW.out j4 (by omega)
        simp only [Option.some.injEq, Addr.mk.injEq] at hb4
        obtain ⟨rfl, _, _⟩ := hb4
        have hc1r := (HB.out.cell (p := ⟨b, j1, none⟩) hb).trans hc1
        have hc4r := (HB.out.cell (p := ⟨b, j4, none⟩) hb).trans hc4
        have hd1r := (HB.out.cell (p := ⟨g1, k, none⟩) hg1).trans (hd1 k hlt)
        have hd4r := (HB.out.cell (p := ⟨g4, k, none⟩) hg4).trans (hd4 k hlt)
        obtain ⟨x1, hx1⟩ : ∃ x, x = dwW (bf key) j1 k := ⟨_, rfl⟩
        obtain ⟨x4, hx4⟩ : ∃ x, x = dwW (bf key) j4 k := ⟨_, rfl⟩
        have hx4l : x4 < 256 := by rw [hx4]; exact dwW_lt (bf_lt key) _ _
        have hx1l : x1 < 256 := by rw [hx1]; exact dwW_lt (bf_lt key) _ _
        rw [← hx1] at hd1r
        rw [← hx4] at hd4r
        obtain ⟨r, hr⟩ : ∃ r, r = i % 4 := ⟨_, rfl⟩
        obtain ⟨hr1, hr2, hrw⟩ := rem4 hr (by omega)
        by_cases hr0 : r = 0
        · have hr0i : ((r : Int) == 0) = true := by rw [hr0]; rfl
          have hr0j : (r : Int) = 0 := by omega
          obtain ⟨k1, hk1⟩ : ∃ x, x = k + 1 := ⟨_, rfl⟩
          obtain ⟨k2, hk2⟩ : ∃ x, x = k1 % 4 := ⟨_, rfl⟩
          have hwk1 : IntKind.i64.wrap ((k : Int) + 1) = (k1 : Int) := hwk.trans (by rw [hk1])
          obtain ⟨hs1, hs2, hsw⟩ := rem4 hk2 (by omega)
          have hk24 : (k2 : Int) < 4 := by omega
          have hk20 : (0 : Int) ≤ (k2 : Int) := by omega
          have hd2r := (HB.out.cell (p := ⟨g1, k2, none⟩) hg1).trans (hd1 k2 (by omega))
          obtain ⟨x2, hx2⟩ : ∃ x, x = dwW (bf key) j1 k2 := ⟨_, rfl⟩
          rw [← hx2] at hd2r
          have hx2l : x2 < 256 := by rw [hx2]; exact dwW_lt (bf_lt key) _ _
          have hx2i : (x2 : Int) < 256 := by omega
          have hx20 : (0 : Int) ≤ (x2 : Int) := by omega
          obtain ⟨⟨gB, rfl, hgB, hcB⟩, hcapB⟩ := HBX.out
          have hbx := (HB.out.cell (p := ⟨gB, x2, none⟩) hgB).trans (hcB x2 hx2l)
          obtain ⟨y, hy⟩ : ∃ y, y = boxN x2 := ⟨_, rfl⟩
          rw [← hy] at hbx
          have hyl : y < 256 := by rw [hy]; exact boxN_lt x2
          have hval := dwW_turn (bf_lt key) i k (by omega) hlt (by omega)
          rw [← hj4, ← hx4, ← hj1, ← hk1, ← hk2, ← hx2, ← hy] at hval
          clear hwk
          by_cases hk0e : k = 0
          · subst hk0e
            obtain rfl : k1 = 1 := by omega
            obtain rfl : k2 = 1 := by omega
            have hwk : IntKind.i64.wrap (((0 : Nat) : Int) + 1) = ((0 + 1 : Nat) : Int) := rfl
            obtain ⟨m, hm⟩ : ∃ m, m = i / 4 := ⟨_, rfl⟩
            obtain ⟨p, hp⟩ : ∃ p, p = dbk 1 (m - 1) := ⟨_, rfl⟩
            have hpl : p < 256 := by rw [hp]; exact dbk_lt (by decide) _
            rw [if_pos rfl, ← hm, ← hp] at hval
            have hxor := i64_xor_nat' y p (by omega) (by omega)
            obtain ⟨s, hs⟩ : ∃ s, s = y ^^^ p := ⟨_, rfl⟩
            rw [← hs] at hxor hval
            have hsl : s < 256 := by rw [hs]; exact xor_b hyl hpl
            have hxor2 := i64_xor_nat' x4 s (by omega) (by omega)
            obtain ⟨z, hz⟩ : ∃ z, z = x4 ^^^ s := ⟨_, rfl⟩
            rw [← hz] at hxor2 hval
            have HVAL := hid hval
            have HO1 := hid (World.ownsRow.alloc HO.out (.cells #[.int .i64 (z : Int)] 3))
            have HM := hid hm; have HP := hid hp; have HI := hid hi
            have HM1 : Hid (1 ≤ m) := hid (by omega)
            clear hr hk1 hk2 hx1 hx2 hx4 hx4l hx1l hx2l hy hyl hs hsl hpl hz hval hp hm hj1 hj4 hc1 hc4 hd1 hd4 hcB HO hb hg1 hg4 hgB hcap1 hcap4 hi
            have HD : Hid _ := hid hxor
            go_wp2
            refine pw11_loop i m _ _ _ _ _ _ _ _ _ _ _ _ _ _ _ _ _ _ _ _ _ _ _ _ _ _ _ _ _ _ _ _ _ _ _ _ _ _ _ _ _ _ _ _ _ _ _ _ _ _ _ _ _ _ _ _ _ _ _ _ _ _ _ _ _ _ _ _ _ _ _ _ _ _ _ _ _ _ _ _ _ _ _ _ _ _ _ _ _ _ _ HI.out HM.out HM1.out ?_
            intro u64 u65 u66 u67 u68 u69 u70 u71
            rw [← HP.out]
            go_wp2_with (at_builtin; refine wpList_append_lie rfl _ _ 32 rfl wi.heap.size 3 (.int .i64 0) 8 Try.underlying32 infoI1 rfl rfl HO1.out rfl rfl (Lie.new1 _ _ _) (by intro u hu; simp at hu; subst hu; rfl) ?e1 ?e2 ?e3 ?_)
            case e1 => first | (rw [List.length_singleton]; unfold maxLen; omega) | (unfold maxLen; omega)
            case e2 => first | (rw [List.length_singleton]; omega) | omega
            case e3 => first | (simp; omega) | omega
            intro v3 w3 hown3 hg3 _
            have hb3 : Below wi.heap.size wi w3 := (HB.out.alloc hsz _).grown hg3 (by simp; omega) (fun q h => own_lt HO1.out q h)
            have HO3 : Hid (w3.ownsRow wi.heap.size 3 1 v3 (0 + 1) (iR (dwW (bf key) i) (0 + 1))) := hid (by rw [iR_succ, HVAL.out]; exact hown3)
            have HB3 := hid hb3
            clear hown3 hg3 hb3 HO1 HB hsz
            go_wp2
            have hk := HK.out
            go_roundg (4 - 0 - 1)
            case measure => omega
            case rel => exact ⟨0 + 1, by omega, rfl, HO3.out, HB3.out⟩
          · have hke : ((k : Int) == 0) = false := by rw [beq_eq_false_iff_ne]; omega
            have hke2 : ¬ (k : Int) = 0 := by omega
            rw [if_neg hk0e, Nat.xor_zero] at hval
            have hxor2 := i64_xor_nat' x4 y (by omega) (by omega)
            obtain ⟨z, hz⟩ : ∃ z, z = x4 ^^^ y := ⟨_, rfl⟩
            rw [← hz] at hxor2 hval
            have HVAL := hid hval
            have HO1 := hid (World.ownsRow.alloc HO.out (.cells #[.int .i64 (z : Int)] 3))
            have HK1 := hid hk1
            clear hr hk2 hx1 hx2 hx4 hx4l hx1l hx2l hy hyl hz hval hj1 hj4 hc1 hc4 hd1 hd4 hcB HO hb hg1 hg4 hgB hcap1 hcap4 hi hk1
            go_wp2_with (at_builtin; refine wpList_append_lie rfl _ _ 32 rfl wi.heap.size 3 (.int .i64 0) 8 Try.underlying32 infoI1 rfl rfl HO1.out rfl rfl (Lie.new1 _ _ _) (by intro u hu; simp at hu; subst hu; rfl) ?e1 ?e2 ?e3 ?_)
            case e1 => first | (rw [List.length_singleton]; unfold maxLen; omega) | (unfold maxLen; omega)
            case e2 => first | (rw [List.length_singleton]; omega) | omega
            case e3 => first | (simp; omega) | omega
            intro v3 w3 hown3 hg3 _
            have hb3 : Below wi.heap.size wi w3 := (HB.out.alloc hsz _).grown hg3 (by simp; omega) (fun q h => own_lt HO1.out q h)
            have HO3 : Hid (w3.ownsRow wi.heap.size 3 1 v3 (k + 1) (iR (dwW (bf key) i) (k + 1))) := hid (by rw [iR_succ, HVAL.out]; exact hown3)
            have HB3 := hid hb3
            clear hown3 hg3 hb3 HO1 HB hsz
            go_wp2
            have hk := HK.out
            go_roundg (4 - k - 1)
            case measure => omega
            case rel => exact ⟨k + 1, by omega, by rw [HK1.out], HO3.out, HB3.out⟩
        · have hr0i : ((r : Int) == 0) = false := by rw [beq_eq_false_iff_ne]; omega
          have hr0j : ¬ (r : Int) = 0 := by omega
          have hval := dwW_plain (bf key) i k (by omega) hlt (by omega)
          rw [← hj4, ← hj1, ← hx4, ← hx1] at hval
          have hxor2 := i64_xor_nat' x4 x1 (by omega) (by omega)
          obtain ⟨z, hz⟩ : ∃ z, z = x4 ^^^ x1 := ⟨_, rfl⟩
          rw [← hz] at hxor2 hval
          have HVAL := hid hval
          have HO1 := hid (World.ownsRow.alloc HO.out (.cells #[.int .i64 (z : Int)] 3))
          clear hr hx1 hx4 hx4l hx1l hz hval hj1 hj4 hc1 hc4 hd1 hd4 HO hb hg1 hg4 hcap1 hcap4 hi
          go_wp2_with (at_builtin; refine wpList_append_lie rfl _ _ 32 rfl wi.heap.size 3 (.int .i64 0) 8 Try.underlying32 infoI1 rfl rfl HO1.out rfl rfl (Lie.new1 _ _ _) (by intro u hu; simp at hu; subst hu; rfl) ?e1 ?e2 ?e3 ?_)
          case e1 => first | (rw [List.length_singleton]; unfold maxLen; omega) | (unfold maxLen; omega)
          case e2 => first | (rw [List.length_singleton]; omega) | omega
          case e3 => first | (simp; omega) | omega
          intro v3 w3 hown3 hg3 _
          have hb3 : Below wi.heap.size wi w3 := (HB.out.alloc hsz _).grown hg3 (by simp; omega) (fun q h => own_lt HO1.out q h)
          have HO3 : Hid (w3.ownsRow wi.heap.size 3 1 v3 (k + 1) (iR (dwW (bf key) i) (k + 1))) := hid (by rw [iR_succ, HVAL.out]; exact hown3)
          have HB3 := hid hb3
          clear hown3 hg3 hb3 HO1 HB hsz
          go_wp2
          have hk := HK.out
          go_roundg (4 - k - 1)
          case measure => omega
          case rel => exact ⟨k + 1, by omega, rfl, HO3.out, HB3.out⟩
    · have hke : k = 4 := by omega
      subst hke
      have hx : ¬ ((4 : Nat) : Int) < 4 := by omega
      clear hx
      go_wp2
      exact hexit _ _ _ _ _ _ _ _ _ _ _ _ _ _ _ _ _ _ _ _ _ _ _ _ _ _ _ _ _ _ _ _ _ _ _ _ _ _ _ _ _ _ _ _ _ _ _ _ _ _ _ _ _ _ _ _ _ _ _ _ _ _ _ _ _ _ _ _ _ _ _ _ _ _ _ _ _ HO.out HB.out
end Go.Proofs.Ytfjcedfjfadfpaa
