/-
  Package aes: a key's words.
-/
import Derived.Test.YtfjcedfjfadfpaaAesD
import Derived.Test.YtfjcedfjfadfpaaAesE
import Derived.Test.YtfjcedfjfadfpaaSym
namespace Go.Proofs.Ytfjcedfjfadfpaa
open Go.RowKit
set_option linter.unusedVariables false
set_option linter.unusedSimpArgs false

abbrev KWT : TypeId := 46
/-- Forty-four words as an array. -/
def kF (F : Nat → Nat) : Array Value := ((List.range 44).map fun i => Value.int .u32 (F i : Int)).toArray
abbrev z44 : Array Value := #[.int .u32 0, .int .u32 0, .int .u32 0, .int .u32 0, .int .u32 0, .int .u32 0, .int .u32 0, .int .u32 0, .int .u32 0, .int .u32 0, .int .u32 0, .int .u32 0, .int .u32 0, .int .u32 0, .int .u32 0, .int .u32 0, .int .u32 0, .int .u32 0, .int .u32 0, .int .u32 0, .int .u32 0, .int .u32 0, .int .u32 0, .int .u32 0, .int .u32 0, .int .u32 0, .int .u32 0, .int .u32 0, .int .u32 0, .int .u32 0, .int .u32 0, .int .u32 0, .int .u32 0, .int .u32 0, .int .u32 0, .int .u32 0, .int .u32 0, .int .u32 0, .int .u32 0, .int .u32 0, .int .u32 0, .int .u32 0, .int .u32 0, .int .u32 0]
abbrev k44 (a b c d : Nat) : Array Value := #[.int .u32 (a : Int), .int .u32 (b : Int), .int .u32 (c : Int), .int .u32 (d : Int), .int .u32 0, .int .u32 0, .int .u32 0, .int .u32 0, .int .u32 0, .int .u32 0, .int .u32 0, .int .u32 0, .int .u32 0, .int .u32 0, .int .u32 0, .int .u32 0, .int .u32 0, .int .u32 0, .int .u32 0, .int .u32 0, .int .u32 0, .int .u32 0, .int .u32 0, .int .u32 0, .int .u32 0, .int .u32 0, .int .u32 0, .int .u32 0, .int .u32 0, .int .u32 0, .int .u32 0, .int .u32 0, .int .u32 0, .int .u32 0, .int .u32 0, .int .u32 0, .int .u32 0, .int .u32 0, .int .u32 0, .int .u32 0, .int .u32 0, .int .u32 0, .int .u32 0, .int .u32 0]
theorem k44_is (f : Nat → Nat) : k44 (f 0) (f 1) (f 2) (f 3) = kF fun j => if j < 4 then f j else 0 := rfl
theorem kF_zero : kF (fun _ => 0) = z44 := rfl
theorem kF_size (F : Nat → Nat) : (kF F).size = 44 := by simp [kF]
theorem kF_get (F : Nat → Nat) (k : Nat) (h : k < 44) : (kF F)[k]? = some (.int .u32 (F k : Int)) := by
  unfold kF
  rw [List.getElem?_toArray, List.getElem?_map, List.getElem?_range h]; rfl
theorem kF_one (F : Nat → Nat) : (kF F).all (·.oneCell') = true := by
  rw [Array.all_eq_true']
  intro v hv
  simp only [kF, List.mem_toArray, List.mem_map] at hv
  obtain ⟨x, _, rfl⟩ := hv
  rfl
theorem kF_congr {F G : Nat → Nat} (h : ∀ i, i < 44 → F i = G i) : kF F = kF G := by
  unfold kF
  congr 1
  exact List.map_congr_left fun i hi => by rw [h i (by simpa using hi)]
theorem info44 : (Try.prog.info? 46).map (·.size) = some 44 := by kernel_rfl
theorem undK : Try.prog.underlying 46 = some (.array 11 44) := Try.underlying46
theorem kF_set (F : Nat → Nat) (k v : Nat) (h : k < 44) : (kF F).setIfInBounds k (.int .u32 (v : Int)) = kF fun q => if q = k then v else F q := by
  unfold kF
  rw [List.setIfInBounds_toArray]
  congr 1
  apply List.ext_getElem
  · simp
  · intro i h1 h2
    rw [List.getElem_set]
    simp only [List.getElem_map, List.getElem_range]
    by_cases e : k = i
    · rw [if_pos e, if_pos e.symm]
    · rw [if_neg e, if_neg (Ne.symm e)]
/-- A key's words, four at a time. -/
def kW (K : Nat → Nat) : Nat → Nat → Nat
  | 0 => K
  | n + 1 => nx (kW K n) (dbk 1 n)
theorem pw_lt (n : Nat) : dbk 1 n < 256 := dbk_lt (by decide) n
theorem kW_lt {K : Nat → Nat} (hK : ∀ i, K i < 256) : ∀ n i, kW K n i < 256
  | 0, i => hK i
  | n + 1, i => nx_lt (kW_lt hK n) (pw_lt n) i
theorem pow_is : ∀ n, n < 11 → dbW 1 n = dbk 1 n := by decide +kernel
def wc (K : Nat → Nat) (j : Nat) : Nat := col (kW K (j / 4)) (j % 4)
def wcut (K : Nat → Nat) (n j : Nat) : Nat := if j < (n + 1) * 4 then wc K j else 0
/-- Four words more. -/
theorem wcut_next (K : Nat → Nat) (n : Nat) (hn : n < 10) :
    ((((kF (wcut K n)).setIfInBounds ((n + 1) * 4) (.int .u32 ((col (kW K (n + 1)) 0 : Nat) : Int))).setIfInBounds ((n + 1) * 4 + 1) (.int .u32 ((col (kW K (n + 1)) 1 : Nat) : Int))).setIfInBounds ((n + 1) * 4 + 1 + 1) (.int .u32 ((col (kW K (n + 1)) 2 : Nat) : Int))).setIfInBounds ((n + 1) * 4 + 1 + 1 + 1) (.int .u32 ((col (kW K (n + 1)) 3 : Nat) : Int)) = kF (wcut K (n + 1)) := by
  rw [kF_set _ _ _ (by omega), kF_set _ _ _ (by omega), kF_set _ _ _ (by omega), kF_set _ _ _ (by omega)]
  refine kF_congr fun i hi => ?_
  unfold wcut wc
  by_cases h3 : i = (n + 1) * 4 + 1 + 1 + 1
  · rw [if_pos h3, if_pos (by omega), show i / 4 = n + 1 by omega, show i % 4 = 3 by omega]
  · rw [if_neg h3]
    by_cases h2 : i = (n + 1) * 4 + 1 + 1
    · rw [if_pos h2, if_pos (by omega), show i / 4 = n + 1 by omega, show i % 4 = 2 by omega]
    · rw [if_neg h2]
      by_cases h1 : i = (n + 1) * 4 + 1
      · rw [if_pos h1, if_pos (by omega), show i / 4 = n + 1 by omega, show i % 4 = 1 by omega]
      · rw [if_neg h1]
        by_cases h0 : i = (n + 1) * 4
        · rw [if_pos h0, if_pos (by omega), show i / 4 = n + 1 by omega, show i % 4 = 0 by omega]
        · rw [if_neg h0]
          by_cases h : i < (n + 1) * 4
          · rw [if_pos h, if_pos (by omega)]
          · rw [if_neg h, if_neg (by omega)]
theorem set4 {w : World} {g : Nat} {cs : Array Value} {t : TypeId} (h : w.heap[g]? = some (.cells cs t (0, 0))) (o : Nat) (a b c d : Value) :
    (w.setCells g o [a, b, c, d]).heap[g]? = some (.cells ((((cs.setIfInBounds o a).setIfInBounds (o + 1) b).setIfInBounds (o + 1 + 1) c).setIfInBounds (o + 1 + 1 + 1) d) t (0, 0)) :=
  block_set (block_set (block_set (block_set h o a) (o + 1) b) (o + 1 + 1) c) (o + 1 + 1 + 1) d
theorem set4_other {w : World} {g k : Nat} (o : Nat) (a b c d : Value) (hk : k ≠ g) : (w.setCells g o [a, b, c, d]).heap[k]? = w.heap[k]? := by
  show ((((w.setCell ⟨g, o, none⟩ a).setCell ⟨g, o + 1, none⟩ b).setCell ⟨g, o + 1 + 1, none⟩ c).setCell ⟨g, o + 1 + 1 + 1, none⟩ d).heap[k]? = _
  rw [heap_setCell_other _ _ _ _ (by simpa using hk), heap_setCell_other _ _ _ _ (by simpa using hk), heap_setCell_other _ _ _ _ (by simpa using hk), heap_setCell_other _ _ _ _ (by simpa using hk)]
theorem set4_below {B : Nat} {v w : World} (h : Below B v w) {g : Nat} (o : Nat) (a b c d : Value) (hg : B ≤ g) : Below B v (w.setCells g o [a, b, c, d]) :=
  (((h.setCell (by simpa using hg) _).setCell (by simpa using hg) _).setCell (by simpa using hg) _).setCell (by simpa using hg) _
theorem row_range {w : World} {g : Nat} {F : Nat → Nat} (h : w.heap[g]? = some (.cells (kF F) KWT (0, 0))) (o : Nat) (ho : o + 4 ≤ 44) {a b c d : Nat} (ha : F o = a) (hb : F (o + 1) = b) (hc : F (o + 2) = c) (hd : F (o + 3) = d) :
    w.rangeAt g o [.int .u32 (a : Int), .int .u32 (b : Int), .int .u32 (c : Int), .int .u32 (d : Int)] := fun j v hj => by
  have hl : j < 4 := by have := (List.getElem?_eq_some_iff.1 hj).1; simpa using this
  have h4 : j = 0 ∨ j = 1 ∨ j = 2 ∨ j = 3 := by omega
  refine cell_of h (o + j) v ((kF_get _ _ (by omega)).trans ?_)
  rw [← hj]
  rcases h4 with rfl | rfl | rfl | rfl
  · rw [Nat.add_zero, ha]; rfl
  · rw [hb]; rfl
  · rw [hc]; rfl
  · rw [hd]; rfl
theorem row_there {w : World} {g : Nat} {F : Nat → Nat} (h : w.heap[g]? = some (.cells (kF F) KWT (0, 0))) (o n : Nat) (ho : o + n ≤ 44) : w.there g o n := fun j hj =>
  ⟨by rw [cell_of h (o + j) _ (kF_get _ _ (by omega))]; rfl, frozen_of_row _ _ _ _ _ h⟩
set_option maxHeartbeats 1000000 in
theorem words_any (A : Option Addr) (m : List UInt8) (n c : Nat) (w : World) (hS : Sq w w.heap.size A c (bvs m)) (hm : m.length = 16) (hn : n = 16) :
    Calls Try.prog 20 #[.slice A n c] w fun e w' => e = .returned (.agg (kF (wc (bf m)))) ∧ Below w.heap.size w w' := by
  subst hn
  have HM := hid hm
  obtain ⟨a0, ha0⟩ : ∃ a, a = col (bf m) 0 := ⟨_, rfl⟩
  obtain ⟨a1, ha1⟩ : ∃ a, a = col (bf m) 1 := ⟨_, rfl⟩
  obtain ⟨a2, ha2⟩ : ∃ a, a = col (bf m) 2 := ⟨_, rfl⟩
  obtain ⟨a3, ha3⟩ : ∃ a, a = col (bf m) 3 := ⟨_, rfl⟩
  have HSQ : Hid (∀ W : World, Below w.heap.size w W → Calls Try.prog 21 #[.slice A (16 : Nat) c] W fun e w' => e = .returned (.agg #[.int .u32 (a0 : Int), .int .u32 (a1 : Int), .int .u32 (a2 : Int), .int .u32 (a3 : Int)]) ∧ Below W.heap.size W w') := hid fun W hW => by
    rw [ha0, ha1, ha2, ha3]
    exact squareOf_any A m 16 c W ((hS.below hW).more hW.size) hm rfl
  have HK44 : Hid (k44 a0 a1 a2 a3 = kF fun j => if j < 4 then col (bf m) j else 0) := hid (by rw [ha0, ha1, ha2, ha3]; exact k44_is _)
  clear hS hm ha0 ha1 ha2 ha3
  have HI44 : Hid ((Try.prog.info? 46).map (·.size) = some (k44 a0 a1 a2 a3).size) := hid (by rw [HK44.out]; exact info44.trans (congrArg some (kF_size _).symm))
  have HZ44 : Hid (z44.size = (k44 a0 a1 a2 a3).size) := hid rfl
  have HO44 : Hid ((k44 a0 a1 a2 a3).all (·.oneCell') = true) := hid (by rw [HK44.out]; exact kF_one _)
  go_enter Try.func20, Try.ntmps20
  go_wp2_with fail
  refine (HSQ.out _ ((Below.refl _ _).alloc (Nat.le_refl _) _)).mono ?_
  rintro e w1 ⟨rfl, hb1⟩
  have H1 : Hid ((w1.alloc (.cells z44 KWT)).heap[w1.heap.size]? = some (.cells z44 KWT (0, 0))) := hid (blkN rfl _ _)
  have hg1 : w1.heap[w.heap.size]? = some (.cells z44 KWT (0, 0)) := block_below hb1 (by simp) (blkN rfl _ _)
  have HG1 := hid hg1; have HB1 := hid hb1
  clear hg1 hb1
  go_wp2_with (with_reducible refine wpList_store_row rfl KWT (.tmp 3) _ rfl w1.heap.size (k44 a0 a1 a2 a3) rfl rfl KWT z44 H1.out HI44.out HZ44.out HO44.out ?_)
  have hk0 : k44 a0 a1 a2 a3 = kF (wcut (bf m) 0) := HK44.out.trans (kF_congr fun i hi => by
    unfold wcut wc
    by_cases h : i < 4
    · rw [if_pos h, if_pos (by omega), show i / 4 = 0 by omega, show i % 4 = i by omega]; rfl
    · rw [if_neg h, if_neg (by omega)])
  have hg2 : ((w1.alloc (.cells z44 KWT)).setRow w1.heap.size (k44 a0 a1 a2 a3)).heap[w1.heap.size]? = some (.cells (kF (wcut (bf m) 0)) KWT (0, 0)) := by rw [hk0]; exact setRow_heap _ _ _ _ _ _ H1.out
  have hsz1 : w.heap.size + 1 ≤ w1.heap.size := by have := HB1.out.size; simpa using this
  have hr2 : ((w1.alloc (.cells z44 KWT)).setRow w1.heap.size (k44 a0 a1 a2 a3)).heap[w.heap.size]? = some (.cells z44 KWT (0, 0)) := (setRow_other _ _ _ _ (by omega)).trans (blkA HG1.out _)
  have hb2 : Below w.heap.size w ((w1.alloc (.cells z44 KWT)).setRow w1.heap.size (k44 a0 a1 a2 a3)) := belowRow ((((Below.refl _ _).alloc (Nat.le_refl _) _).trans (HB1.out.mono (by simp))).alloc (by omega) _) (by omega) _
  have HG2 := hid hg2; have HR2 := hid hr2; have HB2 := hid hb2; have HSZ := hid hsz1
  clear hk0 hg2 hr2 hb2 H1 HG1 HB1 HI44 HZ44 HO44 hsz1
  generalize (w1.alloc (.cells z44 KWT)).setRow w1.heap.size (k44 a0 a1 a2 a3) = w2 at *
  go_loopg [4, 9] 10 (fun r p i wr => ∃ n : Nat, n + r = 10 ∧ i = .int .i64 (n : Int) ∧ p = .int .u64 ((dbk 1 n : Nat) : Int) ∧ wr.heap[w1.heap.size]? = some (.cells (kF (wcut (bf m) n)) KWT (0, 0)) ∧ wr.heap[w.heap.size]? = some (.cells z44 KWT (0, 0)) ∧ Below w.heap.size w wr)
  case atStart => exact ⟨0, rfl, rfl, rfl, HG2.out, HR2.out, HB2.out⟩
  case round =>
    clear HG2 HR2 HB2
    obtain ⟨n, hn, rfl, rfl, hg, hr, hb⟩ := hrel
    have HN := hid hn; have HG := hid hg; have HR := hid hr; have HB := hid hb
    have hn10 : n ≤ 10 := by omega
    clear hn hg hr hb
    obtain ⟨p, hp⟩ : ∃ p, p = dbk 1 n := ⟨_, rfl⟩
    rw [← hp]
    have hpl : p < 256 := by rw [hp]; exact pw_lt n
    have HP := hid hp
    clear hp
    by_cases hlt : n < 10
    · have hxi : (n : Int) < 10 := by omega
      have hx11 : (n : Int) < 11 := by omega
      have hn0 : (0 : Int) ≤ (n : Int) := by omega
      obtain ⟨q, hq⟩ : ∃ q, q = n + 1 := ⟨_, rfl⟩
      have hqw : IntKind.i64.wrap ((n : Int) + 1) = (q : Int) := (IntWalk.i64_in _ (by omega)).trans (by omega)
      have hq11 : (q : Int) < 11 := by omega
      have hq0 : (0 : Int) ≤ (q : Int) := by omega
      have hpw : IntKind.u32.wrap (p : Int) = (p : Int) := by rw [wrap32, Nat.mod_eq_of_lt (by omega)]
      have hpm : (p : Int) % 4294967296 = (p : Int) := by omega
      obtain ⟨x0, hx0⟩ : ∃ x, x = col (kW (bf m) n) 0 := ⟨_, rfl⟩
      obtain ⟨x1, hx1⟩ : ∃ x, x = col (kW (bf m) n) 1 := ⟨_, rfl⟩
      obtain ⟨x2, hx2⟩ : ∃ x, x = col (kW (bf m) n) 2 := ⟨_, rfl⟩
      obtain ⟨x3, hx3⟩ : ∃ x, x = col (kW (bf m) n) 3 := ⟨_, rfl⟩
      obtain ⟨y0, hy0⟩ : ∃ x, x = col (kW (bf m) (n + 1)) 0 := ⟨_, rfl⟩
      obtain ⟨y1, hy1⟩ : ∃ x, x = col (kW (bf m) (n + 1)) 1 := ⟨_, rfl⟩
      obtain ⟨y2, hy2⟩ : ∃ x, x = col (kW (bf m) (n + 1)) 2 := ⟨_, rfl⟩
      obtain ⟨y3, hy3⟩ : ∃ x, x = col (kW (bf m) (n + 1)) 3 := ⟨_, rfl⟩
      have HX : Hid (∀ W, Calls Try.prog 30 #[.agg #[.int .u32 (x0 : Int), .int .u32 (x1 : Int), .int .u32 (x2 : Int), .int .u32 (x3 : Int)], .int .u32 (p : Int)] W fun e w' => e = .returned (.agg #[.int .u32 (y0 : Int), .int .u32 (y1 : Int), .int .u32 (y2 : Int), .int .u32 (y3 : Int)]) ∧ Below W.heap.size W w') := hid fun W => by
        have h := next_any (kW (bf m) n) p W (kW_lt (bf_lt m) n) hpl
        rw [hx0, hx1, hx2, hx3, hy0, hy1, hy2, hy3]
        have e : nx (kW (bf m) n) p = kW (bf m) (n + 1) := by rw [HP.out]; rfl
        rw [e] at h
        exact h
      have HD : Hid (∀ W, Calls Try.prog 23 #[.int .u64 (p : Int)] W fun e w' => e = .returned (.int .u64 ((dbk 1 (n + 1) : Nat) : Int)) ∧ W = w') := hid fun W => by
        have h := doubled_any p W (by omega)
        have e : dblW p = dbk 1 (n + 1) := by rw [HP.out, ← pow_is n (by omega), ← pow_is (n + 1) (by omega)]; rfl
        rw [e] at h
        exact h
      have hd0 : wr.cell? ⟨w1.heap.size, n * 4, none⟩ = some (.int .u32 (x0 : Int)) := cell_of HG.out (n * 4) _ (by rw [kF_get _ _ (by omega), hx0, wcut, wc, if_pos (by omega), show n * 4 / 4 = n by omega, show n * 4 % 4 = 0 by omega])
      have hd1 : wr.cell? ⟨w1.heap.size, n * 4 + 1, none⟩ = some (.int .u32 (x1 : Int)) := cell_of HG.out (n * 4 + 1) _ (by rw [kF_get _ _ (by omega), hx1, wcut, wc, if_pos (by omega), show (n * 4 + 1) / 4 = n by omega, show (n * 4 + 1) % 4 = 1 by omega])
      have hd2 : wr.cell? ⟨w1.heap.size, n * 4 + 2, none⟩ = some (.int .u32 (x2 : Int)) := cell_of HG.out (n * 4 + 2) _ (by rw [kF_get _ _ (by omega), hx2, wcut, wc, if_pos (by omega), show (n * 4 + 2) / 4 = n by omega, show (n * 4 + 2) % 4 = 2 by omega])
      have hd3 : wr.cell? ⟨w1.heap.size, n * 4 + 3, none⟩ = some (.int .u32 (x3 : Int)) := cell_of HG.out (n * 4 + 3) _ (by rw [kF_get _ _ (by omega), hx3, wcut, wc, if_pos (by omega), show (n * 4 + 3) / 4 = n by omega, show (n * 4 + 3) % 4 = 3 by omega])
      have hnx := wcut_next (bf m) n hlt
      rw [← hy0, ← hy1, ← hy2, ← hy3] at hnx
      have HNX := hid hnx
      have HQ := hid hq
      have HI4 : Hid ((Try.prog.info? 44).map (·.size) = some (#[Value.int .u32 (y0 : Int), .int .u32 (y1 : Int), .int .u32 (y2 : Int), .int .u32 (y3 : Int)] : Array Value).size) := hid info4Q
      have HO4 : Hid ((#[Value.int .u32 (y0 : Int), .int .u32 (y1 : Int), .int .u32 (y2 : Int), .int .u32 (y3 : Int)] : Array Value).all (·.oneCell') = true) := hid (by simp [Value.oneCell'])
      clear hpl hq hx0 hx1 hx2 hx3 hy0 hy1 hy2 hy3 hnx
      go_wp2_with fail
      refine (HX.out _).mono ?_
      rintro e w3 ⟨rfl, hb3⟩
      have hg3 := block_below hb3 (block_lt HG.out) HG.out
      have hr3 := block_below hb3 (block_lt HR.out) HR.out
      have hB3 : Below w.heap.size w w3 := HB.out.trans (hb3.mono HB.out.size)
      have HT : Hid (w3.there w1.heap.size (q * 4) (#[Value.int .u32 (y0 : Int), .int .u32 (y1 : Int), .int .u32 (y2 : Int), .int .u32 (y3 : Int)] : Array Value).size) := hid (row_there hg3 (q * 4) 4 (by omega))
      have HG4 : Hid ((w3.setCells w1.heap.size (q * 4) [.int .u32 (y0 : Int), .int .u32 (y1 : Int), .int .u32 (y2 : Int), .int .u32 (y3 : Int)]).heap[w1.heap.size]? = some (.cells (kF (wcut (bf m) (n + 1))) KWT (0, 0))) := hid ((set4 hg3 (q * 4) _ _ _ _).trans (by rw [HQ.out, HNX.out]))
      have HR4 : Hid ((w3.setCells w1.heap.size (q * 4) [.int .u32 (y0 : Int), .int .u32 (y1 : Int), .int .u32 (y2 : Int), .int .u32 (y3 : Int)]).heap[w.heap.size]? = some (.cells z44 KWT (0, 0))) := hid ((set4_other (q * 4) _ _ _ _ (by have := HSZ.out; omega)).trans hr3)
      have HB4 : Hid (Below w.heap.size w (w3.setCells w1.heap.size (q * 4) [.int .u32 (y0 : Int), .int .u32 (y1 : Int), .int .u32 (y2 : Int), .int .u32 (y3 : Int)])) := hid (set4_below hB3 (q * 4) _ _ _ _ (by have := HSZ.out; omega))
      clear hb3 hg3 hr3 hB3 hd0 hd1 hd2 hd3
      go_wp2_with (with_reducible refine wpList_store_mid rfl SQT (.tmp 20) (.tmp 19) rfl w1.heap.size (q * 4) #[.int .u32 (y0 : Int), .int .u32 (y1 : Int), .int .u32 (y2 : Int), .int .u32 (y3 : Int)] rfl rfl HT.out HI4.out HO4.out ?_)
      refine (HD.out _).mono ?_
      rintro e w5 ⟨rfl, rfl⟩
      have hwi : IntKind.i64.wrap ((n : Int) + 1) = ((n + 1 : Nat) : Int) := (IntWalk.i64_in _ (by omega)).trans (by omega)
      go_wp2
      have hn := HN.out
      go_roundg (10 - n - 1)
      case measure => omega
      case rel => exact ⟨n + 1, by omega, by go_num, rfl, HG4.out, HR4.out, HB4.out⟩
    · have hne : n = 10 := by omega
      have hGe : wr.heap[w1.heap.size]? = some (.cells (kF (wc (bf m))) KWT (0, 0)) := HG.out.trans (by
        have e : kF (wcut (bf m) n) = kF (wc (bf m)) := kF_congr fun i hi => if_pos (by omega)
        rw [e])
      have HGE := hid hGe
      have hxi : ¬ (n : Int) < 10 := by omega
      have HI2 : Hid ((Try.prog.info? 46).map (·.size) = some (kF (wc (bf m))).size) := hid (info44.trans (congrArg some (kF_size _).symm))
      have HZ : Hid (z44.size = (kF (wc (bf m))).size) := hid (kF_size _).symm
      have HO : Hid ((kF (wc (bf m))).all (·.oneCell') = true) := hid (kF_one _)
      clear hne HG hGe hpl
      go_wp2_with (first
        | (with_reducible refine wpList_load_row rfl KWT (.tmp 3) rfl w1.heap.size rfl KWT (kF (wc (bf m))) (0, 0) _ HGE.out undK rfl HI2.out ?_)
        | (with_reducible refine wpList_store_row rfl KWT (.tmp 2) _ rfl w.heap.size (kF (wc (bf m))) rfl rfl KWT z44 HR.out HI2.out HZ.out HO.out ?_))
      refine bodyPost_ret (v := .agg (kF (wc (bf m)))) (results_cell_row rfl _ _ w.heap.size KWT (kF (wc (bf m))) (0, 0) _ rfl (setRow_heap _ _ _ _ _ _ HR.out) undK rfl HI2.out) rfl ⟨rfl, ?_⟩
      exact belowRow HB.out (by omega) _
end Go.Proofs.Ytfjcedfjfadfpaa
