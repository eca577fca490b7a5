/-
  Texts of this claim in one file: GcH, GcJ, GcK, GcL, GcR, GcN, GcM.
-/
import Derived.Test.YtojlmlmjmlbjmaaPk11
import Derived.Test.YtojlmlmjmlbjmaaPk12
import Derived.Laws.MakeOwn
import Derived.Test.YtojlmlmjmlbjmaaPk16
import Derived.Test.YtojlmlmjmlbjmaaPk18
import Derived.Test.YtojlmlmjmlbjmaaPk19
import Derived.Lib.AppendZerosOnto
section
namespace Go.Proofs.Ytojlmlmjmlbjmaa
open Go Go.RowKit Go.Shelf
set_option linter.unusedVariables false
set_option linter.unusedSimpArgs false
attribute [local go_sem] Oper.semAt_some
/-- The first j bytes of part x, held against mask i + 2. -/
def mX (key nonce text : List UInt8) (x i j : Nat) : List UInt8 := (List.range j).map fun r => UInt8.ofNat (bf (part16 text x) r ^^^ bf (maskL key nonce (i + 2)) r)
theorem mX_length (key nonce text : List UInt8) (x i j : Nat) : (mX key nonce text x i j).length = j := by simp [mX]
theorem mX_succ (key nonce text : List UInt8) (x i j : Nat) : mX key nonce text x i (j + 1) = mX key nonce text x i j ++ [UInt8.ofNat (bf (part16 text x) j ^^^ bf (maskL key nonce (i + 2)) j)] := by unfold mX; rw [List.range_succ, List.map_append]; rfl
/-- The bytes of the parts with these numbers. -/
def mo (key nonce text : List UInt8) (pre : List Nat) : List UInt8 := (pre.mapIdx fun i x => mX key nonce text x i (part16 text x).length).flatten
theorem mo_snoc (key nonce text : List UInt8) (pre : List Nat) (x : Nat) : mo key nonce text (pre ++ [x]) = mo key nonce text pre ++ mX key nonce text x pre.length (part16 text x).length := by
  unfold mo
  rw [List.mapIdx_concat, List.flatten_append]; simp
theorem mo_length (key nonce text : List UInt8) (pre : List Nat) : (mo key nonce text pre).length ≤ 16 * pre.length := by
  have h : ∀ (n : Nat) (pre : List Nat), pre.length = n → (mo key nonce text pre).length ≤ 16 * pre.length := by
    intro n
    induction n with
    | zero => intro pre hp; obtain rfl := List.eq_nil_of_length_eq_zero hp; simp [mo]
    | succ n ih =>
      intro pre hp
      have hne : pre ≠ [] := fun e => by subst e; simp at hp
      rw [← List.dropLast_concat_getLast hne, mo_snoc, List.length_append, mX_length, List.length_append]
      have h1 := ih pre.dropLast (by simp [hp])
      have h2 : (part16 text (pre.getLast hne)).length ≤ 16 := by unfold part16; rw [List.length_take]; omega
      simp only [List.length_cons, List.length_nil]
      omega
  exact h _ pre rfl
theorem mskN_add (key nonce text : List UInt8) (a b : Nat) : mskN key nonce text (a + b) = mskN key nonce text a ++ (List.range b).map fun r => UInt8.ofNat (bf text (a + r) ^^^ mskB key nonce (a + r)) := by
  unfold mskN
  rw [List.range_add, List.map_append, List.map_map]; rfl
theorem mo_range (key nonce text : List UInt8) (n : Nat) (hn : text.length = n) : ∀ k, mo key nonce text (List.range k) = mskN key nonce text (min (16 * k) n)
  | 0 => by rw [show min (16 * 0) n = 0 by omega]; rfl
  | k + 1 => by
    have hl := part16_length text n k hn
    rw [List.range_succ, mo_snoc, mo_range key nonce text n hn k, List.length_range, hl]
    by_cases h : 16 * k < n
    · have e : min (16 * (k + 1)) n = 16 * k + min 16 (n - 16 * k) := by omega
      rw [e, mskN_add, show min (16 * k) n = 16 * k by omega]
      congr 1
      unfold mX
      refine List.map_congr_left fun r hr => ?_
      have hr' : r < min 16 (n - 16 * k) := by simpa using hr
      have e1 : bf (part16 text k) r = bf text (16 * k + r) := bf_part text (16 * k) 16 r (by omega)
      have e2 : mskB key nonce (16 * k + r) = bf (maskL key nonce (k + 2)) r := by unfold mskB; rw [show (16 * k + r) / 16 = k by omega, show (16 * k + r) % 16 = r by omega]
      rw [e1, e2]
    · rw [show min 16 (n - 16 * k) = 0 by omega, show min (16 * (k + 1)) n = min (16 * k) n by omega]; simp [mX]
theorem mo_all (key nonce text : List UInt8) (n : Nat) (hn : text.length = n) : mo key nonce text (List.range ((n + 15) / 16)) = maskedL key nonce text := by
  rw [mo_range key nonce text n hn, show min (16 * ((n + 15) / 16)) n = n by omega, ← hn]; rfl
/-- What a round keeps. -/
structure Fr (w W wr : World) (B1 B2 : Nat) : Prop where
  keep : KeepsOthers W wr
  kp : Kp2 B1 B2 W wr
  below : Below w.heap.size w wr
  size : W.heap.size ≤ wr.heap.size
theorem Fr.refl {w W : World} (B1 B2 : Nat) (h : Below w.heap.size w W) : Fr w W W B1 B2 := ⟨KeepsOthers.refl _, ⟨rfl, rfl⟩, h, Nat.le_refl _⟩
theorem Fr.grown {w W wr w' : World} {B1 B2 : Nat} {row : Option Nat} (h : Fr w W wr B1 B2) (h1 : B1 < W.heap.size) (h2 : B2 < W.heap.size) (hg : wr.grownBy w' row)
    (hr : ∀ g, row = some g → w.heap.size ≤ g ∧ g ≠ B1 ∧ g ≠ B2 ∧ ∀ o, wr.heap[g]? = some o → o.isCells = true) : Fr w W w' B1 B2 := by
  refine ⟨h.keep.trans (KeepsOthers.of_grownBy hg fun j o e ho => (hr j e).2.2.2 o ho), ⟨?_, ?_⟩, h.below.grown hg h.below.size (fun k e => (hr k e).1), Nat.le_trans h.size hg.size⟩
  · exact (World.cell?_of_block (hg.block _ (show B1 < _ by have := h.size; omega) (fun e => (hr B1 e.symm).2.1 rfl))).trans h.kp.1
  · exact (World.cell?_of_block (hg.block _ (show B2 < _ by have := h.size; omega) (fun e => (hr B2 e.symm).2.2.1 rfl))).trans h.kp.2
theorem Fr.free {w W wr w' : World} {B1 B2 : Nat} (h : Fr w W wr B1 B2) (h1 : B1 < W.heap.size) (h2 : B2 < W.heap.size) (hg : wr.grownBy w' none) : Fr w W w' B1 B2 := h.grown h1 h2 hg (fun g e => by cases e)
theorem own_block {w : World} {B g : Nat} {v : Value} {xs : List UInt8} (h : OwnB w B v xs) (hv : v.ownBlock = some g) : ∃ cs, w.heap[g]? = some (.cells cs 5 (0, 0)) := by
  unfold OwnB World.ownsRow at h
  rcases h.2 with ⟨h1, _⟩ | ⟨g', cap, cur, h1, _, h3, _⟩
  · rw [h1] at hv; cases hv
  · rw [h1] at hv
    simp only [Value.ownBlock, Option.some.injEq] at hv
    subst hv
    exact ⟨cur, h3⟩
theorem own_not {w : World} {B g : Nat} {v : Value} {xs : List UInt8} {cs : Array Value} {t : TypeId} (h : OwnB w B v xs) (hg : w.heap[g]? = some (.cells cs t (0, 0))) (ht : t ≠ 5) : v.ownBlock ≠ some g := fun e => by
  obtain ⟨cs', h'⟩ := own_block h e
  rw [hg] at h'
  injection h' with h'
  injection h' with _ h' _
  exact ht h'
theorem own_keep {w w' : World} {B : Nat} {v : Value} {xs : List UInt8} {row : Option Nat} (h : OwnB w B v xs) (hg : w.grownBy w' row) (hr : ∀ g, row = some g → v.ownBlock ≠ some g) : OwnB w' B v xs := by
  refine World.ownsRow.kept h (row := row) hg ?_
  cases row with
  | none => cases hv : v.ownBlock <;> simp
  | some g => exact .inr (hr g rfl)
theorem own_isC {w : World} {B g : Nat} {v : Value} {xs : List UInt8} (h : OwnB w B v xs) (hv : v.ownBlock = some g) : ∀ o, w.heap[g]? = some o → o.isCells = true := fun o ho => by
  obtain ⟨cs, h'⟩ := own_block h hv
  rw [h'] at ho; cases ho; rfl
/-- Sixteen bytes of one's own, told by their block. -/
theorem own_row16 {w : World} {B n : Nat} {v : Value} {xs : List UInt8} (h : OwnB w B v xs) (hn : xs.length = n) (h0 : 0 < n) : ∃ g c cur, v = .slice (some ⟨g, 0, none⟩) n c ∧ B ≤ g ∧ g < w.heap.size ∧ w.heap[g]? = some (.cells cur 5 (0, 0)) ∧ ∀ j, j < n → cur[j]? = some (.int .u8 ((bf xs j : Nat) : Int)) := by
  unfold OwnB World.ownsRow at h
  rcases h.2 with ⟨_, h2⟩ | ⟨g, cap, cur, h1, h2, h3, _, _, h6, h7⟩
  · omega
  · refine ⟨g, cap, cur, by rw [h1, hn], h2, block_lt h3, h3, fun j hj => ?_⟩
    have e : (cur.toList.take (xs.length * 1))[j]? = (bvs xs)[j]? := by rw [h7]
    rw [List.getElem?_take, if_pos (by omega), Array.getElem?_toList] at e
    rw [e, bvs_cell xs j (by omega), bf_at xs j (by omega)]
theorem own_form {w : World} {B : Nat} {v : Value} {xs : List UInt8} (h : OwnB w B v xs) : ∃ A n c, v = .slice A n c := by
  obtain ⟨A, c, rfl, _⟩ := own_sl h
  exact ⟨_, _, _, rfl⟩
theorem cell_lie {w : World} {B b o : Nat} {xs : List UInt8} (h : Lie w B (some ⟨b, o, none⟩) (bvs xs)) (j : Nat) (hj : j < xs.length) : w.cell? ⟨b, o + j, none⟩ = some (.int .u8 ((bf xs j : Nat) : Int)) := by
  obtain ⟨b', o', he, _, hc⟩ := h.byte hj
  simp only [Option.some.injEq, Addr.mk.injEq] at he
  obtain ⟨rfl, rfl, _⟩ := he
  rw [hc, bf_at xs j hj]
theorem built_y (y : UInt8) : Try.prog.builtSlice 5 1 [(0, .int .u8 (y.toNat : Int))] = some (bvs [y]).toArray := by kernel_rfl
theorem u8_built (z : Nat) (hz : z < 256) : Try.prog.builtSlice 5 1 [(0, .int .u8 (z : Int))] = some (bvs [UInt8.ofNat z]).toArray := by
  have h := built_y (UInt8.ofNat z)
  rwa [ofNat_b hz] at h
theorem madeB (n : Nat) (hn : n ≤ 1000000) (W : World) : (Instr.makeSlice 22 (.int .i64 0) (.int .i64 (n : Int))).run Try.prog W = .ok (.slice (some ⟨W.heap.size, 0, none⟩) 0 n) (W.alloc (.cells (madeCells #[.int .u8 0] n) 5)) := by
  obtain ⟨i, hi, hz, hsize, hby⟩ := info_parts infoU8
  have h := run_make W 22 5 i _ Try.underlying22 hi hz .i64 .i64 0 (n : Int) (by omega) (by omega) (by rw [hby]; omega) (by omega)
  rw [hsize, show (Value.int .u8 0).cells = #[Value.int .u8 0] from rfl] at h
  simpa using h
set_option maxRecDepth 100000 in
set_option maxHeartbeats 4000000 in
theorem masked_e (A A' A2 : Option Addr) (key nonce text : List UInt8) (m m' n c c' c2 : Nat) (w : World) (hA : Sq w w.heap.size A c (bvs key)) (hA' : Sq w w.heap.size A' c' (bvs nonce)) (hA2 : Sq w w.heap.size A2 c2 (bvs text)) (hkey : key.length = 16) (hnonce : nonce.length = 12) (hm : m = 16) (hm' : m' = 12) (hn : text.length = n) (hl : n ≤ 1000) :
    Calls Try.prog 18 #[.slice A m c, .slice A' m' c', .slice A2 n c2] w fun e w' => ∃ v, e = .returned v ∧ OwnB w' w.heap.size v (maskedL key nonce text) ∧ Below w.heap.size w w' := by
  subst hm; subst hm'
  obtain ⟨b, o, hAt⟩ := sq_at hA2 hn
  have hcap := hA2.cap
  rw [bvs_length, hn] at hcap
  obtain ⟨C, hC⟩ : ∃ C, C = n + 16 := ⟨_, rfl⟩
  have hadd : IntKind.i64.wrap ((n : Int) + 16) = (C : Int) := (IntWalk.i64_in _ (by omega)).trans (by omega)
  have hmk := madeB C (by omega)
  have hC2 : C ≤ 2000 := by omega
  obtain ⟨Z, hZ⟩ : ∃ Z, Z = madeCells #[Value.int .u8 0] C := ⟨_, rfl⟩
  have hZs : Z.size = C := by rw [hZ, ← Array.length_toList, toList_madeCells_one, List.length_replicate]
  rw [← hZ] at hmk
  clear hZ hC
  obtain ⟨w7, hw7⟩ : ∃ w7, ((((((w.alloc (.cells #[.slice A (16 : Nat) c] 22)).alloc (.cells #[.slice A' (12 : Nat) c'] 22)).alloc (.cells Z 5)).alloc (.cells #[.slice (some ⟨w.heap.size + 1 + 1, 0, none⟩) 0 C] 22)).alloc (.cells #[.int .u32 1] 50)).alloc (.cells #[.slice A2 n c2] 22)).alloc (.cells #[.int .i64 16] 3) = w7 := ⟨_, rfl⟩
  have hs7 : w7.heap.size = w.heap.size + 7 := by rw [← hw7]; simp
  have g0 : w7.heap[w.heap.size]? = some (.cells #[.slice A (16 : Nat) c] 22 (0, 0)) := by rw [← hw7]; exact blkA (blkA (blkA (blkA (blkA (blkA (blkN rfl _ _) _) _) _) _) _) _
  have g1 : w7.heap[w.heap.size + 1]? = some (.cells #[.slice A' (12 : Nat) c'] 22 (0, 0)) := by rw [← hw7]; exact blkA (blkA (blkA (blkA (blkA (blkN (by simp) _ _) _) _) _) _) _
  have g2 : w7.heap[w.heap.size + 1 + 1]? = some (.cells Z 5 (0, 0)) := by rw [← hw7]; exact blkA (blkA (blkA (blkA (blkN (by simp) _ _) _) _) _) _
  have g3 : w7.heap[w.heap.size + 1 + 1 + 1]? = some (.cells #[.slice (some ⟨w.heap.size + 1 + 1, 0, none⟩) 0 C] 22 (0, 0)) := by rw [← hw7]; exact blkA (blkA (blkA (blkN (by simp) _ _) _) _) _
  have g4 : w7.heap[w.heap.size + 1 + 1 + 1 + 1]? = some (.cells #[.int .u32 1] 50 (0, 0)) := by rw [← hw7]; exact blkA (blkA (blkN (by simp) _ _) _) _
  have g5 : w7.heap[w.heap.size + 1 + 1 + 1 + 1 + 1]? = some (.cells #[.slice A2 n c2] 22 (0, 0)) := by rw [← hw7]; exact blkA (blkN (by simp) _ _) _
  have g6 : w7.heap[w.heap.size + 1 + 1 + 1 + 1 + 1 + 1]? = some (.cells #[.int .i64 16] 3 (0, 0)) := by rw [← hw7]; exact blkN (by simp) _ _
  have hb7 : Below w.heap.size w w7 := by rw [← hw7]; exact (((((((Below.refl _ w).alloc (Nat.le_refl _) _).alloc (by simp) _).alloc (by simp; omega) _).alloc (by simp; omega) _).alloc (by simp; omega) _).alloc (by simp; omega) _).alloc (by simp; omega) _
  have hO7 : OwnB w7 w.heap.size (.slice (some ⟨w.heap.size + 1 + 1, 0, none⟩) 0 C) [] := ⟨rfl, .inr ⟨w.heap.size + 1 + 1, C, Z, rfl, by omega, g2, Nat.zero_le _, by unfold maxLen; omega, by omega, rfl⟩⟩
  have HW7 := hid hw7; have HA := hid hA; have HA' := hid hA'; have HA2 := hid hA2; have HAT := hid hAt; have HK := hid hkey; have HNO := hid hnonce; have HN := hid hn; have HC := hid hcap; have HS7 := hid hs7; have HB7 := hid hb7; have HO7 := hid hO7
  have G0 := hid g0; have G1 := hid g1; have G3 := hid g3; have G4 := hid g4; have G5 := hid g5; have G6 := hid g6
  clear hw7 hA hA' hA2 hAt hkey hnonce hn hcap hs7 hb7 hO7 g0 g1 g2 g3 g4 g5 g6
  refine (callsIn_wide (n := 10)).1 ?_
  refine callsIn_of_wp_marks Try.func18 rfl trivial ?_ rfl
  simp only [Try.ntmps18, List.size_toArray, List.length_cons, List.length_nil, Nat.reduceAdd, Nat.reduceSub, Array.replicate_succ, Array.replicate_zero, List.push_toArray, List.append_toArray, List.nil_append, List.cons_append]
  gi_wp2_with (refine ⟨trivial, ?_⟩; gi_at_call 31; refine (callsIn_wide.2 (chunk_e A2 n c2 _)).mono ?_; rintro e w' ⟨rfl, rfl⟩)
  rename_i K2 hK2
  rw [show ((((((w.alloc (.cells #[.slice A (16 : Nat) c] 22)).alloc (.cells #[.slice A' (12 : Nat) c'] 22)).alloc (.cells Z 5)).alloc (.cells #[.slice (some ⟨w.heap.size + 1 + 1, 0, none⟩) 0 C] 22)).alloc (.cells #[.int .u32 1] 50)).alloc (.cells #[.slice A2 n c2] 22)).alloc (.cells #[.int .i64 16] 3) = w7 from HW7.out]
  clear hmk hadd hZs
  refine wpIn_rangeFunc_ownF rfl (by omega) (gf := 42) (lb := #[.pointer (some ⟨w.heap.size + 1 + 1 + 1 + 1 + 1, 0, none⟩), .pointer (some ⟨w.heap.size + 1 + 1 + 1 + 1 + 1 + 1, 0, none⟩)]) rfl trivial (enters_of Try.func42 (by kernel_rfl) rfl)
    (chunk_stops (10 - 1) (w.heap.size + 1 + 1 + 1 + 1 + 1) (w.heap.size + 1 + 1 + 1 + 1 + 1 + 1) b o n c2 A2 HAT.out hl HC.out.1 HC.out.2 w7 (by rw [HS7.out]; omega) (by rw [HS7.out]; omega) (cell_of G5.out 0 _ rfl) (cell_of G6.out 0 _ rfl)) kp2_t
    (kp2_b (by rw [HS7.out]; omega) (by rw [HS7.out]; omega)) (Below.refl _ _) (fun _ => rfl)
    (fun pre W => (∃ v, W.heap[w.heap.size + 1 + 1 + 1]? = some (.cells #[v] 22 (0, 0)) ∧ OwnB W w.heap.size v (mo key nonce text pre)) ∧ W.heap[w.heap.size + 1 + 1 + 1 + 1]? = some (.cells #[.int .u32 ((1 + pre.length : Nat) : Int)] 50 (0, 0)) ∧ W.heap[w.heap.size]? = some (.cells #[.slice A (16 : Nat) c] 22 (0, 0)) ∧ W.heap[w.heap.size + 1]? = some (.cells #[.slice A' (12 : Nat) c'] 22 (0, 0)) ∧ W.heap[w.heap.size + 1 + 1 + 1 + 1 + 1]? = some (.cells #[.slice A2 n c2] 22 (0, 0)) ∧ W.heap[w.heap.size + 1 + 1 + 1 + 1 + 1 + 1]? = some (.cells #[.int .i64 16] 3 (0, 0)) ∧ Below w.heap.size w W ∧ w7.heap.size ≤ W.heap.size)
    (fun _ _ _ => False) ?hI (fun _ _ _ _ _ h _ _ => h) ⟨⟨_, G3.out, HO7.out⟩, G4.out, G0.out, G1.out, G5.out, G6.out, HB7.out, Nat.le_refl _⟩
    (fun x => { tmps := #[.slice A (16 : Nat) c, .slice A' (12 : Nat) c', .slice A2 n c2, .pointer (some ⟨w.heap.size, 0, none⟩), .pointer (some ⟨w.heap.size + 1, 0, none⟩), undef, .slice none 0 0, .pointer (some ⟨w.heap.size + 1 + 1 + 1, 0, none⟩), .pointer (some ⟨w.heap.size + 1 + 1 + 1 + 1, 0, none⟩), ckV b o n x, undef, undef, undef, .slice A2 n c2, .int .i64 (n : Int), .int .i64 (C : Int), .slice (some ⟨w.heap.size + 1 + 1, 0, none⟩) 0 C, .slice A2 n c2, .func (.func 42) #[] #[.pointer (some ⟨w.heap.size + 1 + 1 + 1 + 1 + 1, 0, none⟩), .pointer (some ⟨w.heap.size + 1 + 1 + 1 + 1 + 1 + 1, 0, none⟩)], ckV b o n x, undef, undef, undef, undef, undef, undef, undef, undef, undef, undef, undef, undef, undef, undef, undef, undef, undef, undef, undef, undef, undef, undef, undef, undef], defers := [] }) ?assign ?body ?done ?stop
  case hI =>
    rintro s W W' row ⟨⟨v, h3, hO⟩, h4, h0, h1, hx5, hx6, hB, h5⟩ hg hr
    have hne : ∀ g, g < w7.heap.size → some g ≠ row := fun g hg e => by have := (hr g e.symm).1; omega
    have := HS7.out
    refine ⟨⟨v, block_grown h3 hg (hne _ (by omega)), own_keep hO hg fun g e hv => ?_⟩, block_grown h4 hg (hne _ (by omega)), block_grown h0 hg (hne _ (by omega)), block_grown h1 hg (hne _ (by omega)), block_grown hx5 hg (hne _ (by omega)), block_grown hx6 hg (hne _ (by omega)), hB.grown hg hB.size (fun k e => by have := (hr k e).1; omega), Nat.le_trans h5 hg.size⟩
    obtain ⟨_, o', ho', hc'⟩ := hr g e
    rw [own_isC hO hv o' ho'] at hc'
    cases hc'
  case assign =>
    intro l x W K hK
    gi_wp2
    exact hK
  case body =>
    rintro l pre x W ⟨⟨v, h3, hO⟩, h4, h0, h1, hx5, hx6, hB, h5⟩ hlt
    have hs7 := HS7.out
    obtain ⟨M, hM⟩ : ∃ M, M = min 16 (n - 16 * x) := ⟨_, rfl⟩
    obtain ⟨q, hq⟩ : ∃ q, q = o + 16 * x := ⟨_, rfl⟩
    have hck : ckV b o n x = .slice (some ⟨b, q, none⟩) M M := by rw [ckV, ← hM, ← hq]
    rw [hck]
    have hPS := part16_sq HA2.out HN.out hl HAT.out x
    have hPL := part16_length text n x HN.out
    rw [← hM, ← hq] at hPS
    rw [← hM] at hPL
    have hml := mo_length key nonce text pre
    have hMl : M ≤ 16 := by omega
    obtain ⟨p, hp⟩ : ∃ p, p = pre.length + 2 := ⟨_, rfl⟩
    obtain ⟨p1, hp1⟩ : ∃ p1, p1 = 1 + pre.length := ⟨_, rfl⟩
    have hpl : pre.length ≤ 100 := by omega
    rw [← hp1] at h4
    have hpw : IntKind.u32.wrap ((p1 : Int) + 1) = (p : Int) := by rw [IntKind.wrap_u32]; omega
    obtain ⟨W1, hW1⟩ : ∃ W1, W.setCell ⟨w.heap.size + 1 + 1 + 1 + 1, 0, none⟩ (.int .u32 (p : Int)) = W1 := ⟨_, rfl⟩
    have k1 : W.grownBy W1 (some (w.heap.size + 1 + 1 + 1 + 1)) := by rw [← hW1]; exact grown_setCell W _ 0 none _
    have f4 : W1.heap[w.heap.size + 1 + 1 + 1 + 1]? = some (.cells #[.int .u32 (p : Int)] 50 (0, 0)) := by rw [← hW1]; exact (block_set h4 0 _).trans rfl
    have f3 := block_grown h3 k1 (by simp <;> omega)
    have f0 := block_grown h0 k1 (by simp <;> omega)
    have f1 := block_grown h1 k1 (by simp <;> omega)
    have f5 := block_grown hx5 k1 (by simp <;> omega)
    have f6 := block_grown hx6 k1 (by simp <;> omega)
    have O1 := own_keep hO k1 (fun g e hv => own_not hO h4 (by decide) (hv.trans e.symm))
    have F1 : Fr w W W1 (w.heap.size + 1 + 1 + 1 + 1 + 1) (w.heap.size + 1 + 1 + 1 + 1 + 1 + 1) := (Fr.refl _ _ hB).grown (by omega) (by omega) k1 (fun g e => by cases e; exact ⟨by omega, by omega, by omega, fun o ho => by rw [h4] at ho; cases ho; rfl⟩)
    have hc4 : W.cell? ⟨w.heap.size + 1 + 1 + 1 + 1, 0, none⟩ = some (.int .u32 (p1 : Int)) := cell_of h4 0 _ rfl
    have hf4 : W.frozen? ⟨w.heap.size + 1 + 1 + 1 + 1, 0, none⟩ = false := frozen_of_row _ _ _ _ _ h4
    have c0 : W1.cell? ⟨w.heap.size, 0, none⟩ = some (.slice A (16 : Nat) c) := cell_of f0 0 _ rfl
    have c1 : W1.cell? ⟨w.heap.size + 1, 0, none⟩ = some (.slice A' (12 : Nat) c') := cell_of f1 0 _ rfl
    have c4 : W1.cell? ⟨w.heap.size + 1 + 1 + 1 + 1, 0, none⟩ = some (.int .u32 (p : Int)) := cell_of f4 0 _ rfl
    have KM : Hid (Calls Try.prog 32 #[.slice A (16 : Nat) c, .slice A' (12 : Nat) c', .int .u32 (p : Int)] W1 fun e w' => ∃ v, e = .returned v ∧ OwnB w' W1.heap.size v (maskL key nonce p) ∧ Below W1.heap.size W1 w') :=
      hid (mask_e A A' key nonce 16 12 p c c' W1 ((HA.out.below F1.below).more F1.below.size) ((HA'.out.below F1.below).more F1.below.size) HK.out HNO.out rfl rfl (by omega))
    have HF4 := hid f4; have HF3 := hid f3; have HF0 := hid f0; have HF1 := hid f1; have HF5 := hid f5; have HF6 := hid f6; have HO1 := hid O1; have HFR := hid F1; have HPS := hid hPS; have HPL := hid hPL; have HML := hid hml; have HP := hid hp; have HP1 := hid hp1; have HM := hid hM; have H5 := hid h5; have HPRE := hid hpl
    clear hck k1 f4 f3 f0 f1 f5 f6 O1 F1 hPS hPL hml hp hp1 hM hq h3 hO h4 h0 h1 hx5 hx6 hB h5 hlt hs7
    gi_wp2_with (refine ⟨trivial, ?_⟩; gi_at_call 32; refine (CallsIn.inRound l (callsIn_wide.2 KM.out)).mono ?_; rintro e w2 ⟨mv, rfl, ho2, hb2⟩; obtain ⟨mb, cm, cur, rfl, hmb1, hmb2, hcur, hcurj⟩ := own_row16 ho2 (maskL_length _ _ _) (by omega))
    have hs7 := HS7.out
    have h5 := H5.out
    have hszW := HFR.out.size
    have k2 : W1.grownBy w2 none := grown12 hb2
    have e3 := block_grown HF3.out k2 (by simp <;> omega)
    have e4 := block_grown HF4.out k2 (by simp <;> omega)
    have e0 := block_grown HF0.out k2 (by simp <;> omega)
    have e1 := block_grown HF1.out k2 (by simp <;> omega)
    have e5 := block_grown HF5.out k2 (by simp <;> omega)
    have e6 := block_grown HF6.out k2 (by simp <;> omega)
    have O2 := own_keep HO1.out k2 (fun g e => by cases e)
    have F2 := HFR.out.free (by omega) (by omega) k2
    have hne : v.ownBlock ≠ some mb := fun e => by have := (HO1.out.lt mb e).2; omega
    have E3 := hid e3; have E4 := hid e4; have E0 := hid e0; have E1 := hid e1; have E5 := hid e5; have E6 := hid e6; have O2 := hid O2; have F2 := hid F2; have HNE := hid hne; have HCUR := hid hcur; have HCJ := hid hcurj; have HMB := hid hmb1
    clear hW1 e3 e4 e0 e1 e5 e6 hne hcur hcurj k2 HF3 HF4 HF0 HF1 HF5 HF6 HO1 hc4 hf4 c0 c1 c4 ho2 hb2 hmb2 hs7 h5 hszW hmb1 KM
    gi_loopw [28] (fun i wr => ∃ (j : Nat) (u : Value), i = .int .i64 (j : Int) ∧ j ≤ M ∧ wr.heap[w.heap.size + 1 + 1 + 1]? = some (.cells #[u] 22 (0, 0)) ∧ OwnB wr w.heap.size u (mo key nonce text pre ++ mX key nonce text x pre.length j) ∧ u.ownBlock ≠ some mb ∧ wr.heap[mb]? = some (.cells cur 5 (0, 0)) ∧ wr.heap[w.heap.size + 1 + 1 + 1 + 1]? = some (.cells #[.int .u32 (p : Int)] 50 (0, 0)) ∧ wr.heap[w.heap.size]? = some (.cells #[.slice A (16 : Nat) c] 22 (0, 0)) ∧ wr.heap[w.heap.size + 1]? = some (.cells #[.slice A' (12 : Nat) c'] 22 (0, 0)) ∧ wr.heap[w.heap.size + 1 + 1 + 1 + 1 + 1]? = some (.cells #[.slice A2 n c2] 22 (0, 0)) ∧ wr.heap[w.heap.size + 1 + 1 + 1 + 1 + 1 + 1]? = some (.cells #[.int .i64 16] 3 (0, 0)) ∧ Fr w W wr (w.heap.size + 1 + 1 + 1 + 1 + 1) (w.heap.size + 1 + 1 + 1 + 1 + 1 + 1)) (fun i _ => M - (intOf i).toNat)
    case atStart => exact ⟨0, v, rfl, Nat.zero_le _, E3.out, by simpa [mX] using O2.out, HNE.out, HCUR.out, E4.out, E0.out, E1.out, E5.out, E6.out, F2.out⟩
    case round =>
      clear E3 E4 E0 E1 E5 E6 O2 F2 HNE HCUR
      obtain ⟨j, u, rfl, hjM, e3, eO, hne, hcur, e4, e0, e1, e5, e6, hF⟩ := hrel
      by_cases hlt : j < M
      · have hx : (j : Int) < (M : Int) := by omega
        have hj0 : (0 : Int) ≤ (j : Int) := by omega
        have hj16 : (j : Int) < 16 := by omega
        have hca := cell_lie (HPS.out.below hF.below).lie j (by rw [HPL.out]; exact hlt)
        have hcb : wr.cell? ⟨mb, j, none⟩ = some (.int .u8 ((bf (maskL key nonce p) j : Nat) : Int)) := cell_of hcur j _ (HCJ.out j (by omega))
        obtain ⟨y, hy⟩ : ∃ y, y = bf (part16 text x) j := ⟨_, rfl⟩
        obtain ⟨z0, hz0⟩ : ∃ z, z = bf (maskL key nonce p) j := ⟨_, rfl⟩
        rw [← hy] at hca
        rw [← hz0] at hcb
        have hyl : y < 256 := by rw [hy]; exact bf_lt _ _
        have hzl0 : z0 < 256 := by rw [hz0]; exact bf_lt _ _
        obtain ⟨z, hz⟩ : ∃ z, z = y ^^^ z0 := ⟨_, rfl⟩
        have q1 : bits .xor .u8 (y : Int) (z0 : Int) = (z : Int) := by rw [hz]; exact u8_xor_nat y z0 hyl hzl0
        have hzl : z < 256 := by rw [hz]; exact Nat.xor_lt_two_pow (n := 8) hyl hzl0
        have hst : mX key nonce text x pre.length (j + 1) = mX key nonce text x pre.length j ++ [UInt8.ofNat z] := by rw [mX_succ, ← HP.out, ← hy, ← hz0, ← hz]
        have hwi : IntKind.i64.wrap ((j : Int) + 1) = ((j + 1 : Nat) : Int) := (IntWalk.i64_in _ (by omega)).trans (by omega)
        have CU : Hid (∀ v', Below wr.heap.size wr v' → v'.cell? ⟨w.heap.size + 1 + 1 + 1, 0, none⟩ = some u) := hid fun v' hb => cell_of ((hb.block _ (block_lt e3)).trans e3) 0 _ rfl
        have CM : Hid (∀ v', Below wr.heap.size wr v' → v'.cell? ⟨mb, j, none⟩ = some (.int .u8 (z0 : Int))) := hid fun v' hb => cell_of ((hb.block _ (block_lt hcur)).trans hcur) j _ (by rw [hz0]; exact HCJ.out j (by omega))
        have HBT := hid (u8_built z hzl)
        have E3 := hid e3; have EO := hid eO; have HNE := hid hne; have HCUR := hid hcur; have E4 := hid e4; have E0 := hid e0; have E1 := hid e1; have E5 := hid e5; have E6 := hid e6; have HF := hid hF; have HST := hid hst; have HZL := hid hzl
        clear e3 eO hne hcur hcb e4 e0 e1 e5 e6 hF hst hzl hy hz0 hz hyl hzl0
        gi_wp2
        refine wpIn_region_grA 8 (fun a w h => h) (by kernel_rfl) (by kernel_rfl) (by decide) ?_
        refine wpGrA_take (i := 0) u rfl (by kernel_rfl) (by kernel_rfl) (fun _ _ _ h => h) (yG_val _ (by rfl) (fun w' hb => by (have h := CU.out w' hb; go_simp; try rfl))) ?_
        (try simp only [Act.put, List.getElem_toArray, List.getElem_cons_succ, List.getElem_cons_zero, List.setIfInBounds_toArray, List.set_cons_zero, List.set_cons_succ])
        refine wpGrA_take (i := 1) (.int .u8 (y : Int)) rfl (by kernel_rfl) (by kernel_rfl) (fun _ _ _ h => h) (yG_val _ (by rfl) (fun w' _ => by (go_simp; try rfl))) ?_
        (try simp only [Act.put, List.getElem_toArray, List.getElem_cons_succ, List.getElem_cons_zero, List.setIfInBounds_toArray, List.set_cons_zero, List.set_cons_succ])
        refine wpGrA_take (i := 2) (.slice (some ⟨mb, 0, none⟩) 16 cm) rfl (by kernel_rfl) (by kernel_rfl) (fun _ _ _ h => h) (yG_val _ (by rfl) (fun w' _ => by (go_simp; try rfl))) ?_
        (try simp only [Act.put, List.getElem_toArray, List.getElem_cons_succ, List.getElem_cons_zero, List.setIfInBounds_toArray, List.set_cons_zero, List.set_cons_succ])
        refine wpGrA_take (i := 3) (.int .i64 (j : Int)) rfl (by kernel_rfl) (by kernel_rfl) (fun _ _ _ h => h) (yG_val _ (by rfl) (fun w' _ => by (go_simp; try rfl))) ?_
        (try simp only [Act.put, List.getElem_toArray, List.getElem_cons_succ, List.getElem_cons_zero, List.setIfInBounds_toArray, List.set_cons_zero, List.set_cons_succ])
        refine wpGrA_take (i := 4) (.pointer (some ⟨mb, j, none⟩)) rfl (by kernel_rfl) (by kernel_rfl) (fun _ _ _ h => h) (yG_val _ (by rfl) (fun w' _ => by (go_simp; try rfl))) ?_
        (try simp only [Act.put, List.getElem_toArray, List.getElem_cons_succ, List.getElem_cons_zero, List.setIfInBounds_toArray, List.set_cons_zero, List.set_cons_succ])
        refine wpGrA_take (i := 5) (.int .u8 (z0 : Int)) rfl (by kernel_rfl) (by kernel_rfl) (fun _ _ _ h => h) (yG_val _ (by rfl) (fun w' hb => by (have h := CM.out w' hb; go_simp; try rfl))) ?_
        (try simp only [Act.put, List.getElem_toArray, List.getElem_cons_succ, List.getElem_cons_zero, List.setIfInBounds_toArray, List.set_cons_zero, List.set_cons_succ])
        refine wpGrA_take (i := 6) (.int .u8 (z : Int)) rfl (by kernel_rfl) (by kernel_rfl) (fun _ _ _ h => h) (yG_val _ (by rfl) (fun w' _ => by (go_simp; try rfl))) ?_
        (try simp only [Act.put, List.getElem_toArray, List.getElem_cons_succ, List.getElem_cons_zero, List.setIfInBounds_toArray, List.set_cons_zero, List.set_cons_succ])
        refine wpGrA_slice1 (i := 7) rfl (by kernel_rfl) (by rfl) _ _ 1 _ rfl Try.underlying22 [(0, .int .u8 (z : Int))] rfl (bvs [UInt8.ofNat z]) HBT.out (by simp [bvs]) (by decide) ?_
        intro p7 w5 hb5 hs5
        (try simp only [Act.put, List.getElem_toArray, List.getElem_cons_succ, List.getElem_cons_zero, List.setIfInBounds_toArray, List.set_cons_zero, List.set_cons_succ])
        refine wpGrA_end (by kernel_rfl) ?_
        intro w6 hb6
        have hbw : Below wr.heap.size wr w6 := hb5.trans (hb6.mono hb5.size)
        have kw := grown12 hbw
        have a3 := block_grown E3.out kw (by simp <;> omega)
        have a4 := block_grown E4.out kw (by simp <;> omega)
        have a0 := block_grown E0.out kw (by simp <;> omega)
        have a1 := block_grown E1.out kw (by simp <;> omega)
        have a5 := block_grown E5.out kw (by simp <;> omega)
        have a6 := block_grown E6.out kw (by simp <;> omega)
        have ac := block_grown HCUR.out kw (by simp <;> omega)
        have aO := own_keep EO.out kw (fun g e => by cases e)
        have hs7 := HS7.out
        have h5 := H5.out
        have hlen := HML.out
        have hsz1 := HF.out.size
        have hF6 := HF.out.free (by omega) (by omega) kw
        have hll : (mo key nonce text pre ++ mX key nonce text x pre.length j).length ≤ 2000 := by rw [List.length_append, mX_length]; omega
        refine wpList_append_lie (v := u) rfl _ _ 22 rfl w.heap.size 5 (.int .u8 0) 1 Try.underlying22 infoU8 rfl rfl aO rfl rfl ((hs5.below hb6).more hb6.size).lie (bvs_one _) ?d1 ?d2 hF6.below.size ?_
        case d1 => rw [bvs_length]; show _ + 1 ≤ _; unfold maxLen; omega
        case d2 => rw [bvs_length]; show (_ + 1) * 1 ≤ _; omega
        intro u' w8 hown8 hg8 hat8
        have n3 := own_not aO a3 (by decide)
        have n4 := own_not aO a4 (by decide)
        have n0 := own_not aO a0 (by decide)
        have n1 := own_not aO a1 (by decide)
        have n5 := own_not aO a5 (by decide)
        have n6 := own_not aO a6 (by decide)
        have b3 := block_grown a3 hg8 (fun e => n3 e.symm)
        have b4 := block_grown a4 hg8 (fun e => n4 e.symm)
        have b0 := block_grown a0 hg8 (fun e => n0 e.symm)
        have b1 := block_grown a1 hg8 (fun e => n1 e.symm)
        have b5 := block_grown a5 hg8 (fun e => n5 e.symm)
        have b6 := block_grown a6 hg8 (fun e => n6 e.symm)
        have bc := block_grown ac hg8 (fun e => HNE.out e.symm)
        have hF8 : Fr w W w8 (w.heap.size + 1 + 1 + 1 + 1 + 1) (w.heap.size + 1 + 1 + 1 + 1 + 1 + 1) := hF6.grown (by omega) (by omega) hg8 (fun g e => ⟨own_lt aO g e, fun e2 => n5 (by rw [e, e2]), fun e2 => n6 (by rw [e, e2]), own_isC aO e⟩)
        have hO8 : OwnB w8 w.heap.size u' (mo key nonce text pre ++ mX key nonce text x pre.length (j + 1)) := by
          rw [HST.out, ← List.append_assoc]
          unfold OwnB
          rw [bvs_append, List.length_append]
          exact hown8
        obtain ⟨A8, n8', c8, rfl⟩ := own_form hO8
        have hne8 : (Value.slice A8 n8' c8).ownBlock ≠ some mb := by
          rcases hat8 with h | h
          · rw [h]; exact HNE.out
          · rw [h]; intro e; injection e with e; have := block_lt ac; omega
        have c3 : w8.cell? ⟨w.heap.size + 1 + 1 + 1, 0, none⟩ = some u := cell_of b3 0 _ rfl
        have z3 : w8.frozen? ⟨w.heap.size + 1 + 1 + 1, 0, none⟩ = false := frozen_of_row _ _ _ _ _ b3
        have g9 := grown_setCell w8 (w.heap.size + 1 + 1 + 1) 0 none (.slice A8 n8' c8)
        have d3 : (w8.setCell ⟨w.heap.size + 1 + 1 + 1, 0, none⟩ (.slice A8 n8' c8)).heap[w.heap.size + 1 + 1 + 1]? = some (.cells #[(.slice A8 n8' c8)] 22 (0, 0)) := (block_set b3 0 _).trans rfl
        have D3 := hid d3
        have D4 := hid (block_grown b4 g9 (by simp <;> omega))
        have D0 := hid (block_grown b0 g9 (by simp <;> omega))
        have D1 := hid (block_grown b1 g9 (by simp <;> omega))
        have D5 := hid (block_grown b5 g9 (by simp <;> omega))
        have D6 := hid (block_grown b6 g9 (by simp <;> omega))
        have hmb3 : mb ≠ w.heap.size + 1 + 1 + 1 := fun e => by
          have h := HCUR.out
          rw [e, E3.out] at h
          injection h with h; injection h with _ h _
          exact absurd h (by decide)
        have DC := hid (block_grown bc g9 (by simp; exact hmb3))
        have n8 : (Value.slice A8 n8' c8).ownBlock ≠ some (w.heap.size + 1 + 1 + 1) := own_not hO8 b3 (by decide)
        have DO := hid (own_keep hO8 g9 (fun g e => by cases e; exact n8))
        have DF : Hid (Fr w W (w8.setCell ⟨w.heap.size + 1 + 1 + 1, 0, none⟩ (.slice A8 n8' c8)) (w.heap.size + 1 + 1 + 1 + 1 + 1) (w.heap.size + 1 + 1 + 1 + 1 + 1 + 1)) := hid (hF8.grown (by omega) (by omega) g9 (fun g e => by cases e; exact ⟨by omega, by omega, by omega, fun o ho => by rw [b3] at ho; cases ho; rfl⟩))
        have DN := hid hne8
        clear kw a3 a4 a0 a1 a5 a6 ac aO hF6 n3 n4 n0 n1 n5 n6 b3 b4 b0 b1 b5 b6 bc hF8 hO8 hne8 g9 d3 n8 hown8 hg8 hat8 hs5 hb5 hb6 hbw hll hs7 h5 hlen hsz1 hmb3 E3 E4 E0 E1 E5 E6 HCUR EO HNE HF CU CM HBT
        go_wp2
        gi_wp2
        go_roundw
        case rel => exact ⟨j + 1, (.slice A8 n8' c8), by simp, by omega, D3.out, DO.out, DN.out, DC.out, D4.out, D0.out, D1.out, D5.out, D6.out, DF.out⟩
        case measure => simp only [intOf, Int.toNat_natCast]; omega
      · obtain rfl : j = M := by omega
        have hx : ¬ ((j : Int) < (j : Int)) := by omega
        have hs7 := HS7.out
        have h5 := H5.out
        have hp := HP.out
        have hsz1 := hF.size
        have hO' : OwnB wr w.heap.size u (mo key nonce text (pre ++ [x])) := by rw [mo_snoc, HPL.out]; exact eO
        have h4' : wr.heap[w.heap.size + 1 + 1 + 1 + 1]? = some (.cells #[.int .u32 ((1 + (pre ++ [x]).length : Nat) : Int)] 50 (0, 0)) := by
          rw [e4, List.length_append, List.length_singleton, show p = 1 + (pre.length + 1) by omega]
        have R := hid (show KeepsOthers W wr ∧ Kp2 (w.heap.size + 1 + 1 + 1 + 1 + 1) (w.heap.size + 1 + 1 + 1 + 1 + 1 + 1) W wr ∧ ((∃ v, wr.heap[w.heap.size + 1 + 1 + 1]? = some (.cells #[v] 22 (0, 0)) ∧ OwnB wr w.heap.size v (mo key nonce text (pre ++ [x]))) ∧ wr.heap[w.heap.size + 1 + 1 + 1 + 1]? = some (.cells #[.int .u32 ((1 + (pre ++ [x]).length : Nat) : Int)] 50 (0, 0)) ∧ wr.heap[w.heap.size]? = some (.cells #[.slice A (16 : Nat) c] 22 (0, 0)) ∧ wr.heap[w.heap.size + 1]? = some (.cells #[.slice A' (12 : Nat) c'] 22 (0, 0)) ∧ wr.heap[w.heap.size + 1 + 1 + 1 + 1 + 1]? = some (.cells #[.slice A2 n c2] 22 (0, 0)) ∧ wr.heap[w.heap.size + 1 + 1 + 1 + 1 + 1 + 1]? = some (.cells #[.int .i64 16] 3 (0, 0)) ∧ Below w.heap.size w wr ∧ w7.heap.size ≤ wr.heap.size) from
          ⟨hF.keep, hF.kp, ⟨u, e3, hO'⟩, h4', e0, e1, e5, e6, hF.below, Nat.le_trans h5 hsz1⟩)
        clear e3 eO hne hcur e4 e0 e1 e5 e6 hF hO' h4' hs7 h5 hp hsz1
        gi_wp2
        exact R.out
  case done =>
    rintro D ys W hD rfl ⟨⟨v, h3, hO⟩, h4, h0, h1, hx5, hx6, hB, h5⟩ hK
    rw [mo_all key nonce text n HN.out] at hO
    have c3 : W.cell? ⟨w.heap.size + 1 + 1 + 1, 0, none⟩ = some v := cell_of h3 0 _ rfl
    have HO := hid hO; have HB := hid hB; have HKK := hid hK
    clear h3 hO h4 h0 h1 hx5 hx6 hB h5 hK
    refine hK2 _ _ ?_
    gi_wp2
    refine ⟨by simp, .inl ⟨_, _, rfl, run_takeDeferred HKK.out, ?_⟩⟩
    have hg := grownBy_putObj' W D (.deferred none)
    have hnD : v.ownBlock ≠ some D := fun e => by have := own_isC HO.out e _ HKK.out; cases this
    exact ⟨_, results_tmp rfl _ _ _, v, rfl, own_keep HO.out hg (fun g e => by cases e; exact hnD), HB.out.grown hg HB.out.size (fun k e => by cases e; have := HS7.out; omega)⟩
  case stop =>
    rintro D c pre W _ _ h _
    exact h.elim
end Go.Proofs.Ytojlmlmjmlbjmaa
end
section
namespace Go.Proofs.Ytojlmlmjmlbjmaa
open Go Go.RowKit
set_option linter.unusedVariables false
set_option linter.unusedSimpArgs false
theorem built0 : Try.prog.built PT [] = some (pV 0) := by rw [pV_zero]; kernel_rfl
theorem built2 (a b : Nat) : Try.prog.built PT [(0, .int .u64 (a : Int)), (1, .int .u64 (b : Int))] = some (p2 a b) := by kernel_rfl
theorem sq_onB {w W : World} {A : Option Addr} {c : Nat} {xs : List Value} (h : Sq w w.heap.size A c xs) (hb : Below w.heap.size w W) : Sq W W.heap.size A c xs := (h.below hb).more hb.size
set_option maxRecDepth 100000 in
set_option maxHeartbeats 4000000 in
theorem tag_e (A A' A2 A3 : Option Addr) (key nonce sealed more : List UInt8) (m m' n2 n3 c c' c2 c3 : Nat) (w : World) (hA : Sq w w.heap.size A c (bvs key)) (hA' : Sq w w.heap.size A' c' (bvs nonce)) (h2 : Sq w w.heap.size A2 c2 (bvs sealed)) (h3 : Sq w w.heap.size A3 c3 (bvs more)) (hkey : key.length = 16) (hnonce : nonce.length = 12) (hm : m = 16) (hm' : m' = 12) (hn2 : sealed.length = n2) (hn3 : more.length = n3) (hs : n2 ≤ 1000) (hmo : n3 ≤ 1000) :
    Calls Try.prog 19 #[.slice A m c, .slice A' m' c', .slice A2 n2 c2, .slice A3 n3 c3] w fun e w' => ∃ v, e = .returned v ∧ OwnB w' w.heap.size v (tagL key nonce sealed more) ∧ Below w.heap.size w w' := by
  subst hm; subst hm'
  obtain ⟨H, hH⟩ : ∃ H, H = hN key := ⟨_, rfl⟩
  obtain ⟨s1, hs1⟩ : ∃ s, s = wf H (bf more) 0 ((n3 + 15) / 16) := ⟨_, rfl⟩
  obtain ⟨s2, hs2⟩ : ∃ s, s = wf H (bf sealed) s1 ((n2 + 15) / 16) := ⟨_, rfl⟩
  obtain ⟨l3, hl3⟩ : ∃ l, l = 8 * n3 := ⟨_, rfl⟩
  obtain ⟨l2, hl2⟩ : ∃ l, l = 8 * n2 := ⟨_, rfl⟩
  obtain ⟨LP, hLP⟩ : ∃ l, l = lenP l3 l2 := ⟨_, rfl⟩
  obtain ⟨S, hS⟩ : ∃ S, S = gm (s2 ^^^ LP) H := ⟨_, rfl⟩
  obtain ⟨MP, hMP⟩ : ∃ p, p = pol (bf (maskL key nonce 1)) := ⟨_, rfl⟩
  have hHl : H < 2 ^ 128 := by rw [hH]; exact pol_lt _
  have hs1l : s1 < 2 ^ 128 := by rw [hs1]; exact wf_lt _ (by decide) _
  have hs2l : s2 < 2 ^ 128 := by rw [hs2]; exact wf_lt _ hs1l _
  have hLPl : LP < 2 ^ 128 := by rw [hLP]; exact lenP_lt _ _
  have HTAG : Hid (unL (S ^^^ MP) = tagL key nonce sealed more) := hid (by
    have h : S = sumN key sealed more := by rw [hS, hs2, hs1, hLP, hl3, hl2, ← hn2, ← hn3, hH]; rfl
    rw [h, hMP]; exact tag_is key nonce sealed more)
  have HLP : Hid (Try.prog.built PT [(0, .int .u64 (l3 : Int)), (1, .int .u64 (l2 : Int))] = some (pV LP)) := hid (by
    rw [built2, hLP, pV, wA_len _ _ (by omega), wB_len _ _ (by omega)])
  have KW1 : Hid (∀ W, Below w.heap.size w W → Calls Try.prog 34 #[.agg (pV 0), .slice A3 n3 c3, .agg (pV H)] W fun e w' => e = .returned (.agg (pV s1)) ∧ Below W.heap.size W w') := hid fun W hb => by rw [hs1]; exact with_e 0 H A3 more n3 c3 W (sq_onB h3 hb) hn3 hmo (by decide) hHl
  have KW2 : Hid (∀ W, Below w.heap.size w W → Calls Try.prog 34 #[.agg (pV s1), .slice A2 n2 c2, .agg (pV H)] W fun e w' => e = .returned (.agg (pV s2)) ∧ Below W.heap.size W w') := hid fun W hb => by rw [hs2]; exact with_e s1 H A2 sealed n2 c2 W (sq_onB h2 hb) hn2 hs hs1l hHl
  have KL3 : Hid (∀ W : World, Calls Try.prog 36 #[.slice A3 n3 c3] W fun e w' => e = .returned (.int .u64 (l3 : Int)) ∧ Below W.heap.size W w') := hid fun W => (bitsOf_e A3 n3 l3 c3 W hmo hl3).mono fun e w' h => ⟨h.1, by rw [← h.2]; exact Below.refl _ _⟩
  have KL2 : Hid (∀ W : World, Calls Try.prog 36 #[.slice A2 n2 c2] W fun e w' => e = .returned (.int .u64 (l2 : Int)) ∧ Below W.heap.size W w') := hid fun W => (bitsOf_e A2 n2 l2 c2 W hs hl2).mono fun e w' h => ⟨h.1, by rw [← h.2]; exact Below.refl _ _⟩
  have KP1 : Hid (∀ W, _) := hid fun W => plus_e s2 LP W
  have KT : Hid (∀ W : World, Calls Try.prog 28 #[.agg (pV (s2 ^^^ LP)), .agg (pV H)] W fun e w' => e = .returned (.agg (pV S)) ∧ Below W.heap.size W w') := hid fun W => by rw [hS]; exact times_e (s2 ^^^ LP) H W (Nat.xor_lt_two_pow hs2l hLPl) hHl
  have KM : Hid (∀ W : World, Below w.heap.size w W → Calls Try.prog 32 #[.slice A (16 : Nat) c, .slice A' (12 : Nat) c', .int .u32 1] W fun e w' => ∃ v, e = .returned v ∧ OwnB w' W.heap.size v (maskL key nonce 1) ∧ Below W.heap.size W w') := hid fun W hb => mask_e A A' key nonce 16 12 1 c c' W (sq_onB hA hb) (sq_onB hA' hb) hkey hnonce rfl rfl (by omega)
  have KQ : Hid (∀ (Am : Option Addr) (cm : Nat) (W : World), Sq W W.heap.size Am cm (bvs (maskL key nonce 1)) → Calls Try.prog 27 #[.slice Am (maskL key nonce 1).length cm] W fun e w' => e = .returned (.agg (pV MP)) ∧ Below W.heap.size W w') := hid fun Am cm W h => by rw [hMP]; exact polyOf_e Am _ _ cm W h rfl (by rw [maskL_length]; omega)
  have KP2 : Hid (∀ W, _) := hid fun W => plus_e S MP W
  have KB2 : Hid (∀ W : World, Calls Try.prog 29 #[.agg (pV (S ^^^ MP))] W fun e w' => ∃ v, e = .returned v ∧ Below W.heap.size W w' ∧ OwnB w' W.heap.size v (unL (S ^^^ MP))) := hid fun W => (bytes_e (S ^^^ MP) W).mono fun e w' ⟨v, h1, h2, h3⟩ => ⟨v, h1, h3, h2⟩
  have hb1 : Below w.heap.size w (w.alloc (.cells (bR fun _ => 0) 5)) := (Below.refl _ _).alloc (Nat.le_refl _) _
  have hz1 : Sq (w.alloc (.cells (bR fun _ => 0) 5)) (w.alloc (.cells (bR fun _ => 0) 5)).heap.size (some ⟨w.heap.size, 0, none⟩) 16 (bvs (blkL fun _ => 0)) :=
    Lie.sq ((Lie.newA w (bR fun _ => 0) 5).more (by simp)) (by rw [bvs_length, blkL_length]; exact Nat.le_refl _) (by omega)
  have KB : Hid (Calls Try.prog 33 #[.slice A (16 : Nat) c, .slice (some ⟨w.heap.size, 0, none⟩) (16 : Nat) (16 : Nat)] (w.alloc (.cells (bR fun _ => 0) 5)) fun e w' => ∃ v, e = .returned (.tuple #[v, .bool true]) ∧ OwnB w' (w.alloc (.cells (bR fun _ => 0) 5)).heap.size v (hashH key) ∧ Below (w.alloc (.cells (bR fun _ => 0) 5)).heap.size (w.alloc (.cells (bR fun _ => 0) 5)) w') :=
    hid (Block_any A (some ⟨w.heap.size, 0, none⟩) key (blkL fun _ => 0) 16 16 c 16 _ (sq_onB hA hb1) hz1 hkey (blkL_length _))
  have HB1 := hid hb1; have HH := hid hH
  have hmk := mk16
  clear hs1 hs2 hl3 hl2 hLP hS hMP hHl hs1l hs2l hLPl hA hA' h2 h3 hkey hnonce hn2 hn3 hs hmo hb1 hz1 hH
  go_enter Try.func19, Try.ntmps19
  go_wp2_with fail
  refine KB.out.mono ?_
  rintro e w2 ⟨vz, rfl, hoz, hb2⟩
  obtain ⟨Az, cz, rfl, hSz⟩ := own_n hoz (hashH_length key)
  have hb2' : Below w.heap.size w w2 := HB1.out.trans (hb2.mono HB1.out.size)
  have KH : Hid (Calls Try.prog 27 #[.slice Az (16 : Nat) cz] w2 fun e w' => e = .returned (.agg (pV H)) ∧ Below w2.heap.size w2 w') := hid (by rw [HH.out]; exact polyOf_e Az _ _ cz w2 hSz.sq (hashH_length key) (by omega))
  have HB2 := hid hb2'
  clear hmk KB hoz hb2 hSz hb2' HB1
  go_wp2_with fail
  refine KH.out.mono ?_
  rintro e w3 ⟨rfl, hb3⟩
  have hb3' : Below w.heap.size w w3 := HB2.out.trans (hb3.mono HB2.out.size)
  have hr3 : (w3.alloc (.cells #[.int .u64 0, .int .u64 0] PT)).heap[w3.heap.size]? = some (.cells (pV 0) PT (0, 0)) := by rw [pV_zero]; exact blkN rfl _ _
  have HR3 := hid hr3; have HB3 := hid hb3'
  clear hb3 hb3' hr3 KH HB2
  go_wp2_with (refine wpList_store_row rfl PT (.tmp 11) (.tmp 20) rfl w3.heap.size (pV H) rfl rfl PT (pV 0) HR3.out (infoV H) rfl (pV_one H) ?_)
  have S4 : Hid (St w ((w3.alloc (.cells #[.int .u64 0, .int .u64 0] PT)).setRow w3.heap.size (pV H)) [(w3.heap.size, pV H, PT)] []) := hid (by
    have h := ((St.start w).on HB3.out).alloc ((Below.refl _ _).alloc (Nat.le_refl _) _) (Nat.le_refl _) HR3.out
    exact h.put0 0 rfl)
  obtain ⟨b11, hb11⟩ : ∃ b, b = w3.heap.size := ⟨_, rfl⟩
  rw [← hb11] at S4 ⊢
  generalize (w3.alloc (.cells #[.int .u64 0, .int .u64 0] PT)).setRow b11 (pV H) = w4 at S4 ⊢
  clear HR3 HB3 hb11
  go_upto_region 3 with fail
  refine wp_region_grA 8 (by kernel_rfl) (by decide) ?_
  refine wpGrA_take (i := 0) (.agg (pV 0)) rfl (by kernel_rfl) (by kernel_rfl) (fun _ _ _ h => h) (yG_build (by rfl) PT _ rfl [] rfl _ built0) ?_
  (try simp only [Act.put, List.getElem_toArray, List.getElem_cons_succ, List.getElem_cons_zero, List.setIfInBounds_toArray, List.set_cons_zero, List.set_cons_succ])
  refine wpGrA_take (i := 1) (.slice A3 n3 c3) rfl (by kernel_rfl) (by kernel_rfl) (fun _ _ _ h => h) (yG_val _ (by rfl) (fun w' _ => by (go_simp; try rfl))) ?_
  (try simp only [Act.put, List.getElem_toArray, List.getElem_cons_succ, List.getElem_cons_zero, List.setIfInBounds_toArray, List.set_cons_zero, List.set_cons_succ])
  refine wpGrA_take (i := 2) (.agg (pV H)) rfl (by kernel_rfl) (by kernel_rfl) (fun _ _ _ h => h) (yG_part (by rfl) PT (.tmp 11) rfl b11 0 rfl PT (pV H) (pV H) (0, 0) _ S4.out.cl.1 (pV_all _) Try.underlying45 rfl (infoV _)) ?_
  (try simp only [Act.put, List.getElem_toArray, List.getElem_cons_succ, List.getElem_cons_zero, List.setIfInBounds_toArray, List.set_cons_zero, List.set_cons_succ])
  refine wpGrA_take (i := 3) (.agg (pV s1)) rfl (by kernel_rfl) (by kernel_rfl) (fun _ _ _ h => h) (yG_call (by rfl) (fun w' => by go_simp) (fun w' hb => KW1.out w' (S4.out.on hb).below)) ?_
  (try simp only [Act.put, List.getElem_toArray, List.getElem_cons_succ, List.getElem_cons_zero, List.setIfInBounds_toArray, List.set_cons_zero, List.set_cons_succ])
  refine wpGrA_take (i := 4) (.slice A2 n2 c2) rfl (by kernel_rfl) (by kernel_rfl) (fun _ _ _ h => h) (yG_val _ (by rfl) (fun w' _ => by (go_simp; try rfl))) ?_
  (try simp only [Act.put, List.getElem_toArray, List.getElem_cons_succ, List.getElem_cons_zero, List.setIfInBounds_toArray, List.set_cons_zero, List.set_cons_succ])
  refine wpGrA_take (i := 5) (.agg (pV H)) rfl (by kernel_rfl) (by kernel_rfl) (fun _ _ _ h => h) (yG_part (by rfl) PT (.tmp 11) rfl b11 0 rfl PT (pV H) (pV H) (0, 0) _ S4.out.cl.1 (pV_all _) Try.underlying45 rfl (infoV _)) ?_
  (try simp only [Act.put, List.getElem_toArray, List.getElem_cons_succ, List.getElem_cons_zero, List.setIfInBounds_toArray, List.set_cons_zero, List.set_cons_succ])
  refine wpGrA_take (i := 6) (.agg (pV s2)) rfl (by kernel_rfl) (by kernel_rfl) (fun _ _ _ h => h) (yG_call (by rfl) (fun w' => by go_simp) (fun w' hb => KW2.out w' (S4.out.on hb).below)) ?_
  (try simp only [Act.put, List.getElem_toArray, List.getElem_cons_succ, List.getElem_cons_zero, List.setIfInBounds_toArray, List.set_cons_zero, List.set_cons_succ])
  refine wpGrA_alloc (i := 7) rfl rfl rfl zeroV (by kernel_rfl) ?_
  intro p101_0 w101 hp hz hb
  have S101 : Hid (St w w101 [(p101_0, pV 0, PT), (b11, pV H, PT)] []) := hid (S4.out.alloc hb hp hz)
  clear hb hp hz S4
  (try simp only [Act.put, List.getElem_toArray, List.getElem_cons_succ, List.getElem_cons_zero, List.setIfInBounds_toArray, List.set_cons_zero, List.set_cons_succ])
  refine wpLA_here ?_
  refine wpLA_store rfl PT (.tmp 12) (.tmp 27) rfl p101_0 (pV s2) rfl rfl PT (pV 0) S101.out.cl.1 (infoV _) rfl (pV_one _) ?_
  intro wx hb
  have S102 : Hid (St w (wx.setRow p101_0 (pV s2)) [(p101_0, pV s2, PT), (b11, pV H, PT)] []) := hid ((S101.out.on hb).put0 0 rfl)
  clear hb S101
  generalize wx.setRow p101_0 (pV s2) = w102 at S102 ⊢
  (try simp only [Act.put, List.getElem_toArray, List.getElem_cons_succ, List.getElem_cons_zero, List.setIfInBounds_toArray, List.set_cons_zero, List.set_cons_succ])
  refine wpLA_end ?_
  intro w103 hb
  have S103 := hid (S102.out.on hb)
  clear hb S102
  go_upto_region 4 with fail
  refine wp_region_grA 9 (by kernel_rfl) (by decide) ?_
  refine wpGrA_take (i := 0) (.agg (pV s2)) rfl (by kernel_rfl) (by kernel_rfl) (fun _ _ _ h => h) (yG_part (by rfl) PT (.tmp 12) rfl p101_0 0 rfl PT (pV s2) (pV s2) (0, 0) _ S103.out.cl.1 (pV_all _) Try.underlying45 rfl (infoV _)) ?_
  (try simp only [Act.put, List.getElem_toArray, List.getElem_cons_succ, List.getElem_cons_zero, List.setIfInBounds_toArray, List.set_cons_zero, List.set_cons_succ])
  refine wpGrA_take (i := 1) (.slice A3 n3 c3) rfl (by kernel_rfl) (by kernel_rfl) (fun _ _ _ h => h) (yG_val _ (by rfl) (fun w' _ => by (go_simp; try rfl))) ?_
  (try simp only [Act.put, List.getElem_toArray, List.getElem_cons_succ, List.getElem_cons_zero, List.setIfInBounds_toArray, List.set_cons_zero, List.set_cons_succ])
  refine wpGrA_take (i := 2) (.int .u64 ((l3 : Int))) rfl (by kernel_rfl) (by kernel_rfl) (fun _ _ _ h => h) (yG_call (by rfl) (fun w' => by go_simp) (fun w' hb => KL3.out w')) ?_
  (try simp only [Act.put, List.getElem_toArray, List.getElem_cons_succ, List.getElem_cons_zero, List.setIfInBounds_toArray, List.set_cons_zero, List.set_cons_succ])
  refine wpGrA_take (i := 3) (.slice A2 n2 c2) rfl (by kernel_rfl) (by kernel_rfl) (fun _ _ _ h => h) (yG_val _ (by rfl) (fun w' _ => by (go_simp; try rfl))) ?_
  (try simp only [Act.put, List.getElem_toArray, List.getElem_cons_succ, List.getElem_cons_zero, List.setIfInBounds_toArray, List.set_cons_zero, List.set_cons_succ])
  refine wpGrA_take (i := 4) (.int .u64 ((l2 : Int))) rfl (by kernel_rfl) (by kernel_rfl) (fun _ _ _ h => h) (yG_call (by rfl) (fun w' => by go_simp) (fun w' hb => KL2.out w')) ?_
  (try simp only [Act.put, List.getElem_toArray, List.getElem_cons_succ, List.getElem_cons_zero, List.setIfInBounds_toArray, List.set_cons_zero, List.set_cons_succ])
  refine wpGrA_take (i := 5) (.agg (pV LP)) rfl (by kernel_rfl) (by kernel_rfl) (fun _ _ _ h => h) (yG_build (by rfl) PT _ rfl [(0, .int .u64 (l3 : Int)), (1, .int .u64 (l2 : Int))] rfl _ HLP.out) ?_
  (try simp only [Act.put, List.getElem_toArray, List.getElem_cons_succ, List.getElem_cons_zero, List.setIfInBounds_toArray, List.set_cons_zero, List.set_cons_succ])
  refine wpGrA_take (i := 6) (.agg (pV (s2 ^^^ LP))) rfl (by kernel_rfl) (by kernel_rfl) (fun _ _ _ h => h) (yG_call (by rfl) (fun w' => by go_simp) (fun w' hb => KP1.out w')) ?_
  (try simp only [Act.put, List.getElem_toArray, List.getElem_cons_succ, List.getElem_cons_zero, List.setIfInBounds_toArray, List.set_cons_zero, List.set_cons_succ])
  refine wpGrA_take (i := 7) (.agg (pV H)) rfl (by kernel_rfl) (by kernel_rfl) (fun _ _ _ h => h) (yG_part (by rfl) PT (.tmp 11) rfl b11 0 rfl PT (pV H) (pV H) (0, 0) _ S103.out.cl.2.1 (pV_all _) Try.underlying45 rfl (infoV _)) ?_
  (try simp only [Act.put, List.getElem_toArray, List.getElem_cons_succ, List.getElem_cons_zero, List.setIfInBounds_toArray, List.set_cons_zero, List.set_cons_succ])
  refine wpGrA_take (i := 8) (.agg (pV S)) rfl (by kernel_rfl) (by kernel_rfl) (fun _ _ _ h => h) (yG_call (by rfl) (fun w' => by go_simp) (fun w' hb => KT.out w')) ?_
  (try simp only [Act.put, List.getElem_toArray, List.getElem_cons_succ, List.getElem_cons_zero, List.setIfInBounds_toArray, List.set_cons_zero, List.set_cons_succ])
  refine wpGrA_end (by kernel_rfl) ?_
  intro w104 hb
  have S104 := hid (S103.out.on hb)
  clear hb S103
  refine wpLA_here ?_
  refine wpLA_store rfl PT (.tmp 12) (.tmp 36) rfl p101_0 (pV S) rfl rfl PT (pV s2) S104.out.cl.1 (infoV _) rfl (pV_one _) ?_
  intro wx hb
  have S105 : Hid (St w (wx.setRow p101_0 (pV S)) [(p101_0, pV S, PT), (b11, pV H, PT)] []) := hid ((S104.out.on hb).put0 0 rfl)
  clear hb S104
  generalize wx.setRow p101_0 (pV S) = w105 at S105 ⊢
  (try simp only [Act.put, List.getElem_toArray, List.getElem_cons_succ, List.getElem_cons_zero, List.setIfInBounds_toArray, List.set_cons_zero, List.set_cons_succ])
  refine wpLA_end ?_
  intro w106 hb
  have S106 := hid (S105.out.on hb)
  clear hb S105
  go_upto_region 5 with fail
  refine wp_region_grA 7 (by kernel_rfl) (by decide) ?_
  refine wpGrA_take (i := 0) (.agg (pV S)) rfl (by kernel_rfl) (by kernel_rfl) (fun _ _ _ h => h) (yG_part (by rfl) PT (.tmp 12) rfl p101_0 0 rfl PT (pV S) (pV S) (0, 0) _ S106.out.cl.1 (pV_all _) Try.underlying45 rfl (infoV _)) ?_
  (try simp only [Act.put, List.getElem_toArray, List.getElem_cons_succ, List.getElem_cons_zero, List.setIfInBounds_toArray, List.set_cons_zero, List.set_cons_succ])
  refine wpGrA_take (i := 1) (.slice A 16 c) rfl (by kernel_rfl) (by kernel_rfl) (fun _ _ _ h => h) (yG_val _ (by rfl) (fun w' _ => by (go_simp; try rfl))) ?_
  (try simp only [Act.put, List.getElem_toArray, List.getElem_cons_succ, List.getElem_cons_zero, List.setIfInBounds_toArray, List.set_cons_zero, List.set_cons_succ])
  refine wpGrA_take (i := 2) (.slice A' 12 c') rfl (by kernel_rfl) (by kernel_rfl) (fun _ _ _ h => h) (yG_val _ (by rfl) (fun w' _ => by (go_simp; try rfl))) ?_
  (try simp only [Act.put, List.getElem_toArray, List.getElem_cons_succ, List.getElem_cons_zero, List.setIfInBounds_toArray, List.set_cons_zero, List.set_cons_succ])
  refine wpGrA_bytes (i := 3) (maskL key nonce 1) rfl (by kernel_rfl) (by rfl) (fun w' => by go_simp) (fun w' hb => KM.out w' (S106.out.on hb).below) ?_
  intro Am cm w200 hb hs
  have S200 := hid (S106.out.on hb)
  have HSM := hid hs
  clear hb hs S106
  (try simp only [Act.put, List.getElem_toArray, List.getElem_cons_succ, List.getElem_cons_zero, List.setIfInBounds_toArray, List.set_cons_zero, List.set_cons_succ])
  refine wpGrA_take (i := 4) (.agg (pV MP)) rfl (by kernel_rfl) (by kernel_rfl) (fun _ _ _ h => h) (yG_call (by rfl) (fun w' => by go_simp) (fun w' hb => KQ.out Am cm w' ((HSM.out.below hb).more hb.size))) ?_
  (try simp only [Act.put, List.getElem_toArray, List.getElem_cons_succ, List.getElem_cons_zero, List.setIfInBounds_toArray, List.set_cons_zero, List.set_cons_succ])
  refine wpGrA_take (i := 5) (.agg (pV (S ^^^ MP))) rfl (by kernel_rfl) (by kernel_rfl) (fun _ _ _ h => h) (yG_call (by rfl) (fun w' => by go_simp) (fun w' hb => KP2.out w')) ?_
  (try simp only [Act.put, List.getElem_toArray, List.getElem_cons_succ, List.getElem_cons_zero, List.setIfInBounds_toArray, List.set_cons_zero, List.set_cons_succ])
  refine wpGrA_call (i := 6) (fun w' v w'' => OwnB w'' w'.heap.size v (unL (S ^^^ MP))) rfl (by kernel_rfl) (by rfl) (fun w' => by go_simp) (fun w' hb => KB2.out w') ?_
  intro w201 v8 w202 hb1 hb2 hO8
  (try simp only [Act.put, List.getElem_toArray, List.getElem_cons_succ, List.getElem_cons_zero, List.setIfInBounds_toArray, List.set_cons_zero, List.set_cons_succ])
  refine wpGrA_end (by kernel_rfl) ?_
  intro w203 hb3
  have hbe : Below w.heap.size w w203 := ((S200.out.on hb1).on (hb2.trans (hb3.mono hb2.size))).below
  have hbw : w.heap.size ≤ w201.heap.size := (S200.out.on hb1).below.size
  have HR : Hid (OwnB w203 w.heap.size v8 (tagL key nonce sealed more)) := hid (by rw [← HTAG.out]; exact own_base (own_keep hO8 (grown12 hb3) (fun g e => by cases e)) hbw)
  have HBE := hid hbe
  clear hb1 hb2 hb3 hO8 hbe hbw S200 HSM
  go_wp2
  go_ret
  exact ⟨_, rfl, HR.out, HBE.out⟩
end Go.Proofs.Ytojlmlmjmlbjmaa
end
section
namespace Go.Proofs.Ytojlmlmjmlbjmaa
open Go Go.RowKit
set_option linter.unusedVariables false
set_option linter.unusedSimpArgs false
set_option maxHeartbeats 1000000 in
theorem times12_ok : TimesOk := by
  intro A A' xs ys n n' c c' w hA hA' hn hn' hl hl'
  by_cases h : n = 16
  · subst h
    by_cases h' : n' = 16
    · subst h'
      obtain ⟨a, ha⟩ : ∃ a, a = pol (bf xs) := ⟨_, rfl⟩
      obtain ⟨b, hb⟩ : ∃ b, b = pol (bf ys) := ⟨_, rfl⟩
      have K1 : Hid (Calls Try.prog 27 #[.slice A (16 : Nat) c] w fun e w' => e = .returned (.agg (pV a)) ∧ Below w.heap.size w w') := hid (by rw [ha]; exact polyOf_e A xs 16 c w hA hn hl)
      have K2 : Hid (∀ W, Below w.heap.size w W → Calls Try.prog 27 #[.slice A' (16 : Nat) c'] W fun e w' => e = .returned (.agg (pV b)) ∧ Below W.heap.size W w') := hid fun W hW => by rw [hb]; exact polyOf_e A' ys 16 c' W (sq_onB hA' hW) hn' hl'
      have K3 : Hid (∀ W, _) := hid fun W => times_e a b W (by rw [ha]; exact pol_lt _) (by rw [hb]; exact pol_lt _)
      have K4 : Hid (∀ W, _) := hid fun W => bytes_e (gm a b) W
      have HT : Hid (unL (gm a b) = timesL xs ys) := hid (by rw [ha, hb]; rfl)
      clear hA hA' hn hn' hl hl' ha hb
      go_enter Try.func15, Try.ntmps15
      go_wp2_with fail
      refine K1.out.mono ?_
      rintro e w1 ⟨rfl, hb1⟩
      have HB1 := hid hb1
      clear hb1
      go_wp2_with fail
      refine (K2.out w1 HB1.out).mono ?_
      rintro e w2 ⟨rfl, hb2⟩
      have HB2 := hid (HB1.out.trans (hb2.mono HB1.out.size))
      clear hb2
      go_wp2_with fail
      refine (K3.out w2).mono ?_
      rintro e w3 ⟨rfl, hb3⟩
      have HB3 := hid (HB2.out.trans (hb3.mono HB2.out.size))
      clear hb3
      go_wp2_with fail
      refine (K4.out w3).mono ?_
      rintro e w4 ⟨v, rfl, ho, hb4⟩
      have HB4 := hid (HB3.out.trans (hb4.mono HB3.out.size))
      have HO : Hid (OwnB w4 w.heap.size v (timesL xs ys)) := hid (by rw [← HT.out]; exact own_base ho HB3.out.size)
      clear ho hb4
      go_wp2
      go_ret2
      exact ⟨⟨_, rfl, HO.out⟩, HB4.out⟩
    · have f2 : ((n' : Int) == 16) = false := by simp; omega
      have f3 : ¬ (n' : Int) = 16 := by omega
      clear hA hA' hn hn' hl hl'
      go_enter Try.func15, Try.ntmps15
      have HH := hid h'
      clear h'
      go_wp2
      go_ret2
      exact ⟨⟨_, _, rfl⟩, Below.refl _ _⟩
  · have f2 : ((n : Int) == 16) = false := by simp; omega
    have f3 : ¬ (n : Int) = 16 := by omega
    clear hA hA' hn hn' hl hl'
    go_enter Try.func15, Try.ntmps15
    have HH := hid h
    clear h
    go_wp2
    go_ret2
    exact ⟨⟨_, _, rfl⟩, Below.refl _ _⟩
set_option maxHeartbeats 1000000 in
theorem seal12_ok : SealOk := by
  intro A A' A2 A3 key nonce text more m m' n2 n3 c c' c2 c3 w hA hA' h2 h3 hm hm' hn2 hn3 hl hl' hl2 hl3
  have KC := hid (canBe_e A A' m m' c c' w hl hl')
  by_cases h : m = 16 ∧ m' = 12
  · obtain ⟨rfl, rfl⟩ := h
    obtain ⟨X, hX⟩ : ∃ X, X = maskedL key nonce text := ⟨_, rfl⟩
    have hXl : X.length = n2 := by rw [hX, maskedL_length, hn2]
    have KM : Hid (Calls Try.prog 18 #[.slice A (16 : Nat) c, .slice A' (12 : Nat) c', .slice A2 n2 c2] w fun e w' => ∃ v, e = .returned v ∧ OwnB w' w.heap.size v X ∧ Below w.heap.size w w') := hid (by rw [hX]; exact masked_e A A' A2 key nonce text 16 12 n2 c c' c2 w hA hA' h2 hm hm' rfl rfl hn2 hl2)
    have KT : Hid (∀ (W : World) (As : Option Addr) (cs : Nat), Below w.heap.size w W → Sq W W.heap.size As cs (bvs X) → Calls Try.prog 19 #[.slice A (16 : Nat) c, .slice A' (12 : Nat) c', .slice As n2 cs, .slice A3 n3 c3] W fun e w' => ∃ v, e = .returned v ∧ OwnB w' W.heap.size v (tagL key nonce X more) ∧ Below W.heap.size W w') := hid fun W As cs hb hq =>
      tag_e A A' As A3 key nonce X more 16 12 n2 n3 c c' cs c3 W (sq_onB hA hb) (sq_onB hA' hb) hq (sq_onB h3 hb) hm hm' rfl rfl hXl hn3 hl2 hl3
    have HS : Hid (seal12L key nonce text more = X ++ tagL key nonce X more) := hid (by rw [hX]; rfl)
    have HXL := hid hXl
    clear hA hA' h2 h3 hm hm' hn2 hn3 hl hl' hX hXl
    go_enter Try.func8, Try.ntmps8
    go_wp2_with fail
    refine KC.out.mono ?_
    rintro e w' ⟨rfl, rfl⟩
    clear KC
    go_wp2_with fail
    refine KM.out.mono ?_
    rintro e w2 ⟨v, rfl, ho, hb2⟩
    obtain ⟨As, cs, rfl, hSs⟩ := own_n ho HXL.out
    have K3 := hid (KT.out w2 As cs hb2 hSs.sq)
    have HO := hid ho; have HB2 := hid hb2
    clear ho hb2 hSs KM KT
    go_wp2_with fail
    refine K3.out.mono ?_
    rintro e w3 ⟨vt, rfl, hot, hb3⟩
    obtain ⟨At, ct, rfl, hSt⟩ := own_n hot (tagL_length _ _ _ _)
    have HO3 : Hid (OwnB w3 w.heap.size (.slice As n2 cs) X) := hid (own_keep HO.out (grown12 hb3) (fun g e => by cases e))
    have HO3' : Hid (w3.ownsRow w.heap.size 5 1 (.slice As n2 cs) n2 (bvs X)) := hid (by have h := HO3.out; unfold OwnB at h; rwa [HXL.out] at h)
    have HB3 := hid (HB2.out.trans (hb3.mono HB2.out.size))
    have HST := hid hSt.lie
    clear hot hb3 hSt HO HB2 K3 HO3
    go_wp2_with (at_builtin; refine wpList_append_lie (v := .slice As n2 cs) rfl _ _ 22 rfl w.heap.size 5 (.int .u8 0) 1 Try.underlying22 infoU8 rfl rfl HO3'.out ((bvs_length _).trans (tagL_length _ _ _ _)) rfl HST.out (bvs_one _) ?d1 ?d2 HB3.out.size ?_)
    case d1 => unfold maxLen; omega
    case d2 => omega
    intro v4 w4 hown4 hg4 hat4
    have HO4 : Hid (OwnB w4 w.heap.size v4 (seal12L key nonce text more)) := hid (by
      rw [HS.out]
      unfold OwnB
      rw [List.length_append, bvs_append, HXL.out, tagL_length]
      exact hown4)
    have HB4 : Hid (Below w.heap.size w w4) := hid (HB3.out.grown hg4 HB3.out.size (fun g e => own_lt HO3'.out g e))
    clear hown4 hg4 hat4
    go_wp2
    go_ret2
    exact ⟨⟨_, rfl, HO4.out⟩, HB4.out⟩
  · rw [show decide (m = 16 ∧ m' = 12) = false by simpa using h] at KC
    clear hA hA' h2 h3 hm hm' hn2 hn3 hl hl' hl2 hl3
    have HH := hid h
    clear h
    go_enter Try.func8, Try.ntmps8
    go_wp2_with fail
    refine KC.out.mono ?_
    rintro e w' ⟨rfl, rfl⟩
    clear KC
    go_wp2
    go_ret2
    exact ⟨⟨_, _, rfl⟩, Below.refl _ _⟩
end Go.Proofs.Ytojlmlmjmlbjmaa
end
section
namespace Go.Proofs.Ytojlmlmjmlbjmaa
open Go Go.RowKit
set_option linter.unusedVariables false
set_option linter.unusedSimpArgs false
set_option maxRecDepth 100000 in
set_option maxHeartbeats 2000000 in
theorem open12_ok : OpenOk := by
  intro A A' A2 A3 key nonce sealed more m m' n2 n3 c c' c2 c3 w hA hA' h2 h3 hm hm' hn2 hn3 hl hl' hl2 hl3
  have KC := hid (canBe_e A A' m m' c c' w hl hl')
  by_cases h : m = 16 ∧ m' = 12
  · obtain ⟨rfl, rfl⟩ := h
    by_cases hs : n2 < 16
    · have hno : ¬ opens key nonce sealed more := fun h => by have := h.2.2.1; omega
      have HNO := hid hno
      have hsi : (n2 : Int) < 16 := by omega
      clear hA hA' h2 h3 hm hm' hn2 hn3 hl hl' hl2 hl3 hno
      go_enter Try.func9, Try.ntmps9
      go_wp2_with fail
      refine KC.out.mono ?_
      rintro e w' ⟨rfl, rfl⟩
      clear KC
      go_wp2
      go_ret2
      exact ⟨⟨_, _, rfl⟩, Below.refl _ _⟩
    have hsi : ¬ (n2 : Int) < 16 := by omega
    obtain ⟨n, hnd⟩ : ∃ n, n = n2 - 16 := ⟨_, rfl⟩
    have hwn : IntKind.i64.wrap ((n2 : Int) - 16) = (n : Int) := (IntWalk.i64_in _ (by omega)).trans (by omega)
    obtain ⟨b2, o2, rfl, _⟩ := h2.form (by rw [bvs_length]; omega)
    have hcap := h2.cap
    rw [bvs_length, hn2] at hcap
    obtain ⟨hc1, hc2⟩ := hcap
    have q1 : (0 : Int) ≤ (n : Int) := Int.natCast_nonneg n
    have q2 : (n : Int) ≤ (n2 : Int) := by omega
    have q3 : (n2 : Int) ≤ (c2 : Int) := by omega
    have q4 : (n : Int) ≤ (c2 : Int) := by omega
    have q5 : (n : Int) < (c2 : Int) := by omega
    have q6 : (n : Int) < (n2 : Int) := by omega
    have q7 : n < c2 := by omega
    obtain ⟨xs, hxs⟩ : ∃ xs, xs = sealed.take n := ⟨_, rfl⟩
    obtain ⟨ts, hts⟩ : ∃ ts, ts = sealed.drop n := ⟨_, rfl⟩
    have hxl : xs.length = n := by rw [hxs, List.length_take]; omega
    have htl : ts.length = 16 := by rw [hts, List.length_drop]; omega
    have SX : Hid (∀ W, Below w.heap.size w W → Sq W W.heap.size (some ⟨b2, o2, none⟩) c2 (bvs xs)) := hid fun W hb => by
      have h := (sq_onB h2 hb).take n
      have e : (bvs sealed).take n = bvs xs := by rw [hxs]; simp [bvs, List.map_take]
      rwa [e] at h
    have SD : ∀ W, Below w.heap.size w W → Lie W W.heap.size (some ⟨b2, o2 + n, none⟩) (bvs ts) := fun W hb => by
      have h := (sq_onB h2 hb).lie.drop n
      have e : (bvs sealed).drop n = bvs ts := by rw [hts]; simp [bvs, List.map_drop]
      rwa [e] at h
    obtain ⟨T, hT⟩ : ∃ T, T = tagL key nonce xs more := ⟨_, rfl⟩
    have hTl : T.length = 16 := by rw [hT, tagL_length]
    obtain ⟨TB, hTB⟩ : ∃ b : Bool, b = decide (opens key nonce sealed more) := ⟨_, rfl⟩
    have hiff : opens key nonce sealed more ↔ T = ts := by
      unfold opens
      rw [hn2, ← hnd, ← hxs, ← hts, ← hT]
      exact ⟨fun h => h.2.2.2.symm, fun h => ⟨hm, hm', by omega, h.symm⟩⟩
    have hTB2 : TB = decide (T = ts) := by
      rw [hTB]
      by_cases ho : opens key nonce sealed more
      · rw [decide_eq_true ho, decide_eq_true (hiff.1 ho)]
      · rw [decide_eq_false ho, decide_eq_false (fun e => ho (hiff.2 e))]
    have KG : Hid (∀ W, Below w.heap.size w W → Calls Try.prog 19 #[.slice A (16 : Nat) c, .slice A' (12 : Nat) c', .slice (some ⟨b2, o2, none⟩) n c2, .slice A3 n3 c3] W fun e w' => ∃ v, e = .returned v ∧ OwnB w' W.heap.size v T ∧ Below W.heap.size W w') := hid fun W hb => by
      rw [hT]; exact tag_e A A' _ A3 key nonce xs more 16 12 n n3 c c' c2 c3 W (sq_onB hA hb) (sq_onB hA' hb) (SX.out W hb) (sq_onB h3 hb) hm hm' rfl rfl hxl hn3 (by omega) hl3
    have KE : Hid (∀ (W : World) (At : Option Addr) (ct : Nat), Below w.heap.size w W → Sq W W.heap.size At ct (bvs T) → Calls Try.prog 20 #[.slice At T.length ct, .slice (some ⟨b2, o2 + n, none⟩) (n2 - n) (c2 - n)] W fun e w' => e = .returned (.bool TB) ∧ Below W.heap.size W w') := hid fun W At ct hb hq => by
      have h := same_e At (some ⟨b2, o2 + n, none⟩) T ts T.length (n2 - n) ct (c2 - n) W hq.lie (SD W hb) hTl htl hTl (by omega)
      rw [← hTB2] at h
      exact h.mono fun e w' h => ⟨h.1, by obtain ⟨d, rfl⟩ := h.2; exact below_drQ (Below.refl _ _) d⟩
    have KM : Hid (∀ W, Below w.heap.size w W → Calls Try.prog 18 #[.slice A (16 : Nat) c, .slice A' (12 : Nat) c', .slice (some ⟨b2, o2, none⟩) n c2] W fun e w' => ∃ v, e = .returned v ∧ OwnB w' W.heap.size v (maskedL key nonce (sealed.take (sealed.length - 16))) ∧ Below W.heap.size W w') := hid fun W hb => by
      rw [hn2, ← hnd, ← hxs]; exact masked_e A A' _ key nonce xs 16 12 n c c' c2 W (sq_onB hA hb) (sq_onB hA' hb) (SX.out W hb) hm hm' rfl rfl hxl (by omega)
    clear hA hA' h2 h3 hm hm' hn2 hn3 hl hl' hl2 hl3 hnd hxs hts hxl htl SX SD hT hTl hiff hTB2 hc1 hc2 hs
    go_enter Try.func9, Try.ntmps9
    go_wp2_with fail
    refine KC.out.mono ?_
    rintro e w' ⟨rfl, rfl⟩
    clear KC
    go_upto_region 4 with fail
    refine wp_region_grA 11 (by kernel_rfl) (by decide) ?_
    refine wpGrA_take (i := 0) (.slice A (16 : Nat) c) rfl (by kernel_rfl) (by kernel_rfl) (fun _ _ _ h => h) (yG_val _ (by rfl) (fun w' hb => by (go_simp; try rfl))) ?_
    (try simp only [Act.put, List.getElem_toArray, List.getElem_cons_succ, List.getElem_cons_zero, List.setIfInBounds_toArray, List.set_cons_zero, List.set_cons_succ])
    refine wpGrA_take (i := 1) (.slice A' (12 : Nat) c') rfl (by kernel_rfl) (by kernel_rfl) (fun _ _ _ h => h) (yG_val _ (by rfl) (fun w' hb => by (go_simp; try rfl))) ?_
    (try simp only [Act.put, List.getElem_toArray, List.getElem_cons_succ, List.getElem_cons_zero, List.setIfInBounds_toArray, List.set_cons_zero, List.set_cons_succ])
    refine wpGrA_take (i := 2) (.slice (some ⟨b2, o2, none⟩) n2 c2) rfl (by kernel_rfl) (by kernel_rfl) (fun _ _ _ h => h) (yG_val _ (by rfl) (fun w' hb => by (go_simp; try rfl))) ?_
    (try simp only [Act.put, List.getElem_toArray, List.getElem_cons_succ, List.getElem_cons_zero, List.setIfInBounds_toArray, List.set_cons_zero, List.set_cons_succ])
    refine wpGrA_take (i := 3) (.int .i64 (n : Int)) rfl (by kernel_rfl) (by kernel_rfl) (fun _ _ _ h => h) (yG_val _ (by rfl) (fun w' hb => by (go_simp; try rfl))) ?_
    (try simp only [Act.put, List.getElem_toArray, List.getElem_cons_succ, List.getElem_cons_zero, List.setIfInBounds_toArray, List.set_cons_zero, List.set_cons_succ])
    refine wpGrA_take (i := 4) (.slice (some ⟨b2, o2, none⟩) n c2) rfl (by kernel_rfl) (by kernel_rfl) (fun _ _ _ h => h) (yG_val _ (by rfl) (fun w' hb => by (go_simp; try rfl))) ?_
    (try simp only [Act.put, List.getElem_toArray, List.getElem_cons_succ, List.getElem_cons_zero, List.setIfInBounds_toArray, List.set_cons_zero, List.set_cons_succ])
    refine wpGrA_take (i := 5) (.slice A3 n3 c3) rfl (by kernel_rfl) (by kernel_rfl) (fun _ _ _ h => h) (yG_val _ (by rfl) (fun w' hb => by (go_simp; try rfl))) ?_
    (try simp only [Act.put, List.getElem_toArray, List.getElem_cons_succ, List.getElem_cons_zero, List.setIfInBounds_toArray, List.set_cons_zero, List.set_cons_succ])
    refine wpGrA_take (i := 7) (.slice (some ⟨b2, o2, none⟩) n2 c2) rfl (by kernel_rfl) (by kernel_rfl) (fun _ _ _ h => h) (yG_val _ (by rfl) (fun w' hb => by (go_simp; try rfl))) ?_
    (try simp only [Act.put, List.getElem_toArray, List.getElem_cons_succ, List.getElem_cons_zero, List.setIfInBounds_toArray, List.set_cons_zero, List.set_cons_succ])
    refine wpGrA_take (i := 8) (.int .i64 (n : Int)) rfl (by kernel_rfl) (by kernel_rfl) (fun _ _ _ h => h) (yG_val _ (by rfl) (fun w' hb => by (go_simp; try rfl))) ?_
    (try simp only [Act.put, List.getElem_toArray, List.getElem_cons_succ, List.getElem_cons_zero, List.setIfInBounds_toArray, List.set_cons_zero, List.set_cons_succ])
    refine wpGrA_take (i := 9) (.slice (some ⟨b2, o2 + n, none⟩) (n2 - n) (c2 - n)) rfl (by kernel_rfl) (by kernel_rfl) (fun _ _ _ h => h) (yG_val _ (by rfl) (fun w' hb => by (go_simp; intro h; omega))) ?_
    (try simp only [Act.put, List.getElem_toArray, List.getElem_cons_succ, List.getElem_cons_zero, List.setIfInBounds_toArray, List.set_cons_zero, List.set_cons_succ])
    refine wpGrA_bytes (i := 6) T rfl (by kernel_rfl) (by rfl) (fun w' => by go_simp) (fun w' hb => KG.out w' hb) ?_
    intro At ct w5 hb5 hs5
    (try simp only [Act.put, List.getElem_toArray, List.getElem_cons_succ, List.getElem_cons_zero, List.setIfInBounds_toArray, List.set_cons_zero, List.set_cons_succ])
    refine wpGrA_take (i := 10) (.bool TB) rfl (by kernel_rfl) (by kernel_rfl) (fun _ _ _ h => h) (yG_call (by rfl) (fun w' => by go_simp) (fun w' hb => KE.out w' At ct (hb5.trans (hb.mono hb5.size)) ((hs5.below hb).more hb.size))) ?_
    (try simp only [Act.put, List.getElem_toArray, List.getElem_cons_succ, List.getElem_cons_zero, List.setIfInBounds_toArray, List.set_cons_zero, List.set_cons_succ])
    refine wpGrA_end (by kernel_rfl) ?_
    intro w6 hb6
    have HB6 : Hid (Below w.heap.size w w6) := hid (hb5.trans (hb6.mono hb5.size))
    clear hb5 hs5 hb6 KG KE
    by_cases ho : opens key nonce sealed more
    · rw [decide_eq_true ho] at hTB
      subst hTB
      have K2 := hid (KM.out w6 HB6.out)
      have HOP := hid ho
      clear ho KM
      go_wp2_with fail
      refine K2.out.mono ?_
      rintro e w7 ⟨v, rfl, ho7, hb7⟩
      have HO7 := hid (own_base ho7 HB6.out.size); have HB7 := hid (HB6.out.trans (hb7.mono HB6.out.size))
      clear ho7 hb7
      go_wp2
      go_ret2
      exact ⟨⟨_, rfl, HO7.out⟩, HB7.out⟩
    · rw [decide_eq_false ho] at hTB
      subst hTB
      have HOP := hid ho
      clear ho KM
      go_wp2
      go_ret2
      exact ⟨⟨_, _, rfl⟩, HB6.out⟩
  · have hno : ¬ opens key nonce sealed more := fun ho => h ⟨by rw [← hm]; exact ho.1, by rw [← hm']; exact ho.2.1⟩
    have HNO := hid hno
    rw [show decide (m = 16 ∧ m' = 12) = false by simpa using h] at KC
    clear hA hA' h2 h3 hm hm' hn2 hn3 hl hl' hl2 hl3 hno h
    go_enter Try.func9, Try.ntmps9
    go_wp2_with fail
    refine KC.out.mono ?_
    rintro e w' ⟨rfl, rfl⟩
    clear KC
    go_wp2
    go_ret2
    exact ⟨⟨_, _, rfl⟩, Below.refl _ _⟩
end Go.Proofs.Ytojlmlmjmlbjmaa
end
section
namespace Go.Proofs.Ytojlmlmjmlbjmaa
open Go.RowKit
set_option linter.unusedVariables false
set_option linter.unusedSimpArgs false
theorem masked_at (key nonce t : List UInt8) (i : Nat) (h : i < (maskedL key nonce t).length) : (maskedL key nonce t)[i] = UInt8.ofNat (bf t i ^^^ mskB key nonce i) := by simp [maskedL, mskN]
theorem masked_take (key nonce text : List UInt8) (k : Nat) (hk : k ≤ text.length) : (maskedL key nonce text).take k = maskedL key nonce (text.take k) := by
  have hl : (text.take k).length = k := by rw [List.length_take]; omega
  refine List.ext_getElem (by rw [List.length_take, maskedL_length, maskedL_length, hl]; omega) fun i h1 h2 => ?_
  have hik : i < k := by rw [maskedL_length, hl] at h2; exact h2
  rw [List.getElem_take, masked_at _ _ _ _ (by rw [maskedL_length]; omega), masked_at _ _ _ _ h2, bf_at text i (by omega), bf_at (text.take k) i (by omega), List.getElem_take]
/-- The sealed text's beginning. -/
theorem seal_take (key nonce text more : List UInt8) (k : Nat) (hk : k ≤ text.length) : (seal12L key nonce text more).take k = maskedL key nonce (text.take k) := by
  unfold seal12L
  rw [List.take_append_of_le_length (by rw [maskedL_length]; exact hk), masked_take _ _ _ _ hk]
/-- It hangs on no further bytes. -/
theorem seal_more (key nonce text more : List UInt8) : (seal12L key nonce text more).take text.length = (seal12L key nonce text []).take text.length := by
  rw [seal_take _ _ _ _ _ (Nat.le_refl _), seal_take _ _ _ _ _ (Nat.le_refl _)]
/-- A text's beginning is sealed as it would be alone. -/
theorem seal_part (key nonce text more : List UInt8) (k : Nat) (hk : k ≤ text.length) : (seal12L key nonce (text.take k) more).take k = (seal12L key nonce text more).take k := by
  rw [seal_take _ _ _ _ _ (by rw [List.length_take]; omega), seal_take _ _ _ _ _ hk, List.take_take, Nat.min_self]
end Go.Proofs.Ytojlmlmjmlbjmaa
end
section
namespace Go.Proofs.Ytojlmlmjmlbjmaa
open Go Go.RowKit
set_option linter.unusedVariables false
set_option linter.unusedSimpArgs false
theorem same_quiet (P Q : Option Addr) (xs : List UInt8) (k p q : Nat) (w6 : World) (hp : Lie w6 w6.heap.size P (bvs xs)) (hq : Lie w6 w6.heap.size Q (bvs xs)) (hk : xs.length = k) (hl : k ≤ 1000) :
    ∀ n, Calls Try.prog 10 #[.slice P k p, .slice Q k q] (w6.drewN n) fun e w' => e = .returned (.bool true) ∧ ∃ m, w' = w6.drewN m := fun n => by
  subst hk
  have h := Same_any P xs p Q xs q (w6.drewN n) w6.heap.size w6.heap.size (hp.drewN n) (hq.drewN n) (by omega)
  rw [beq_self_eq_true] at h
  exact h.mono fun e w' h => ⟨h.1, by obtain ⟨m, rfl⟩ := h.2; exact ⟨n + m, by simp⟩⟩
theorem take_sq {w : World} {B c : Nat} {A : Option Addr} {xs : List UInt8} (h : Sq w B A c (bvs xs)) (k : Nat) : Lie w B A (bvs (xs.take k)) := by
  have h2 := h.lie.take k
  simpa [bvs, List.map_take] using h2
set_option maxRecDepth 100000 in
set_option maxHeartbeats 4000000 in
theorem parts12_any (A A' A2 A3 : Option Addr) (key nonce text more : List UInt8) (m m' n2 n3 c c' c2 c3 : Nat) (t : Int) (w : World) (hX : Sq w w.heap.size A c (bvs key)) (hY : Sq w w.heap.size A' c' (bvs nonce)) (hZ : Sq w w.heap.size A2 c2 (bvs text)) (hM : Sq w w.heap.size A3 c3 (bvs more)) (hn : key.length = m) (hn' : nonce.length = m') (hn2 : text.length = n2) (hn3 : more.length = n3) (ht0 : 0 ≤ t) (ht1 : t ≤ 255) :
    Calls Try.prog 6 #[.slice A m c, .slice A' m' c', .slice A2 n2 c2, .slice A3 n3 c3, .int .u8 t] w fun e w' => e = .returned (.bool true) ∧ Below w.heap.size w w' := by
  have KA := hid (alive12_any seal12_ok w)
  have SX : Hid (∀ W, Below w.heap.size w W → Sq W W.heap.size A c (bvs key)) := hid fun W h => sq_on hX h
  have SY : Hid (∀ W, Below w.heap.size w W → Sq W W.heap.size A' c' (bvs nonce)) := hid fun W h => sq_on hY h
  have SZ : Hid (∀ W, Below w.heap.size w W → Sq W W.heap.size A2 c2 (bvs text)) := hid fun W h => sq_on hZ h
  have SM : Hid (∀ W, Below w.heap.size w W → Sq W W.heap.size A3 c3 (bvs more)) := hid fun W h => sq_on hM h
  have hcap := hZ.cap
  rw [bvs_length, hn2] at hcap
  have HN := hid hn; have HN' := hid hn'; have HN2 := hid hn2; have HN3 := hid hn3; have HCAP := hid hcap
  clear hX hY hZ hM hn hn' hn2 hn3 hcap
  go_enter Try.func6, Try.ntmps6
  go_wp2_with fail
  refine KA.out.mono ?_
  rintro e w1 ⟨rfl, hb1⟩
  have HB1 := hid hb1
  clear hb1 KA
  by_cases hl : ¬ m = 16
  · have hi : ((m : Int) != 16) = true := by simp; omega
    have hi' : ¬ (m : Int) = 16 := by omega
    go_wp2
    go_ret
    exact ⟨rfl, HB1.out⟩
  have hl := Decidable.of_not_not hl
  subst hl
  by_cases hl' : ¬ m' = 12
  · have hi : ((m' : Int) != 12) = true := by simp; omega
    have hi' : ¬ (m' : Int) = 12 := by omega
    go_wp2
    go_ret
    exact ⟨rfl, HB1.out⟩
  have hl' := Decidable.of_not_not hl'
  subst hl'
  by_cases hl2 : 300 < n2
  · have hi : (300 : Int) < (n2 : Int) := by omega
    have hd : decide ((300 : Int) < (n2 : Int)) = true := by simpa using hi
    go_wp2
    go_ret
    exact ⟨rfl, HB1.out⟩
  have hi2 : ¬ (300 : Int) < (n2 : Int) := by omega
  have hd2 : decide ((300 : Int) < (n2 : Int)) = false := by simpa using hi2
  by_cases hl3 : 100 < n3
  · have hi : (100 : Int) < (n3 : Int) := by omega
    have hd : decide ((100 : Int) < (n3 : Int)) = true := by simpa using hi
    go_wp2
    go_ret
    exact ⟨rfl, HB1.out⟩
  have hi3 : ¬ (100 : Int) < (n3 : Int) := by omega
  have hd3 : decide ((100 : Int) < (n3 : Int)) = false := by simpa using hi3
  obtain ⟨nn, rfl⟩ : ∃ nn : Nat, t = (nn : Int) := ⟨t.toNat, by omega⟩
  obtain ⟨q, hq⟩ : ∃ q, q = n2 + 1 := ⟨_, rfl⟩
  obtain ⟨k, hk⟩ : ∃ k, k = nn % q := ⟨_, rfl⟩
  have hk2 : k ≤ n2 := by have := Nat.mod_lt nn (show 0 < q by omega); omega
  have v1 : IntKind.i64.wrap (nn : Int) = (nn : Int) := IntWalk.i64_in _ (by omega)
  have v2 : IntKind.i64.wrap ((n2 : Int) + 1) = (q : Int) := (IntWalk.i64_in _ (by omega)).trans (by omega)
  have v3 : ((nn : Int)).tmod (q : Int) = (k : Int) := by rw [Int.tmod_eq_emod_of_nonneg (by omega), hk]; simp
  have v4 : (nn : Int) % (q : Int) = (k : Int) := by rw [hk]; simp
  have v5 : ¬ ((q : Int) = 0) := by omega
  have v6 : ((q : Int) == 0) = false := by simp; omega
  have v7 : IntKind.i64.wrap (k : Int) = (k : Int) := IntWalk.i64_in _ (by omega)
  have v8 : ¬ (q = 0) := by omega
  obtain ⟨L, hL⟩ : ∃ L, L = n2 + 16 := ⟨_, rfl⟩
  have v9 : IntKind.i64.wrap ((n2 : Int) + 16) = (L : Int) := (IntWalk.i64_in _ (by omega)).trans (by omega)
  obtain ⟨M, hM⟩ : ∃ M, M = k + 16 := ⟨_, rfl⟩
  obtain ⟨S, hS⟩ : ∃ S, S = seal12L key nonce text more := ⟨_, rfl⟩
  obtain ⟨T, hT⟩ : ∃ S, S = seal12L key nonce text [] := ⟨_, rfl⟩
  obtain ⟨U, hU⟩ : ∃ S, S = seal12L key nonce (text.take k) more := ⟨_, rfl⟩
  have hSl : S.length = L := by rw [hS, seal12L_length, HN2.out, hL]
  have hTl : T.length = L := by rw [hT, seal12L_length, HN2.out, hL]
  have hUl : U.length = M := by rw [hU, seal12L_length, List.length_take, HN2.out, hM]; omega
  have KS : Hid (∀ W, Below w.heap.size w W → Calls Try.prog 8 #[.slice A (16 : Nat) c, .slice A' (12 : Nat) c', .slice A2 n2 c2, .slice A3 n3 c3] W fun e w' => ∃ As cs, e = .returned (.tuple #[.slice As L cs, .bool true]) ∧ Sq w' w'.heap.size As cs (bvs S) ∧ Below W.heap.size W w') := hid fun W hb =>
    (seal12_ok A A' A2 A3 key nonce text more 16 12 n2 n3 c c' c2 c3 W (SX.out _ hb) (SY.out _ hb) (SZ.out _ hb) (SM.out _ hb) HN.out HN'.out HN2.out HN3.out (by omega) (by omega) (by omega) (by omega)).mono fun e w' h => by
      obtain ⟨h, hb⟩ := h
      rw [if_pos ⟨rfl, rfl⟩, ← hS] at h
      obtain ⟨v, rfl, ho⟩ := h
      obtain ⟨As, cs, rfl, hq⟩ := own_n ho hSl
      exact ⟨As, cs, rfl, hq.sq, hb⟩
  have KT : Hid (∀ W, Below w.heap.size w W → Calls Try.prog 8 #[.slice A (16 : Nat) c, .slice A' (12 : Nat) c', .slice A2 n2 c2, .slice none (0 : Nat) (0 : Nat)] W fun e w' => ∃ As cs, e = .returned (.tuple #[.slice As L cs, .bool true]) ∧ Sq w' w'.heap.size As cs (bvs T) ∧ Below W.heap.size W w') := hid fun W hb =>
    (seal12_ok A A' A2 none key nonce text [] 16 12 n2 0 c c' c2 0 W (SX.out _ hb) (SY.out _ hb) (SZ.out _ hb) (.inl ⟨rfl, by omega⟩) HN.out HN'.out HN2.out rfl (by omega) (by omega) (by omega) (by omega)).mono fun e w' h => by
      obtain ⟨h, hb⟩ := h
      rw [if_pos ⟨rfl, rfl⟩, ← hT] at h
      obtain ⟨v, rfl, ho⟩ := h
      obtain ⟨As, cs, rfl, hq⟩ := own_n ho hTl
      exact ⟨As, cs, rfl, hq.sq, hb⟩
  have KU : Hid (∀ W, Below w.heap.size w W → Calls Try.prog 8 #[.slice A (16 : Nat) c, .slice A' (12 : Nat) c', .slice A2 k c2, .slice A3 n3 c3] W fun e w' => ∃ As cs, e = .returned (.tuple #[.slice As M cs, .bool true]) ∧ Sq w' w'.heap.size As cs (bvs U) ∧ Below W.heap.size W w') := hid fun W hb => by
    have hsq : Sq W W.heap.size A2 c2 (bvs (text.take k)) := by
      have h := (SZ.out W hb).take k
      have e : (bvs text).take k = bvs (text.take k) := by simp [bvs, List.map_take]
      rwa [e] at h
    refine (seal12_ok A A' A2 A3 key nonce (text.take k) more 16 12 k n3 c c' c2 c3 W (SX.out _ hb) (SY.out _ hb) hsq (SM.out _ hb) HN.out HN'.out (by rw [List.length_take, HN2.out]; omega) HN3.out (by omega) (by omega) (by omega) (by omega)).mono fun e w' h => ?_
    obtain ⟨h, hb⟩ := h
    rw [if_pos ⟨rfl, rfl⟩, ← hU] at h
    obtain ⟨v, rfl, ho⟩ := h
    obtain ⟨As, cs, rfl, hq⟩ := own_n ho hUl
    exact ⟨As, cs, rfl, hq.sq, hb⟩
  have KO : Hid (∀ (W : World) (As : Option Addr) (cs : Nat), Below w.heap.size w W → Sq W W.heap.size As cs (bvs S) → Calls Try.prog 9 #[.slice A (16 : Nat) c, .slice A' (12 : Nat) c', .slice As L cs, .slice A3 n3 c3] W fun e w' => ∃ At ct, e = .returned (.tuple #[.slice At n2 ct, .bool true]) ∧ Sq w' w'.heap.size At ct (bvs text) ∧ Below W.heap.size W w') := hid fun W As cs hb hq =>
    (open12_ok A A' As A3 key nonce S more 16 12 L n3 c c' cs c3 W (SX.out _ hb) (SY.out _ hb) hq (SM.out _ hb) HN.out HN'.out hSl HN3.out (by omega) (by omega) (by omega) (by omega)).mono fun e w' h => by
      obtain ⟨h, hb⟩ := h
      rw [if_pos (by rw [hS]; exact sealed_opens _ _ _ _ HN.out HN'.out), show S.take (S.length - 16) = maskedL key nonce text by rw [hS]; exact sealed_take _ _ _ _, masked_twice] at h
      obtain ⟨v, rfl, ho⟩ := h
      obtain ⟨At, ct, rfl, hq⟩ := own_n ho HN2.out
      exact ⟨At, ct, rfl, hq.sq, hb⟩
  have HST : Hid (S.take n2 = T.take n2) := hid (by rw [hS, hT, ← HN2.out]; exact seal_more key nonce text more)
  have HSU : Hid (U.take k = S.take k) := hid (by rw [hU, hS]; exact seal_part key nonce text more k (by rw [HN2.out]; exact hk2))
  have HSL := hid hSl; have HTL := hid hTl; have HUL := hid hUl
  have HLN : Hid (L = n2 + 16 ∧ M = k + 16) := hid ⟨hL, hM⟩
  have HZ1 : Hid (Lie (w1.alloc (.cells #[] 5)) w1.heap.size A2 (bvs text)) := hid (((SZ.out _ HB1.out).lie).alloc (Nat.le_refl _) _)
  have hn300 : n2 ≤ 300 := by omega
  have HK2 := hid hk2
  clear hS hT hU hSl hTl hUl hL hM hk hq hl2 hl3 ht0 ht1 hk2
  go_wp2_with (at_builtin; refine wpList_append_lie rfl _ _ 22 rfl w1.heap.size 5 (.int .u8 0) 1 Try.underlying22 infoU8 rfl rfl (row_noneA _ _ (k := w1.heap.size) rfl (Nat.le_refl _)) ((bvs_length text).trans HN2.out) rfl HZ1.out (bvs_one text) ?d1 ?d2 ?d3 ?_)
  case d1 => unfold maxLen; omega
  case d2 => omega
  case d3 => simp
  intro vw w2 hown2 hg2 hat2
  have hown2' : w2.ownsRow w1.heap.size 5 1 vw n2 (bvs text) := by simpa using hown2
  have hb2 : Below w1.heap.size w1 w2 := ((Below.refl _ _).alloc (Nat.le_refl _) _).grown hg2 (by simp) (fun q h => by simp [Value.ownBlock] at h; omega)
  obtain ⟨Aw, cw, rfl, hSw⟩ := own_sl hown2'
  have HB2 := hid (HB1.out.trans (hb2.mono HB1.out.size))
  have HW2 := hid hSw.sq
  clear hown2 hg2 hat2 hown2' hb2 hSw HB1 HZ1
  go_wp2_with fail
  refine (KS.out _ HB2.out).mono ?_
  rintro e w3 ⟨As, cs, rfl, hq3, hb3⟩
  have HB3 := hid (HB2.out.trans (hb3.mono HB2.out.size))
  have HS3 := hid hq3; have HW3 := hid (sq_on HW2.out hb3)
  clear hq3 hb3 KS HW2 HB2
  go_wp2_with fail
  refine (KT.out _ HB3.out).mono ?_
  rintro e w4 ⟨At, ct, rfl, hq4, hb4⟩
  have HB4 := hid (HB3.out.trans (hb4.mono HB3.out.size))
  have HT4 := hid hq4; have HW4 := hid (sq_on HW3.out hb4); have HS4 := hid (sq_on HS3.out hb4)
  clear hq4 hb4 KT HW3 HS3 HB3
  have p1 : (0 : Int) ≤ (k : Int) := Int.natCast_nonneg k
  have p2 : (k : Int) ≤ (n2 : Int) := by have := HK2.out; omega
  have p3 : (k : Int) ≤ (c2 : Int) := by have := HK2.out; have := HCAP.out; omega
  go_wp2_with fail
  refine (KU.out _ HB4.out).mono ?_
  rintro e w5 ⟨Au, cu, rfl, hq5, hb5⟩
  have HB5 := hid (HB4.out.trans (hb5.mono HB4.out.size))
  have HU5 := hid hq5; have HW5 := hid (sq_on HW4.out hb5); have HS5 := hid (sq_on HS4.out hb5); have HT5 := hid (sq_on HT4.out hb5)
  clear hq5 hb5 KU HW4 HS4 HT4 HB4
  go_wp2_with fail
  refine (KO.out _ As cs HB5.out HS5.out).mono ?_
  rintro e w6 ⟨Ab, cb, rfl, hq6, hb6⟩
  have HB6 := hid (HB5.out.trans (hb6.mono HB5.out.size))
  have HO6 := hid hq6; have HW6 := hid (sq_on HW5.out hb6); have HS6 := hid (sq_on HS5.out hb6); have HT6 := hid (sq_on HT5.out hb6); have HU6 := hid (sq_on HU5.out hb6)
  clear hq6 hb6 KO HW5 HS5 HT5 HU5 HB5
  have k1 := HS6.out.cap; have k2 := HT6.out.cap; have k3 := HU6.out.cap
  rw [bvs_length, HSL.out] at k1
  rw [bvs_length, HTL.out] at k2
  rw [bvs_length, HUL.out] at k3
  obtain ⟨hLn, hMk⟩ := HLN.out
  have p0 : (0 : Int) ≤ (n2 : Int) := Int.natCast_nonneg n2
  have p4 : (n2 : Int) ≤ (cs : Int) := by omega
  have p5 : (n2 : Int) ≤ (ct : Int) := by omega
  have p6 : (k : Int) ≤ (cu : Int) := by omega
  have p7 : (k : Int) ≤ (cs : Int) := by have := HK2.out; omega
  have hnl : (S.take n2).length = n2 := by rw [List.length_take, HSL.out]; omega
  have hkl : (S.take k).length = k := by rw [List.length_take, HSL.out]; have := HK2.out; omega
  have E1 := hid (same_quiet As At (S.take n2) n2 cs ct w6 (take_sq HS6.out n2) (by rw [HST.out]; exact take_sq HT6.out n2) hnl (by omega))
  have E2 := hid (same_quiet Au As (S.take k) k cu cs w6 (by rw [← HSU.out]; exact take_sq HU6.out k) (take_sq HS6.out k) hkl (by omega))
  have E3 := hid (same_quiet Ab Aw text n2 cb cw w6 HO6.out.lie HW6.out.lie HN2.out (by omega))
  have E4 := hid (same_quiet A2 Aw text n2 c2 cw w6 (SZ.out _ HB6.out).lie HW6.out.lie HN2.out (by omega))
  clear k1 k2 k3 hLn hMk hnl hkl HO6 HW6 HS6 HT6 HU6 SX SY SM HST HSU
  go_wp2_with fail
  go_quiet ((go_at_call 10; first | with_reducible exact E1.out _ | with_reducible exact E2.out _ | with_reducible exact E3.out _ | with_reducible exact E4.out _))
  have HBQ : Hid (Below w.heap.size w (w6.drewN nq)) := hid (below_drQ HB6.out nq)
  go_wp2
  go_ret
  exact ⟨rfl, HBQ.out⟩
end Go.Proofs.Ytojlmlmjmlbjmaa
end
section
namespace Go.Proofs.Ytojlmlmjmlbjmaa
open Go Go.RowKit
set_option linter.unusedVariables false
set_option linter.unusedSimpArgs false
theorem zeros16_one : ∀ u ∈ (Builtin.zeroCells #[Value.int .u8 0] 16).toList, u.oneCell' = true := fun u hu => by
  simp [Builtin.zeroCells] at hu
  obtain ⟨a, ha, rfl⟩ := hu
  have e : a % 1 = 0 := Nat.mod_one a
  simp [e, Value.oneCell']
theorem zeros16_len : (Builtin.zeroCells #[Value.int .u8 0] 16).toList.length = 16 := by simp [Builtin.zeroCells]
theorem app16 (ty : TypeId) (base : Nat) (v : Value) (n : Nat) (xs : List Value) (w : World) (hown : w.ownsRow base 5 1 v n xs) (hn : n ≤ 1000) (hbase : base ≤ w.heap.size) :
    ∃ A c w', (Builtin.append_ #[22, 3] ty #[v, .int .i64 16]).run Try.prog w = .ok (.slice A (n + 16) c) w' ∧ w.grownBy w' v.ownBlock := by
  obtain ⟨i, hi, hz, hsize, hby⟩ := info_parts infoU8
  have htn := run_underlying (P := Try.prog) Try.underlying3
  have hw : IntKind.i64.wrap 16 = 16 := by decide
  have htt := run_underlying (P := Try.prog) Try.underlying22
  rcases hown with ⟨hxl, ⟨rfl, rfl⟩ | ⟨g, cap, cur, rfl, hg, hcur, hnc, hcm, hcs, htk⟩⟩
  · have h := Lib.run_append_nil_zeros w 22 3 ty 5 i _ .i64 .i64 Try.underlying22 Try.underlying3 hi hz 16 (by omega) (by omega) (by omega) (by rw [hby]; omega)
    exact ⟨_, _, _, h, grown_alloc (grown_drew (World.grownBy.refl w _)) _⟩
  · have ha : (⟨g, 0, none⟩ : Addr).add n = ⟨g, n, none⟩ := by rw [add_none]; simp
    by_cases hr : n + 16 ≤ cap
    · obtain ⟨Zs, hZs⟩ : ∃ Zs, Builtin.zeroCells (Value.int .u8 0).cells 16 = Zs := ⟨_, rfl⟩
      have hZl : Zs.toList.length = 16 := by rw [← hZs]; exact zeros16_len
      have hst := run_storeCells_at (P := Try.prog) g n 5 Zs.toList 0 cur w hcur (by rw [hZl, hcs]; omega) (by rw [← hZs]; exact zeros16_one)
      generalize (cur.toList.take (n + 0) ++ Zs.toList ++ cur.toList.drop (n + 0 + Zs.toList.length)).toArray = R at hst
      refine ⟨some ⟨g, 0, none⟩, cap, w.setRow g R, ?_, grown_setRow (World.grownBy.refl w _) _⟩
      simp [Builtin.append_, htt, htn, sizeOf, typeInfo, zeroValue, hi, hz, hsize, hby, asInt, asIntOf, hr, ha, hw, hZs, hst]
    · have hold : (Builtin.firstCells i.size n (.slice (some ⟨g, 0, none⟩) n cap)).run Try.prog w.drew = .ok xs.toArray w.drew := by
        show (loadCells ⟨g, 0, none⟩ (n * i.size)).run Try.prog w.drew = _
        rw [hsize, ← hxl]
        refine run_loadCells_list _ _ _ fun j v hv => ?_
        rw [add_none, Nat.zero_add]
        have hj : j < n := by have := (List.getElem?_eq_some_iff.1 hv).1; omega
        refine cell_of (w := w.drew) hcur j v ?_
        rw [← htk, List.getElem?_take, if_pos (by omega), Array.getElem?_toList] at hv
        exact hv
      have h := Lib.run_append_grow_zeros w 22 3 ty 5 i _ .i64 .i64 Try.underlying22 Try.underlying3 hi hz (some ⟨g, 0, none⟩) n cap xs hold 16 (by omega) (by omega) (by omega) (by omega) (by rw [hby]; omega)
        (by rw [hby]; have := nextslicecap_le (need := n + 16) (old := cap) (by omega); omega)
      exact ⟨_, _, _, h, grown_alloc (grown_drew (World.grownBy.refl w _)) _⟩
theorem open_bad (A A' A2 A3 : Option Addr) (m m' n2 n3 c c' c2 c3 : Nat) (w : World) (h1 : m ≤ 1000) (h2 : m' ≤ 1000) (h : ¬ (m = 16 ∧ m' = 12)) :
    Calls Try.prog 9 #[.slice A m c, .slice A' m' c', .slice A2 n2 c2, .slice A3 n3 c3] w fun e w' => e = .returned (.tuple #[.slice none 0 0, .bool false]) ∧ Below w.heap.size w w' := by
  have KC := hid (canBe_e A A' m m' c c' w h1 h2)
  rw [show decide (m = 16 ∧ m' = 12) = false by simpa using h] at KC
  clear h h1 h2
  go_enter Try.func9, Try.ntmps9
  go_wp2_with fail
  refine KC.out.mono ?_
  rintro e w' ⟨rfl, rfl⟩
  clear KC
  go_wp2
  go_ret2
  exact ⟨rfl, Below.refl _ _⟩
set_option maxRecDepth 100000 in
set_option maxHeartbeats 4000000 in
theorem seals12_bad (A A' A2 A3 : Option Addr) (key nonce text more : List UInt8) (m m' n2 n3 c c' c2 c3 : Nat) (w : World) (hX : Sq w w.heap.size A c (bvs key)) (hY : Sq w w.heap.size A' c' (bvs nonce)) (hZ : Sq w w.heap.size A2 c2 (bvs text)) (hM : Sq w w.heap.size A3 c3 (bvs more)) (hn : key.length = m) (hn' : nonce.length = m') (hn2 : text.length = n2) (hn3 : more.length = n3) (hbad : ¬ (m = 16 ∧ m' = 12)) :
    Calls Try.prog 3 #[.slice A m c, .slice A' m' c', .slice A2 n2 c2, .slice A3 n3 c3] w fun e w' => e = .returned (.bool true) ∧ Below w.heap.size w w' := by
  have KA := hid (alive12_any seal12_ok w)
  have SX : Hid (∀ W, Below w.heap.size w W → Sq W W.heap.size A c (bvs key)) := hid fun W h => sq_on hX h
  have SY : Hid (∀ W, Below w.heap.size w W → Sq W W.heap.size A' c' (bvs nonce)) := hid fun W h => sq_on hY h
  have SZ : Hid (∀ W, Below w.heap.size w W → Sq W W.heap.size A2 c2 (bvs text)) := hid fun W h => sq_on hZ h
  have SM : Hid (∀ W, Below w.heap.size w W → Sq W W.heap.size A3 c3 (bvs more)) := hid fun W h => sq_on hM h
  have HN := hid hn; have HN' := hid hn'; have HN2 := hid hn2; have HN3 := hid hn3; have HBAD := hid hbad
  clear hX hY hZ hM hn hn' hn2 hn3 hbad
  go_enter Try.func3, Try.ntmps3
  go_wp2_with fail
  refine KA.out.mono ?_
  rintro e w1 ⟨rfl, hb1⟩
  have HB1 := hid hb1
  clear hb1 KA
  by_cases hl : 40 < m
  · have hi : (40 : Int) < (m : Int) := by omega
    have hd : decide ((40 : Int) < (m : Int)) = true := by simpa using hi
    go_wp2
    go_ret
    exact ⟨rfl, HB1.out⟩
  have hi : ¬ (40 : Int) < (m : Int) := by omega
  have hd : decide ((40 : Int) < (m : Int)) = false := by simpa using hi
  by_cases hl' : 40 < m'
  · have hi' : (40 : Int) < (m' : Int) := by omega
    have hd' : decide ((40 : Int) < (m' : Int)) = true := by simpa using hi'
    go_wp2
    go_ret
    exact ⟨rfl, HB1.out⟩
  have hi' : ¬ (40 : Int) < (m' : Int) := by omega
  have hd' : decide ((40 : Int) < (m' : Int)) = false := by simpa using hi'
  by_cases hl2 : 100 < n2
  · have hi : (100 : Int) < (n2 : Int) := by omega
    have hd : decide ((100 : Int) < (n2 : Int)) = true := by simpa using hi
    go_wp2
    go_ret
    exact ⟨rfl, HB1.out⟩
  have hi2 : ¬ (100 : Int) < (n2 : Int) := by omega
  have hd2 : decide ((100 : Int) < (n2 : Int)) = false := by simpa using hi2
  by_cases hl3 : 60 < n3
  · have hi : (60 : Int) < (n3 : Int) := by omega
    have hd : decide ((60 : Int) < (n3 : Int)) = true := by simpa using hi
    go_wp2
    go_ret
    exact ⟨rfl, HB1.out⟩
  have hi3 : ¬ (60 : Int) < (n3 : Int) := by omega
  have hd3 : decide ((60 : Int) < (n3 : Int)) = false := by simpa using hi3
  have KS : Hid (Calls Try.prog 8 #[.slice A m c, .slice A' m' c', .slice A2 n2 c2, .slice A3 n3 c3] w1 fun e w' => ∃ As cs, e = .returned (.tuple #[.slice As 0 cs, .bool false]) ∧ Below w1.heap.size w1 w') := hid (
    (seal12_ok A A' A2 A3 key nonce text more m m' n2 n3 c c' c2 c3 w1 (SX.out _ HB1.out) (SY.out _ HB1.out) (SZ.out _ HB1.out) (SM.out _ HB1.out) HN.out HN'.out HN2.out HN3.out (by omega) (by omega) (by omega) (by omega)).mono fun e w' h => by
      obtain ⟨h, hb⟩ := h
      rw [if_neg HBAD.out] at h
      obtain ⟨As, cs, rfl⟩ := h
      exact ⟨As, cs, rfl, hb⟩)
  have KO : Hid (∀ (At : Option Addr) (nt ct : Nat) (W : World), Calls Try.prog 9 #[.slice A m c, .slice A' m' c', .slice At nt ct, .slice A3 n3 c3] W fun e w' => e = .returned (.tuple #[.slice none 0 0, .bool false]) ∧ Below W.heap.size W w') := hid fun At nt ct W => open_bad A A' At A3 m m' nt n3 c c' ct c3 W (by omega) (by omega) HBAD.out
  have hn1000 : n2 ≤ 1000 := by omega
  clear hl hl' hl2 hl3
  go_wp2_with fail
  refine KS.out.mono ?_
  rintro e w2 ⟨As, cs, rfl, hb2⟩
  have HB2 : Hid (Below w.heap.size w w2) := hid (HB1.out.trans (hb2.mono HB1.out.size))
  have hZ2 : Lie (w2.alloc (.cells #[] 5)) w2.heap.size A2 (bvs text) := ((SZ.out _ HB2.out).lie).alloc (Nat.le_refl _) _
  have HZ2 := hid hZ2
  clear hb2 KS hZ2 HB1
  by_cases e16 : m = 16
  · have hne : m' ≠ 12 := fun e => HBAD.out ⟨e16, e⟩
    subst e16
    have f1 : ((m' : Int) != 12) = true := by simp; omega
    have f1' : ¬ (m' : Int) = 12 := by omega
    go_wp2_with (at_builtin; refine wpList_append_lie rfl _ _ 22 rfl w2.heap.size 5 (.int .u8 0) 1 Try.underlying22 infoU8 rfl rfl (row_noneA _ _ (k := w2.heap.size) rfl (Nat.le_refl _)) ((bvs_length text).trans HN2.out) rfl HZ2.out (bvs_one text) ?d1 ?d2 ?d3 ?_)
    case d1 => unfold maxLen; omega
    case d2 => omega
    case d3 => simp
    intro v3 w3 hown3 hg3 hat3
    have hb3 : Below w2.heap.size w2 w3 := ((Below.refl _ _).alloc (Nat.le_refl _) _).grown hg3 (by simp) (fun q h => by simp [Value.ownBlock] at h; omega)
    obtain ⟨A5, c5, w5, hrun, hg5⟩ := app16 22 w2.heap.size v3 n2 _ w3 hown3 hn1000 hb3.size
    have hb5 : Below w2.heap.size w2 w5 := hb3.grown hg5 hb3.size (fun q h => own_lt hown3 q h)
    have HB5 := hid (HB2.out.trans (hb5.mono HB2.out.size))
    have HRUN := hid hrun
    clear hown3 hg3 hat3 hb3 hrun hg5 hb5 HB2 HZ2
    go_wp2_with (at_builtin; refine Lib.wpList_append_run _ rfl _ _ _ _ rfl _ _ rfl rfl _ _ HRUN.out ?_)
    refine (KO.out _ _ _ _).mono ?_
    rintro e w6 ⟨rfl, hb6⟩
    have HB6 := hid (HB5.out.trans (hb6.mono HB5.out.size))
    clear hb6
    go_wp2
    go_ret
    exact ⟨rfl, HB6.out⟩
  · have f1 : ((m : Int) != 16) = true := by simp; omega
    have f1' : ¬ (m : Int) = 16 := by omega
    go_wp2_with (at_builtin; refine wpList_append_lie rfl _ _ 22 rfl w2.heap.size 5 (.int .u8 0) 1 Try.underlying22 infoU8 rfl rfl (row_noneA _ _ (k := w2.heap.size) rfl (Nat.le_refl _)) ((bvs_length text).trans HN2.out) rfl HZ2.out (bvs_one text) ?d1 ?d2 ?d3 ?_)
    case d1 => unfold maxLen; omega
    case d2 => omega
    case d3 => simp
    intro v3 w3 hown3 hg3 hat3
    have hb3 : Below w2.heap.size w2 w3 := ((Below.refl _ _).alloc (Nat.le_refl _) _).grown hg3 (by simp) (fun q h => by simp [Value.ownBlock] at h; omega)
    obtain ⟨A5, c5, w5, hrun, hg5⟩ := app16 22 w2.heap.size v3 n2 _ w3 hown3 hn1000 hb3.size
    have hb5 : Below w2.heap.size w2 w5 := hb3.grown hg5 hb3.size (fun q h => own_lt hown3 q h)
    have HB5 := hid (HB2.out.trans (hb5.mono HB2.out.size))
    have HRUN := hid hrun
    clear hown3 hg3 hat3 hb3 hrun hg5 hb5 HB2 HZ2
    go_wp2_with (at_builtin; refine Lib.wpList_append_run _ rfl _ _ _ _ rfl _ _ rfl rfl _ _ HRUN.out ?_)
    refine (KO.out _ _ _ _).mono ?_
    rintro e w6 ⟨rfl, hb6⟩
    have HB6 := hid (HB5.out.trans (hb6.mono HB5.out.size))
    clear hb6
    go_wp2
    go_ret
    exact ⟨rfl, HB6.out⟩
end Go.Proofs.Ytojlmlmjmlbjmaa
end
