/-
  Texts of this claim in one file: GcH, GcJ, GcK, GcL.
-/
import Derived.Test.YtpkmidaflnbobaaGreatDoorPk29
import Derived.Test.YtpkmidaflnbobaaGreatDoorPk26
import Derived.Laws.MakeOwn
import Derived.Test.YtpkmidaflnbobaaGreatDoorPk11
import Derived.Test.YtpkmidaflnbobaaGreatDoorPk30
section
namespace Go.Proofs.YtpkmidaflnbobaaGreatDoor
open Go Go.RowKit Go.Shelf
set_option linter.unusedVariables false
set_option linter.unusedSimpArgs false
attribute [local go_sem] Oper.semAt_some
/-- The first j bytes of part x, held against mask i + 2. -/
def mX (key nonce text : List UInt8) (x i j : Nat) : List UInt8 := (List.range j).map fun r => UInt8.ofNat (bf (part16 text x) r ^^^ bf (maskL key nonce (i + 2)) r)
theorem mX_length (key nonce text : List UInt8) (x i j : Nat) : (mX key nonce text x i j).length = j := by simp [mX]
theorem mX_succ (key nonce text : List UInt8) (x i j : Nat) : mX key nonce text x i (j + 1) = mX key nonce text x i j ++ [UInt8.ofNat (bf (part16 text x) j ^^^ bf (maskL key nonce (i + 2)) j)] := by unfold mX; rw [List.range_succ, List.map_append]; rfl
/-- The bytes of the parts with these numbers. -/
def mo (key nonce text : List UInt8) (pre : List Nat) : List UInt8 := (pre.mapIdx fun i x => mX key nonce text x i (part16 text x).length).flatten
theorem mo_snoc (key nonce text : List UInt8) (pre : List Nat) (x : Nat) : mo key nonce text (pre ++ [x]) = mo key nonce text pre ++ mX key nonce text x pre.length (part16 text x).length := by
  unfold mo
  rw [List.mapIdx_concat, List.flatten_append]; simp
theorem mo_length (key nonce text : List UInt8) (pre : List Nat) : (mo key nonce text pre).length ≤ 16 * pre.length := by
  have h : ∀ (n : Nat) (pre : List Nat), pre.length = n → (mo key nonce text pre).length ≤ 16 * pre.length := by
    intro n
    induction n with
    | zero => intro pre hp; obtain rfl := List.eq_nil_of_length_eq_zero hp; simp [mo]
    | succ n ih =>
      intro pre hp
      have hne : pre ≠ [] := fun e => by subst e; simp at hp
      rw [← List.dropLast_concat_getLast hne, mo_snoc, List.length_append, mX_length, List.length_append]
      have h1 := ih pre.dropLast (by simp [hp])
      have h2 : (part16 text (pre.getLast hne)).length ≤ 16 := by unfold part16; rw [List.length_take]; omega
      simp only [List.length_cons, List.length_nil]
      omega
  exact h _ pre rfl
theorem mskN_add (key nonce text : List UInt8) (a b : Nat) : mskN key nonce text (a + b) = mskN key nonce text a ++ (List.range b).map fun r => UInt8.ofNat (bf text (a + r) ^^^ mskB key nonce (a + r)) := by
  unfold mskN
  rw [List.range_add, List.map_append, List.map_map]; rfl
theorem mo_range (key nonce text : List UInt8) (n : Nat) (hn : text.length = n) : ∀ k, mo key nonce text (List.range k) = mskN key nonce text (min (16 * k) n)
  | 0 => by rw [show min (16 * 0) n = 0 by omega]; rfl
  | k + 1 => by
    have hl := part16_length text n k hn
    rw [List.range_succ, mo_snoc, mo_range key nonce text n hn k, List.length_range, hl]
    by_cases h : 16 * k < n
    · have e : min (16 * (k + 1)) n = 16 * k + min 16 (n - 16 * k) := by omega
      rw [e, mskN_add, show min (16 * k) n = 16 * k by omega]
      congr 1
      unfold mX
      refine List.map_congr_left fun r hr => ?_
      have hr' : r < min 16 (n - 16 * k) := by simpa using hr
      have e1 : bf (part16 text k) r = bf text (16 * k + r) := bf_part text (16 * k) 16 r (by omega)
      have e2 : mskB key nonce (16 * k + r) = bf (maskL key nonce (k + 2)) r := by unfold mskB; rw [show (16 * k + r) / 16 = k by omega, show (16 * k + r) % 16 = r by omega]
      rw [e1, e2]
    · rw [show min 16 (n - 16 * k) = 0 by omega, show min (16 * (k + 1)) n = min (16 * k) n by omega]; simp [mX]
theorem mo_all (key nonce text : List UInt8) (n : Nat) (hn : text.length = n) : mo key nonce text (List.range ((n + 15) / 16)) = maskedL key nonce text := by
  rw [mo_range key nonce text n hn, show min (16 * ((n + 15) / 16)) n = n by omega, ← hn]; rfl
/-- What a round keeps. -/
structure FrG (w W wr : World) (B1 B2 : Nat) : Prop where
  keep : KeepsOthers W wr
  kp : Kp2 B1 B2 W wr
  below : Below w.heap.size w wr
  size : W.heap.size ≤ wr.heap.size
theorem FrG.refl {w W : World} (B1 B2 : Nat) (h : Below w.heap.size w W) : FrG w W W B1 B2 := ⟨KeepsOthers.refl _, ⟨rfl, rfl⟩, h, Nat.le_refl _⟩
theorem FrG.grown {w W wr w' : World} {B1 B2 : Nat} {row : Option Nat} (h : FrG w W wr B1 B2) (h1 : B1 < W.heap.size) (h2 : B2 < W.heap.size) (hg : wr.grownBy w' row)
    (hr : ∀ g, row = some g → w.heap.size ≤ g ∧ g ≠ B1 ∧ g ≠ B2 ∧ ∀ o, wr.heap[g]? = some o → o.isCells = true) : FrG w W w' B1 B2 := by
  refine ⟨h.keep.trans (KeepsOthers.of_grownBy hg fun j o e ho => (hr j e).2.2.2 o ho), ⟨?_, ?_⟩, h.below.grown hg h.below.size (fun k e => (hr k e).1), Nat.le_trans h.size hg.size⟩
  · exact (World.cell?_of_block (hg.block _ (show B1 < _ by have := h.size; omega) (fun e => (hr B1 e.symm).2.1 rfl))).trans h.kp.1
  · exact (World.cell?_of_block (hg.block _ (show B2 < _ by have := h.size; omega) (fun e => (hr B2 e.symm).2.2.1 rfl))).trans h.kp.2
theorem FrG.free {w W wr w' : World} {B1 B2 : Nat} (h : FrG w W wr B1 B2) (h1 : B1 < W.heap.size) (h2 : B2 < W.heap.size) (hg : wr.grownBy w' none) : FrG w W w' B1 B2 := h.grown h1 h2 hg (fun g e => by cases e)
theorem own_block {w : World} {B g : Nat} {v : Value} {xs : List UInt8} (h : OwnB w B v xs) (hv : v.ownBlock = some g) : ∃ cs, w.heap[g]? = some (.cells cs 5 (0, 0)) := by
  unfold OwnB World.ownsRow at h
  rcases h.2 with ⟨h1, _⟩ | ⟨g', cap, cur, h1, _, h3, _⟩
  · rw [h1] at hv; cases hv
  · rw [h1] at hv
    simp only [Value.ownBlock, Option.some.injEq] at hv
    subst hv
    exact ⟨cur, h3⟩
theorem own_not {w : World} {B g : Nat} {v : Value} {xs : List UInt8} {cs : Array Value} {t : TypeId} (h : OwnB w B v xs) (hg : w.heap[g]? = some (.cells cs t (0, 0))) (ht : t ≠ 5) : v.ownBlock ≠ some g := fun e => by
  obtain ⟨cs', h'⟩ := own_block h e
  rw [hg] at h'
  injection h' with h'
  injection h' with _ h' _
  exact ht h'
theorem own_keep {w w' : World} {B : Nat} {v : Value} {xs : List UInt8} {row : Option Nat} (h : OwnB w B v xs) (hg : w.grownBy w' row) (hr : ∀ g, row = some g → v.ownBlock ≠ some g) : OwnB w' B v xs := by
  refine World.ownsRow.kept h (row := row) hg ?_
  cases row with
  | none => cases hv : v.ownBlock <;> simp
  | some g => exact .inr (hr g rfl)
theorem own_isC {w : World} {B g : Nat} {v : Value} {xs : List UInt8} (h : OwnB w B v xs) (hv : v.ownBlock = some g) : ∀ o, w.heap[g]? = some o → o.isCells = true := fun o ho => by
  obtain ⟨cs, h'⟩ := own_block h hv
  rw [h'] at ho; cases ho; rfl
/-- Sixteen bytes of one's own, told by their block. -/
theorem own_row16 {w : World} {B n : Nat} {v : Value} {xs : List UInt8} (h : OwnB w B v xs) (hn : xs.length = n) (h0 : 0 < n) : ∃ g c cur, v = .slice (some ⟨g, 0, none⟩) n c ∧ B ≤ g ∧ g < w.heap.size ∧ w.heap[g]? = some (.cells cur 5 (0, 0)) ∧ ∀ j, j < n → cur[j]? = some (.int .u8 ((bf xs j : Nat) : Int)) := by
  unfold OwnB World.ownsRow at h
  rcases h.2 with ⟨_, h2⟩ | ⟨g, cap, cur, h1, h2, h3, _, _, h6, h7⟩
  · omega
  · refine ⟨g, cap, cur, by rw [h1, hn], h2, block_lt h3, h3, fun j hj => ?_⟩
    have e : (cur.toList.take (xs.length * 1))[j]? = (bvs xs)[j]? := by rw [h7]
    rw [List.getElem?_take, if_pos (by omega), Array.getElem?_toList] at e
    rw [e, bvs_cellA xs j (by omega), bf_at xs j (by omega)]
theorem own_form {w : World} {B : Nat} {v : Value} {xs : List UInt8} (h : OwnB w B v xs) : ∃ A n c, v = .slice A n c := by
  obtain ⟨A, c, rfl, _⟩ := own_sl h
  exact ⟨_, _, _, rfl⟩
theorem cell_lie {w : World} {B b o : Nat} {xs : List UInt8} (h : Lie w B (some ⟨b, o, none⟩) (bvs xs)) (j : Nat) (hj : j < xs.length) : w.cell? ⟨b, o + j, none⟩ = some (.int .u8 ((bf xs j : Nat) : Int)) := by
  obtain ⟨b', o', he, _, hc⟩ := h.byte hj
  simp only [Option.some.injEq, Addr.mk.injEq] at he
  obtain ⟨rfl, rfl, _⟩ := he
  rw [hc, bf_at xs j hj]
theorem built_y (y : UInt8) : Tryz.prog.builtSlice 5 1 [(0, .int .u8 (y.toNat : Int))] = some (bvs [y]).toArray := by kernel_rfl
theorem u8_built (z : Nat) (hz : z < 256) : Tryz.prog.builtSlice 5 1 [(0, .int .u8 (z : Int))] = some (bvs [UInt8.ofNat z]).toArray := by
  have h := built_y (UInt8.ofNat z)
  rwa [ofNat_b hz] at h
theorem madeB (n : Nat) (hn : n ≤ 1000000) (W : World) : (Instr.makeSlice 22 (.int .i64 0) (.int .i64 (n : Int))).run Tryz.prog W = .ok (.slice (some ⟨W.heap.size, 0, none⟩) 0 n) (W.alloc (.cells (madeCells #[.int .u8 0] n) 5)) := by
  obtain ⟨i, hi, hz, hsize, hby⟩ := info_parts infoU8
  have h := run_make W 22 5 i _ Tryz.underlying22 hi hz .i64 .i64 0 (n : Int) (by omega) (by omega) (by rw [hby]; omega) (by omega)
  rw [hsize, show (Value.int .u8 0).cells = #[Value.int .u8 0] from rfl] at h
  simpa using h
set_option maxRecDepth 100000 in
set_option maxHeartbeats 4000000 in
theorem masked_e (A A' A2 : Option Addr) (key nonce text : List UInt8) (m m' n c c' c2 : Nat) (w : World) (hA : Sq w w.heap.size A c (bvs key)) (hA' : Sq w w.heap.size A' c' (bvs nonce)) (hA2 : Sq w w.heap.size A2 c2 (bvs text)) (hkey : key.length = 16) (hnonce : nonce.length = 12) (hm : m = 16) (hm' : m' = 12) (hn : text.length = n) (hl : n ≤ 1000) :
    Calls Tryz.prog 43 #[.slice A m c, .slice A' m' c', .slice A2 n c2] w fun e w' => ∃ v, e = .returned v ∧ OwnB w' w.heap.size v (maskedL key nonce text) ∧ Below w.heap.size w w' := by
  subst hm; subst hm'
  obtain ⟨b, o, hAt⟩ := sq_at hA2 hn
  have hcap := hA2.cap
  rw [bvs_length, hn] at hcap
  obtain ⟨C, hC⟩ : ∃ C, C = n + 16 := ⟨_, rfl⟩
  have hadd : IntKind.i64.wrap ((n : Int) + 16) = (C : Int) := (IntWalk.i64_in _ (by omega)).trans (by omega)
  have hmk := madeB C (by omega)
  have hC2 : C ≤ 2000 := by omega
  obtain ⟨Z, hZ⟩ : ∃ Z, Z = madeCells #[Value.int .u8 0] C := ⟨_, rfl⟩
  have hZs : Z.size = C := by rw [hZ, ← Array.length_toList, toList_madeCells_one, List.length_replicate]
  rw [← hZ] at hmk
  clear hZ hC
  obtain ⟨w7, hw7⟩ : ∃ w7, ((((((w.alloc (.cells #[.slice A (16 : Nat) c] 22)).alloc (.cells #[.slice A' (12 : Nat) c'] 22)).alloc (.cells Z 5)).alloc (.cells #[.slice (some ⟨w.heap.size + 1 + 1, 0, none⟩) 0 C] 22)).alloc (.cells #[.int .u32 1] 78)).alloc (.cells #[.slice A2 n c2] 22)).alloc (.cells #[.int .i64 16] 3) = w7 := ⟨_, rfl⟩
  have hs7 : w7.heap.size = w.heap.size + 7 := by rw [← hw7]; simp
  have g0 : w7.heap[w.heap.size]? = some (.cells #[.slice A (16 : Nat) c] 22 (0, 0)) := by rw [← hw7]; exact blkA (blkA (blkA (blkA (blkA (blkA (blkN rfl _ _) _) _) _) _) _) _
  have g1 : w7.heap[w.heap.size + 1]? = some (.cells #[.slice A' (12 : Nat) c'] 22 (0, 0)) := by rw [← hw7]; exact blkA (blkA (blkA (blkA (blkA (blkN (by simp) _ _) _) _) _) _) _
  have g2 : w7.heap[w.heap.size + 1 + 1]? = some (.cells Z 5 (0, 0)) := by rw [← hw7]; exact blkA (blkA (blkA (blkA (blkN (by simp) _ _) _) _) _) _
  have g3 : w7.heap[w.heap.size + 1 + 1 + 1]? = some (.cells #[.slice (some ⟨w.heap.size + 1 + 1, 0, none⟩) 0 C] 22 (0, 0)) := by rw [← hw7]; exact blkA (blkA (blkA (blkN (by simp) _ _) _) _) _
  have g4 : w7.heap[w.heap.size + 1 + 1 + 1 + 1]? = some (.cells #[.int .u32 1] 78 (0, 0)) := by rw [← hw7]; exact blkA (blkA (blkN (by simp) _ _) _) _
  have g5 : w7.heap[w.heap.size + 1 + 1 + 1 + 1 + 1]? = some (.cells #[.slice A2 n c2] 22 (0, 0)) := by rw [← hw7]; exact blkA (blkN (by simp) _ _) _
  have g6 : w7.heap[w.heap.size + 1 + 1 + 1 + 1 + 1 + 1]? = some (.cells #[.int .i64 16] 3 (0, 0)) := by rw [← hw7]; exact blkN (by simp) _ _
  have hb7 : Below w.heap.size w w7 := by rw [← hw7]; exact (((((((Below.refl _ w).alloc (Nat.le_refl _) _).alloc (by simp) _).alloc (by simp; omega) _).alloc (by simp; omega) _).alloc (by simp; omega) _).alloc (by simp; omega) _).alloc (by simp; omega) _
  have hO7 : OwnB w7 w.heap.size (.slice (some ⟨w.heap.size + 1 + 1, 0, none⟩) 0 C) [] := ⟨rfl, .inr ⟨w.heap.size + 1 + 1, C, Z, rfl, by omega, g2, Nat.zero_le _, by unfold maxLen; omega, by omega, rfl⟩⟩
  have HW7 := hid hw7; have HA := hid hA; have HA' := hid hA'; have HA2 := hid hA2; have HAT := hid hAt; have HK := hid hkey; have HNO := hid hnonce; have HN := hid hn; have HC := hid hcap; have HS7 := hid hs7; have HB7 := hid hb7; have HO7 := hid hO7
  have G0 := hid g0; have G1 := hid g1; have G3 := hid g3; have G4 := hid g4; have G5 := hid g5; have G6 := hid g6
  clear hw7 hA hA' hA2 hAt hkey hnonce hn hcap hs7 hb7 hO7 g0 g1 g2 g3 g4 g5 g6
  refine (callsIn_wide (n := 10)).1 ?_
  refine callsIn_of_wp_marks Tryz.func43 rfl trivial ?_ rfl
  simp only [Tryz.ntmps43, List.size_toArray, List.length_cons, List.length_nil, Nat.reduceAdd, Nat.reduceSub, Array.replicate_succ, Array.replicate_zero, List.push_toArray, List.append_toArray, List.nil_append, List.cons_append]
  gi_wp2_with (refine ⟨trivial, ?_⟩; gi_at_call 65; refine (callsIn_wide.2 (chunk_e A2 n c2 _)).mono ?_; rintro e w' ⟨rfl, rfl⟩)
  rename_i K2 hK2
  rw [show ((((((w.alloc (.cells #[.slice A (16 : Nat) c] 22)).alloc (.cells #[.slice A' (12 : Nat) c'] 22)).alloc (.cells Z 5)).alloc (.cells #[.slice (some ⟨w.heap.size + 1 + 1, 0, none⟩) 0 C] 22)).alloc (.cells #[.int .u32 1] 78)).alloc (.cells #[.slice A2 n c2] 22)).alloc (.cells #[.int .i64 16] 3) = w7 from HW7.out]
  clear hmk hadd hZs
  refine wpIn_rangeFunc_ownF rfl (by omega) (gf := 89) (lb := #[.pointer (some ⟨w.heap.size + 1 + 1 + 1 + 1 + 1, 0, none⟩), .pointer (some ⟨w.heap.size + 1 + 1 + 1 + 1 + 1 + 1, 0, none⟩)]) rfl trivial (enters_of Tryz.func89 (by kernel_rfl) rfl)
    (chunk_stops (10 - 1) (w.heap.size + 1 + 1 + 1 + 1 + 1) (w.heap.size + 1 + 1 + 1 + 1 + 1 + 1) b o n c2 A2 HAT.out hl HC.out.1 HC.out.2 w7 (by rw [HS7.out]; omega) (by rw [HS7.out]; omega) (cell_of G5.out 0 _ rfl) (cell_of G6.out 0 _ rfl)) kp2_t
    (kp2_b (by rw [HS7.out]; omega) (by rw [HS7.out]; omega)) (Below.refl _ _) (fun _ => rfl)
    (fun pre W => (∃ v, W.heap[w.heap.size + 1 + 1 + 1]? = some (.cells #[v] 22 (0, 0)) ∧ OwnB W w.heap.size v (mo key nonce text pre)) ∧ W.heap[w.heap.size + 1 + 1 + 1 + 1]? = some (.cells #[.int .u32 ((1 + pre.length : Nat) : Int)] 78 (0, 0)) ∧ W.heap[w.heap.size]? = some (.cells #[.slice A (16 : Nat) c] 22 (0, 0)) ∧ W.heap[w.heap.size + 1]? = some (.cells #[.slice A' (12 : Nat) c'] 22 (0, 0)) ∧ W.heap[w.heap.size + 1 + 1 + 1 + 1 + 1]? = some (.cells #[.slice A2 n c2] 22 (0, 0)) ∧ W.heap[w.heap.size + 1 + 1 + 1 + 1 + 1 + 1]? = some (.cells #[.int .i64 16] 3 (0, 0)) ∧ Below w.heap.size w W ∧ w7.heap.size ≤ W.heap.size)
    (fun _ _ _ => False) ?hI (fun _ _ _ _ _ h _ _ => h) ⟨⟨_, G3.out, HO7.out⟩, G4.out, G0.out, G1.out, G5.out, G6.out, HB7.out, Nat.le_refl _⟩
    (fun x => { tmps := #[.slice A (16 : Nat) c, .slice A' (12 : Nat) c', .slice A2 n c2, .pointer (some ⟨w.heap.size, 0, none⟩), .pointer (some ⟨w.heap.size + 1, 0, none⟩), undef, .slice none 0 0, .pointer (some ⟨w.heap.size + 1 + 1 + 1, 0, none⟩), .pointer (some ⟨w.heap.size + 1 + 1 + 1 + 1, 0, none⟩), ckV b o n x, undef, undef, undef, .slice A2 n c2, .int .i64 (n : Int), .int .i64 (C : Int), .slice (some ⟨w.heap.size + 1 + 1, 0, none⟩) 0 C, .slice A2 n c2, .func (.func 89) #[] #[.pointer (some ⟨w.heap.size + 1 + 1 + 1 + 1 + 1, 0, none⟩), .pointer (some ⟨w.heap.size + 1 + 1 + 1 + 1 + 1 + 1, 0, none⟩)], ckV b o n x, undef, undef, undef, undef, undef, undef, undef, undef, undef, undef, undef, undef, undef, undef, undef, undef, undef, undef, undef, undef, undef, undef, undef, undef], defers := [] }) ?assign ?body ?done ?stop
  case hI =>
    rintro s W W' row ⟨⟨v, h3, hO⟩, h4, h0, h1, hx5, hx6, hB, h5⟩ hg hr
    have hne : ∀ g, g < w7.heap.size → some g ≠ row := fun g hg e => by have := (hr g e.symm).1; omega
    have := HS7.out
    refine ⟨⟨v, block_grown h3 hg (hne _ (by omega)), own_keep hO hg fun g e hv => ?_⟩, block_grown h4 hg (hne _ (by omega)), block_grown h0 hg (hne _ (by omega)), block_grown h1 hg (hne _ (by omega)), block_grown hx5 hg (hne _ (by omega)), block_grown hx6 hg (hne _ (by omega)), hB.grown hg hB.size (fun k e => by have := (hr k e).1; omega), Nat.le_trans h5 hg.size⟩
    obtain ⟨_, o', ho', hc'⟩ := hr g e
    rw [own_isC hO hv o' ho'] at hc'
    cases hc'
  case assign =>
    intro l x W K hK
    gi_wp2
    exact hK
  case body =>
    rintro l pre x W ⟨⟨v, h3, hO⟩, h4, h0, h1, hx5, hx6, hB, h5⟩ hlt
    have hs7 := HS7.out
    obtain ⟨M, hM⟩ : ∃ M, M = min 16 (n - 16 * x) := ⟨_, rfl⟩
    obtain ⟨q, hq⟩ : ∃ q, q = o + 16 * x := ⟨_, rfl⟩
    have hck : ckV b o n x = .slice (some ⟨b, q, none⟩) M M := by rw [ckV, ← hM, ← hq]
    rw [hck]
    have hPS := part16_sq HA2.out HN.out hl HAT.out x
    have hPL := part16_length text n x HN.out
    rw [← hM, ← hq] at hPS
    rw [← hM] at hPL
    have hml := mo_length key nonce text pre
    have hMl : M ≤ 16 := by omega
    obtain ⟨p, hp⟩ : ∃ p, p = pre.length + 2 := ⟨_, rfl⟩
    obtain ⟨p1, hp1⟩ : ∃ p1, p1 = 1 + pre.length := ⟨_, rfl⟩
    have hpl : pre.length ≤ 100 := by omega
    rw [← hp1] at h4
    have hpw : IntKind.u32.wrap ((p1 : Int) + 1) = (p : Int) := by rw [IntKind.wrap_u32]; omega
    obtain ⟨W1, hW1⟩ : ∃ W1, W.setCell ⟨w.heap.size + 1 + 1 + 1 + 1, 0, none⟩ (.int .u32 (p : Int)) = W1 := ⟨_, rfl⟩
    have k1 : W.grownBy W1 (some (w.heap.size + 1 + 1 + 1 + 1)) := by rw [← hW1]; exact grown_setCell W _ 0 none _
    have f4 : W1.heap[w.heap.size + 1 + 1 + 1 + 1]? = some (.cells #[.int .u32 (p : Int)] 78 (0, 0)) := by rw [← hW1]; exact (block_set h4 0 _).trans rfl
    have f3 := block_grown h3 k1 (by simp <;> omega)
    have f0 := block_grown h0 k1 (by simp <;> omega)
    have f1 := block_grown h1 k1 (by simp <;> omega)
    have f5 := block_grown hx5 k1 (by simp <;> omega)
    have f6 := block_grown hx6 k1 (by simp <;> omega)
    have O1 := own_keep hO k1 (fun g e hv => own_not hO h4 (by decide) (hv.trans e.symm))
    have F1 : FrG w W W1 (w.heap.size + 1 + 1 + 1 + 1 + 1) (w.heap.size + 1 + 1 + 1 + 1 + 1 + 1) := (FrG.refl _ _ hB).grown (by omega) (by omega) k1 (fun g e => by cases e; exact ⟨by omega, by omega, by omega, fun o ho => by rw [h4] at ho; cases ho; rfl⟩)
    have hc4 : W.cell? ⟨w.heap.size + 1 + 1 + 1 + 1, 0, none⟩ = some (.int .u32 (p1 : Int)) := cell_of h4 0 _ rfl
    have hf4 : W.frozen? ⟨w.heap.size + 1 + 1 + 1 + 1, 0, none⟩ = false := frozen_of_row _ _ _ _ _ h4
    have c0 : W1.cell? ⟨w.heap.size, 0, none⟩ = some (.slice A (16 : Nat) c) := cell_of f0 0 _ rfl
    have c1 : W1.cell? ⟨w.heap.size + 1, 0, none⟩ = some (.slice A' (12 : Nat) c') := cell_of f1 0 _ rfl
    have c4 : W1.cell? ⟨w.heap.size + 1 + 1 + 1 + 1, 0, none⟩ = some (.int .u32 (p : Int)) := cell_of f4 0 _ rfl
    have KM : Hid (Calls Tryz.prog 63 #[.slice A (16 : Nat) c, .slice A' (12 : Nat) c', .int .u32 (p : Int)] W1 fun e w' => ∃ v, e = .returned v ∧ OwnB w' W1.heap.size v (maskL key nonce p) ∧ Below W1.heap.size W1 w') :=
      hid (mask_e A A' key nonce 16 12 p c c' W1 ((HA.out.below F1.below).more F1.below.size) ((HA'.out.below F1.below).more F1.below.size) HK.out HNO.out rfl rfl (by omega))
    have HF4 := hid f4; have HF3 := hid f3; have HF0 := hid f0; have HF1 := hid f1; have HF5 := hid f5; have HF6 := hid f6; have HO1 := hid O1; have HFR := hid F1; have HPS := hid hPS; have HPL := hid hPL; have HML := hid hml; have HP := hid hp; have HP1 := hid hp1; have HM := hid hM; have H5 := hid h5; have HPRE := hid hpl
    clear hck k1 f4 f3 f0 f1 f5 f6 O1 F1 hPS hPL hml hp hp1 hM hq h3 hO h4 h0 h1 hx5 hx6 hB h5 hlt hs7
    gi_wp2_with (refine ⟨trivial, ?_⟩; gi_at_call 63; refine (CallsIn.inRound l (callsIn_wide.2 KM.out)).mono ?_; rintro e w2 ⟨mv, rfl, ho2, hb2⟩; obtain ⟨mb, cm, cur, rfl, hmb1, hmb2, hcur, hcurj⟩ := own_row16 ho2 (maskL_length _ _ _) (by omega))
    have hs7 := HS7.out
    have h5 := H5.out
    have hszW := HFR.out.size
    have k2 : W1.grownBy w2 none := grown12 hb2
    have e3 := block_grown HF3.out k2 (by simp <;> omega)
    have e4 := block_grown HF4.out k2 (by simp <;> omega)
    have e0 := block_grown HF0.out k2 (by simp <;> omega)
    have e1 := block_grown HF1.out k2 (by simp <;> omega)
    have e5 := block_grown HF5.out k2 (by simp <;> omega)
    have e6 := block_grown HF6.out k2 (by simp <;> omega)
    have O2 := own_keep HO1.out k2 (fun g e => by cases e)
    have F2 := HFR.out.free (by omega) (by omega) k2
    have hne : v.ownBlock ≠ some mb := fun e => by have := (HO1.out.lt mb e).2; omega
    have E3 := hid e3; have E4 := hid e4; have E0 := hid e0; have E1 := hid e1; have E5 := hid e5; have E6 := hid e6; have O2 := hid O2; have F2 := hid F2; have HNE := hid hne; have HCUR := hid hcur; have HCJ := hid hcurj; have HMB := hid hmb1
    clear hW1 e3 e4 e0 e1 e5 e6 hne hcur hcurj k2 HF3 HF4 HF0 HF1 HF5 HF6 HO1 hc4 hf4 c0 c1 c4 ho2 hb2 hmb2 hs7 h5 hszW hmb1 KM
    gi_loopw [28] (fun i wr => ∃ (j : Nat) (u : Value), i = .int .i64 (j : Int) ∧ j ≤ M ∧ wr.heap[w.heap.size + 1 + 1 + 1]? = some (.cells #[u] 22 (0, 0)) ∧ OwnB wr w.heap.size u (mo key nonce text pre ++ mX key nonce text x pre.length j) ∧ u.ownBlock ≠ some mb ∧ wr.heap[mb]? = some (.cells cur 5 (0, 0)) ∧ wr.heap[w.heap.size + 1 + 1 + 1 + 1]? = some (.cells #[.int .u32 (p : Int)] 78 (0, 0)) ∧ wr.heap[w.heap.size]? = some (.cells #[.slice A (16 : Nat) c] 22 (0, 0)) ∧ wr.heap[w.heap.size + 1]? = some (.cells #[.slice A' (12 : Nat) c'] 22 (0, 0)) ∧ wr.heap[w.heap.size + 1 + 1 + 1 + 1 + 1]? = some (.cells #[.slice A2 n c2] 22 (0, 0)) ∧ wr.heap[w.heap.size + 1 + 1 + 1 + 1 + 1 + 1]? = some (.cells #[.int .i64 16] 3 (0, 0)) ∧ FrG w W wr (w.heap.size + 1 + 1 + 1 + 1 + 1) (w.heap.size + 1 + 1 + 1 + 1 + 1 + 1)) (fun i _ => M - (intOf i).toNat)
    case atStart => exact ⟨0, v, rfl, Nat.zero_le _, E3.out, by simpa [mX] using O2.out, HNE.out, HCUR.out, E4.out, E0.out, E1.out, E5.out, E6.out, F2.out⟩
    case round =>
      clear E3 E4 E0 E1 E5 E6 O2 F2 HNE HCUR
      obtain ⟨j, u, rfl, hjM, e3, eO, hne, hcur, e4, e0, e1, e5, e6, hF⟩ := hrel
      by_cases hlt : j < M
      · have hx : (j : Int) < (M : Int) := by omega
        have hj0 : (0 : Int) ≤ (j : Int) := by omega
        have hj16 : (j : Int) < 16 := by omega
        have hca := cell_lie (HPS.out.below hF.below).lie j (by rw [HPL.out]; exact hlt)
        have hcb : wr.cell? ⟨mb, j, none⟩ = some (.int .u8 ((bf (maskL key nonce p) j : Nat) : Int)) := cell_of hcur j _ (HCJ.out j (by omega))
        obtain ⟨y, hy⟩ : ∃ y, y = bf (part16 text x) j := ⟨_, rfl⟩
        obtain ⟨z0, hz0⟩ : ∃ z, z = bf (maskL key nonce p) j := ⟨_, rfl⟩
        rw [← hy] at hca
        rw [← hz0] at hcb
        have hyl : y < 256 := by rw [hy]; exact bf_lt _ _
        have hzl0 : z0 < 256 := by rw [hz0]; exact bf_lt _ _
        obtain ⟨z, hz⟩ : ∃ z, z = y ^^^ z0 := ⟨_, rfl⟩
        have q1 : bits .xor .u8 (y : Int) (z0 : Int) = (z : Int) := by rw [hz]; exact u8_xor_nat y z0 hyl hzl0
        have hzl : z < 256 := by rw [hz]; exact Nat.xor_lt_two_pow (n := 8) hyl hzl0
        have hst : mX key nonce text x pre.length (j + 1) = mX key nonce text x pre.length j ++ [UInt8.ofNat z] := by rw [mX_succ, ← HP.out, ← hy, ← hz0, ← hz]
        have hwi : IntKind.i64.wrap ((j : Int) + 1) = ((j + 1 : Nat) : Int) := (IntWalk.i64_in _ (by omega)).trans (by omega)
        have CU : Hid (∀ v', Below wr.heap.size wr v' → v'.cell? ⟨w.heap.size + 1 + 1 + 1, 0, none⟩ = some u) := hid fun v' hb => cell_of ((hb.block _ (block_lt e3)).trans e3) 0 _ rfl
        have CM : Hid (∀ v', Below wr.heap.size wr v' → v'.cell? ⟨mb, j, none⟩ = some (.int .u8 (z0 : Int))) := hid fun v' hb => cell_of ((hb.block _ (block_lt hcur)).trans hcur) j _ (by rw [hz0]; exact HCJ.out j (by omega))
        have HBT := hid (u8_built z hzl)
        have E3 := hid e3; have EO := hid eO; have HNE := hid hne; have HCUR := hid hcur; have E4 := hid e4; have E0 := hid e0; have E1 := hid e1; have E5 := hid e5; have E6 := hid e6; have HF := hid hF; have HST := hid hst; have HZL := hid hzl
        clear e3 eO hne hcur hcb e4 e0 e1 e5 e6 hF hst hzl hy hz0 hz hyl hzl0
        gi_wp2
        refine wpIn_region_grA 8 (fun a w h => h) (by kernel_rfl) (by kernel_rfl) (by decide) ?_
        refine wpGrA_take (i := 0) u rfl (by kernel_rfl) (by kernel_rfl) (fun _ _ _ h => h) (yG_val _ (by rfl) (fun w' hb => by (have h := CU.out w' hb; go_simp; try rfl))) ?_
        (try simp only [Act.put, List.getElem_toArray, List.getElem_cons_succ, List.getElem_cons_zero, List.setIfInBounds_toArray, List.set_cons_zero, List.set_cons_succ])
        refine wpGrA_take (i := 1) (.int .u8 (y : Int)) rfl (by kernel_rfl) (by kernel_rfl) (fun _ _ _ h => h) (yG_val _ (by rfl) (fun w' _ => by (go_simp; try rfl))) ?_
        (try simp only [Act.put, List.getElem_toArray, List.getElem_cons_succ, List.getElem_cons_zero, List.setIfInBounds_toArray, List.set_cons_zero, List.set_cons_succ])
        refine wpGrA_take (i := 2) (.slice (some ⟨mb, 0, none⟩) 16 cm) rfl (by kernel_rfl) (by kernel_rfl) (fun _ _ _ h => h) (yG_val _ (by rfl) (fun w' _ => by (go_simp; try rfl))) ?_
        (try simp only [Act.put, List.getElem_toArray, List.getElem_cons_succ, List.getElem_cons_zero, List.setIfInBounds_toArray, List.set_cons_zero, List.set_cons_succ])
        refine wpGrA_take (i := 3) (.int .i64 (j : Int)) rfl (by kernel_rfl) (by kernel_rfl) (fun _ _ _ h => h) (yG_val _ (by rfl) (fun w' _ => by (go_simp; try rfl))) ?_
        (try simp only [Act.put, List.getElem_toArray, List.getElem_cons_succ, List.getElem_cons_zero, List.setIfInBounds_toArray, List.set_cons_zero, List.set_cons_succ])
        refine wpGrA_take (i := 4) (.pointer (some ⟨mb, j, none⟩)) rfl (by kernel_rfl) (by kernel_rfl) (fun _ _ _ h => h) (yG_val _ (by rfl) (fun w' _ => by (go_simp; try rfl))) ?_
        (try simp only [Act.put, List.getElem_toArray, List.getElem_cons_succ, List.getElem_cons_zero, List.setIfInBounds_toArray, List.set_cons_zero, List.set_cons_succ])
        refine wpGrA_take (i := 5) (.int .u8 (z0 : Int)) rfl (by kernel_rfl) (by kernel_rfl) (fun _ _ _ h => h) (yG_val _ (by rfl) (fun w' hb => by (have h := CM.out w' hb; go_simp; try rfl))) ?_
        (try simp only [Act.put, List.getElem_toArray, List.getElem_cons_succ, List.getElem_cons_zero, List.setIfInBounds_toArray, List.set_cons_zero, List.set_cons_succ])
        refine wpGrA_take (i := 6) (.int .u8 (z : Int)) rfl (by kernel_rfl) (by kernel_rfl) (fun _ _ _ h => h) (yG_val _ (by rfl) (fun w' _ => by (go_simp; try rfl))) ?_
        (try simp only [Act.put, List.getElem_toArray, List.getElem_cons_succ, List.getElem_cons_zero, List.setIfInBounds_toArray, List.set_cons_zero, List.set_cons_succ])
        refine wpGrA_slice1 (i := 7) rfl (by kernel_rfl) (by rfl) _ _ 1 _ rfl Tryz.underlying22 [(0, .int .u8 (z : Int))] rfl (bvs [UInt8.ofNat z]) HBT.out (by simp [bvs]) (by decide) ?_
        intro p7 w5 hb5 hs5
        (try simp only [Act.put, List.getElem_toArray, List.getElem_cons_succ, List.getElem_cons_zero, List.setIfInBounds_toArray, List.set_cons_zero, List.set_cons_succ])
        refine wpGrA_end (by kernel_rfl) ?_
        intro w6 hb6
        have hbw : Below wr.heap.size wr w6 := hb5.trans (hb6.mono hb5.size)
        have kw := grown12 hbw
        have a3 := block_grown E3.out kw (by simp <;> omega)
        have a4 := block_grown E4.out kw (by simp <;> omega)
        have a0 := block_grown E0.out kw (by simp <;> omega)
        have a1 := block_grown E1.out kw (by simp <;> omega)
        have a5 := block_grown E5.out kw (by simp <;> omega)
        have a6 := block_grown E6.out kw (by simp <;> omega)
        have ac := block_grown HCUR.out kw (by simp <;> omega)
        have aO := own_keep EO.out kw (fun g e => by cases e)
        have hs7 := HS7.out
        have h5 := H5.out
        have hlen := HML.out
        have hsz1 := HF.out.size
        have hF6 := HF.out.free (by omega) (by omega) kw
        have hll : (mo key nonce text pre ++ mX key nonce text x pre.length j).length ≤ 2000 := by rw [List.length_append, mX_length]; omega
        refine wpList_append_lie (v := u) rfl _ _ 22 rfl w.heap.size 5 (.int .u8 0) 1 Tryz.underlying22 infoU8 rfl rfl aO rfl rfl ((hs5.below hb6).more hb6.size).lie (bvs_one _) ?d1 ?d2 hF6.below.size ?_
        case d1 => rw [bvs_length]; show _ + 1 ≤ _; unfold maxLen; omega
        case d2 => rw [bvs_length]; show (_ + 1) * 1 ≤ _; omega
        intro u' w8 hown8 hg8 hat8
        have n3 := own_not aO a3 (by decide)
        have n4 := own_not aO a4 (by decide)
        have n0 := own_not aO a0 (by decide)
        have n1 := own_not aO a1 (by decide)
        have n5 := own_not aO a5 (by decide)
        have n6 := own_not aO a6 (by decide)
        have b3 := block_grown a3 hg8 (fun e => n3 e.symm)
        have b4 := block_grown a4 hg8 (fun e => n4 e.symm)
        have b0 := block_grown a0 hg8 (fun e => n0 e.symm)
        have b1 := block_grown a1 hg8 (fun e => n1 e.symm)
        have b5 := block_grown a5 hg8 (fun e => n5 e.symm)
        have b6 := block_grown a6 hg8 (fun e => n6 e.symm)
        have bc := block_grown ac hg8 (fun e => HNE.out e.symm)
        have hF8 : FrG w W w8 (w.heap.size + 1 + 1 + 1 + 1 + 1) (w.heap.size + 1 + 1 + 1 + 1 + 1 + 1) := hF6.grown (by omega) (by omega) hg8 (fun g e => ⟨own_lt aO g e, fun e2 => n5 (by rw [e, e2]), fun e2 => n6 (by rw [e, e2]), own_isC aO e⟩)
        have hO8 : OwnB w8 w.heap.size u' (mo key nonce text pre ++ mX key nonce text x pre.length (j + 1)) := by
          rw [HST.out, ← List.append_assoc]
          unfold OwnB
          rw [bvs_append, List.length_append]
          exact hown8
        obtain ⟨A8, n8', c8, rfl⟩ := own_form hO8
        have hne8 : (Value.slice A8 n8' c8).ownBlock ≠ some mb := by
          rcases hat8 with h | h
          · rw [h]; exact HNE.out
          · rw [h]; intro e; injection e with e; have := block_lt ac; omega
        have c3 : w8.cell? ⟨w.heap.size + 1 + 1 + 1, 0, none⟩ = some u := cell_of b3 0 _ rfl
        have z3 : w8.frozen? ⟨w.heap.size + 1 + 1 + 1, 0, none⟩ = false := frozen_of_row _ _ _ _ _ b3
        have g9 := grown_setCell w8 (w.heap.size + 1 + 1 + 1) 0 none (.slice A8 n8' c8)
        have d3 : (w8.setCell ⟨w.heap.size + 1 + 1 + 1, 0, none⟩ (.slice A8 n8' c8)).heap[w.heap.size + 1 + 1 + 1]? = some (.cells #[(.slice A8 n8' c8)] 22 (0, 0)) := (block_set b3 0 _).trans rfl
        have D3 := hid d3
        have D4 := hid (block_grown b4 g9 (by simp <;> omega))
        have D0 := hid (block_grown b0 g9 (by simp <;> omega))
        have D1 := hid (block_grown b1 g9 (by simp <;> omega))
        have D5 := hid (block_grown b5 g9 (by simp <;> omega))
        have D6 := hid (block_grown b6 g9 (by simp <;> omega))
        have hmb3 : mb ≠ w.heap.size + 1 + 1 + 1 := fun e => by
          have h := HCUR.out
          rw [e, E3.out] at h
          injection h with h; injection h with _ h _
          exact absurd h (by decide)
        have DC := hid (block_grown bc g9 (by simp; exact hmb3))
        have n8 : (Value.slice A8 n8' c8).ownBlock ≠ some (w.heap.size + 1 + 1 + 1) := own_not hO8 b3 (by decide)
        have DO := hid (own_keep hO8 g9 (fun g e => by cases e; exact n8))
        have DF : Hid (FrG w W (w8.setCell ⟨w.heap.size + 1 + 1 + 1, 0, none⟩ (.slice A8 n8' c8)) (w.heap.size + 1 + 1 + 1 + 1 + 1) (w.heap.size + 1 + 1 + 1 + 1 + 1 + 1)) := hid (hF8.grown (by omega) (by omega) g9 (fun g e => by cases e; exact ⟨by omega, by omega, by omega, fun o ho => by rw [b3] at ho; cases ho; rfl⟩))
        have DN := hid hne8
        clear kw a3 a4 a0 a1 a5 a6 ac aO hF6 n3 n4 n0 n1 n5 n6 b3 b4 b0 b1 b5 b6 bc hF8 hO8 hne8 g9 d3 n8 hown8 hg8 hat8 hs5 hb5 hb6 hbw hll hs7 h5 hlen hsz1 hmb3 E3 E4 E0 E1 E5 E6 HCUR EO HNE HF CU CM HBT
        go_wp2
        gi_wp2
        go_roundw
        case rel => exact ⟨j + 1, (.slice A8 n8' c8), by simp, by omega, D3.out, DO.out, DN.out, DC.out, D4.out, D0.out, D1.out, D5.out, D6.out, DF.out⟩
        case measure => simp only [intOf, Int.toNat_natCast]; omega
      · obtain rfl : j = M := by omega
        have hx : ¬ ((j : Int) < (j : Int)) := by omega
        have hs7 := HS7.out
        have h5 := H5.out
        have hp := HP.out
        have hsz1 := hF.size
        have hO' : OwnB wr w.heap.size u (mo key nonce text (pre ++ [x])) := by rw [mo_snoc, HPL.out]; exact eO
        have h4' : wr.heap[w.heap.size + 1 + 1 + 1 + 1]? = some (.cells #[.int .u32 ((1 + (pre ++ [x]).length : Nat) : Int)] 78 (0, 0)) := by
          rw [e4, List.length_append, List.length_singleton, show p = 1 + (pre.length + 1) by omega]
        have R := hid (show KeepsOthers W wr ∧ Kp2 (w.heap.size + 1 + 1 + 1 + 1 + 1) (w.heap.size + 1 + 1 + 1 + 1 + 1 + 1) W wr ∧ ((∃ v, wr.heap[w.heap.size + 1 + 1 + 1]? = some (.cells #[v] 22 (0, 0)) ∧ OwnB wr w.heap.size v (mo key nonce text (pre ++ [x]))) ∧ wr.heap[w.heap.size + 1 + 1 + 1 + 1]? = some (.cells #[.int .u32 ((1 + (pre ++ [x]).length : Nat) : Int)] 78 (0, 0)) ∧ wr.heap[w.heap.size]? = some (.cells #[.slice A (16 : Nat) c] 22 (0, 0)) ∧ wr.heap[w.heap.size + 1]? = some (.cells #[.slice A' (12 : Nat) c'] 22 (0, 0)) ∧ wr.heap[w.heap.size + 1 + 1 + 1 + 1 + 1]? = some (.cells #[.slice A2 n c2] 22 (0, 0)) ∧ wr.heap[w.heap.size + 1 + 1 + 1 + 1 + 1 + 1]? = some (.cells #[.int .i64 16] 3 (0, 0)) ∧ Below w.heap.size w wr ∧ w7.heap.size ≤ wr.heap.size) from
          ⟨hF.keep, hF.kp, ⟨u, e3, hO'⟩, h4', e0, e1, e5, e6, hF.below, Nat.le_trans h5 hsz1⟩)
        clear e3 eO hne hcur e4 e0 e1 e5 e6 hF hO' h4' hs7 h5 hp hsz1
        gi_wp2
        exact R.out
  case done =>
    rintro D ys W hD rfl ⟨⟨v, h3, hO⟩, h4, h0, h1, hx5, hx6, hB, h5⟩ hK
    rw [mo_all key nonce text n HN.out] at hO
    have c3 : W.cell? ⟨w.heap.size + 1 + 1 + 1, 0, none⟩ = some v := cell_of h3 0 _ rfl
    have HO := hid hO; have HB := hid hB; have HKK := hid hK
    clear h3 hO h4 h0 h1 hx5 hx6 hB h5 hK
    refine hK2 _ _ ?_
    gi_wp2
    refine ⟨by simp, .inl ⟨_, _, rfl, run_takeDeferred HKK.out, ?_⟩⟩
    have hg := grownBy_putObj' W D (.deferred none)
    have hnD : v.ownBlock ≠ some D := fun e => by have := own_isC HO.out e _ HKK.out; cases this
    exact ⟨_, results_tmp rfl _ _ _, v, rfl, own_keep HO.out hg (fun g e => by cases e; exact hnD), HB.out.grown hg HB.out.size (fun k e => by cases e; have := HS7.out; omega)⟩
  case stop =>
    rintro D c pre W _ _ h _
    exact h.elim
end Go.Proofs.YtpkmidaflnbobaaGreatDoor
end
section
namespace Go.Proofs.YtpkmidaflnbobaaGreatDoor
open Go Go.RowKit
set_option linter.unusedVariables false
set_option linter.unusedSimpArgs false
theorem built0 : Tryz.prog.built PTg [] = some (pV 0) := by rw [pV_zero]; kernel_rfl
theorem built2 (a b : Nat) : Tryz.prog.built PTg [(0, .int .u64 (a : Int)), (1, .int .u64 (b : Int))] = some (p2 a b) := by kernel_rfl
theorem sq_onB {w W : World} {A : Option Addr} {c : Nat} {xs : List Value} (h : Sq w w.heap.size A c xs) (hb : Below w.heap.size w W) : Sq W W.heap.size A c xs := (h.below hb).more hb.size
set_option maxRecDepth 100000 in
set_option maxHeartbeats 4000000 in
theorem tag_e (A A' A2 A3 : Option Addr) (key nonce sealed more : List UInt8) (m m' n2 n3 c c' c2 c3 : Nat) (w : World) (hA : Sq w w.heap.size A c (bvs key)) (hA' : Sq w w.heap.size A' c' (bvs nonce)) (h2 : Sq w w.heap.size A2 c2 (bvs sealed)) (h3 : Sq w w.heap.size A3 c3 (bvs more)) (hkey : key.length = 16) (hnonce : nonce.length = 12) (hm : m = 16) (hm' : m' = 12) (hn2 : sealed.length = n2) (hn3 : more.length = n3) (hs : n2 ≤ 1000) (hmo : n3 ≤ 1000) :
    Calls Tryz.prog 42 #[.slice A m c, .slice A' m' c', .slice A2 n2 c2, .slice A3 n3 c3] w fun e w' => ∃ v, e = .returned v ∧ OwnB w' w.heap.size v (tagL key nonce sealed more) ∧ Below w.heap.size w w' := by
  subst hm; subst hm'
  obtain ⟨H, hH⟩ : ∃ H, H = hN key := ⟨_, rfl⟩
  obtain ⟨s1, hs1⟩ : ∃ s, s = wf H (bf more) 0 ((n3 + 15) / 16) := ⟨_, rfl⟩
  obtain ⟨s2, hs2⟩ : ∃ s, s = wf H (bf sealed) s1 ((n2 + 15) / 16) := ⟨_, rfl⟩
  obtain ⟨l3, hl3⟩ : ∃ l, l = 8 * n3 := ⟨_, rfl⟩
  obtain ⟨l2, hl2⟩ : ∃ l, l = 8 * n2 := ⟨_, rfl⟩
  obtain ⟨LP, hLP⟩ : ∃ l, l = lenP l3 l2 := ⟨_, rfl⟩
  obtain ⟨S, hS⟩ : ∃ S, S = gm (s2 ^^^ LP) H := ⟨_, rfl⟩
  obtain ⟨MP, hMP⟩ : ∃ p, p = pol (bf (maskL key nonce 1)) := ⟨_, rfl⟩
  have hHl : H < 2 ^ 128 := by rw [hH]; exact pol_lt _
  have hs1l : s1 < 2 ^ 128 := by rw [hs1]; exact wf_lt _ (by decide) _
  have hs2l : s2 < 2 ^ 128 := by rw [hs2]; exact wf_lt _ hs1l _
  have hLPl : LP < 2 ^ 128 := by rw [hLP]; exact lenP_lt _ _
  have HTAG : Hid (unL (S ^^^ MP) = tagL key nonce sealed more) := hid (by
    have h : S = sumG key sealed more := by rw [hS, hs2, hs1, hLP, hl3, hl2, ← hn2, ← hn3, hH]; rfl
    rw [h, hMP]; exact tag_is key nonce sealed more)
  have HLP : Hid (Tryz.prog.built PTg [(0, .int .u64 (l3 : Int)), (1, .int .u64 (l2 : Int))] = some (pV LP)) := hid (by
    rw [built2, hLP, pV, wA_len _ _ (by omega), wB_len _ _ (by omega)])
  have KW1 : Hid (∀ W, Below w.heap.size w W → Calls Tryz.prog 59 #[.agg (pV 0), .slice A3 n3 c3, .agg (pV H)] W fun e w' => e = .returned (.agg (pV s1)) ∧ Below W.heap.size W w') := hid fun W hb => by rw [hs1]; exact with_e 0 H A3 more n3 c3 W (sq_onB h3 hb) hn3 hmo (by decide) hHl
  have KW2 : Hid (∀ W, Below w.heap.size w W → Calls Tryz.prog 59 #[.agg (pV s1), .slice A2 n2 c2, .agg (pV H)] W fun e w' => e = .returned (.agg (pV s2)) ∧ Below W.heap.size W w') := hid fun W hb => by rw [hs2]; exact with_e s1 H A2 sealed n2 c2 W (sq_onB h2 hb) hn2 hs hs1l hHl
  have KL3 : Hid (∀ W : World, Calls Tryz.prog 61 #[.slice A3 n3 c3] W fun e w' => e = .returned (.int .u64 (l3 : Int)) ∧ Below W.heap.size W w') := hid fun W => (bitsOf_e A3 n3 l3 c3 W hmo hl3).mono fun e w' h => ⟨h.1, by rw [← h.2]; exact Below.refl _ _⟩
  have KL2 : Hid (∀ W : World, Calls Tryz.prog 61 #[.slice A2 n2 c2] W fun e w' => e = .returned (.int .u64 (l2 : Int)) ∧ Below W.heap.size W w') := hid fun W => (bitsOf_e A2 n2 l2 c2 W hs hl2).mono fun e w' h => ⟨h.1, by rw [← h.2]; exact Below.refl _ _⟩
  have KP1 : Hid (∀ W, _) := hid fun W => plus_e s2 LP W
  have KT : Hid (∀ W : World, Calls Tryz.prog 62 #[.agg (pV (s2 ^^^ LP)), .agg (pV H)] W fun e w' => e = .returned (.agg (pV S)) ∧ Below W.heap.size W w') := hid fun W => by rw [hS]; exact times_e (s2 ^^^ LP) H W (Nat.xor_lt_two_pow hs2l hLPl) hHl
  have KM : Hid (∀ W : World, Below w.heap.size w W → Calls Tryz.prog 63 #[.slice A (16 : Nat) c, .slice A' (12 : Nat) c', .int .u32 1] W fun e w' => ∃ v, e = .returned v ∧ OwnB w' W.heap.size v (maskL key nonce 1) ∧ Below W.heap.size W w') := hid fun W hb => mask_e A A' key nonce 16 12 1 c c' W (sq_onB hA hb) (sq_onB hA' hb) hkey hnonce rfl rfl (by omega)
  have KQ : Hid (∀ (Am : Option Addr) (cm : Nat) (W : World), Sq W W.heap.size Am cm (bvs (maskL key nonce 1)) → Calls Tryz.prog 58 #[.slice Am (maskL key nonce 1).length cm] W fun e w' => e = .returned (.agg (pV MP)) ∧ Below W.heap.size W w') := hid fun Am cm W h => by rw [hMP]; exact polyOf_e Am _ _ cm W h rfl (by rw [maskL_length]; omega)
  have KP2 : Hid (∀ W, _) := hid fun W => plus_e S MP W
  have KB2 : Hid (∀ W : World, Calls Tryz.prog 64 #[.agg (pV (S ^^^ MP))] W fun e w' => ∃ v, e = .returned v ∧ Below W.heap.size W w' ∧ OwnB w' W.heap.size v (unL (S ^^^ MP))) := hid fun W => (bytes_e (S ^^^ MP) W).mono fun e w' ⟨v, h1, h2, h3⟩ => ⟨v, h1, h3, h2⟩
  have hb1 : Below w.heap.size w (w.alloc (.cells (bR fun _ => 0) 5)) := (Below.refl _ _).alloc (Nat.le_refl _) _
  have hz1 : Sq (w.alloc (.cells (bR fun _ => 0) 5)) (w.alloc (.cells (bR fun _ => 0) 5)).heap.size (some ⟨w.heap.size, 0, none⟩) 16 (bvs (blkL fun _ => 0)) :=
    Lie.sq ((Lie.newA w (bR fun _ => 0) 5).more (by simp)) (by rw [bvs_length, blkL_length]; exact Nat.le_refl _) (by omega)
  have KB : Hid (Calls Tryz.prog 57 #[.slice A (16 : Nat) c, .slice (some ⟨w.heap.size, 0, none⟩) (16 : Nat) (16 : Nat)] (w.alloc (.cells (bR fun _ => 0) 5)) fun e w' => ∃ v, e = .returned (.tuple #[v, .bool true]) ∧ OwnB w' (w.alloc (.cells (bR fun _ => 0) 5)).heap.size v (hashH key) ∧ Below (w.alloc (.cells (bR fun _ => 0) 5)).heap.size (w.alloc (.cells (bR fun _ => 0) 5)) w') :=
    hid (Block_any A (some ⟨w.heap.size, 0, none⟩) key (blkL fun _ => 0) 16 16 c 16 _ (sq_onB hA hb1) hz1 hkey (blkL_length _))
  have HB1 := hid hb1; have HH := hid hH
  have hmk := mk16
  clear hs1 hs2 hl3 hl2 hLP hS hMP hHl hs1l hs2l hLPl hA hA' h2 h3 hkey hnonce hn2 hn3 hs hmo hb1 hz1 hH
  go_enter Tryz.func42, Tryz.ntmps42
  go_wp2_with fail
  refine KB.out.mono ?_
  rintro e w2 ⟨vz, rfl, hoz, hb2⟩
  obtain ⟨Az, cz, rfl, hSz⟩ := own_n hoz (hashH_length key)
  have hb2' : Below w.heap.size w w2 := HB1.out.trans (hb2.mono HB1.out.size)
  have KH : Hid (Calls Tryz.prog 58 #[.slice Az (16 : Nat) cz] w2 fun e w' => e = .returned (.agg (pV H)) ∧ Below w2.heap.size w2 w') := hid (by rw [HH.out]; exact polyOf_e Az _ _ cz w2 hSz.sq (hashH_length key) (by omega))
  have HB2 := hid hb2'
  clear hmk KB hoz hb2 hSz hb2' HB1
  go_wp2_with fail
  refine KH.out.mono ?_
  rintro e w3 ⟨rfl, hb3⟩
  have hb3' : Below w.heap.size w w3 := HB2.out.trans (hb3.mono HB2.out.size)
  have hr3 : (w3.alloc (.cells #[.int .u64 0, .int .u64 0] PTg)).heap[w3.heap.size]? = some (.cells (pV 0) PTg (0, 0)) := by rw [pV_zero]; exact blkN rfl _ _
  have HR3 := hid hr3; have HB3 := hid hb3'
  clear hb3 hb3' hr3 KH HB2
  go_wp2_with (refine wpList_store_row rfl PTg (.tmp 11) (.tmp 20) rfl w3.heap.size (pV H) rfl rfl PTg (pV 0) HR3.out (infoV H) rfl (pV_one H) ?_)
  have S4 : Hid (St w ((w3.alloc (.cells #[.int .u64 0, .int .u64 0] PTg)).setRow w3.heap.size (pV H)) [(w3.heap.size, pV H, PTg)] []) := hid (by
    have h := ((St.start w).on HB3.out).alloc ((Below.refl _ _).alloc (Nat.le_refl _) _) (Nat.le_refl _) HR3.out
    exact h.put0 0 rfl)
  obtain ⟨b11, hb11⟩ : ∃ b, b = w3.heap.size := ⟨_, rfl⟩
  rw [← hb11] at S4 ⊢
  generalize (w3.alloc (.cells #[.int .u64 0, .int .u64 0] PTg)).setRow b11 (pV H) = w4 at S4 ⊢
  clear HR3 HB3 hb11
  go_upto_region 3 with fail
  refine wp_region_grA 8 (by kernel_rfl) (by decide) ?_
  refine wpGrA_take (i := 0) (.agg (pV 0)) rfl (by kernel_rfl) (by kernel_rfl) (fun _ _ _ h => h) (yG_build (by rfl) PTg _ rfl [] rfl _ built0) ?_
  (try simp only [Act.put, List.getElem_toArray, List.getElem_cons_succ, List.getElem_cons_zero, List.setIfInBounds_toArray, List.set_cons_zero, List.set_cons_succ])
  refine wpGrA_take (i := 1) (.slice A3 n3 c3) rfl (by kernel_rfl) (by kernel_rfl) (fun _ _ _ h => h) (yG_val _ (by rfl) (fun w' _ => by (go_simp; try rfl))) ?_
  (try simp only [Act.put, List.getElem_toArray, List.getElem_cons_succ, List.getElem_cons_zero, List.setIfInBounds_toArray, List.set_cons_zero, List.set_cons_succ])
  refine wpGrA_take (i := 2) (.agg (pV H)) rfl (by kernel_rfl) (by kernel_rfl) (fun _ _ _ h => h) (yG_part (by rfl) PTg (.tmp 11) rfl b11 0 rfl PTg (pV H) (pV H) (0, 0) _ S4.out.cl.1 (pV_all _) Tryz.underlying72 rfl (infoV _)) ?_
  (try simp only [Act.put, List.getElem_toArray, List.getElem_cons_succ, List.getElem_cons_zero, List.setIfInBounds_toArray, List.set_cons_zero, List.set_cons_succ])
  refine wpGrA_take (i := 3) (.agg (pV s1)) rfl (by kernel_rfl) (by kernel_rfl) (fun _ _ _ h => h) (yG_call (by rfl) (fun w' => by go_simp) (fun w' hb => KW1.out w' (S4.out.on hb).below)) ?_
  (try simp only [Act.put, List.getElem_toArray, List.getElem_cons_succ, List.getElem_cons_zero, List.setIfInBounds_toArray, List.set_cons_zero, List.set_cons_succ])
  refine wpGrA_take (i := 4) (.slice A2 n2 c2) rfl (by kernel_rfl) (by kernel_rfl) (fun _ _ _ h => h) (yG_val _ (by rfl) (fun w' _ => by (go_simp; try rfl))) ?_
  (try simp only [Act.put, List.getElem_toArray, List.getElem_cons_succ, List.getElem_cons_zero, List.setIfInBounds_toArray, List.set_cons_zero, List.set_cons_succ])
  refine wpGrA_take (i := 5) (.agg (pV H)) rfl (by kernel_rfl) (by kernel_rfl) (fun _ _ _ h => h) (yG_part (by rfl) PTg (.tmp 11) rfl b11 0 rfl PTg (pV H) (pV H) (0, 0) _ S4.out.cl.1 (pV_all _) Tryz.underlying72 rfl (infoV _)) ?_
  (try simp only [Act.put, List.getElem_toArray, List.getElem_cons_succ, List.getElem_cons_zero, List.setIfInBounds_toArray, List.set_cons_zero, List.set_cons_succ])
  refine wpGrA_take (i := 6) (.agg (pV s2)) rfl (by kernel_rfl) (by kernel_rfl) (fun _ _ _ h => h) (yG_call (by rfl) (fun w' => by go_simp) (fun w' hb => KW2.out w' (S4.out.on hb).below)) ?_
  (try simp only [Act.put, List.getElem_toArray, List.getElem_cons_succ, List.getElem_cons_zero, List.setIfInBounds_toArray, List.set_cons_zero, List.set_cons_succ])
  refine wpGrA_alloc (i := 7) rfl rfl rfl zeroV (by kernel_rfl) ?_
  intro p101_0 w101 hp hz hb
  have S101 : Hid (St w w101 [(p101_0, pV 0, PTg), (b11, pV H, PTg)] []) := hid (S4.out.alloc hb hp hz)
  clear hb hp hz S4
  (try simp only [Act.put, List.getElem_toArray, List.getElem_cons_succ, List.getElem_cons_zero, List.setIfInBounds_toArray, List.set_cons_zero, List.set_cons_succ])
  refine wpLA_here ?_
  refine wpLA_store rfl PTg (.tmp 12) (.tmp 27) rfl p101_0 (pV s2) rfl rfl PTg (pV 0) S101.out.cl.1 (infoV _) rfl (pV_one _) ?_
  intro wx hb
  have S102 : Hid (St w (wx.setRow p101_0 (pV s2)) [(p101_0, pV s2, PTg), (b11, pV H, PTg)] []) := hid ((S101.out.on hb).put0 0 rfl)
  clear hb S101
  generalize wx.setRow p101_0 (pV s2) = w102 at S102 ⊢
  (try simp only [Act.put, List.getElem_toArray, List.getElem_cons_succ, List.getElem_cons_zero, List.setIfInBounds_toArray, List.set_cons_zero, List.set_cons_succ])
  refine wpLA_end ?_
  intro w103 hb
  have S103 := hid (S102.out.on hb)
  clear hb S102
  go_upto_region 4 with fail
  refine wp_region_grA 9 (by kernel_rfl) (by decide) ?_
  refine wpGrA_take (i := 0) (.agg (pV s2)) rfl (by kernel_rfl) (by kernel_rfl) (fun _ _ _ h => h) (yG_part (by rfl) PTg (.tmp 12) rfl p101_0 0 rfl PTg (pV s2) (pV s2) (0, 0) _ S103.out.cl.1 (pV_all _) Tryz.underlying72 rfl (infoV _)) ?_
  (try simp only [Act.put, List.getElem_toArray, List.getElem_cons_succ, List.getElem_cons_zero, List.setIfInBounds_toArray, List.set_cons_zero, List.set_cons_succ])
  refine wpGrA_take (i := 1) (.slice A3 n3 c3) rfl (by kernel_rfl) (by kernel_rfl) (fun _ _ _ h => h) (yG_val _ (by rfl) (fun w' _ => by (go_simp; try rfl))) ?_
  (try simp only [Act.put, List.getElem_toArray, List.getElem_cons_succ, List.getElem_cons_zero, List.setIfInBounds_toArray, List.set_cons_zero, List.set_cons_succ])
  refine wpGrA_take (i := 2) (.int .u64 ((l3 : Int))) rfl (by kernel_rfl) (by kernel_rfl) (fun _ _ _ h => h) (yG_call (by rfl) (fun w' => by go_simp) (fun w' hb => KL3.out w')) ?_
  (try simp only [Act.put, List.getElem_toArray, List.getElem_cons_succ, List.getElem_cons_zero, List.setIfInBounds_toArray, List.set_cons_zero, List.set_cons_succ])
  refine wpGrA_take (i := 3) (.slice A2 n2 c2) rfl (by kernel_rfl) (by kernel_rfl) (fun _ _ _ h => h) (yG_val _ (by rfl) (fun w' _ => by (go_simp; try rfl))) ?_
  (try simp only [Act.put, List.getElem_toArray, List.getElem_cons_succ, List.getElem_cons_zero, List.setIfInBounds_toArray, List.set_cons_zero, List.set_cons_succ])
  refine wpGrA_take (i := 4) (.int .u64 ((l2 : Int))) rfl (by kernel_rfl) (by kernel_rfl) (fun _ _ _ h => h) (yG_call (by rfl) (fun w' => by go_simp) (fun w' hb => KL2.out w')) ?_
  (try simp only [Act.put, List.getElem_toArray, List.getElem_cons_succ, List.getElem_cons_zero, List.setIfInBounds_toArray, List.set_cons_zero, List.set_cons_succ])
  refine wpGrA_take (i := 5) (.agg (pV LP)) rfl (by kernel_rfl) (by kernel_rfl) (fun _ _ _ h => h) (yG_build (by rfl) PTg _ rfl [(0, .int .u64 (l3 : Int)), (1, .int .u64 (l2 : Int))] rfl _ HLP.out) ?_
  (try simp only [Act.put, List.getElem_toArray, List.getElem_cons_succ, List.getElem_cons_zero, List.setIfInBounds_toArray, List.set_cons_zero, List.set_cons_succ])
  refine wpGrA_take (i := 6) (.agg (pV (s2 ^^^ LP))) rfl (by kernel_rfl) (by kernel_rfl) (fun _ _ _ h => h) (yG_call (by rfl) (fun w' => by go_simp) (fun w' hb => KP1.out w')) ?_
  (try simp only [Act.put, List.getElem_toArray, List.getElem_cons_succ, List.getElem_cons_zero, List.setIfInBounds_toArray, List.set_cons_zero, List.set_cons_succ])
  refine wpGrA_take (i := 7) (.agg (pV H)) rfl (by kernel_rfl) (by kernel_rfl) (fun _ _ _ h => h) (yG_part (by rfl) PTg (.tmp 11) rfl b11 0 rfl PTg (pV H) (pV H) (0, 0) _ S103.out.cl.2.1 (pV_all _) Tryz.underlying72 rfl (infoV _)) ?_
  (try simp only [Act.put, List.getElem_toArray, List.getElem_cons_succ, List.getElem_cons_zero, List.setIfInBounds_toArray, List.set_cons_zero, List.set_cons_succ])
  refine wpGrA_take (i := 8) (.agg (pV S)) rfl (by kernel_rfl) (by kernel_rfl) (fun _ _ _ h => h) (yG_call (by rfl) (fun w' => by go_simp) (fun w' hb => KT.out w')) ?_
  (try simp only [Act.put, List.getElem_toArray, List.getElem_cons_succ, List.getElem_cons_zero, List.setIfInBounds_toArray, List.set_cons_zero, List.set_cons_succ])
  refine wpGrA_end (by kernel_rfl) ?_
  intro w104 hb
  have S104 := hid (S103.out.on hb)
  clear hb S103
  refine wpLA_here ?_
  refine wpLA_store rfl PTg (.tmp 12) (.tmp 36) rfl p101_0 (pV S) rfl rfl PTg (pV s2) S104.out.cl.1 (infoV _) rfl (pV_one _) ?_
  intro wx hb
  have S105 : Hid (St w (wx.setRow p101_0 (pV S)) [(p101_0, pV S, PTg), (b11, pV H, PTg)] []) := hid ((S104.out.on hb).put0 0 rfl)
  clear hb S104
  generalize wx.setRow p101_0 (pV S) = w105 at S105 ⊢
  (try simp only [Act.put, List.getElem_toArray, List.getElem_cons_succ, List.getElem_cons_zero, List.setIfInBounds_toArray, List.set_cons_zero, List.set_cons_succ])
  refine wpLA_end ?_
  intro w106 hb
  have S106 := hid (S105.out.on hb)
  clear hb S105
  go_upto_region 5 with fail
  refine wp_region_grA 7 (by kernel_rfl) (by decide) ?_
  refine wpGrA_take (i := 0) (.agg (pV S)) rfl (by kernel_rfl) (by kernel_rfl) (fun _ _ _ h => h) (yG_part (by rfl) PTg (.tmp 12) rfl p101_0 0 rfl PTg (pV S) (pV S) (0, 0) _ S106.out.cl.1 (pV_all _) Tryz.underlying72 rfl (infoV _)) ?_
  (try simp only [Act.put, List.getElem_toArray, List.getElem_cons_succ, List.getElem_cons_zero, List.setIfInBounds_toArray, List.set_cons_zero, List.set_cons_succ])
  refine wpGrA_take (i := 1) (.slice A 16 c) rfl (by kernel_rfl) (by kernel_rfl) (fun _ _ _ h => h) (yG_val _ (by rfl) (fun w' _ => by (go_simp; try rfl))) ?_
  (try simp only [Act.put, List.getElem_toArray, List.getElem_cons_succ, List.getElem_cons_zero, List.setIfInBounds_toArray, List.set_cons_zero, List.set_cons_succ])
  refine wpGrA_take (i := 2) (.slice A' 12 c') rfl (by kernel_rfl) (by kernel_rfl) (fun _ _ _ h => h) (yG_val _ (by rfl) (fun w' _ => by (go_simp; try rfl))) ?_
  (try simp only [Act.put, List.getElem_toArray, List.getElem_cons_succ, List.getElem_cons_zero, List.setIfInBounds_toArray, List.set_cons_zero, List.set_cons_succ])
  refine wpGrA_bytes (i := 3) (maskL key nonce 1) rfl (by kernel_rfl) (by rfl) (fun w' => by go_simp) (fun w' hb => KM.out w' (S106.out.on hb).below) ?_
  intro Am cm w200 hb hs
  have S200 := hid (S106.out.on hb)
  have HSM := hid hs
  clear hb hs S106
  (try simp only [Act.put, List.getElem_toArray, List.getElem_cons_succ, List.getElem_cons_zero, List.setIfInBounds_toArray, List.set_cons_zero, List.set_cons_succ])
  refine wpGrA_take (i := 4) (.agg (pV MP)) rfl (by kernel_rfl) (by kernel_rfl) (fun _ _ _ h => h) (yG_call (by rfl) (fun w' => by go_simp) (fun w' hb => KQ.out Am cm w' ((HSM.out.below hb).more hb.size))) ?_
  (try simp only [Act.put, List.getElem_toArray, List.getElem_cons_succ, List.getElem_cons_zero, List.setIfInBounds_toArray, List.set_cons_zero, List.set_cons_succ])
  refine wpGrA_take (i := 5) (.agg (pV (S ^^^ MP))) rfl (by kernel_rfl) (by kernel_rfl) (fun _ _ _ h => h) (yG_call (by rfl) (fun w' => by go_simp) (fun w' hb => KP2.out w')) ?_
  (try simp only [Act.put, List.getElem_toArray, List.getElem_cons_succ, List.getElem_cons_zero, List.setIfInBounds_toArray, List.set_cons_zero, List.set_cons_succ])
  refine wpGrA_call (i := 6) (fun w' v w'' => OwnB w'' w'.heap.size v (unL (S ^^^ MP))) rfl (by kernel_rfl) (by rfl) (fun w' => by go_simp) (fun w' hb => KB2.out w') ?_
  intro w201 v8 w202 hb1 hb2 hO8
  (try simp only [Act.put, List.getElem_toArray, List.getElem_cons_succ, List.getElem_cons_zero, List.setIfInBounds_toArray, List.set_cons_zero, List.set_cons_succ])
  refine wpGrA_end (by kernel_rfl) ?_
  intro w203 hb3
  have hbe : Below w.heap.size w w203 := ((S200.out.on hb1).on (hb2.trans (hb3.mono hb2.size))).below
  have hbw : w.heap.size ≤ w201.heap.size := (S200.out.on hb1).below.size
  have HR : Hid (OwnB w203 w.heap.size v8 (tagL key nonce sealed more)) := hid (by rw [← HTAG.out]; exact own_base (own_keep hO8 (grown12 hb3) (fun g e => by cases e)) hbw)
  have HBE := hid hbe
  clear hb1 hb2 hb3 hO8 hbe hbw S200 HSM
  go_wp2
  go_ret
  exact ⟨_, rfl, HR.out, HBE.out⟩
end Go.Proofs.YtpkmidaflnbobaaGreatDoor
end
section
namespace Go.Proofs.YtpkmidaflnbobaaGreatDoor
open Go Go.RowKit
set_option linter.unusedVariables false
set_option linter.unusedSimpArgs false
set_option maxHeartbeats 1000000 in
theorem seal12_ok : SealOk := by
  intro A A' A2 A3 key nonce text more m m' n2 n3 c c' c2 c3 w hA hA' h2 h3 hm hm' hn2 hn3 hl hl' hl2 hl3
  have KC := hid (canBe_e A A' m m' c c' w hl hl')
  by_cases h : m = 16 ∧ m' = 12
  · obtain ⟨rfl, rfl⟩ := h
    obtain ⟨X, hX⟩ : ∃ X, X = maskedL key nonce text := ⟨_, rfl⟩
    have hXl : X.length = n2 := by rw [hX, maskedL_length, hn2]
    have KM : Hid (Calls Tryz.prog 43 #[.slice A (16 : Nat) c, .slice A' (12 : Nat) c', .slice A2 n2 c2] w fun e w' => ∃ v, e = .returned v ∧ OwnB w' w.heap.size v X ∧ Below w.heap.size w w') := hid (by rw [hX]; exact masked_e A A' A2 key nonce text 16 12 n2 c c' c2 w hA hA' h2 hm hm' rfl rfl hn2 hl2)
    have KT : Hid (∀ (W : World) (As : Option Addr) (cs : Nat), Below w.heap.size w W → Sq W W.heap.size As cs (bvs X) → Calls Tryz.prog 42 #[.slice A (16 : Nat) c, .slice A' (12 : Nat) c', .slice As n2 cs, .slice A3 n3 c3] W fun e w' => ∃ v, e = .returned v ∧ OwnB w' W.heap.size v (tagL key nonce X more) ∧ Below W.heap.size W w') := hid fun W As cs hb hq =>
      tag_e A A' As A3 key nonce X more 16 12 n2 n3 c c' cs c3 W (sq_onB hA hb) (sq_onB hA' hb) hq (sq_onB h3 hb) hm hm' rfl rfl hXl hn3 hl2 hl3
    have HS : Hid (seal12L key nonce text more = X ++ tagL key nonce X more) := hid (by rw [hX]; rfl)
    have HXL := hid hXl
    clear hA hA' h2 h3 hm hm' hn2 hn3 hl hl' hX hXl
    go_enter Tryz.func22, Tryz.ntmps22
    go_wp2_with fail
    refine KC.out.mono ?_
    rintro e w' ⟨rfl, rfl⟩
    clear KC
    go_wp2_with fail
    refine KM.out.mono ?_
    rintro e w2 ⟨v, rfl, ho, hb2⟩
    obtain ⟨As, cs, rfl, hSs⟩ := own_n ho HXL.out
    have K3 := hid (KT.out w2 As cs hb2 hSs.sq)
    have HO := hid ho; have HB2 := hid hb2
    clear ho hb2 hSs KM KT
    go_wp2_with fail
    refine K3.out.mono ?_
    rintro e w3 ⟨vt, rfl, hot, hb3⟩
    obtain ⟨At, ct, rfl, hSt⟩ := own_n hot (tagL_length _ _ _ _)
    have HO3 : Hid (OwnB w3 w.heap.size (.slice As n2 cs) X) := hid (own_keep HO.out (grown12 hb3) (fun g e => by cases e))
    have HO3' : Hid (w3.ownsRow w.heap.size 5 1 (.slice As n2 cs) n2 (bvs X)) := hid (by have h := HO3.out; unfold OwnB at h; rwa [HXL.out] at h)
    have HB3 := hid (HB2.out.trans (hb3.mono HB2.out.size))
    have HST := hid hSt.lie
    clear hot hb3 hSt HO HB2 K3 HO3
    go_wp2_with (at_builtin; refine wpList_append_lie (v := .slice As n2 cs) rfl _ _ 22 rfl w.heap.size 5 (.int .u8 0) 1 Tryz.underlying22 infoU8 rfl rfl HO3'.out ((bvs_length _).trans (tagL_length _ _ _ _)) rfl HST.out (bvs_one _) ?d1 ?d2 HB3.out.size ?_)
    case d1 => unfold maxLen; omega
    case d2 => omega
    intro v4 w4 hown4 hg4 hat4
    have HO4 : Hid (OwnB w4 w.heap.size v4 (seal12L key nonce text more)) := hid (by
      rw [HS.out]
      unfold OwnB
      rw [List.length_append, bvs_append, HXL.out, tagL_length]
      exact hown4)
    have HB4 : Hid (Below w.heap.size w w4) := hid (HB3.out.grown hg4 HB3.out.size (fun g e => own_lt HO3'.out g e))
    clear hown4 hg4 hat4
    go_wp2
    go_ret2
    exact ⟨⟨_, rfl, HO4.out⟩, HB4.out⟩
  · rw [show decide (m = 16 ∧ m' = 12) = false by simpa using h] at KC
    clear hA hA' h2 h3 hm hm' hn2 hn3 hl hl' hl2 hl3
    have HH := hid h
    clear h
    go_enter Tryz.func22, Tryz.ntmps22
    go_wp2_with fail
    refine KC.out.mono ?_
    rintro e w' ⟨rfl, rfl⟩
    clear KC
    go_wp2
    go_ret2
    exact ⟨⟨_, _, rfl⟩, Below.refl _ _⟩
end Go.Proofs.YtpkmidaflnbobaaGreatDoor
end
section
namespace Go.Proofs.YtpkmidaflnbobaaGreatDoor
open Go Go.RowKit
set_option linter.unusedVariables false
set_option linter.unusedSimpArgs false
set_option maxRecDepth 100000 in
set_option maxHeartbeats 2000000 in
theorem open12_ok : OpenOk := by
  intro A A' A2 A3 key nonce sealed more m m' n2 n3 c c' c2 c3 w hA hA' h2 h3 hm hm' hn2 hn3 hl hl' hl2 hl3
  have KC := hid (canBe_e A A' m m' c c' w hl hl')
  by_cases h : m = 16 ∧ m' = 12
  · obtain ⟨rfl, rfl⟩ := h
    by_cases hs : n2 < 16
    · have hno : ¬ opens key nonce sealed more := fun h => by have := h.2.2.1; omega
      have HNO := hid hno
      have hsi : (n2 : Int) < 16 := by omega
      clear hA hA' h2 h3 hm hm' hn2 hn3 hl hl' hl2 hl3 hno
      go_enter Tryz.func20, Tryz.ntmps20
      go_wp2_with fail
      refine KC.out.mono ?_
      rintro e w' ⟨rfl, rfl⟩
      clear KC
      go_wp2
      go_ret2
      exact ⟨⟨_, _, rfl⟩, Below.refl _ _⟩
    have hsi : ¬ (n2 : Int) < 16 := by omega
    obtain ⟨n, hnd⟩ : ∃ n, n = n2 - 16 := ⟨_, rfl⟩
    have hwn : IntKind.i64.wrap ((n2 : Int) - 16) = (n : Int) := (IntWalk.i64_in _ (by omega)).trans (by omega)
    obtain ⟨b2, o2, rfl, _⟩ := h2.form (by rw [bvs_length]; omega)
    have hcap := h2.cap
    rw [bvs_length, hn2] at hcap
    obtain ⟨hc1, hc2⟩ := hcap
    have q1 : (0 : Int) ≤ (n : Int) := Int.natCast_nonneg n
    have q2 : (n : Int) ≤ (n2 : Int) := by omega
    have q3 : (n2 : Int) ≤ (c2 : Int) := by omega
    have q4 : (n : Int) ≤ (c2 : Int) := by omega
    have q5 : (n : Int) < (c2 : Int) := by omega
    have q6 : (n : Int) < (n2 : Int) := by omega
    have q7 : n < c2 := by omega
    obtain ⟨xs, hxs⟩ : ∃ xs, xs = sealed.take n := ⟨_, rfl⟩
    obtain ⟨ts, hts⟩ : ∃ ts, ts = sealed.drop n := ⟨_, rfl⟩
    have hxl : xs.length = n := by rw [hxs, List.length_take]; omega
    have htl : ts.length = 16 := by rw [hts, List.length_drop]; omega
    have SX : Hid (∀ W, Below w.heap.size w W → Sq W W.heap.size (some ⟨b2, o2, none⟩) c2 (bvs xs)) := hid fun W hb => by
      have h := (sq_onB h2 hb).take n
      have e : (bvs sealed).take n = bvs xs := by rw [hxs]; simp [bvs, List.map_take]
      rwa [e] at h
    have SD : ∀ W, Below w.heap.size w W → Lie W W.heap.size (some ⟨b2, o2 + n, none⟩) (bvs ts) := fun W hb => by
      have h := (sq_onB h2 hb).lie.drop n
      have e : (bvs sealed).drop n = bvs ts := by rw [hts]; simp [bvs, List.map_drop]
      rwa [e] at h
    obtain ⟨T, hT⟩ : ∃ T, T = tagL key nonce xs more := ⟨_, rfl⟩
    have hTl : T.length = 16 := by rw [hT, tagL_length]
    obtain ⟨TB, hTB⟩ : ∃ b : Bool, b = decide (opens key nonce sealed more) := ⟨_, rfl⟩
    have hiff : opens key nonce sealed more ↔ T = ts := by
      unfold opens
      rw [hn2, ← hnd, ← hxs, ← hts, ← hT]
      exact ⟨fun h => h.2.2.2.symm, fun h => ⟨hm, hm', by omega, h.symm⟩⟩
    have hTB2 : TB = decide (T = ts) := by
      rw [hTB]
      by_cases ho : opens key nonce sealed more
      · rw [decide_eq_true ho, decide_eq_true (hiff.1 ho)]
      · rw [decide_eq_false ho, decide_eq_false (fun e => ho (hiff.2 e))]
    have KG : Hid (∀ W, Below w.heap.size w W → Calls Tryz.prog 42 #[.slice A (16 : Nat) c, .slice A' (12 : Nat) c', .slice (some ⟨b2, o2, none⟩) n c2, .slice A3 n3 c3] W fun e w' => ∃ v, e = .returned v ∧ OwnB w' W.heap.size v T ∧ Below W.heap.size W w') := hid fun W hb => by
      rw [hT]; exact tag_e A A' _ A3 key nonce xs more 16 12 n n3 c c' c2 c3 W (sq_onB hA hb) (sq_onB hA' hb) (SX.out W hb) (sq_onB h3 hb) hm hm' rfl rfl hxl hn3 (by omega) hl3
    have KE : Hid (∀ (W : World) (At : Option Addr) (ct : Nat), Below w.heap.size w W → Sq W W.heap.size At ct (bvs T) → Calls Tryz.prog 41 #[.slice At T.length ct, .slice (some ⟨b2, o2 + n, none⟩) (n2 - n) (c2 - n)] W fun e w' => e = .returned (.bool TB) ∧ Below W.heap.size W w') := hid fun W At ct hb hq => by
      have h := same_e At (some ⟨b2, o2 + n, none⟩) T ts T.length (n2 - n) ct (c2 - n) W hq.lie (SD W hb) hTl htl hTl (by omega)
      rw [← hTB2] at h
      exact h.mono fun e w' h => ⟨h.1, by obtain ⟨d, rfl⟩ := h.2; exact below_drQ (Below.refl _ _) d⟩
    have KM : Hid (∀ W, Below w.heap.size w W → Calls Tryz.prog 43 #[.slice A (16 : Nat) c, .slice A' (12 : Nat) c', .slice (some ⟨b2, o2, none⟩) n c2] W fun e w' => ∃ v, e = .returned v ∧ OwnB w' W.heap.size v (maskedL key nonce (sealed.take (sealed.length - 16))) ∧ Below W.heap.size W w') := hid fun W hb => by
      rw [hn2, ← hnd, ← hxs]; exact masked_e A A' _ key nonce xs 16 12 n c c' c2 W (sq_onB hA hb) (sq_onB hA' hb) (SX.out W hb) hm hm' rfl rfl hxl (by omega)
    clear hA hA' h2 h3 hm hm' hn2 hn3 hl hl' hl2 hl3 hnd hxs hts hxl htl SX SD hT hTl hiff hTB2 hc1 hc2 hs
    go_enter Tryz.func20, Tryz.ntmps20
    go_wp2_with fail
    refine KC.out.mono ?_
    rintro e w' ⟨rfl, rfl⟩
    clear KC
    go_upto_region 4 with fail
    refine wp_region_grA 11 (by kernel_rfl) (by decide) ?_
    refine wpGrA_take (i := 0) (.slice A (16 : Nat) c) rfl (by kernel_rfl) (by kernel_rfl) (fun _ _ _ h => h) (yG_val _ (by rfl) (fun w' hb => by (go_simp; try rfl))) ?_
    (try simp only [Act.put, List.getElem_toArray, List.getElem_cons_succ, List.getElem_cons_zero, List.setIfInBounds_toArray, List.set_cons_zero, List.set_cons_succ])
    refine wpGrA_take (i := 1) (.slice A' (12 : Nat) c') rfl (by kernel_rfl) (by kernel_rfl) (fun _ _ _ h => h) (yG_val _ (by rfl) (fun w' hb => by (go_simp; try rfl))) ?_
    (try simp only [Act.put, List.getElem_toArray, List.getElem_cons_succ, List.getElem_cons_zero, List.setIfInBounds_toArray, List.set_cons_zero, List.set_cons_succ])
    refine wpGrA_take (i := 2) (.slice (some ⟨b2, o2, none⟩) n2 c2) rfl (by kernel_rfl) (by kernel_rfl) (fun _ _ _ h => h) (yG_val _ (by rfl) (fun w' hb => by (go_simp; try rfl))) ?_
    (try simp only [Act.put, List.getElem_toArray, List.getElem_cons_succ, List.getElem_cons_zero, List.setIfInBounds_toArray, List.set_cons_zero, List.set_cons_succ])
    refine wpGrA_take (i := 3) (.int .i64 (n : Int)) rfl (by kernel_rfl) (by kernel_rfl) (fun _ _ _ h => h) (yG_val _ (by rfl) (fun w' hb => by (go_simp; try rfl))) ?_
    (try simp only [Act.put, List.getElem_toArray, List.getElem_cons_succ, List.getElem_cons_zero, List.setIfInBounds_toArray, List.set_cons_zero, List.set_cons_succ])
    refine wpGrA_take (i := 4) (.slice (some ⟨b2, o2, none⟩) n c2) rfl (by kernel_rfl) (by kernel_rfl) (fun _ _ _ h => h) (yG_val _ (by rfl) (fun w' hb => by (go_simp; try rfl))) ?_
    (try simp only [Act.put, List.getElem_toArray, List.getElem_cons_succ, List.getElem_cons_zero, List.setIfInBounds_toArray, List.set_cons_zero, List.set_cons_succ])
    refine wpGrA_take (i := 5) (.slice A3 n3 c3) rfl (by kernel_rfl) (by kernel_rfl) (fun _ _ _ h => h) (yG_val _ (by rfl) (fun w' hb => by (go_simp; try rfl))) ?_
    (try simp only [Act.put, List.getElem_toArray, List.getElem_cons_succ, List.getElem_cons_zero, List.setIfInBounds_toArray, List.set_cons_zero, List.set_cons_succ])
    refine wpGrA_take (i := 7) (.slice (some ⟨b2, o2, none⟩) n2 c2) rfl (by kernel_rfl) (by kernel_rfl) (fun _ _ _ h => h) (yG_val _ (by rfl) (fun w' hb => by (go_simp; try rfl))) ?_
    (try simp only [Act.put, List.getElem_toArray, List.getElem_cons_succ, List.getElem_cons_zero, List.setIfInBounds_toArray, List.set_cons_zero, List.set_cons_succ])
    refine wpGrA_take (i := 8) (.int .i64 (n : Int)) rfl (by kernel_rfl) (by kernel_rfl) (fun _ _ _ h => h) (yG_val _ (by rfl) (fun w' hb => by (go_simp; try rfl))) ?_
    (try simp only [Act.put, List.getElem_toArray, List.getElem_cons_succ, List.getElem_cons_zero, List.setIfInBounds_toArray, List.set_cons_zero, List.set_cons_succ])
    refine wpGrA_take (i := 9) (.slice (some ⟨b2, o2 + n, none⟩) (n2 - n) (c2 - n)) rfl (by kernel_rfl) (by kernel_rfl) (fun _ _ _ h => h) (yG_val _ (by rfl) (fun w' hb => by (go_simp; intro h; omega))) ?_
    (try simp only [Act.put, List.getElem_toArray, List.getElem_cons_succ, List.getElem_cons_zero, List.setIfInBounds_toArray, List.set_cons_zero, List.set_cons_succ])
    refine wpGrA_bytes (i := 6) T rfl (by kernel_rfl) (by rfl) (fun w' => by go_simp) (fun w' hb => KG.out w' hb) ?_
    intro At ct w5 hb5 hs5
    (try simp only [Act.put, List.getElem_toArray, List.getElem_cons_succ, List.getElem_cons_zero, List.setIfInBounds_toArray, List.set_cons_zero, List.set_cons_succ])
    refine wpGrA_take (i := 10) (.bool TB) rfl (by kernel_rfl) (by kernel_rfl) (fun _ _ _ h => h) (yG_call (by rfl) (fun w' => by go_simp) (fun w' hb => KE.out w' At ct (hb5.trans (hb.mono hb5.size)) ((hs5.below hb).more hb.size))) ?_
    (try simp only [Act.put, List.getElem_toArray, List.getElem_cons_succ, List.getElem_cons_zero, List.setIfInBounds_toArray, List.set_cons_zero, List.set_cons_succ])
    refine wpGrA_end (by kernel_rfl) ?_
    intro w6 hb6
    have HB6 : Hid (Below w.heap.size w w6) := hid (hb5.trans (hb6.mono hb5.size))
    clear hb5 hs5 hb6 KG KE
    by_cases ho : opens key nonce sealed more
    · rw [decide_eq_true ho] at hTB
      subst hTB
      have K2 := hid (KM.out w6 HB6.out)
      have HOP := hid ho
      clear ho KM
      go_wp2_with fail
      refine K2.out.mono ?_
      rintro e w7 ⟨v, rfl, ho7, hb7⟩
      have HO7 := hid (own_base ho7 HB6.out.size); have HB7 := hid (HB6.out.trans (hb7.mono HB6.out.size))
      clear ho7 hb7
      go_wp2
      go_ret2
      exact ⟨⟨_, rfl, HO7.out⟩, HB7.out⟩
    · rw [decide_eq_false ho] at hTB
      subst hTB
      have HOP := hid ho
      clear ho KM
      go_wp2
      go_ret2
      exact ⟨⟨_, _, rfl⟩, HB6.out⟩
  · have hno : ¬ opens key nonce sealed more := fun ho => h ⟨by rw [← hm]; exact ho.1, by rw [← hm']; exact ho.2.1⟩
    have HNO := hid hno
    rw [show decide (m = 16 ∧ m' = 12) = false by simpa using h] at KC
    clear hA hA' h2 h3 hm hm' hn2 hn3 hl hl' hl2 hl3 hno h
    go_enter Tryz.func20, Tryz.ntmps20
    go_wp2_with fail
    refine KC.out.mono ?_
    rintro e w' ⟨rfl, rfl⟩
    clear KC
    go_wp2
    go_ret2
    exact ⟨⟨_, _, rfl⟩, Below.refl _ _⟩
end Go.Proofs.YtpkmidaflnbobaaGreatDoor
end
