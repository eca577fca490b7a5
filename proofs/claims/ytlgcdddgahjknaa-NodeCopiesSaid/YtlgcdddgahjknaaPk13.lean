/-
  Texts of this claim in one file: Ref16l, Ref16m.
-/
import Derived.Test.YtlgcdddgahjknaaPk7
section
namespace Go.Proofs.Ytlgcdddgahjknaa
open Go Go.RowKit
set_option linter.unusedVariables false
set_option linter.unusedSimpArgs false
/-- A row of our own that isn't empty. -/
theorem own_row3 {w : World} {base n : Nat} {t : TypeId} {v : Value} {vs : List Value} (h : w.ownsRow base t 1 v n vs) (hn : 0 < n) : ∃ g c, v = .slice (some ⟨g, 0, none⟩) n c ∧ g < w.heap.size ∧ base ≤ g ∧ ∀ j u, vs[j]? = some u → w.cell? ⟨g, j, none⟩ = some u := by
  have hl := h.1
  rcases h.2 with ⟨rfl, rfl⟩ | ⟨g, cap, cur, rfl, hb, hg, h1, h2, h3, h4⟩
  · omega
  · exact ⟨g, cap, rfl, (Array.getElem?_eq_some_iff.1 hg).1, hb, fun j u hu => by have := h.cells (g := g) rfl j u hu; simpa [Addr.add_lit] using this⟩
/-- Where the bytes lie. -/
theorem sq_at {w : World} {B c : Nat} {A : Option Addr} {xs : List UInt8} (h : Sq w B A c (bvs xs)) (hx : 0 < xs.length) : ∃ b o, A = some ⟨b, o, none⟩ ∧ b < B ∧ ∀ k, k < xs.length → w.cell? ⟨b, o + k, none⟩ = some (.int .u8 ((xs.getD k 0).toNat : Int)) := by
  rcases h with ⟨h, _⟩ | ⟨b, o, hA, hb, _, _, hc⟩
  · have := congrArg List.length h
    rw [bvs_length, List.length_nil] at this
    omega
  · refine ⟨b, o, hA, hb, fun k hk => hc k _ ?_⟩
    rw [bvs, List.getElem?_map, List.getElem?_eq_getElem hk, List.getD_eq_getElem?_getD, List.getElem?_eq_getElem hk]
    rfl
abbrev lfZ : Array Value := #[.slice none 0 0, .slice none 0 0, .slice none 0 0, .int .u8 0, .slice none 0 0, .slice none 0 0]
theorem lfZ_size {x : Lf} {a : LA} : lfZ.size = (lfV x a).size := rfl
theorem lfV_one {x : Lf} {a : LA} : (lfV x a).all (·.oneCell') = true := by simp [Value.oneCell']
def srcJ (xs : List UInt8) (i : Nat) : Nat := (xs.getD i 0).toNat
def tlP (xs : List UInt8) (i : Nat) : Nat := posD xs i 3
def tlR (xs : List UInt8) (i : Nat) : Nat := if srcJ xs (tlP xs i) = 3 then posD xs (tlP xs i + 1) 1 else tlP xs i + 1
def tlF (xs : List UInt8) (i : Nat) : Lf := ⟨vecJ xs i 0, vecJ xs i 1, vecJ xs i 2, srcJ xs (tlP xs i), if srcJ xs (tlP xs i) = 3 then vecJ xs (tlP xs i + 1) 0 else [], vecJ xs (tlR xs i) 0⟩
def tlE (xs : List UInt8) (i : Nat) : Nat :=
  if errD xs i 3 ≠ 0 then errD xs i 3
  else if xs.length ≤ tlP xs i then 4
  else if srcJ xs (tlP xs i) = 0 ∨ 3 < srcJ xs (tlP xs i) then 3
  else if srcJ xs (tlP xs i) = 3 ∧ errD xs (tlP xs i + 1) 1 ≠ 0 then errD xs (tlP xs i + 1) 1
  else if errD xs (tlR xs i) 1 ≠ 0 then errD xs (tlR xs i) 1
  else if leafB (tlF xs i) then 0 else 3
def tlX (xs : List UInt8) (i : Nat) : Lf := if tlE xs i = 0 then tlF xs i else lf0
def tlN (xs : List UInt8) (i : Nat) : Nat := if tlE xs i = 0 then posD xs (tlR xs i) 1 else i
theorem build_lf (W : World) : (Instr.build LfT #[]).run Try.prog W = .ok (.agg (lfV lf0 la0)) W := run_build W LfT _ _ (by kernel_rfl)
/-- A leaf that lies below B. -/
def LfB (w : World) (B : Nat) (x : Lf) (a : LA) : Prop := Lie w B a.a0 (bvs x.box) ∧ Lie w B a.a1 (bvs x.sign) ∧ Lie w B a.a2 (bvs x.ident) ∧ Lie w B a.a3 (bvs x.par) ∧ Lie w B a.a4 (bvs x.sig)
def PrB (w : World) (B : Nat) (y : Pnt) (b : PA) : Prop := Lie w B b.a0 (bvs y.box) ∧ Lie w B b.a1 (bvs y.hash) ∧ Lie w B b.a2 (izs y.late)
theorem LfB.on {w w' : World} {B : Nat} {x : Lf} {a : LA} (h : LfB w B x a) (hb : Below B w w') : LfB w' B x a := ⟨h.1.below hb, h.2.1.below hb, h.2.2.1.below hb, h.2.2.2.1.below hb, h.2.2.2.2.below hb⟩
theorem LfB.in_ {w : World} {B : Nat} {x : Lf} {a : LA} (h : LfB w B x a) (hb : B ≤ w.heap.size) : LfIn w x a := ⟨h.1.more hb, h.2.1.more hb, h.2.2.1.more hb, h.2.2.2.1.more hb, h.2.2.2.2.more hb⟩
theorem PrB.on {w w' : World} {B : Nat} {y : Pnt} {b : PA} (h : PrB w B y b) (hb : Below B w w') : PrB w' B y b := ⟨h.1.below hb, h.2.1.below hb, h.2.2.below hb⟩
theorem PrB.in_ {w : World} {B : Nat} {y : Pnt} {b : PA} (h : PrB w B y b) (hb : B ≤ w.heap.size) : PrIn w y b := ⟨h.1.more hb, h.2.1.more hb, h.2.2.more hb⟩
def TlOut (w : World) (B : Nat) (xs : List UInt8) (i : Nat) (e : Ending) (w' : World) : Prop := ∃ a : LA, e = .returned (.tuple #[.agg (lfV (tlX xs i) a), .int .i64 (tlN xs i : Int), .int .i64 (tlE xs i : Int)]) ∧ LfB w' B (tlX xs i) a ∧ Below w.heap.size w w'
theorem TlOut.no {w w' : World} {B : Nat} {xs : List UInt8} {i er : Nat} (h : tlE xs i = er) (h0 : er ≠ 0) (hb : Below w.heap.size w w') : TlOut w B xs i (.returned (.tuple #[.agg (lfV lf0 la0), .int .i64 (i : Int), .int .i64 (er : Int)])) w' := by
  have h2 : tlX xs i = lf0 := by unfold tlX; rw [if_neg (by omega)]
  have h3 : tlN xs i = i := by unfold tlN; rw [if_neg (by omega)]
  exact ⟨la0, by rw [h2, h3, h], by rw [h2]; exact ⟨Lie.nil, Lie.nil, Lie.nil, Lie.nil, Lie.nil⟩, hb⟩
theorem tl_a {xs : List UInt8} {i : Nat} (h3 : errD xs i 3 = 0) (hlt : tlP xs i < xs.length) (hs : srcJ xs (tlP xs i) = 0 ∨ 3 < srcJ xs (tlP xs i)) : tlE xs i = 3 := by
  unfold tlE; rw [if_neg (by simp [h3]), if_neg (by omega), if_pos hs]
theorem tl_b {xs : List UInt8} {i : Nat} (h3 : errD xs i 3 = 0) (hlt : tlP xs i < xs.length) (hs : ¬ (srcJ xs (tlP xs i) = 0 ∨ 3 < srcJ xs (tlP xs i))) (h4 : srcJ xs (tlP xs i) = 3 ∧ errD xs (tlP xs i + 1) 1 ≠ 0) : tlE xs i = errD xs (tlP xs i + 1) 1 := by
  unfold tlE; rw [if_neg (by simp [h3]), if_neg (by omega), if_neg hs, if_pos h4]
theorem tl_c {xs : List UInt8} {i : Nat} (h3 : errD xs i 3 = 0) (hlt : tlP xs i < xs.length) (hs : ¬ (srcJ xs (tlP xs i) = 0 ∨ 3 < srcJ xs (tlP xs i))) (h4 : ¬ (srcJ xs (tlP xs i) = 3 ∧ errD xs (tlP xs i + 1) 1 ≠ 0)) (h5 : errD xs (tlR xs i) 1 ≠ 0) : tlE xs i = errD xs (tlR xs i) 1 := by
  unfold tlE; rw [if_neg (by simp [h3]), if_neg (by omega), if_neg hs, if_neg h4, if_pos h5]
theorem tl_d {xs : List UInt8} {i : Nat} (h3 : errD xs i 3 = 0) (hlt : tlP xs i < xs.length) (hs : ¬ (srcJ xs (tlP xs i) = 0 ∨ 3 < srcJ xs (tlP xs i))) (h4 : ¬ (srcJ xs (tlP xs i) = 3 ∧ errD xs (tlP xs i + 1) 1 ≠ 0)) (h5 : errD xs (tlR xs i) 1 = 0) : tlE xs i = if leafB (tlF xs i) then 0 else 3 := by
  unfold tlE; rw [if_neg (by simp [h3]), if_neg (by omega), if_neg hs, if_neg h4, if_neg (by simp [h5])]
theorem TlOut.yes {w w' : World} {B : Nat} {xs : List UInt8} {i : Nat} {a : LA} (h : tlE xs i = 0) (hi : LfB w' B (tlF xs i) a) (hb : Below w.heap.size w w') : TlOut w B xs i (.returned (.tuple #[.agg (lfV (tlF xs i) a), .int .i64 (posD xs (tlR xs i) 1 : Int), .int .i64 ((0 : Nat) : Int)])) w' := by
  have h2 : tlX xs i = tlF xs i := by unfold tlX; rw [if_pos h]
  have h3 : tlN xs i = posD xs (tlR xs i) 1 := by unfold tlN; rw [if_pos h]
  exact ⟨a, by rw [h2, h3, h], by rw [h2]; exact hi, hb⟩
set_option maxRecDepth 100000 in
set_option maxHeartbeats 8000000 in
theorem TakeLeaf16_any (A : Option Addr) (xs : List UInt8) (c at' B : Nat) (w : World) (hA : Sq w B A c (bvs xs)) (hB : B ≤ w.heap.size) (hb : xs.length ≤ 1000000) (hat : at' ≤ xs.length) :
    Calls Try.prog 20 #[.slice A xs.length c, .int .i64 (at' : Int)] w (TlOut w B xs at') := by
  have HV : Hid (∀ i n W, Below w.heap.size w W → i ≤ xs.length → n ≤ 1000 → _) := hid fun i n W (h : Below w.heap.size w W) (hi : i ≤ xs.length) (hn : n ≤ 1000) => vecs16 A xs c i n B W (hA.below (h.mono hB)) (Nat.le_trans hB h.size) hb hi hn
  have HXB := hid hb; have HAT := hid hat; have HA := hid hA; have HBB := hid hB
  clear hA hb hat hB
  go_enter Try.func20, Try.ntmps20
  have K4 : Hid ((w.alloc (.cells lfZ LfT)).heap[w.heap.size]? = some (.cells lfZ LfT (0, 0))) := hid (heap_alloc_new w _)
  have HB1 : Hid (Below w.heap.size w (w.alloc (.cells lfZ LfT))) := hid ((Below.refl _ _).alloc (Nat.le_refl _) _)
  have H1 := hid (HV.out at' 3 _ HB1.out HAT.out (by omega))
  have hbuild := build_lf
  obtain ⟨e3, he3⟩ : ∃ t, t = errD xs at' 3 := ⟨_, rfl⟩
  obtain ⟨p3, hp3⟩ : ∃ t, t = posD xs at' 3 := ⟨_, rfl⟩
  have HP3 : Hid (p3 = tlP xs at' ∧ p3 ≤ xs.length) := hid ⟨hp3, by rw [hp3]; exact posD_le HAT.out 3⟩
  rw [← he3, ← hp3] at H1
  have HE3 := hid he3
  clear he3 hp3
  go_wp2_with fail
  refine H1.out.mono ?_
  rintro e W1 (⟨h0, v, vs, rfl, ho, hr, hbl⟩ | ⟨h0, z, rfl, hbl⟩)
  · subst h0
    have HB2 := hid (HB1.out.trans (hbl.mono HB1.out.size))
    have K42 := hid ((hbl.block _ (block_lt K4.out)).trans K4.out)
    obtain ⟨g1, c1, rfl, hg1, hg0, hcell⟩ := own_row3 ho (by omega)
    have HC := hid hcell; have HR := hid hr
    clear ho hr hbl hcell H1 HB1 K4
    by_cases hlt : p3 < xs.length
    · have HLT := hid hlt
      obtain ⟨A0, k0, hv0, S0⟩ := HR.out.2 0 (vecJ xs at' 0) (by rfl)
      obtain ⟨A1, k1, hv1, S1⟩ := HR.out.2 1 (vecJ xs at' 1) (by rfl)
      obtain ⟨A2, k2, hv2, S2⟩ := HR.out.2 2 (vecJ xs at' 2) (by rfl)
      have d0 := HC.out _ _ hv0; have d1 := HC.out _ _ hv1; have d2 := HC.out _ _ hv2
      obtain ⟨b0, hb0⟩ : ∃ t, t = vecJ xs at' 0 := ⟨_, rfl⟩
      obtain ⟨b1, hb1⟩ : ∃ t, t = vecJ xs at' 1 := ⟨_, rfl⟩
      obtain ⟨b2, hb2⟩ : ∃ t, t = vecJ xs at' 2 := ⟨_, rfl⟩
      rw [← hb0] at S0 d0
      rw [← hb1] at S1 d1
      rw [← hb2] at S2 d2
      have HV0 := hid hb0; have HV1 := hid hb1; have HV2 := hid hb2
      have HT0 := hid S0; have HT1 := hid S1; have HT2 := hid S2
      have hA1 := HA.out.below (HB2.out.mono HBB.out)
      obtain ⟨bA, oA, rfl, hbA, hbyte⟩ := sq_at hA1 (by omega)
      have dz := hbyte p3 hlt
      obtain ⟨sr, hsr⟩ : ∃ t, t = (xs.getD p3 0).toNat := ⟨_, rfl⟩
      rw [← hsr] at dz
      have HSR : Hid (sr = srcJ xs p3) := hid hsr
      have hbA1 : bA < W1.heap.size := by have := HB2.out.size; have := HBB.out; omega
      have HW1 : Hid (w.heap.size < W1.heap.size) := hid (block_lt K42.out)
      have hfar : ∀ p : Addr, p.block < W1.heap.size → ((W1.alloc (.cells #[.slice none 0 0, .slice none 0 0, .slice none 0 0, .int .u8 0, .slice none 0 0, .slice none 0 0] LfT)).drew).cell? p = W1.cell? p := fun p hp => ((Below.refl W1.heap.size W1).alloc (Nat.le_refl _) _).cell (p := p) hp
      have e0 := (hfar ⟨g1, 0, none⟩ hg1).trans d0; have e1 := (hfar ⟨g1, 1, none⟩ hg1).trans d1; have e2 := (hfar ⟨g1, 2, none⟩ hg1).trans d2
      have dz2 := (hfar ⟨bA, oA + p3, none⟩ hbA1).trans dz
      have hge : ¬ (p3 : Int) ≥ (xs.length : Int) := by omega
      have hd : decide ((p3 : Int) ≥ (xs.length : Int)) = false := by simpa using hge
      clear hfar hv0 hv1 hv2 hbyte hsr hb0 hb1 hb2 S0 S1 S2 hA1 hbA hbA1
      go_wp2
      go_region
      clear d0 d1 d2 dz e0 e1 e2 dz2 hd hge hlt hg1 hg0
      generalize hW : World.drew _ = W
      have T2 : W = _ := hW.symm
      have HW : Hid (Below W1.heap.size W1 W) := hid (by rw [T2]; exact ((Below.refl W1.heap.size W1).alloc (Nat.le_refl _) _).drew)
      have K10 : Hid (W.heap[W1.heap.size]? = some (.cells (lfV ⟨b0, b1, b2, sr, [], []⟩ ⟨A0, A1, A2, none, none, k0, k1, k2, 0, 0⟩) LfT (0, 0))) := hid (by rw [T2]; exact heap_alloc_new W1 _)
      have K43 : Hid (W.heap[w.heap.size]? = some (.cells lfZ LfT (0, 0))) := hid ((HW.out.block _ (block_lt K42.out)).trans K42.out)
      have HB3 := hid (HB2.out.trans (HW.out.mono HB2.out.size))
      have HWW := hid (HW.out.mono HB2.out.size)
      have HS0 := hid (HT0.out.below (HWW.out.mono HBB.out)); have HS1 := hid (HT1.out.below (HWW.out.mono HBB.out)); have HS2 := hid (HT2.out.below (HWW.out.mono HBB.out))
      clear hW T2 HW K42 HB2 HT0 HT1 HT2 HWW HR HC
      have y3 := cell_of K10.out 3 _ rfl
      by_cases hok : sr = 0 ∨ 3 < sr
      · have HEE : Hid (tlE xs at' = 3) := hid (tl_a HE3.out.symm (by rw [← HP3.out.1]; exact HLT.out) (by rw [← HP3.out.1, ← HSR.out]; exact hok))
        by_cases hz : sr = 0
        · have hz1 : (sr : Int) = 0 := by omega
          clear hok
          go_wp2_with (with_reducible refine wpList_store_row rfl LfT (.tmp 4) _ rfl w.heap.size (lfV lf0 la0) rfl rfl LfT lfZ K43.out infoLf lfZ_size lfV_one ?_)
          have KZ := setRow_heap _ w.heap.size lfZ (lfV lf0 la0) LfT (0, 0) K43.out
          have hbz := below_put W w.heap.size (lfV lf0 la0) (Nat.le_refl w.heap.size)
          refine bodyPost_ret (v := .tuple #[.agg (lfV lf0 la0), .int .i64 (at' : Int), .int .i64 ((3 : Nat) : Int)]) (results_css rfl _ _ w.heap.size LfT (lfV lf0 la0) (0, 0) _ rfl KZ Try.underlying24 rfl infoLf _ _ rfl rfl) rfl (TlOut.no HEE.out (by omega) (HB3.out.trans hbz))
        · have hz1 : ¬ (sr : Int) = 0 := by omega
          have hz2 : (3 : Int) < (sr : Int) := by omega
          have hz3 : 3 < sr := by omega
          clear hok
          go_wp2_with (with_reducible refine wpList_store_row rfl LfT (.tmp 4) _ rfl w.heap.size (lfV lf0 la0) rfl rfl LfT lfZ K43.out infoLf lfZ_size lfV_one ?_)
          have KZ := setRow_heap _ w.heap.size lfZ (lfV lf0 la0) LfT (0, 0) K43.out
          have hbz := below_put W w.heap.size (lfV lf0 la0) (Nat.le_refl w.heap.size)
          refine bodyPost_ret (v := .tuple #[.agg (lfV lf0 la0), .int .i64 (at' : Int), .int .i64 ((3 : Nat) : Int)]) (results_css rfl _ _ w.heap.size LfT (lfV lf0 la0) (0, 0) _ rfl KZ Try.underlying24 rfl infoLf _ _ rfl rfl) rfl (TlOut.no HEE.out (by omega) (HB3.out.trans hbz))
      · have HOK := hid hok
        have hz0 : ¬ sr = 0 := by omega
        have hz1 : ¬ (sr : Int) = 0 := by omega
        have hz2 : ¬ (3 : Int) < (sr : Int) := by omega
        have hz3 : ¬ 3 < sr := by omega
        obtain ⟨q, hq⟩ : ∃ t, t = p3 + 1 := ⟨_, rfl⟩
        have hw1 : wrap64 ((p3 : Int) + 1) = (q : Int) := by rw [wrap64_in' (by omega) (by have := HXB.out; have := HLT.out; omega)]; omega
        have HQ := hid hq
        have HQL : Hid (q ≤ xs.length) := hid (by have := HLT.out; omega)
        clear hok hq
        by_cases h3 : sr = 3
        · have h31 : (sr : Int) = 3 := by omega
          have H3 := hid h3
          obtain ⟨e4, he4⟩ : ∃ t, t = errD xs q 1 := ⟨_, rfl⟩
          obtain ⟨r, hr⟩ : ∃ t, t = posD xs q 1 := ⟨_, rfl⟩
          have H4 := hid (HV.out q 1 W HB3.out HQL.out (by omega))
          rw [← he4, ← hr] at H4
          have HE4 : Hid (e4 = errD xs q 1) := hid he4
          have HRR : Hid (r = tlR xs at') := hid (by unfold tlR; rw [← HP3.out.1, ← HSR.out, if_pos h3, ← HQ.out]; exact hr)
          have HRL0 : Hid (r ≤ xs.length) := hid (by rw [hr]; exact posD_le HQL.out 1)
          clear he4 hr h3
          go_wp2_with fail
          refine H4.out.mono ?_
          rintro e Y1 (⟨h0, v, vs, rfl, ho, hr, hbl⟩ | ⟨h0, z, rfl, hbl⟩)
          · have HNB : Hid (¬ (srcJ xs (tlP xs at') = 3 ∧ errD xs (tlP xs at' + 1) 1 ≠ 0)) := hid (fun hh => hh.2 (by rw [← HP3.out.1, ← HQ.out, ← HE4.out]; exact h0))
            subst h0
            have HY1 := hid (HB3.out.trans (hbl.mono HB3.out.size))
            have K1a := hid ((hbl.block _ (block_lt K10.out)).trans K10.out)
            have K4a := hid ((hbl.block _ (block_lt K43.out)).trans K43.out)
            obtain ⟨g4, c4, rfl, hg4, hg40, hcell⟩ := own_row3 ho (by omega)
            obtain ⟨A3, k3, hv3, S3⟩ := hr.2 0 (vecJ xs q 0) (by rfl)
            have f0 := hcell _ _ hv3
            obtain ⟨b3, hb3⟩ : ∃ t, t = vecJ xs q 0 := ⟨_, rfl⟩
            rw [← hb3] at f0 S3
            have HV3 : Hid (b3 = vecJ xs q 0) := hid hb3
            have HXV := hid (hbl.mono HB3.out.size)
            have u5 := cell_of K1a.out 4 _ rfl
            have uf : Y1.frozen? ⟨W1.heap.size, 4, none⟩ = false := frozen_of_row _ _ _ _ _ K1a.out
            have hset : Below w.heap.size Y1 (Y1.setCell ⟨W1.heap.size, 4, none⟩ (.slice A3 b3.length k3)) := (Below.refl _ _).setCell (by have := HW1.out; simp; omega) _
            have K1v : Hid ((Y1.setCell ⟨W1.heap.size, 4, none⟩ (.slice A3 b3.length k3)).heap[W1.heap.size]? = some (.cells (lfV ⟨b0, b1, b2, sr, b3, []⟩ ⟨A0, A1, A2, A3, none, k0, k1, k2, k3, 0⟩) LfT (0, 0))) := hid (block_set K1a.out 4 _)
            have K4v : Hid ((Y1.setCell ⟨W1.heap.size, 4, none⟩ (.slice A3 b3.length k3)).heap[w.heap.size]? = some (.cells lfZ LfT (0, 0))) := hid (by rw [Below.heap_setCell _ _ _ _ (by simp; have := HW1.out; omega)]; exact K4a.out)
            have HBV := hid (HY1.out.trans hset)
            have HS0 := hid (HS0.out.below ((HXV.out.trans hset).mono HBB.out)); have HS1 := hid (HS1.out.below ((HXV.out.trans hset).mono HBB.out)); have HS2 := hid (HS2.out.below ((HXV.out.trans hset).mono HBB.out)); have HS3 := hid (S3.below (hset.mono HBB.out))
            obtain ⟨er5, her5⟩ : ∃ t, t = errD xs r 1 := ⟨_, rfl⟩
            have H5 := hid (HV.out r 1 _ HBV.out HRL0.out (by omega))
            rw [← her5] at H5
            have HER5 : Hid (er5 = errD xs r 1) := hid her5
            clear ho hr hbl hcell hv3 S3 hb3 her5 hset H4 K1a K4a y3 HXV HY1
            go_wp2_with fail
            refine H5.out.mono ?_
            rintro e X1 (⟨h0, v, vs, rfl, ho, hr, hbl⟩ | ⟨h0, z, rfl, hbl⟩)
            · have HE5 := hid (HER5.out.symm.trans h0)
              have HX1 := hid (HBV.out.trans (hbl.mono HBV.out.size))
              have K1a := hid ((hbl.block _ (block_lt K1v.out)).trans K1v.out)
              have K4a := hid ((hbl.block _ (block_lt K4v.out)).trans K4v.out)
              obtain ⟨g5, c5, rfl, hg5, hg50, hcell⟩ := own_row3 ho (by omega)
              obtain ⟨A4, k4, hv4, S4⟩ := hr.2 0 (vecJ xs r 0) (by rfl)
              have f0 := hcell _ _ hv4
              obtain ⟨b4, hb4⟩ : ∃ t, t = vecJ xs r 0 := ⟨_, rfl⟩
              rw [← hb4] at f0 S4
              have HB4 := hid hb4; have HS4 := hid S4
              have HXV := hid (hbl.mono HBV.out.size)
              have u5 := cell_of K1a.out 5 _ rfl
              have uf : X1.frozen? ⟨W1.heap.size, 5, none⟩ = false := frozen_of_row _ _ _ _ _ K1a.out
              have K1b : Hid ((X1.setCell ⟨W1.heap.size, 5, none⟩ (.slice A4 b4.length k4)).heap[W1.heap.size]? = some (.cells (lfV ⟨b0, b1, b2, sr, b3, b4⟩ ⟨A0, A1, A2, A3, A4, k0, k1, k2, k3, k4⟩) LfT (0, 0))) := hid (block_set K1a.out 5 _)
              have K4b : Hid ((X1.setCell ⟨W1.heap.size, 5, none⟩ (.slice A4 b4.length k4)).heap[w.heap.size]? = some (.cells lfZ LfT (0, 0))) := hid (by rw [Below.heap_setCell _ _ _ _ (by simp; have := HW1.out; omega)]; exact K4a.out)
              have HXX : Hid (Below w.heap.size X1 (X1.setCell ⟨W1.heap.size, 5, none⟩ (.slice A4 b4.length k4))) := hid ((Below.refl _ _).setCell (by have := HW1.out; simp; omega) _)
              have HTF : Hid (tlF xs at' = ⟨b0, b1, b2, sr, b3, b4⟩) := hid (by unfold tlF; rw [← HV0.out, ← HV1.out, ← HV2.out, ← HP3.out.1, ← HSR.out, ← HRR.out, ← HB4.out, if_pos H3.out, ← HQ.out, ← HV3.out])
              have HTE : Hid (tlE xs at' = if leafB ⟨b0, b1, b2, sr, b3, b4⟩ then 0 else 3) := hid (by rw [← HTF.out]; exact tl_d HE3.out.symm (by rw [← HP3.out.1]; exact HLT.out) (by rw [← HP3.out.1, ← HSR.out]; exact HOK.out) HNB.out (by rw [← HRR.out]; exact HE5.out))
              obtain ⟨lb, hlb⟩ : ∃ t, t = leafB ⟨b0, b1, b2, sr, b3, b4⟩ := ⟨_, rfl⟩
              have HRL : Hid (∀ X, Calls Try.prog 12 #[.agg (lfV ⟨b0, b1, b2, sr, b3, b4⟩ ⟨A0, A1, A2, A3, A4, k0, k1, k2, k3, k4⟩)] X (RetB X lb)) := hid fun X => hlb ▸ RightLeaf16_any _ _ X (by show sr < 256; have := HOK.out; omega)
              rw [← hlb] at HTE
              clear h0 ho hr hbl hcell hv4 S4 hb4 hlb H5 K1a K4a
              go_wp2_with (with_reducible refine wpList_load_row rfl LfT (.tmp 10) rfl W1.heap.size rfl LfT (lfV ⟨b0, b1, b2, sr, b3, b4⟩ ⟨A0, A1, A2, A3, A4, k0, k1, k2, k3, k4⟩) (0, 0) _ K1b.out Try.underlying24 rfl infoLf ?_)
              refine (HRL.out _).mono ?_
              rintro e X3 ⟨rfl, hb3⟩
              have K1c := hid ((hb3.block _ (block_lt K1b.out)).trans K1b.out)
              have K4c := hid ((hb3.block _ (block_lt K4b.out)).trans K4b.out)
              have HXZ := hid (HXX.out.trans (hb3.mono (Nat.le_trans HX1.out.size HXX.out.size)))
              have HX3 := hid (HX1.out.trans HXZ.out)
              have HXY := hid (HXV.out.trans HXZ.out)
              clear hb3 K1b K4b HRL f0 u5 uf HXX
              cases lb with
              | false =>
                have HEE : Hid (tlE xs at' = 3) := hid (by rw [HTE.out]; rfl)
                go_wp2_with (with_reducible refine wpList_store_row rfl LfT (.tmp 4) _ rfl w.heap.size (lfV lf0 la0) rfl rfl LfT lfZ K4c.out infoLf lfZ_size lfV_one ?_)
                have KZ := setRow_heap _ w.heap.size lfZ (lfV lf0 la0) LfT (0, 0) K4c.out
                have hbz := below_put X3 w.heap.size (lfV lf0 la0) (Nat.le_refl w.heap.size)
                refine bodyPost_ret (v := .tuple #[.agg (lfV lf0 la0), .int .i64 (at' : Int), .int .i64 ((3 : Nat) : Int)]) (results_css rfl _ _ w.heap.size LfT (lfV lf0 la0) (0, 0) _ rfl KZ Try.underlying24 rfl infoLf _ _ rfl rfl) rfl (TlOut.no HEE.out (by omega) (HX3.out.trans hbz))
              | true =>
                have HEE : Hid (tlE xs at' = 0) := hid (by rw [HTE.out]; rfl)
                go_wp2_with (first | (with_reducible refine wpList_load_row rfl LfT (.tmp 10) rfl W1.heap.size rfl LfT (lfV ⟨b0, b1, b2, sr, b3, b4⟩ ⟨A0, A1, A2, A3, A4, k0, k1, k2, k3, k4⟩) (0, 0) _ K1c.out Try.underlying24 rfl infoLf ?_) | (with_reducible refine wpList_store_row rfl LfT (.tmp 4) _ rfl w.heap.size (lfV ⟨b0, b1, b2, sr, b3, b4⟩ ⟨A0, A1, A2, A3, A4, k0, k1, k2, k3, k4⟩) rfl rfl LfT lfZ K4c.out infoLf lfZ_size lfV_one ?_))
                have KZ := setRow_heap _ w.heap.size lfZ (lfV ⟨b0, b1, b2, sr, b3, b4⟩ ⟨A0, A1, A2, A3, A4, k0, k1, k2, k3, k4⟩) LfT (0, 0) K4c.out
                have hbz := below_put X3 w.heap.size (lfV ⟨b0, b1, b2, sr, b3, b4⟩ ⟨A0, A1, A2, A3, A4, k0, k1, k2, k3, k4⟩) (Nat.le_refl w.heap.size)
                have hin : LfB (X3.setRow w.heap.size (lfV ⟨b0, b1, b2, sr, b3, b4⟩ ⟨A0, A1, A2, A3, A4, k0, k1, k2, k3, k4⟩)) B (tlF xs at') ⟨A0, A1, A2, A3, A4, k0, k1, k2, k3, k4⟩ := by
                  rw [HTF.out]
                  exact ⟨(HS0.out.below ((HXY.out.trans hbz).mono HBB.out)).lie, (HS1.out.below ((HXY.out.trans hbz).mono HBB.out)).lie, (HS2.out.below ((HXY.out.trans hbz).mono HBB.out)).lie, (HS3.out.below ((HXY.out.trans hbz).mono HBB.out)).lie, (HS4.out.below ((HXZ.out.trans hbz).mono HBB.out)).lie⟩
                have hy := TlOut.yes (w := w) HEE.out hin (HX3.out.trans hbz)
                rw [HTF.out, ← HRR.out] at hy
                refine bodyPost_ret (v := .tuple #[.agg (lfV ⟨b0, b1, b2, sr, b3, b4⟩ ⟨A0, A1, A2, A3, A4, k0, k1, k2, k3, k4⟩), .int .i64 (posD xs r 1 : Int), .int .i64 ((0 : Nat) : Int)]) (results_css rfl _ _ w.heap.size LfT (lfV ⟨b0, b1, b2, sr, b3, b4⟩ ⟨A0, A1, A2, A3, A4, k0, k1, k2, k3, k4⟩) (0, 0) _ rfl KZ Try.underlying24 rfl infoLf _ _ rfl rfl) rfl hy
            · have HX1 := hid (HBV.out.trans (hbl.mono HBV.out.size))
              have K4a := hid ((hbl.block _ (block_lt K4v.out)).trans K4v.out)
              have HEE : Hid (tlE xs at' = er5) := hid (by rw [tl_c HE3.out.symm (by rw [← HP3.out.1]; exact HLT.out) (by rw [← HP3.out.1, ← HSR.out]; exact HOK.out) HNB.out (by rw [← HRR.out, ← HER5.out]; exact h0), ← HRR.out, ← HER5.out])
              have H0 := hid h0
              have hne : ¬ (er5 : Int) = 0 := by omega
              have hne2 : ((er5 : Int) != 0) = true := by rw [bne_iff_ne]; exact hne
              clear h0 hbl H5
              go_wp2_with (with_reducible refine wpList_store_row rfl LfT (.tmp 4) _ rfl w.heap.size (lfV lf0 la0) rfl rfl LfT lfZ K4a.out infoLf lfZ_size lfV_one ?_)
              have KZ := setRow_heap _ w.heap.size lfZ (lfV lf0 la0) LfT (0, 0) K4a.out
              have hbz := below_put X1 w.heap.size (lfV lf0 la0) (Nat.le_refl w.heap.size)
              refine bodyPost_ret (v := .tuple #[.agg (lfV lf0 la0), .int .i64 (at' : Int), .int .i64 (er5 : Int)]) (results_css rfl _ _ w.heap.size LfT (lfV lf0 la0) (0, 0) _ rfl KZ Try.underlying24 rfl infoLf _ _ rfl rfl) rfl (TlOut.no HEE.out H0.out (HX1.out.trans hbz))
          · have HX1 := hid (HB3.out.trans (hbl.mono HB3.out.size))
            have K4a := hid ((hbl.block _ (block_lt K43.out)).trans K43.out)
            have HEE : Hid (tlE xs at' = e4) := hid (by rw [tl_b HE3.out.symm (by rw [← HP3.out.1]; exact HLT.out) (by rw [← HP3.out.1, ← HSR.out]; exact HOK.out) (by rw [← HP3.out.1, ← HSR.out, ← HQ.out, ← HE4.out]; exact ⟨H3.out, h0⟩), ← HP3.out.1, ← HQ.out, ← HE4.out])
            have H0 := hid h0
            have hne : ¬ (e4 : Int) = 0 := by omega
            have hne2 : ((e4 : Int) != 0) = true := by rw [bne_iff_ne]; exact hne
            clear h0 hbl H4
            go_wp2_with (with_reducible refine wpList_store_row rfl LfT (.tmp 4) _ rfl w.heap.size (lfV lf0 la0) rfl rfl LfT lfZ K4a.out infoLf lfZ_size lfV_one ?_)
            have KZ := setRow_heap _ w.heap.size lfZ (lfV lf0 la0) LfT (0, 0) K4a.out
            have hbz := below_put Y1 w.heap.size (lfV lf0 la0) (Nat.le_refl w.heap.size)
            refine bodyPost_ret (v := .tuple #[.agg (lfV lf0 la0), .int .i64 (at' : Int), .int .i64 (e4 : Int)]) (results_css rfl _ _ w.heap.size LfT (lfV lf0 la0) (0, 0) _ rfl KZ Try.underlying24 rfl infoLf _ _ rfl rfl) rfl (TlOut.no HEE.out H0.out (HX1.out.trans hbz))
        · have h31 : ¬ (sr : Int) = 3 := by omega
          have HN3 := hid h3
          have HNB : Hid (¬ (srcJ xs (tlP xs at') = 3 ∧ errD xs (tlP xs at' + 1) 1 ≠ 0)) := hid (fun hh => h3 (by rw [HSR.out, HP3.out.1]; exact hh.1))
          obtain ⟨r, hr⟩ : ∃ t, t = q := ⟨_, rfl⟩
          have HRR : Hid (r = tlR xs at') := hid (by unfold tlR; rw [← HP3.out.1, ← HSR.out, if_neg h3, ← HQ.out]; exact hr)
          have HRL0 : Hid (r ≤ xs.length) := hid (by rw [hr]; exact HQL.out)
          rw [← hr] at hw1
          clear hr
          obtain ⟨er5, her5⟩ : ∃ t, t = errD xs r 1 := ⟨_, rfl⟩
          have H5 := hid (HV.out r 1 _ HB3.out HRL0.out (by omega))
          rw [← her5] at H5
          have HER5 : Hid (er5 = errD xs r 1) := hid her5
          clear her5
          go_wp2_with fail
          refine H5.out.mono ?_
          rintro e X1 (⟨h0, v, vs, rfl, ho, hr, hbl⟩ | ⟨h0, z, rfl, hbl⟩)
          · have HE5 := hid (HER5.out.symm.trans h0)
            have HX1 := hid (HB3.out.trans (hbl.mono HB3.out.size))
            have K1a := hid ((hbl.block _ (block_lt K10.out)).trans K10.out)
            have K4a := hid ((hbl.block _ (block_lt K43.out)).trans K43.out)
            obtain ⟨g5, c5, rfl, hg5, hg50, hcell⟩ := own_row3 ho (by omega)
            obtain ⟨A4, k4, hv4, S4⟩ := hr.2 0 (vecJ xs r 0) (by rfl)
            have f0 := hcell _ _ hv4
            obtain ⟨b4, hb4⟩ : ∃ t, t = vecJ xs r 0 := ⟨_, rfl⟩
            rw [← hb4] at f0 S4
            have HB4 := hid hb4; have HS4 := hid S4
            have HXV := hid (hbl.mono HB3.out.size)
            have u5 := cell_of K1a.out 5 _ rfl
            have uf : X1.frozen? ⟨W1.heap.size, 5, none⟩ = false := frozen_of_row _ _ _ _ _ K1a.out
            have K1b : Hid ((X1.setCell ⟨W1.heap.size, 5, none⟩ (.slice A4 b4.length k4)).heap[W1.heap.size]? = some (.cells (lfV ⟨b0, b1, b2, sr, [], b4⟩ ⟨A0, A1, A2, none, A4, k0, k1, k2, 0, k4⟩) LfT (0, 0))) := hid (block_set K1a.out 5 _)
            have K4b : Hid ((X1.setCell ⟨W1.heap.size, 5, none⟩ (.slice A4 b4.length k4)).heap[w.heap.size]? = some (.cells lfZ LfT (0, 0))) := hid (by rw [Below.heap_setCell _ _ _ _ (by simp; have := HW1.out; omega)]; exact K4a.out)
            have HXX : Hid (Below w.heap.size X1 (X1.setCell ⟨W1.heap.size, 5, none⟩ (.slice A4 b4.length k4))) := hid ((Below.refl _ _).setCell (by have := HW1.out; simp; omega) _)
            have HTF : Hid (tlF xs at' = ⟨b0, b1, b2, sr, [], b4⟩) := hid (by unfold tlF; rw [← HV0.out, ← HV1.out, ← HV2.out, ← HP3.out.1, ← HSR.out, ← HRR.out, ← HB4.out, if_neg HN3.out])
            have HTE : Hid (tlE xs at' = if leafB ⟨b0, b1, b2, sr, [], b4⟩ then 0 else 3) := hid (by rw [← HTF.out]; exact tl_d HE3.out.symm (by rw [← HP3.out.1]; exact HLT.out) (by rw [← HP3.out.1, ← HSR.out]; exact HOK.out) HNB.out (by rw [← HRR.out]; exact HE5.out))
            obtain ⟨lb, hlb⟩ : ∃ t, t = leafB ⟨b0, b1, b2, sr, [], b4⟩ := ⟨_, rfl⟩
            have HRL : Hid (∀ X, Calls Try.prog 12 #[.agg (lfV ⟨b0, b1, b2, sr, [], b4⟩ ⟨A0, A1, A2, none, A4, k0, k1, k2, 0, k4⟩)] X (RetB X lb)) := hid fun X => hlb ▸ RightLeaf16_any _ _ X (by show sr < 256; have := HOK.out; omega)
            rw [← hlb] at HTE
            clear h0 ho hr hbl hcell hv4 S4 hb4 hlb H5 K1a K4a
            go_wp2_with (with_reducible refine wpList_load_row rfl LfT (.tmp 10) rfl W1.heap.size rfl LfT (lfV ⟨b0, b1, b2, sr, [], b4⟩ ⟨A0, A1, A2, none, A4, k0, k1, k2, 0, k4⟩) (0, 0) _ K1b.out Try.underlying24 rfl infoLf ?_)
            refine (HRL.out _).mono ?_
            rintro e X3 ⟨rfl, hb3⟩
            have K1c := hid ((hb3.block _ (block_lt K1b.out)).trans K1b.out)
            have K4c := hid ((hb3.block _ (block_lt K4b.out)).trans K4b.out)
            have HXZ := hid (HXX.out.trans (hb3.mono (Nat.le_trans HX1.out.size HXX.out.size)))
            have HX3 := hid (HX1.out.trans HXZ.out)
            have HXY := hid (HXV.out.trans HXZ.out)
            clear hb3 K1b K4b HRL f0 u5 uf HXX
            cases lb with
            | false =>
              have HEE : Hid (tlE xs at' = 3) := hid (by rw [HTE.out]; rfl)
              go_wp2_with (with_reducible refine wpList_store_row rfl LfT (.tmp 4) _ rfl w.heap.size (lfV lf0 la0) rfl rfl LfT lfZ K4c.out infoLf lfZ_size lfV_one ?_)
              have KZ := setRow_heap _ w.heap.size lfZ (lfV lf0 la0) LfT (0, 0) K4c.out
              have hbz := below_put X3 w.heap.size (lfV lf0 la0) (Nat.le_refl w.heap.size)
              refine bodyPost_ret (v := .tuple #[.agg (lfV lf0 la0), .int .i64 (at' : Int), .int .i64 ((3 : Nat) : Int)]) (results_css rfl _ _ w.heap.size LfT (lfV lf0 la0) (0, 0) _ rfl KZ Try.underlying24 rfl infoLf _ _ rfl rfl) rfl (TlOut.no HEE.out (by omega) (HX3.out.trans hbz))
            | true =>
              have HEE : Hid (tlE xs at' = 0) := hid (by rw [HTE.out]; rfl)
              go_wp2_with (first | (with_reducible refine wpList_load_row rfl LfT (.tmp 10) rfl W1.heap.size rfl LfT (lfV ⟨b0, b1, b2, sr, [], b4⟩ ⟨A0, A1, A2, none, A4, k0, k1, k2, 0, k4⟩) (0, 0) _ K1c.out Try.underlying24 rfl infoLf ?_) | (with_reducible refine wpList_store_row rfl LfT (.tmp 4) _ rfl w.heap.size (lfV ⟨b0, b1, b2, sr, [], b4⟩ ⟨A0, A1, A2, none, A4, k0, k1, k2, 0, k4⟩) rfl rfl LfT lfZ K4c.out infoLf lfZ_size lfV_one ?_))
              have KZ := setRow_heap _ w.heap.size lfZ (lfV ⟨b0, b1, b2, sr, [], b4⟩ ⟨A0, A1, A2, none, A4, k0, k1, k2, 0, k4⟩) LfT (0, 0) K4c.out
              have hbz := below_put X3 w.heap.size (lfV ⟨b0, b1, b2, sr, [], b4⟩ ⟨A0, A1, A2, none, A4, k0, k1, k2, 0, k4⟩) (Nat.le_refl w.heap.size)
              have hin : LfB (X3.setRow w.heap.size (lfV ⟨b0, b1, b2, sr, [], b4⟩ ⟨A0, A1, A2, none, A4, k0, k1, k2, 0, k4⟩)) B (tlF xs at') ⟨A0, A1, A2, none, A4, k0, k1, k2, 0, k4⟩ := by
                rw [HTF.out]
                exact ⟨(HS0.out.below ((HXY.out.trans hbz).mono HBB.out)).lie, (HS1.out.below ((HXY.out.trans hbz).mono HBB.out)).lie, (HS2.out.below ((HXY.out.trans hbz).mono HBB.out)).lie, Lie.nil, (HS4.out.below ((HXZ.out.trans hbz).mono HBB.out)).lie⟩
              have hy := TlOut.yes (w := w) HEE.out hin (HX3.out.trans hbz)
              rw [HTF.out, ← HRR.out] at hy
              refine bodyPost_ret (v := .tuple #[.agg (lfV ⟨b0, b1, b2, sr, [], b4⟩ ⟨A0, A1, A2, none, A4, k0, k1, k2, 0, k4⟩), .int .i64 (posD xs r 1 : Int), .int .i64 ((0 : Nat) : Int)]) (results_css rfl _ _ w.heap.size LfT (lfV ⟨b0, b1, b2, sr, [], b4⟩ ⟨A0, A1, A2, none, A4, k0, k1, k2, 0, k4⟩) (0, 0) _ rfl KZ Try.underlying24 rfl infoLf _ _ rfl rfl) rfl hy
          · have HX1 := hid (HB3.out.trans (hbl.mono HB3.out.size))
            have K4a := hid ((hbl.block _ (block_lt K43.out)).trans K43.out)
            have HEE : Hid (tlE xs at' = er5) := hid (by rw [tl_c HE3.out.symm (by rw [← HP3.out.1]; exact HLT.out) (by rw [← HP3.out.1, ← HSR.out]; exact HOK.out) HNB.out (by rw [← HRR.out, ← HER5.out]; exact h0), ← HRR.out, ← HER5.out])
            have H0 := hid h0
            have hne : ¬ (er5 : Int) = 0 := by omega
            have hne2 : ((er5 : Int) != 0) = true := by rw [bne_iff_ne]; exact hne
            clear h0 hbl H5
            go_wp2_with (with_reducible refine wpList_store_row rfl LfT (.tmp 4) _ rfl w.heap.size (lfV lf0 la0) rfl rfl LfT lfZ K4a.out infoLf lfZ_size lfV_one ?_)
            have KZ := setRow_heap _ w.heap.size lfZ (lfV lf0 la0) LfT (0, 0) K4a.out
            have hbz := below_put X1 w.heap.size (lfV lf0 la0) (Nat.le_refl w.heap.size)
            refine bodyPost_ret (v := .tuple #[.agg (lfV lf0 la0), .int .i64 (at' : Int), .int .i64 (er5 : Int)]) (results_css rfl _ _ w.heap.size LfT (lfV lf0 la0) (0, 0) _ rfl KZ Try.underlying24 rfl infoLf _ _ rfl rfl) rfl (TlOut.no HEE.out H0.out (HX1.out.trans hbz))
    · have hge : (p3 : Int) ≥ (xs.length : Int) := by omega
      have hd : decide ((p3 : Int) ≥ (xs.length : Int)) = true := by simpa using hge
      have HE : Hid (tlE xs at' = 4) := hid (by unfold tlE; rw [if_neg (by rw [← HE3.out]; simp), if_pos (by rw [← HP3.out.1]; omega)])
      go_wp2_with (with_reducible refine wpList_store_row rfl LfT (.tmp 4) _ rfl w.heap.size (lfV lf0 la0) rfl rfl LfT lfZ K42.out infoLf lfZ_size lfV_one ?_)
      have KZ := setRow_heap _ w.heap.size lfZ (lfV lf0 la0) LfT (0, 0) K42.out
      have hbz := below_put W1 w.heap.size (lfV lf0 la0) (Nat.le_refl w.heap.size)
      refine bodyPost_ret (v := .tuple #[.agg (lfV lf0 la0), .int .i64 (at' : Int), .int .i64 ((4 : Nat) : Int)]) (results_css rfl _ _ w.heap.size LfT (lfV lf0 la0) (0, 0) _ rfl KZ Try.underlying24 rfl infoLf _ _ rfl rfl) rfl (TlOut.no HE.out (by omega) (HB2.out.trans hbz))
  · have HB2 := hid (HB1.out.trans (hbl.mono HB1.out.size))
    have K42 := hid ((hbl.block _ (block_lt K4.out)).trans K4.out)
    have hne : ¬ (e3 : Int) = 0 := by omega
    have hne2 : ((e3 : Int) != 0) = true := by rw [bne_iff_ne]; exact hne
    have HE : Hid (tlE xs at' = e3) := hid (by unfold tlE; rw [if_pos (by rw [← HE3.out]; exact h0), HE3.out])
    have H0 := hid h0
    clear h0 hbl H1 HB1 K4
    go_wp2_with (with_reducible refine wpList_store_row rfl LfT (.tmp 4) _ rfl w.heap.size (lfV lf0 la0) rfl rfl LfT lfZ K42.out infoLf lfZ_size lfV_one ?_)
    have KZ := setRow_heap _ w.heap.size lfZ (lfV lf0 la0) LfT (0, 0) K42.out
    have hbz := below_put W1 w.heap.size (lfV lf0 la0) (Nat.le_refl w.heap.size)
    refine bodyPost_ret (v := .tuple #[.agg (lfV lf0 la0), .int .i64 (at' : Int), .int .i64 (e3 : Int)]) (results_css rfl _ _ w.heap.size LfT (lfV lf0 la0) (0, 0) _ rfl KZ Try.underlying24 rfl infoLf _ _ rfl rfl) rfl (TlOut.no HE.out H0.out (HB2.out.trans hbz))
end Go.Proofs.Ytlgcdddgahjknaa
end
section
namespace Go.Proofs.Ytlgcdddgahjknaa
open Go Go.RowKit
set_option linter.unusedVariables false
set_option linter.unusedSimpArgs false
abbrev ndZ : Array Value := #[.int .u8 0, .slice none 0 0, .slice none 0 0, .slice none 0 0, .int .u8 0, .slice none 0 0, .slice none 0 0, .slice none 0 0, .slice none 0 0, .slice none 0 0]
theorem ndZ_size {k : Nat} {x : Lf} {a : LA} {y : Pnt} {b : PA} : ndZ.size = (ndV k x a y b).size := rfl
theorem ndV_one {k : Nat} {x : Lf} {a : LA} {y : Pnt} {b : PA} : (ndV k x a y b).all (·.oneCell') = true := by simp [Value.oneCell']
/-- Numbers of four bytes each. -/
def lateAt (v : List UInt8) (j : Nat) : Int := ((((v.getD (4 * j) 0).toNat * 256 + (v.getD (4 * j + 1) 0).toNat) * 256 + (v.getD (4 * j + 2) 0).toNat) * 256 + (v.getD (4 * j + 3) 0).toNat : Nat)
def lateOf (v : List UInt8) (n : Nat) : List Int := (List.range n).map (lateAt v)
def tkU (xs : List UInt8) (i : Nat) : Pnt := ⟨vecJ xs (i + 1) 0, vecJ xs (i + 1) 1, lateOf (vecJ xs (i + 1) 2) ((vecJ xs (i + 1) 2).length / 4)⟩
def tkE (xs : List UInt8) (i : Nat) : Nat :=
  if xs.length ≤ i then 4
  else if srcJ xs i = 0 then 0
  else if srcJ xs i = 1 then tlE xs (i + 1)
  else if srcJ xs i ≠ 2 then 3
  else if errD xs (i + 1) 3 ≠ 0 then errD xs (i + 1) 3
  else if (vecJ xs (i + 1) 2).length % 4 = 0 ∧ parB (tkU xs i) = true then 0 else 3
def tkN (xs : List UInt8) (i : Nat) : Nat := if tkE xs i = 0 then (if srcJ xs i = 0 then i + 1 else if srcJ xs i = 1 then tlN xs (i + 1) else posD xs (i + 1) 3) else i
def tkK (xs : List UInt8) (i : Nat) : Nat := if tkE xs i = 0 then srcJ xs i else 0
def tkL (xs : List UInt8) (i : Nat) : Lf := if tkE xs i = 0 ∧ srcJ xs i = 1 then tlX xs (i + 1) else lf0
def tkP (xs : List UInt8) (i : Nat) : Pnt := if tkE xs i = 0 ∧ srcJ xs i = 2 then tkU xs i else pr0
/-- A parent that lies: its bytes below B, its numbers in memory that is new. -/
def PrF (w' : World) (B base : Nat) (y : Pnt) (b : PA) : Prop := Lie w' B b.a0 (bvs y.box) ∧ Lie w' B b.a1 (bvs y.hash) ∧ Lie w' w'.heap.size b.a2 (izs y.late) ∧ (izs y.late ≠ [] → ∃ g o, b.a2 = some ⟨g, o, none⟩ ∧ base ≤ g)
theorem PrF.in_ {w' : World} {B base : Nat} {y : Pnt} {b : PA} (h : PrF w' B base y b) (hB : B ≤ w'.heap.size) : PrIn w' y b := ⟨h.1.more hB, h.2.1.more hB, h.2.2.1⟩
theorem pr0_f (w' : World) (B base : Nat) : PrF w' B base pr0 pa0 := ⟨Lie.nil, Lie.nil, Lie.nil, fun h => absurd rfl h⟩
theorem lf0_b (w' : World) (B : Nat) : LfB w' B lf0 la0 := ⟨Lie.nil, Lie.nil, Lie.nil, Lie.nil, Lie.nil⟩
def TkOut (w : World) (B : Nat) (xs : List UInt8) (i : Nat) (e : Ending) (w' : World) : Prop := ∃ a b, e = .returned (.tuple #[.agg (ndV (tkK xs i) (tkL xs i) a (tkP xs i) b), .int .i64 (tkN xs i : Int), .int .i64 (tkE xs i : Int)]) ∧ LfB w' B (tkL xs i) a ∧ PrF w' B w.heap.size (tkP xs i) b ∧ Below w.heap.size w w'
theorem TkOut.no {w w' : World} {B : Nat} {xs : List UInt8} {i er : Nat} (h : tkE xs i = er) (h0 : er ≠ 0) (hb : Below w.heap.size w w') : TkOut w B xs i (.returned (.tuple #[.agg (ndV 0 lf0 la0 pr0 pa0), .int .i64 (i : Int), .int .i64 (er : Int)])) w' := by
  have h2 : tkL xs i = lf0 := by unfold tkL; rw [if_neg (by omega)]
  have h4 : tkP xs i = pr0 := by unfold tkP; rw [if_neg (by omega)]
  have h5 : tkK xs i = 0 := by unfold tkK; rw [if_neg (by omega)]
  have h3 : tkN xs i = i := by unfold tkN; rw [if_neg (by omega)]
  exact ⟨la0, pa0, by rw [h2, h3, h4, h5, h], by rw [h2]; exact lf0_b _ _, by rw [h4]; exact pr0_f _ _ _, hb⟩
theorem TkOut.nil {w w' : World} {B : Nat} {xs : List UInt8} {i : Nat} (hl : i < xs.length) (h : srcJ xs i = 0) (hb : Below w.heap.size w w') : TkOut w B xs i (.returned (.tuple #[.agg (ndV 0 lf0 la0 pr0 pa0), .int .i64 ((i + 1 : Nat) : Int), .int .i64 ((0 : Nat) : Int)])) w' := by
  have hE : tkE xs i = 0 := by unfold tkE; rw [if_neg (by omega), if_pos h]
  have h2 : tkL xs i = lf0 := by unfold tkL; rw [if_neg (by omega)]
  have h4 : tkP xs i = pr0 := by unfold tkP; rw [if_neg (by omega)]
  have h5 : tkK xs i = 0 := by unfold tkK; rw [if_pos hE, h]
  have h3 : tkN xs i = i + 1 := by unfold tkN; rw [if_pos hE, if_pos h]
  exact ⟨la0, pa0, by rw [h2, h3, h4, h5, hE], by rw [h2]; exact lf0_b _ _, by rw [h4]; exact pr0_f _ _ _, hb⟩
theorem TkOut.leaf {w w' : World} {B : Nat} {xs : List UInt8} {i : Nat} {a : LA} (hl : i < xs.length) (h : srcJ xs i = 1) (h0 : tlE xs (i + 1) = 0) (hi : LfB w' B (tlX xs (i + 1)) a) (hb : Below w.heap.size w w') : TkOut w B xs i (.returned (.tuple #[.agg (ndV 1 (tlX xs (i + 1)) a pr0 pa0), .int .i64 (tlN xs (i + 1) : Int), .int .i64 ((0 : Nat) : Int)])) w' := by
  have hE : tkE xs i = 0 := by unfold tkE; rw [if_neg (by omega), if_neg (by omega), if_pos h, h0]
  have h2 : tkL xs i = tlX xs (i + 1) := by unfold tkL; rw [if_pos ⟨hE, h⟩]
  have h4 : tkP xs i = pr0 := by unfold tkP; rw [if_neg (by omega)]
  have h5 : tkK xs i = 1 := by unfold tkK; rw [if_pos hE, h]
  have h3 : tkN xs i = tlN xs (i + 1) := by unfold tkN; rw [if_pos hE, if_neg (by omega), if_pos h]
  exact ⟨a, pa0, by rw [h2, h3, h4, h5, hE], by rw [h2]; exact hi, by rw [h4]; exact pr0_f _ _ _, hb⟩
theorem lateOf_length (v : List UInt8) (n : Nat) : (lateOf v n).length = n := by unfold lateOf; simp
theorem put_far (w : World) {g : Nat} (cs : Array Value) {p : Addr} (h : p.block ≠ g) : (w.setRow g cs).cell? p = w.cell? p := by
  unfold World.cell?
  rw [setRow_other _ _ _ _ h]
/-- A row of our own lies where all behind its base stays. -/
theorem own_lie {w w' : World} {b0 n : Nat} {t : TypeId} {A : Option Addr} {c : Nat} {vs : List Value} (h : w.ownsRow b0 t 1 (.slice A n c) n vs) (hf : ∀ p : Addr, b0 ≤ p.block → p.block < w.heap.size → w'.cell? p = w.cell? p) (hz : w.heap.size ≤ w'.heap.size) : Lie w' w'.heap.size A vs ∧ (vs ≠ [] → ∃ g o, A = some ⟨g, o, none⟩ ∧ b0 ≤ g) := by
  suffices H : vs ≠ [] → ∃ g, A = some ⟨g, 0, none⟩ ∧ b0 ≤ g ∧ g < w'.heap.size ∧ ∀ j u, vs[j]? = some u → w'.cell? ⟨g, 0 + j, none⟩ = some u from
    ⟨fun hne => by obtain ⟨g, h1, h2, h3, h4⟩ := H hne; exact ⟨g, 0, h1, h3, h4⟩, fun hne => by obtain ⟨g, h1, h2, -, -⟩ := H hne; exact ⟨g, 0, h1, h2⟩⟩
  intro hne
  have hl := h.1
  have hn : 0 < n := by have := List.length_pos_iff.2 hne; omega
  obtain ⟨g, k, hv, hg, hb, hc⟩ := own_row3 h hn
  injection hv with hA _ _
  exact ⟨g, hA, hb, by omega, fun j u hu => by rw [Nat.zero_add, hf _ hb hg]; exact hc j u hu⟩
theorem TkOut.par {w w' : World} {B : Nat} {xs : List UInt8} {i : Nat} {b : PA} (hl : i < xs.length) (h : srcJ xs i = 2) (h3 : errD xs (i + 1) 3 = 0) (hm : (vecJ xs (i + 1) 2).length % 4 = 0) (hp : parB (tkU xs i) = true) (hi : PrF w' B w.heap.size (tkU xs i) b) (hb : Below w.heap.size w w') : TkOut w B xs i (.returned (.tuple #[.agg (ndV 2 lf0 la0 (tkU xs i) b), .int .i64 (posD xs (i + 1) 3 : Int), .int .i64 ((0 : Nat) : Int)])) w' := by
  have hE : tkE xs i = 0 := by unfold tkE; rw [if_neg (by omega), if_neg (by omega), if_neg (by omega), if_neg (by omega), if_neg (by simp [h3]), if_pos ⟨hm, hp⟩]
  have h2 : tkL xs i = lf0 := by unfold tkL; rw [if_neg (by omega)]
  have h4 : tkP xs i = tkU xs i := by unfold tkP; rw [if_pos ⟨hE, h⟩]
  have h5 : tkK xs i = 2 := by unfold tkK; rw [if_pos hE, h]
  have h6 : tkN xs i = posD xs (i + 1) 3 := by unfold tkN; rw [if_pos hE, if_neg (by omega), if_neg (by omega)]
  exact ⟨la0, b, by rw [h2, h6, h4, h5, hE], by rw [h2]; exact lf0_b _ _, by rw [h4]; exact hi, hb⟩
theorem tk_bad {xs : List UInt8} {i : Nat} (hl : i < xs.length) (h : srcJ xs i = 2) (h3 : errD xs (i + 1) 3 = 0) (hm : ¬ ((vecJ xs (i + 1) 2).length % 4 = 0 ∧ parB (tkU xs i) = true)) : tkE xs i = 3 := by
  unfold tkE; rw [if_neg (by omega), if_neg (by omega), if_neg (by omega), if_neg (by omega), if_neg (by simp [h3]), if_neg hm]
theorem late_step (v : List UInt8) (j : Nat) : lateOf v (j + 1) = lateOf v j ++ [lateAt v j] := by unfold lateOf; rw [List.range_succ, List.map_append]; rfl
theorem wrap_step {m k : Nat} (h : m + k ≤ 1000000000) : IntKind.i64.wrap ((m : Int) + (k : Int)) = ((m + k : Nat) : Int) := (IntWalk.i64_in _ (by omega)).trans (by omega)
theorem u8_wrap (x : Nat) (h : x < 256) : IntKind.i64.wrap (x : Int) = (x : Int) := IntWalk.i64_in _ (by omega)
theorem four_1 (a : Nat) (ha : a < 256) : IntKind.i64.wrap ((a : Int) * 256) = (a : Int) * 256 := IntWalk.i64_in _ (by omega)
theorem four_2 (a b : Nat) (ha : a < 256) (hb : b < 256) : IntKind.i64.wrap ((a : Int) * 256 + (b : Int)) = (a : Int) * 256 + (b : Int) := IntWalk.i64_in _ (by omega)
theorem four_3 (a b : Nat) (ha : a < 256) (hb : b < 256) : IntKind.i64.wrap (((a : Int) * 256 + (b : Int)) * 256) = ((a : Int) * 256 + (b : Int)) * 256 := IntWalk.i64_in _ (by omega)
theorem four_4 (a b c : Nat) (ha : a < 256) (hb : b < 256) (hc : c < 256) : IntKind.i64.wrap (((a : Int) * 256 + (b : Int)) * 256 + (c : Int)) = ((a : Int) * 256 + (b : Int)) * 256 + (c : Int) := IntWalk.i64_in _ (by omega)
theorem four_5 (a b c : Nat) (ha : a < 256) (hb : b < 256) (hc : c < 256) : IntKind.i64.wrap ((((a : Int) * 256 + (b : Int)) * 256 + (c : Int)) * 256) = (((a : Int) * 256 + (b : Int)) * 256 + (c : Int)) * 256 := IntWalk.i64_in _ (by omega)
theorem four_6 (a b c d : Nat) (ha : a < 256) (hb : b < 256) (hc : c < 256) (hd : d < 256) : IntKind.i64.wrap ((((a : Int) * 256 + (b : Int)) * 256 + (c : Int)) * 256 + (d : Int)) = (((a : Int) * 256 + (b : Int)) * 256 + (c : Int)) * 256 + (d : Int) := IntWalk.i64_in _ (by omega)
set_option maxRecDepth 100000 in
set_option maxHeartbeats 8000000 in
theorem TakeN16_any (A : Option Addr) (xs : List UInt8) (c at' B : Nat) (w : World) (hA : Sq w B A c (bvs xs)) (hB : B ≤ w.heap.size) (hb : xs.length ≤ 1000000) (hat : at' ≤ xs.length) :
    Calls Try.prog 17 #[.slice A xs.length c, .int .i64 (at' : Int)] w (TkOut w B xs at') := by
  have HTL : Hid (∀ i W, Below w.heap.size w W → i ≤ xs.length → Calls Try.prog 20 #[.slice A xs.length c, .int .i64 (i : Int)] W (TlOut W B xs i)) := hid fun i W h hi => TakeLeaf16_any A xs c i B W (hA.below (h.mono hB)) (Nat.le_trans hB h.size) hb hi
  have HV : Hid (∀ i n W, Below w.heap.size w W → i ≤ xs.length → n ≤ 1000 → _) := hid fun i n W (h : Below w.heap.size w W) (hi : i ≤ xs.length) (hn : n ≤ 1000) => vecs16 A xs c i n B W (hA.below (h.mono hB)) (Nat.le_trans hB h.size) hb hi hn
  have HXB := hid hb; have HAT := hid hat; have HA := hid hA; have HBB := hid hB
  clear hA hb hat hB
  go_enter Try.func17, Try.ntmps17
  have K4 : Hid ((w.alloc (.cells ndZ NdT)).heap[w.heap.size]? = some (.cells ndZ NdT (0, 0))) := hid (heap_alloc_new w _)
  have HB1 : Hid (Below w.heap.size w (w.alloc (.cells ndZ NdT))) := hid ((Below.refl _ _).alloc (Nat.le_refl _) _)
  have hbuild := build_nd
  by_cases hlt : at' < xs.length
  · have HLT := hid hlt
    have hge : ¬ (at' : Int) ≥ (xs.length : Int) := by omega
    have hd : decide ((at' : Int) ≥ (xs.length : Int)) = false := by simpa using hge
    have hA1 := HA.out.below (HB1.out.mono HBB.out)
    obtain ⟨bA, oA, rfl, hbA, hbyte⟩ := sq_at hA1 (by omega)
    have dz := hbyte at' hlt
    obtain ⟨sr, hsr⟩ : ∃ t, t = (xs.getD at' 0).toNat := ⟨_, rfl⟩
    rw [← hsr] at dz
    have HSR : Hid (sr = srcJ xs at') := hid hsr
    have hw1 : wrap64 ((at' : Int) + 1) = ((at' + 1 : Nat) : Int) := by rw [wrap64_in' (by omega) (by have := HXB.out; omega)]; omega
    obtain ⟨q, hq⟩ : ∃ t, t = at' + 1 := ⟨_, rfl⟩
    rw [← hq] at hw1
    have HQ := hid hq
    clear hsr hbyte hA1 hbA hq
    by_cases h0 : sr = 0
    · have hz1 : (sr : Int) = 0 := by omega
      have H0 := hid h0
      clear h0
      go_wp2_with (first | (with_reducible refine wpList_store_row rfl NdT (.tmp 4) _ rfl w.heap.size (ndV 0 lf0 la0 pr0 pa0) rfl rfl NdT ndZ K4.out infoNd16 ndZ_size ndV_one ?_))
      have KZ := setRow_heap _ w.heap.size ndZ (ndV 0 lf0 la0 pr0 pa0) NdT (0, 0) K4.out
      have hbz := below_put (w.alloc (.cells ndZ NdT)) w.heap.size (ndV 0 lf0 la0 pr0 pa0) (Nat.le_refl w.heap.size)
      refine bodyPost_ret (v := .tuple #[.agg (ndV 0 lf0 la0 pr0 pa0), .int .i64 (q : Int), .int .i64 ((0 : Nat) : Int)]) (results_css rfl _ _ w.heap.size NdT (ndV 0 lf0 la0 pr0 pa0) (0, 0) _ rfl KZ Try.underlying29 rfl infoNd16 _ _ rfl rfl) rfl (by rw [HQ.out]; exact TkOut.nil HLT.out (HSR.out.symm.trans H0.out) (HB1.out.trans hbz))
    · have hz1 : ¬ (sr : Int) = 0 := by omega
      have H0 := hid h0
      by_cases h1 : sr = 1
      · have hz2 : (sr : Int) = 1 := by omega
        have H1 := hid h1
        have HL := hid (HTL.out q _ HB1.out (by rw [HQ.out]; exact hlt))
        obtain ⟨nx, hnx⟩ : ∃ t, t = tlN xs q := ⟨_, rfl⟩
        obtain ⟨er, her⟩ : ∃ t, t = tlE xs q := ⟨_, rfl⟩
        obtain ⟨X, hX⟩ : ∃ t, t = tlX xs q := ⟨_, rfl⟩
        unfold TlOut at HL
        rw [← hnx, ← her, ← hX] at HL
        have HNX := hid hnx; have HER := hid her; have HXX := hid hX
        clear h0 h1 hnx her hX hlt
        go_wp2_with fail
        refine HL.out.mono ?_
        rintro e W1 ⟨a, rfl, hin, hbl⟩
        have HI := hid hin
        have HB2 := hid (HB1.out.trans (hbl.mono HB1.out.size))
        have K42 := hid ((hbl.block _ (block_lt K4.out)).trans K4.out)
        have HW1 : Hid (w.heap.size < W1.heap.size) := hid (block_lt K42.out)
        have K7 : Hid ((W1.alloc (.cells (lfV X a) LfT)).heap[W1.heap.size]? = some (.cells (lfV X a) LfT (0, 0))) := hid (heap_alloc_new W1 _)
        have hal : Below W1.heap.size W1 (W1.alloc (.cells (lfV X a) LfT)) := (Below.refl _ _).alloc (Nat.le_refl _) _
        have K43 : Hid ((W1.alloc (.cells (lfV X a) LfT)).heap[w.heap.size]? = some (.cells ndZ NdT (0, 0))) := hid ((hal.block _ (block_lt K42.out)).trans K42.out)
        have HB3 : Hid (Below w.heap.size w (W1.alloc (.cells (lfV X a) LfT))) := hid (HB2.out.trans (hal.mono HB2.out.size))
        have HIB : Hid (LfB (W1.alloc (.cells (lfV X a) LfT)) B X a) := hid (HI.out.on (hal.mono (Nat.le_trans HBB.out HB2.out.size)))
        clear hin hbl HL HB1 K4 hal dz
        by_cases he : er = 0
        · subst he
          have hbuild1 : ∀ V : World, (Instr.build NdT #[(0, .int .u8 1), (1, .agg (lfV X a))]).run Try.prog V = .ok (.agg (ndV 1 X a pr0 pa0)) V := fun V => run_build V NdT _ _ (by kernel_rfl)
          go_wp2_with (first | (with_reducible refine wpList_store_row rfl NdT (.tmp 4) _ rfl w.heap.size (ndV 1 X a pr0 pa0) rfl rfl NdT ndZ K43.out infoNd16 ndZ_size ndV_one ?_) | (with_reducible refine wpList_load_row rfl LfT (.tmp 7) rfl W1.heap.size rfl LfT (lfV X a) (0, 0) _ K7.out Try.underlying24 rfl infoLf ?_))
          have KZ := setRow_heap _ w.heap.size ndZ (ndV 1 X a pr0 pa0) NdT (0, 0) K43.out
          have hbz := below_put (W1.alloc (.cells (lfV X a) LfT)) w.heap.size (ndV 1 X a pr0 pa0) (Nat.le_refl w.heap.size)
          refine bodyPost_ret (v := .tuple #[.agg (ndV 1 X a pr0 pa0), .int .i64 (nx : Int), .int .i64 ((0 : Nat) : Int)]) (results_css rfl _ _ w.heap.size NdT (ndV 1 X a pr0 pa0) (0, 0) _ rfl KZ Try.underlying29 rfl infoNd16 _ _ rfl rfl) rfl (by have h := TkOut.leaf (w := w) (a := a) HLT.out (HSR.out.symm.trans H1.out) (by rw [← HQ.out]; exact HER.out.symm) (by rw [← HQ.out, ← HXX.out]; exact HIB.out.on (hbz.mono HBB.out)) (HB3.out.trans hbz); rw [← HQ.out, ← HXX.out, ← HNX.out] at h; exact h)
        · have hne : ¬ (er : Int) = 0 := by omega
          have hne2 : ((er : Int) != 0) = true := by rw [bne_iff_ne]; exact hne
          have HE0 := hid he
          have HEE : Hid (tkE xs at' = er) := hid (by unfold tkE; rw [if_neg (by have := HLT.out; omega), if_neg (by rw [← HSR.out]; exact H0.out), if_pos (HSR.out.symm.trans H1.out), ← HQ.out, HER.out])
          clear he
          go_wp2_with (first | (with_reducible refine wpList_store_row rfl NdT (.tmp 4) _ rfl w.heap.size (ndV 0 lf0 la0 pr0 pa0) rfl rfl NdT ndZ K43.out infoNd16 ndZ_size ndV_one ?_))
          have KZ := setRow_heap _ w.heap.size ndZ (ndV 0 lf0 la0 pr0 pa0) NdT (0, 0) K43.out
          have hbz := below_put (W1.alloc (.cells (lfV X a) LfT)) w.heap.size (ndV 0 lf0 la0 pr0 pa0) (Nat.le_refl w.heap.size)
          refine bodyPost_ret (v := .tuple #[.agg (ndV 0 lf0 la0 pr0 pa0), .int .i64 (at' : Int), .int .i64 (er : Int)]) (results_css rfl _ _ w.heap.size NdT (ndV 0 lf0 la0 pr0 pa0) (0, 0) _ rfl KZ Try.underlying29 rfl infoNd16 _ _ rfl rfl) rfl (TkOut.no HEE.out HE0.out (HB3.out.trans hbz))
      · have hz2 : ¬ (sr : Int) = 1 := by omega
        have H1 := hid h1
        by_cases h2 : sr = 2
        · have hz3 : (sr : Int) = 2 := by omega
          have H2 := hid h2
          obtain ⟨e3, he3⟩ : ∃ t, t = errD xs q 3 := ⟨_, rfl⟩
          obtain ⟨p3, hp3⟩ : ∃ t, t = posD xs q 3 := ⟨_, rfl⟩
          have HV3 := hid (HV.out q 3 _ HB1.out (by rw [HQ.out]; exact hlt) (by omega))
          rw [← he3, ← hp3] at HV3
          have HE3 : Hid (e3 = errD xs q 3) := hid he3
          have HP3 : Hid (p3 = posD xs q 3) := hid hp3
          clear h0 h1 h2 he3 hp3 hlt
          go_wp2_with fail
          refine HV3.out.mono ?_
          rintro e W1 (⟨h0, v, vs, rfl, ho, hr, hbl⟩ | ⟨h0, z, rfl, hbl⟩)
          · subst h0
            have HB2 := hid (HB1.out.trans (hbl.mono HB1.out.size))
            have K42 := hid ((hbl.block _ (block_lt K4.out)).trans K4.out)
            obtain ⟨g1, c1, rfl, hg1, hg0, hcell⟩ := own_row3 ho (by omega)
            obtain ⟨A0, k0, hv0, S0⟩ := hr.2 0 (vecJ xs q 0) (by rfl)
            obtain ⟨A1, k1, hv1, S1⟩ := hr.2 1 (vecJ xs q 1) (by rfl)
            obtain ⟨A2, k2, hv2, S2⟩ := hr.2 2 (vecJ xs q 2) (by rfl)
            have d0 := hcell _ _ hv0; have d1 := hcell _ _ hv1; have d2 := hcell _ _ hv2
            obtain ⟨b0, hb0⟩ : ∃ t, t = vecJ xs q 0 := ⟨_, rfl⟩
            obtain ⟨b1, hb1⟩ : ∃ t, t = vecJ xs q 1 := ⟨_, rfl⟩
            obtain ⟨b2, hb2⟩ : ∃ t, t = vecJ xs q 2 := ⟨_, rfl⟩
            rw [← hb0] at S0 d0
            rw [← hb1] at S1 d1
            rw [← hb2] at S2 d2
            have HV0 := hid hb0; have HV1 := hid hb1; have HV2 := hid hb2
            have HT0 := hid S0; have HT1 := hid S1; have HT2 := hid S2; have HD2 := hid d2
            have HW1 : Hid (w.heap.size < W1.heap.size) := hid (block_lt K42.out)
            have HG1 : Hid (g1 < W1.heap.size) := hid hg1
            have hfar : ∀ p : Addr, p.block < W1.heap.size → W1.drew.cell? p = W1.cell? p := fun p hp => rfl
            have e0 := (hfar ⟨g1, 0, none⟩ hg1).trans d0; have e1 := (hfar ⟨g1, 1, none⟩ hg1).trans d1
            clear hfar hv0 hv1 hv2 hb0 hb1 hb2 S0 S1 S2 ho hr hbl hcell HV3 dz
            go_wp2
            go_region
            clear d0 d1 d2 e0 e1 hg1 hg0 hbuild hd hge
            generalize hW : World.drew _ = W
            have T2 : W = _ := hW.symm
            have HW : Hid (Below W1.heap.size W1 W) := hid (by rw [T2]; exact ((Below.refl W1.heap.size W1).alloc (Nat.le_refl _) _).drew)
            have K13 : Hid (W.heap[W1.heap.size]? = some (.cells (prV ⟨b0, b1, []⟩ ⟨A0, A1, none, k0, k1, 0⟩) PrT (0, 0))) := hid (by rw [T2]; exact heap_alloc_new W1 _)
            have HWZ : Hid (W.heap.size = W1.heap.size + 1) := hid (by rw [T2]; exact Array.size_push ..)
            clear hW T2
            obtain ⟨n, hn⟩ : ∃ t, t = b2.length / 4 := ⟨_, rfl⟩
            have HN := hid hn
            have HL2 : Hid (b2.length ≤ 1000000) := hid (by rw [HV2.out]; exact Nat.le_trans (vecAt_length _) (by rw [List.length_drop]; have := HXB.out; omega))
            have HS2 := hid (HT2.out.below (HW.out.mono (Nat.le_trans HBB.out HB2.out.size)))
            clear hn
            go_wp2
            go_loopg [14] n (fun r i wr => ∃ (j : Nat) (AL : Option Addr) (cL : Nat), j + r = n ∧ i = .int .i64 ((4 * j : Nat) : Int) ∧ wr.heap[W1.heap.size]? = some (.cells (prV ⟨b0, b1, lateOf b2 j⟩ ⟨A0, A1, AL, k0, k1, cL⟩) PrT (0, 0)) ∧ wr.ownsRow (W1.heap.size + 1) 3 1 (.slice AL j cL) j (izs (lateOf b2 j)) ∧ Below W1.heap.size W1 wr)
            case atStart => exact ⟨0, none, 0, by omega, rfl, K13.out, World.ownsRow_nil _ _ _ _, HW.out⟩
            case round =>
              obtain ⟨j, AL, cL, hj, rfl, hk, ho, hb⟩ := hrel
              have HJ := hid hj; have HK := hid hk; have HO := hid ho; have HB := hid hb
              have d2 : wr.cell? ⟨g1, 2, none⟩ = some (.slice A2 b2.length k2) := (hb.cell (p := ⟨g1, 2, none⟩) HG1.out).trans HD2.out
              obtain ⟨m, hm⟩ : ∃ t, t = 4 * j := ⟨_, rfl⟩
              rw [← hm]
              have HM := hid hm
              have hw4 : wrap64 ((m : Int) + 4) = ((m + 4 : Nat) : Int) := by rw [wrap64_in' (by omega) (by have := HL2.out; have := HN.out; omega)]; omega
              obtain ⟨m4, hm4⟩ : ∃ t, t = m + 4 := ⟨_, rfl⟩
              rw [← hm4] at hw4
              have HM4 := hid hm4
              clear hk ho hb hj hm hm4
              by_cases hlt : j < n
              · have hle : (m4 : Int) ≤ (b2.length : Int) := by have := HM4.out; have := HM.out; have := HN.out; omega
                have hle2 : m4 ≤ b2.length := by omega
                have HBB2 : Hid (B ≤ W1.heap.size) := hid (Nat.le_trans HBB.out HB2.out.size)
                have hA2 := HT2.out.below (HB.out.mono HBB2.out)
                obtain ⟨bB, oB, rfl, hbB, hby⟩ := sq_at hA2 (by have := HM4.out; omega)
                have GB : Hid (bB < wr.heap.size) := hid (Nat.lt_of_lt_of_le hbB (Nat.le_trans HBB2.out HB.out.size))
                have GG : Hid (g1 < wr.heap.size) := hid (Nat.lt_of_lt_of_le HG1.out HB.out.size)
                have D2 := hid d2
                obtain ⟨m1, hm1⟩ : ∃ t, t = m + 1 := ⟨_, rfl⟩
                obtain ⟨m2, hm2⟩ : ∃ t, t = m + 2 := ⟨_, rfl⟩
                obtain ⟨m3, hm3⟩ : ∃ t, t = m + 3 := ⟨_, rfl⟩
                have hm4 := HM4.out; have hl := HL2.out
                have V1 : Hid (IntKind.i64.wrap ((m : Int) + 1) = (m1 : Int)) := hid (by rw [hm1]; exact wrap_step (k := 1) (by omega))
                have V2 : Hid (IntKind.i64.wrap ((m : Int) + 2) = (m2 : Int)) := hid (by rw [hm2]; exact wrap_step (k := 2) (by omega))
                have V3 : Hid (IntKind.i64.wrap ((m : Int) + 3) = (m3 : Int)) := hid (by rw [hm3]; exact wrap_step (k := 3) (by omega))
                have R0 : Hid (m < b2.length) := hid (by omega)
                have R1 : Hid (m1 < b2.length) := hid (by omega)
                have R2 : Hid (m2 < b2.length) := hid (by omega)
                have R3 : Hid (m3 < b2.length) := hid (by omega)
                have C0 := hid (hby m R0.out); have C1 := hid (hby m1 R1.out); have C2 := hid (hby m2 R2.out); have C3 := hid (hby m3 R3.out)
                have HZ : Hid ((((((b2.getD m 0).toNat * 256 + (b2.getD m1 0).toNat) * 256 + (b2.getD m2 0).toNat) * 256 + (b2.getD m3 0).toNat : Nat) : Int) = lateAt b2 j) := hid (by rw [hm1, hm2, hm3, HM.out]; rfl)
                have l0 := (b2.getD m 0).toNat_lt; have l1 := (b2.getD m1 0).toNat_lt; have l2 := (b2.getD m2 0).toNat_lt; have l3 := (b2.getD m3 0).toNat_lt
                obtain ⟨x0, hx0⟩ : ∃ t, t = (b2.getD m 0).toNat := ⟨_, rfl⟩
                rw [← hx0] at C0 l0 HZ
                obtain ⟨x1, hx1⟩ : ∃ t, t = (b2.getD m1 0).toNat := ⟨_, rfl⟩
                rw [← hx1] at C1 l1 HZ
                obtain ⟨x2, hx2⟩ : ∃ t, t = (b2.getD m2 0).toNat := ⟨_, rfl⟩
                rw [← hx2] at C2 l2 HZ
                obtain ⟨x3, hx3⟩ : ∃ t, t = (b2.getD m3 0).toNat := ⟨_, rfl⟩
                rw [← hx3] at C3 l3 HZ
                have S1 := hid (four_1 x0 l0); have S2 := hid (four_2 x0 x1 l0 l1); have S3 := hid (four_3 x0 x1 l0 l1); have S4 := hid (four_4 x0 x1 x2 l0 l1 l2); have S5 := hid (four_5 x0 x1 x2 l0 l1 l2); have S6 := hid (four_6 x0 x1 x2 x3 l0 l1 l2 l3)
                have Q0 := hid (u8_wrap x0 l0); have Q1 := hid (u8_wrap x1 l1); have Q2 := hid (u8_wrap x2 l2); have Q3 := hid (u8_wrap x3 l3)
                have HLTJ := hid hlt
                clear hm1 hm2 hm3 hm4 hx0 hx1 hx2 hx3 l0 l1 l2 l3 hby hA2 hbB hl hlt hle2
                go_upto_region 19 with fail
                refine wp_region_grA 37 (by kernel_rfl) (by decide) ?_
                refine wpGrA_take (i := 0) (.slice (some ⟨g1, 0, none⟩) 3 c1) rfl (by kernel_rfl) (by kernel_rfl) (fun _ _ _ h => h) (yieldsG_val _ rfl (fun w' hb => by go_simp)) ?_
                (try simp only [Act.put, List.getElem_toArray, List.getElem_cons_succ, List.getElem_cons_zero, List.setIfInBounds_toArray, List.set_cons_zero, List.set_cons_succ])
                refine wpGrA_take (i := 1) (.pointer (some ⟨g1, 2, none⟩)) rfl (by kernel_rfl) (by kernel_rfl) (fun _ _ _ h => h) (yieldsG_val _ rfl (fun w' hb => by go_simp)) ?_
                (try simp only [Act.put, List.getElem_toArray, List.getElem_cons_succ, List.getElem_cons_zero, List.setIfInBounds_toArray, List.set_cons_zero, List.set_cons_succ])
                refine wpGrA_take (i := 2) (.slice (some ⟨bB, oB, none⟩) b2.length k2) rfl (by kernel_rfl) (by kernel_rfl) (fun _ _ _ h => h) (yieldsG_val _ rfl (fun w' hb => by have hc := (hb.cell (p := ⟨g1, 2, none⟩) GG.out).trans D2.out; go_simp)) ?_
                (try simp only [Act.put, List.getElem_toArray, List.getElem_cons_succ, List.getElem_cons_zero, List.setIfInBounds_toArray, List.set_cons_zero, List.set_cons_succ])
                refine wpGrA_take (i := 3) (.int .i64 (m : Int)) rfl (by kernel_rfl) (by kernel_rfl) (fun _ _ _ h => h) (yieldsG_val _ rfl (fun w' hb => by go_simp)) ?_
                (try simp only [Act.put, List.getElem_toArray, List.getElem_cons_succ, List.getElem_cons_zero, List.setIfInBounds_toArray, List.set_cons_zero, List.set_cons_succ])
                refine wpGrA_take (i := 4) (.pointer (some ⟨bB, oB + m, none⟩)) rfl (by kernel_rfl) (by kernel_rfl) (fun _ _ _ h => h) (yieldsG_val _ rfl (fun w' hb => by have hq := R0.out; go_simp)) ?_
                (try simp only [Act.put, List.getElem_toArray, List.getElem_cons_succ, List.getElem_cons_zero, List.setIfInBounds_toArray, List.set_cons_zero, List.set_cons_succ])
                refine wpGrA_take (i := 5) (.int .u8 (x0 : Int)) rfl (by kernel_rfl) (by kernel_rfl) (fun _ _ _ h => h) (yieldsG_val _ rfl (fun w' hb => by have hc := (hb.cell (p := ⟨bB, oB + m, none⟩) GB.out).trans C0.out; go_simp)) ?_
                (try simp only [Act.put, List.getElem_toArray, List.getElem_cons_succ, List.getElem_cons_zero, List.setIfInBounds_toArray, List.set_cons_zero, List.set_cons_succ])
                refine wpGrA_take (i := 6) (.int .i64 (x0 : Int)) rfl (by kernel_rfl) (by kernel_rfl) (fun _ _ _ h => h) (yieldsG_val _ rfl (fun w' hb => by have hq := Q0.out; go_simp)) ?_
                (try simp only [Act.put, List.getElem_toArray, List.getElem_cons_succ, List.getElem_cons_zero, List.setIfInBounds_toArray, List.set_cons_zero, List.set_cons_succ])
                refine wpGrA_take (i := 7) (.int .i64 ((x0 : Int) * 256)) rfl (by kernel_rfl) (by kernel_rfl) (fun _ _ _ h => h) (yieldsG_val _ rfl (fun w' hb => by have hq := S1.out; go_simp)) ?_
                (try simp only [Act.put, List.getElem_toArray, List.getElem_cons_succ, List.getElem_cons_zero, List.setIfInBounds_toArray, List.set_cons_zero, List.set_cons_succ])
                refine wpGrA_take (i := 8) (.slice (some ⟨g1, 0, none⟩) 3 c1) rfl (by kernel_rfl) (by kernel_rfl) (fun _ _ _ h => h) (yieldsG_val _ rfl (fun w' hb => by go_simp)) ?_
                (try simp only [Act.put, List.getElem_toArray, List.getElem_cons_succ, List.getElem_cons_zero, List.setIfInBounds_toArray, List.set_cons_zero, List.set_cons_succ])
                refine wpGrA_take (i := 9) (.pointer (some ⟨g1, 2, none⟩)) rfl (by kernel_rfl) (by kernel_rfl) (fun _ _ _ h => h) (yieldsG_val _ rfl (fun w' hb => by go_simp)) ?_
                (try simp only [Act.put, List.getElem_toArray, List.getElem_cons_succ, List.getElem_cons_zero, List.setIfInBounds_toArray, List.set_cons_zero, List.set_cons_succ])
                refine wpGrA_take (i := 10) (.slice (some ⟨bB, oB, none⟩) b2.length k2) rfl (by kernel_rfl) (by kernel_rfl) (fun _ _ _ h => h) (yieldsG_val _ rfl (fun w' hb => by have hc := (hb.cell (p := ⟨g1, 2, none⟩) GG.out).trans D2.out; go_simp)) ?_
                (try simp only [Act.put, List.getElem_toArray, List.getElem_cons_succ, List.getElem_cons_zero, List.setIfInBounds_toArray, List.set_cons_zero, List.set_cons_succ])
                refine wpGrA_take (i := 11) (.int .i64 (m : Int)) rfl (by kernel_rfl) (by kernel_rfl) (fun _ _ _ h => h) (yieldsG_val _ rfl (fun w' hb => by go_simp)) ?_
                (try simp only [Act.put, List.getElem_toArray, List.getElem_cons_succ, List.getElem_cons_zero, List.setIfInBounds_toArray, List.set_cons_zero, List.set_cons_succ])
                refine wpGrA_take (i := 12) (.int .i64 (m1 : Int)) rfl (by kernel_rfl) (by kernel_rfl) (fun _ _ _ h => h) (yieldsG_val _ rfl (fun w' hb => by have hq := V1.out; go_simp)) ?_
                (try simp only [Act.put, List.getElem_toArray, List.getElem_cons_succ, List.getElem_cons_zero, List.setIfInBounds_toArray, List.set_cons_zero, List.set_cons_succ])
                refine wpGrA_take (i := 13) (.pointer (some ⟨bB, oB + m1, none⟩)) rfl (by kernel_rfl) (by kernel_rfl) (fun _ _ _ h => h) (yieldsG_val _ rfl (fun w' hb => by have hq := R1.out; go_simp)) ?_
                (try simp only [Act.put, List.getElem_toArray, List.getElem_cons_succ, List.getElem_cons_zero, List.setIfInBounds_toArray, List.set_cons_zero, List.set_cons_succ])
                refine wpGrA_take (i := 14) (.int .u8 (x1 : Int)) rfl (by kernel_rfl) (by kernel_rfl) (fun _ _ _ h => h) (yieldsG_val _ rfl (fun w' hb => by have hc := (hb.cell (p := ⟨bB, oB + m1, none⟩) GB.out).trans C1.out; go_simp)) ?_
                (try simp only [Act.put, List.getElem_toArray, List.getElem_cons_succ, List.getElem_cons_zero, List.setIfInBounds_toArray, List.set_cons_zero, List.set_cons_succ])
                refine wpGrA_take (i := 15) (.int .i64 (x1 : Int)) rfl (by kernel_rfl) (by kernel_rfl) (fun _ _ _ h => h) (yieldsG_val _ rfl (fun w' hb => by have hq := Q1.out; go_simp)) ?_
                (try simp only [Act.put, List.getElem_toArray, List.getElem_cons_succ, List.getElem_cons_zero, List.setIfInBounds_toArray, List.set_cons_zero, List.set_cons_succ])
                refine wpGrA_take (i := 16) (.int .i64 ((x0 : Int) * 256 + (x1 : Int))) rfl (by kernel_rfl) (by kernel_rfl) (fun _ _ _ h => h) (yieldsG_val _ rfl (fun w' hb => by have hq := S2.out; go_simp)) ?_
                (try simp only [Act.put, List.getElem_toArray, List.getElem_cons_succ, List.getElem_cons_zero, List.setIfInBounds_toArray, List.set_cons_zero, List.set_cons_succ])
                refine wpGrA_take (i := 17) (.int .i64 (((x0 : Int) * 256 + (x1 : Int)) * 256)) rfl (by kernel_rfl) (by kernel_rfl) (fun _ _ _ h => h) (yieldsG_val _ rfl (fun w' hb => by have hq := S3.out; go_simp)) ?_
                (try simp only [Act.put, List.getElem_toArray, List.getElem_cons_succ, List.getElem_cons_zero, List.setIfInBounds_toArray, List.set_cons_zero, List.set_cons_succ])
                refine wpGrA_take (i := 18) (.slice (some ⟨g1, 0, none⟩) 3 c1) rfl (by kernel_rfl) (by kernel_rfl) (fun _ _ _ h => h) (yieldsG_val _ rfl (fun w' hb => by go_simp)) ?_
                (try simp only [Act.put, List.getElem_toArray, List.getElem_cons_succ, List.getElem_cons_zero, List.setIfInBounds_toArray, List.set_cons_zero, List.set_cons_succ])
                refine wpGrA_take (i := 19) (.pointer (some ⟨g1, 2, none⟩)) rfl (by kernel_rfl) (by kernel_rfl) (fun _ _ _ h => h) (yieldsG_val _ rfl (fun w' hb => by go_simp)) ?_
                (try simp only [Act.put, List.getElem_toArray, List.getElem_cons_succ, List.getElem_cons_zero, List.setIfInBounds_toArray, List.set_cons_zero, List.set_cons_succ])
                refine wpGrA_take (i := 20) (.slice (some ⟨bB, oB, none⟩) b2.length k2) rfl (by kernel_rfl) (by kernel_rfl) (fun _ _ _ h => h) (yieldsG_val _ rfl (fun w' hb => by have hc := (hb.cell (p := ⟨g1, 2, none⟩) GG.out).trans D2.out; go_simp)) ?_
                (try simp only [Act.put, List.getElem_toArray, List.getElem_cons_succ, List.getElem_cons_zero, List.setIfInBounds_toArray, List.set_cons_zero, List.set_cons_succ])
                refine wpGrA_take (i := 21) (.int .i64 (m : Int)) rfl (by kernel_rfl) (by kernel_rfl) (fun _ _ _ h => h) (yieldsG_val _ rfl (fun w' hb => by go_simp)) ?_
                (try simp only [Act.put, List.getElem_toArray, List.getElem_cons_succ, List.getElem_cons_zero, List.setIfInBounds_toArray, List.set_cons_zero, List.set_cons_succ])
                refine wpGrA_take (i := 22) (.int .i64 (m2 : Int)) rfl (by kernel_rfl) (by kernel_rfl) (fun _ _ _ h => h) (yieldsG_val _ rfl (fun w' hb => by have hq := V2.out; go_simp)) ?_
                (try simp only [Act.put, List.getElem_toArray, List.getElem_cons_succ, List.getElem_cons_zero, List.setIfInBounds_toArray, List.set_cons_zero, List.set_cons_succ])
                refine wpGrA_take (i := 23) (.pointer (some ⟨bB, oB + m2, none⟩)) rfl (by kernel_rfl) (by kernel_rfl) (fun _ _ _ h => h) (yieldsG_val _ rfl (fun w' hb => by have hq := R2.out; go_simp)) ?_
                (try simp only [Act.put, List.getElem_toArray, List.getElem_cons_succ, List.getElem_cons_zero, List.setIfInBounds_toArray, List.set_cons_zero, List.set_cons_succ])
                refine wpGrA_take (i := 24) (.int .u8 (x2 : Int)) rfl (by kernel_rfl) (by kernel_rfl) (fun _ _ _ h => h) (yieldsG_val _ rfl (fun w' hb => by have hc := (hb.cell (p := ⟨bB, oB + m2, none⟩) GB.out).trans C2.out; go_simp)) ?_
                (try simp only [Act.put, List.getElem_toArray, List.getElem_cons_succ, List.getElem_cons_zero, List.setIfInBounds_toArray, List.set_cons_zero, List.set_cons_succ])
                refine wpGrA_take (i := 25) (.int .i64 (x2 : Int)) rfl (by kernel_rfl) (by kernel_rfl) (fun _ _ _ h => h) (yieldsG_val _ rfl (fun w' hb => by have hq := Q2.out; go_simp)) ?_
                (try simp only [Act.put, List.getElem_toArray, List.getElem_cons_succ, List.getElem_cons_zero, List.setIfInBounds_toArray, List.set_cons_zero, List.set_cons_succ])
                refine wpGrA_take (i := 26) (.int .i64 (((x0 : Int) * 256 + (x1 : Int)) * 256 + (x2 : Int))) rfl (by kernel_rfl) (by kernel_rfl) (fun _ _ _ h => h) (yieldsG_val _ rfl (fun w' hb => by have hq := S4.out; go_simp)) ?_
                (try simp only [Act.put, List.getElem_toArray, List.getElem_cons_succ, List.getElem_cons_zero, List.setIfInBounds_toArray, List.set_cons_zero, List.set_cons_succ])
                refine wpGrA_take (i := 27) (.int .i64 ((((x0 : Int) * 256 + (x1 : Int)) * 256 + (x2 : Int)) * 256)) rfl (by kernel_rfl) (by kernel_rfl) (fun _ _ _ h => h) (yieldsG_val _ rfl (fun w' hb => by have hq := S5.out; go_simp)) ?_
                (try simp only [Act.put, List.getElem_toArray, List.getElem_cons_succ, List.getElem_cons_zero, List.setIfInBounds_toArray, List.set_cons_zero, List.set_cons_succ])
                refine wpGrA_take (i := 28) (.slice (some ⟨g1, 0, none⟩) 3 c1) rfl (by kernel_rfl) (by kernel_rfl) (fun _ _ _ h => h) (yieldsG_val _ rfl (fun w' hb => by go_simp)) ?_
                (try simp only [Act.put, List.getElem_toArray, List.getElem_cons_succ, List.getElem_cons_zero, List.setIfInBounds_toArray, List.set_cons_zero, List.set_cons_succ])
                refine wpGrA_take (i := 29) (.pointer (some ⟨g1, 2, none⟩)) rfl (by kernel_rfl) (by kernel_rfl) (fun _ _ _ h => h) (yieldsG_val _ rfl (fun w' hb => by go_simp)) ?_
                (try simp only [Act.put, List.getElem_toArray, List.getElem_cons_succ, List.getElem_cons_zero, List.setIfInBounds_toArray, List.set_cons_zero, List.set_cons_succ])
                refine wpGrA_take (i := 30) (.slice (some ⟨bB, oB, none⟩) b2.length k2) rfl (by kernel_rfl) (by kernel_rfl) (fun _ _ _ h => h) (yieldsG_val _ rfl (fun w' hb => by have hc := (hb.cell (p := ⟨g1, 2, none⟩) GG.out).trans D2.out; go_simp)) ?_
                (try simp only [Act.put, List.getElem_toArray, List.getElem_cons_succ, List.getElem_cons_zero, List.setIfInBounds_toArray, List.set_cons_zero, List.set_cons_succ])
                refine wpGrA_take (i := 31) (.int .i64 (m : Int)) rfl (by kernel_rfl) (by kernel_rfl) (fun _ _ _ h => h) (yieldsG_val _ rfl (fun w' hb => by go_simp)) ?_
                (try simp only [Act.put, List.getElem_toArray, List.getElem_cons_succ, List.getElem_cons_zero, List.setIfInBounds_toArray, List.set_cons_zero, List.set_cons_succ])
                refine wpGrA_take (i := 32) (.int .i64 (m3 : Int)) rfl (by kernel_rfl) (by kernel_rfl) (fun _ _ _ h => h) (yieldsG_val _ rfl (fun w' hb => by have hq := V3.out; go_simp)) ?_
                (try simp only [Act.put, List.getElem_toArray, List.getElem_cons_succ, List.getElem_cons_zero, List.setIfInBounds_toArray, List.set_cons_zero, List.set_cons_succ])
                refine wpGrA_take (i := 33) (.pointer (some ⟨bB, oB + m3, none⟩)) rfl (by kernel_rfl) (by kernel_rfl) (fun _ _ _ h => h) (yieldsG_val _ rfl (fun w' hb => by have hq := R3.out; go_simp)) ?_
                (try simp only [Act.put, List.getElem_toArray, List.getElem_cons_succ, List.getElem_cons_zero, List.setIfInBounds_toArray, List.set_cons_zero, List.set_cons_succ])
                refine wpGrA_take (i := 34) (.int .u8 (x3 : Int)) rfl (by kernel_rfl) (by kernel_rfl) (fun _ _ _ h => h) (yieldsG_val _ rfl (fun w' hb => by have hc := (hb.cell (p := ⟨bB, oB + m3, none⟩) GB.out).trans C3.out; go_simp)) ?_
                (try simp only [Act.put, List.getElem_toArray, List.getElem_cons_succ, List.getElem_cons_zero, List.setIfInBounds_toArray, List.set_cons_zero, List.set_cons_succ])
                refine wpGrA_take (i := 35) (.int .i64 (x3 : Int)) rfl (by kernel_rfl) (by kernel_rfl) (fun _ _ _ h => h) (yieldsG_val _ rfl (fun w' hb => by have hq := Q3.out; go_simp)) ?_
                (try simp only [Act.put, List.getElem_toArray, List.getElem_cons_succ, List.getElem_cons_zero, List.setIfInBounds_toArray, List.set_cons_zero, List.set_cons_succ])
                refine wpGrA_take (i := 36) (.int .i64 ((((x0 : Int) * 256 + (x1 : Int)) * 256 + (x2 : Int)) * 256 + (x3 : Int))) rfl (by kernel_rfl) (by kernel_rfl) (fun _ _ _ h => h) (yieldsG_val _ rfl (fun w' hb => by have hq := S6.out; go_simp)) ?_
                (try simp only [Act.put, List.getElem_toArray, List.getElem_cons_succ, List.getElem_cons_zero, List.setIfInBounds_toArray, List.set_cons_zero, List.set_cons_succ])
                refine wpGrA_end (by kernel_rfl) ?_
                intro w5 hb5
                simp only [List.drop_succ_cons, List.drop_zero]
                have HY : Hid ((((x0 : Int) * 256 + (x1 : Int)) * 256 + (x2 : Int)) * 256 + (x3 : Int) = lateAt b2 j) := hid (by rw [← HZ.out]; push_cast; rfl)
                obtain ⟨y, hy⟩ : ∃ y : Int, y = (((x0 : Int) * 256 + (x1 : Int)) * 256 + (x2 : Int)) * 256 + (x3 : Int) := ⟨_, rfl⟩
                rw [← hy] at HY ⊢
                have K5 := hid ((hb5.block _ (block_lt HK.out)).trans HK.out)
                have HO5 : Hid (w5.ownsRow (W1.heap.size + 1) 3 1 (.slice AL j cL) j (izs (lateOf b2 j))) := hid (World.ownsRow.kept (row := none) HO.out ⟨hb5.os, hb5.tape, hb5.output, hb5.size, fun k hk _ => hb5.block k hk⟩ (by cases hv : (Value.slice AL j cL).ownBlock <;> simp))
                have HB5 := hid (HB.out.trans (hb5.mono HB.out.size))
                have y2 : w5.cell? ⟨W1.heap.size, 2, none⟩ = some (.slice AL j cL) := by have h := cell_of K5.out 2 (.slice AL (lateOf b2 j).length cL) rfl; rwa [lateOf_length] at h
                have K6 : Hid ((w5.alloc (.cells #[.int .i64 y] 3)).heap[W1.heap.size]? = some (.cells (prV ⟨b0, b1, lateOf b2 j⟩ ⟨A0, A1, AL, k0, k1, cL⟩) PrT (0, 0))) := hid ((Below.heap_alloc w5 _ W1.heap.size (block_lt K5.out)).trans K5.out)
                have HG5 : Hid (W1.heap.size + 1 ≤ w5.heap.size) := hid (block_lt K5.out)
                clear hy HZ S1 S2 S3 S4 S5 S6 Q0 Q1 Q2 Q3 V1 V2 V3 R0 R1 R2 R3 C0 C1 C2 C3 D2 GB GG hb5 d2 hle HO HK HB
                go_wp2_with (at_builtin; go_loud (refine wpList_append_lie rfl _ _ 25 rfl (W1.heap.size + 1) 3 (.int .i64 0) 8 Try.underlying25 infoI64 rfl rfl (World.ownsRow.alloc HO5.out (.cells #[.int .i64 y] 3)) rfl rfl (Lie.new1 _ _ _) ?d0 ?d1 ?d2 ?d3 ?_))
                case d0 => intro u hu; simp at hu; subst hu; rfl
                case d1 => have := HLTJ.out; have := HN.out; have := HL2.out; unfold maxLen; simp; omega
                case d2 => have := HLTJ.out; have := HN.out; have := HL2.out; simp; omega
                case d3 => have := HG5.out; simp; omega
                intro v6 w6 hown6 hg6 _
                obtain ⟨A6, c6, rfl, -⟩ := own_sl hown6
                have K7 : w6.heap[W1.heap.size]? = some (.cells (prV ⟨b0, b1, lateOf b2 j⟩ ⟨A0, A1, AL, k0, k1, cL⟩) PrT (0, 0)) := block_grown K6.out hg6 (by intro e; have := own_lt HO5.out _ e.symm; omega)
                have hB6 : Below W1.heap.size W1 w6 := (HB5.out.alloc HB5.out.size _).grown hg6 (by have := HG5.out; simp; omega) (fun k e => Nat.le_of_succ_le (own_lt HO5.out k e))
                have hf := frozen_of_row _ _ 2 _ _ K7
                have K8 := hid (block_set K7 2 (.slice A6 (j + 1) c6))
                have HB8 : Hid (Below W1.heap.size W1 (w6.setCell ⟨W1.heap.size, 2, none⟩ (.slice A6 (j + 1) c6))) := hid (hB6.setCell (Nat.le_refl _) _)
                have HO8 : Hid ((w6.setCell ⟨W1.heap.size, 2, none⟩ (.slice A6 (j + 1) c6)).ownsRow (W1.heap.size + 1) 3 1 (.slice A6 (j + 1) c6) (j + 1) (izs (lateOf b2 (j + 1)))) := hid (by
                  have hs : izs (lateOf b2 (j + 1)) = izs (lateOf b2 j) ++ [.int .i64 y] := by rw [late_step, HY.out]; simp [izs]
                  rw [hs]
                  exact World.ownsRow.kept (row := some W1.heap.size) hown6 (grown_setCell _ _ _ _ _) (.inr (by intro e; have := own_lt hown6 _ e; omega)))
                have HPV : Hid ((prV ⟨b0, b1, lateOf b2 j⟩ ⟨A0, A1, AL, k0, k1, cL⟩).setIfInBounds 2 (.slice A6 (j + 1) c6) = prV ⟨b0, b1, lateOf b2 (j + 1)⟩ ⟨A0, A1, A6, k0, k1, c6⟩) := hid (by show #[_, _, Value.slice A6 (j + 1) c6] = #[_, _, Value.slice A6 (lateOf b2 (j + 1)).length c6]; rw [lateOf_length])
                have hc7 := cell_of K7 2 _ rfl
                clear hown6 hg6 hB6 HO5 HB5 K5 K6 y2
                go_wp2
                go_roundg (n - (j + 1))
                case measure => have := HLTJ.out; have := HJ.out; omega
                case rel => exact ⟨j + 1, A6, c6, by have := HLTJ.out; have := HJ.out; omega, by rw [hw4, show m4 = 4 * (j + 1) by have := HM4.out; have := HM.out; omega], by rw [← HPV.out]; exact K8.out, HO8.out, HB8.out⟩
              · have hle : ¬ (m4 : Int) ≤ (b2.length : Int) := by have := HM4.out; have := HM.out; have := HN.out; have := HJ.out; omega
                have hle2 : ¬ m4 ≤ b2.length := by omega
                obtain rfl : j = n := by have := HJ.out; omega
                have HTU : Hid (tkU xs at' = ⟨b0, b1, lateOf b2 j⟩) := hid (by unfold tkU; rw [← HQ.out, ← HV0.out, ← HV1.out, ← HV2.out, ← HN.out])
                have HBB2 : Hid (B ≤ W1.heap.size) := hid (Nat.le_trans HBB.out HB2.out.size)
                have HPI : Hid (∀ V, (∀ p : Addr, W1.heap.size + 1 ≤ p.block → p.block < wr.heap.size → V.cell? p = wr.cell? p) → Below B W1 V → wr.heap.size ≤ V.heap.size → PrF V B w.heap.size ⟨b0, b1, lateOf b2 j⟩ ⟨A0, A1, AL, k0, k1, cL⟩) := hid fun V hf hbV hz => ⟨(HT0.out.below hbV).lie, (HT1.out.below hbV).lie, (own_lie HO.out hf hz).1, fun hn => by obtain ⟨g, o, h1, h2⟩ := (own_lie HO.out hf hz).2 hn; exact ⟨g, o, h1, by have := HW1.out; omega⟩⟩
                have HLE : Hid (PrLe ⟨b0, b1, lateOf b2 j⟩) := hid (by
                  have h0 := vecAt_length (xs.drop (posD xs q 0)); have h1 := vecAt_length (xs.drop (posD xs q 1)); have hx := HXB.out
                  rw [List.length_drop] at h0 h1
                  refine ⟨?_, ?_, ?_⟩
                  · show b0.length ≤ _; rw [HV0.out]; show (vecAt (xs.drop (posD xs q 0))).1.length ≤ _; omega
                  · show b1.length ≤ _; rw [HV1.out]; show (vecAt (xs.drop (posD xs q 1))).1.length ≤ _; omega
                  · show (lateOf b2 j).length ≤ _; rw [lateOf_length]; have := HN.out; have := HL2.out; omega)
                obtain ⟨pb, hpb⟩ : ∃ t, t = parB ⟨b0, b1, lateOf b2 j⟩ := ⟨_, rfl⟩
                have HRP : Hid (Calls Try.prog 37 #[.agg (prV ⟨b0, b1, lateOf b2 j⟩ ⟨A0, A1, AL, k0, k1, cL⟩)] wr (RetB wr pb)) := hid (hpb ▸ RightParent16_any _ _ wr ((HPI.out wr (fun _ _ _ => rfl) (HB.out.mono HBB2.out) (Nat.le_refl _)).in_ (Nat.le_trans HBB2.out HB.out.size)) HLE.out)
                have HPB := hid hpb
                have K4r : Hid (wr.heap[w.heap.size]? = some (.cells ndZ NdT (0, 0))) := hid ((HB.out.block _ (block_lt K42.out)).trans K42.out)
                have HBr := hid (HB2.out.trans (HB.out.mono HB2.out.size))
                have y0 := cell_of HK.out 0 _ rfl; have y1 := cell_of HK.out 1 _ rfl; have y2 := cell_of HK.out 2 _ rfl
                have HLT2 := hid hlt
                clear hpb hlt
                by_cases hm : b2.length % 4 = 0
                · have HMM := hid hm
                  have hm1 : (b2.length : Int) % 4 = 0 := by omega
                  have hm2 : (b2.length : Int).tmod 4 = 0 := by rw [Int.tmod_eq_emod_of_nonneg (by omega)]; exact hm1
                  clear hm
                  go_wp2_with fail
                  refine HRP.out.mono ?_
                  rintro e V ⟨rfl, hb⟩
                  have HBV := hid (HBr.out.trans (hb.mono HBr.out.size))
                  have K4V := hid ((hb.block _ (block_lt K4r.out)).trans K4r.out)
                  have KPV := hid ((hb.block _ (block_lt HK.out)).trans HK.out)
                  have HVW := hid hb
                  clear hb y0 y1 y2 HRP
                  cases pb with
                  | false =>
                    have HEE : Hid (tkE xs at' = 3) := hid (tk_bad HLT.out (HSR.out.symm.trans H2.out) (by rw [← HQ.out]; exact HE3.out.symm) (fun h => by rw [HTU.out, ← HPB.out] at h; exact absurd h.2 (by simp)))
                    go_wp2_with (first | (with_reducible refine wpList_store_row rfl NdT (.tmp 4) _ rfl w.heap.size (ndV 0 lf0 la0 pr0 pa0) rfl rfl NdT ndZ K4V.out infoNd16 ndZ_size ndV_one ?_))
                    have KZ := setRow_heap _ w.heap.size ndZ (ndV 0 lf0 la0 pr0 pa0) NdT (0, 0) K4V.out
                    have hbz := below_put V w.heap.size (ndV 0 lf0 la0 pr0 pa0) (Nat.le_refl w.heap.size)
                    refine bodyPost_ret (v := .tuple #[.agg (ndV 0 lf0 la0 pr0 pa0), .int .i64 (at' : Int), .int .i64 ((3 : Nat) : Int)]) (results_css rfl _ _ w.heap.size NdT (ndV 0 lf0 la0 pr0 pa0) (0, 0) _ rfl KZ Try.underlying29 rfl infoNd16 _ _ rfl rfl) rfl (TkOut.no HEE.out (by omega) (HBV.out.trans hbz))
                  | true =>
                    have hbuild2 : ∀ X : World, (Instr.build NdT #[(0, .int .u8 2), (2, .agg (prV ⟨b0, b1, lateOf b2 j⟩ ⟨A0, A1, AL, k0, k1, cL⟩))]).run Try.prog X = .ok (.agg (ndV 2 lf0 la0 ⟨b0, b1, lateOf b2 j⟩ ⟨A0, A1, AL, k0, k1, cL⟩)) X := fun X => run_build X NdT _ _ (by kernel_rfl)
                    go_wp2_with (first | (with_reducible refine wpList_store_row rfl NdT (.tmp 4) _ rfl w.heap.size (ndV 2 lf0 la0 ⟨b0, b1, lateOf b2 j⟩ ⟨A0, A1, AL, k0, k1, cL⟩) rfl rfl NdT ndZ K4V.out infoNd16 ndZ_size ndV_one ?_) | (with_reducible refine wpList_load_row rfl PrT (.tmp 13) rfl W1.heap.size rfl PrT (prV ⟨b0, b1, lateOf b2 j⟩ ⟨A0, A1, AL, k0, k1, cL⟩) (0, 0) _ KPV.out Try.underlying27 rfl infoPr ?_))
                    have KZ := setRow_heap _ w.heap.size ndZ (ndV 2 lf0 la0 ⟨b0, b1, lateOf b2 j⟩ ⟨A0, A1, AL, k0, k1, cL⟩) NdT (0, 0) K4V.out
                    have hbz := below_put V w.heap.size (ndV 2 lf0 la0 ⟨b0, b1, lateOf b2 j⟩ ⟨A0, A1, AL, k0, k1, cL⟩) (Nat.le_refl w.heap.size)
                    refine bodyPost_ret (v := .tuple #[.agg (ndV 2 lf0 la0 ⟨b0, b1, lateOf b2 j⟩ ⟨A0, A1, AL, k0, k1, cL⟩), .int .i64 (p3 : Int), .int .i64 ((0 : Nat) : Int)]) (results_css rfl _ _ w.heap.size NdT (ndV 2 lf0 la0 ⟨b0, b1, lateOf b2 j⟩ ⟨A0, A1, AL, k0, k1, cL⟩) (0, 0) _ rfl KZ Try.underlying29 rfl infoNd16 _ _ rfl rfl) rfl (by have hin := HPI.out (V.setRow w.heap.size (ndV 2 lf0 la0 ⟨b0, b1, lateOf b2 j⟩ ⟨A0, A1, AL, k0, k1, cL⟩)) (fun p hp hlt => (put_far V _ (by have := HW1.out; omega)).trans (HVW.out.cell hlt)) (((HB.out.mono HBB2.out).trans (HVW.out.mono (Nat.le_trans HBB2.out HB.out.size))).trans (hbz.mono HBB.out)) (Nat.le_trans HVW.out.size hbz.size); have hi2 : PrF (V.setRow w.heap.size (ndV 2 lf0 la0 ⟨b0, b1, lateOf b2 j⟩ ⟨A0, A1, AL, k0, k1, cL⟩)) B w.heap.size (tkU xs at') ⟨A0, A1, AL, k0, k1, cL⟩ := (by rw [HTU.out]; exact hin); have h := TkOut.par (w := w) HLT.out (HSR.out.symm.trans H2.out) (by rw [← HQ.out]; exact HE3.out.symm) (by rw [← HQ.out, ← HV2.out]; exact HMM.out) (by rw [HTU.out]; exact HPB.out.symm) hi2 (HBV.out.trans hbz); rw [HTU.out, ← HQ.out, ← HP3.out] at h; exact h)
                · have hm1 : ¬ (b2.length : Int) % 4 = 0 := by omega
                  have hm2 : ¬ (b2.length : Int).tmod 4 = 0 := by rw [Int.tmod_eq_emod_of_nonneg (by omega)]; exact hm1
                  have HEE : Hid (tkE xs at' = 3) := hid (tk_bad HLT.out (HSR.out.symm.trans H2.out) (by rw [← HQ.out]; exact HE3.out.symm) (fun h => hm (by rw [HV2.out, HQ.out]; exact h.1)))
                  clear hm
                  go_wp2_with (first | (with_reducible refine wpList_store_row rfl NdT (.tmp 4) _ rfl w.heap.size (ndV 0 lf0 la0 pr0 pa0) rfl rfl NdT ndZ K4r.out infoNd16 ndZ_size ndV_one ?_))
                  have KZ := setRow_heap _ w.heap.size ndZ (ndV 0 lf0 la0 pr0 pa0) NdT (0, 0) K4r.out
                  have hbz := below_put wr w.heap.size (ndV 0 lf0 la0 pr0 pa0) (Nat.le_refl w.heap.size)
                  refine bodyPost_ret (v := .tuple #[.agg (ndV 0 lf0 la0 pr0 pa0), .int .i64 (at' : Int), .int .i64 ((3 : Nat) : Int)]) (results_css rfl _ _ w.heap.size NdT (ndV 0 lf0 la0 pr0 pa0) (0, 0) _ rfl KZ Try.underlying29 rfl infoNd16 _ _ rfl rfl) rfl (TkOut.no HEE.out (by omega) (HBr.out.trans hbz))
          · have HB2 := hid (HB1.out.trans (hbl.mono HB1.out.size))
            have K42 := hid ((hbl.block _ (block_lt K4.out)).trans K4.out)
            have hne : ¬ (e3 : Int) = 0 := by omega
            have hne2 : ((e3 : Int) != 0) = true := by rw [bne_iff_ne]; exact hne
            have HE0 := hid h0
            have HEE : Hid (tkE xs at' = e3) := hid (by unfold tkE; rw [if_neg (by have := HLT.out; omega), if_neg (by rw [← HSR.out]; exact H0.out), if_neg (by rw [← HSR.out]; exact H1.out), if_neg (by rw [← HSR.out, H2.out]; simp), if_pos (by rw [← HQ.out, ← HE3.out]; exact h0), ← HQ.out, HE3.out])
            clear h0 hbl HV3
            go_wp2_with (first | (with_reducible refine wpList_store_row rfl NdT (.tmp 4) _ rfl w.heap.size (ndV 0 lf0 la0 pr0 pa0) rfl rfl NdT ndZ K42.out infoNd16 ndZ_size ndV_one ?_))
            have KZ := setRow_heap _ w.heap.size ndZ (ndV 0 lf0 la0 pr0 pa0) NdT (0, 0) K42.out
            have hbz := below_put W1 w.heap.size (ndV 0 lf0 la0 pr0 pa0) (Nat.le_refl w.heap.size)
            refine bodyPost_ret (v := .tuple #[.agg (ndV 0 lf0 la0 pr0 pa0), .int .i64 (at' : Int), .int .i64 (e3 : Int)]) (results_css rfl _ _ w.heap.size NdT (ndV 0 lf0 la0 pr0 pa0) (0, 0) _ rfl KZ Try.underlying29 rfl infoNd16 _ _ rfl rfl) rfl (TkOut.no HEE.out HE0.out (HB2.out.trans hbz))
        · have hz3 : ¬ (sr : Int) = 2 := by omega
          have HEE : Hid (tkE xs at' = 3) := hid (by unfold tkE; rw [if_neg (by have := HLT.out; omega), if_neg (by rw [← HSR.out]; exact h0), if_neg (by rw [← HSR.out]; exact h1), if_pos (by rw [← HSR.out]; exact h2)])
          go_wp2_with (first | (with_reducible refine wpList_store_row rfl NdT (.tmp 4) _ rfl w.heap.size (ndV 0 lf0 la0 pr0 pa0) rfl rfl NdT ndZ K4.out infoNd16 ndZ_size ndV_one ?_))
          have KZ := setRow_heap _ w.heap.size ndZ (ndV 0 lf0 la0 pr0 pa0) NdT (0, 0) K4.out
          have hbz := below_put (w.alloc (.cells ndZ NdT)) w.heap.size (ndV 0 lf0 la0 pr0 pa0) (Nat.le_refl w.heap.size)
          refine bodyPost_ret (v := .tuple #[.agg (ndV 0 lf0 la0 pr0 pa0), .int .i64 (at' : Int), .int .i64 ((3 : Nat) : Int)]) (results_css rfl _ _ w.heap.size NdT (ndV 0 lf0 la0 pr0 pa0) (0, 0) _ rfl KZ Try.underlying29 rfl infoNd16 _ _ rfl rfl) rfl (TkOut.no HEE.out (by omega) (HB1.out.trans hbz))
  · have hge : (at' : Int) ≥ (xs.length : Int) := by omega
    have hd : decide ((at' : Int) ≥ (xs.length : Int)) = true := by simpa using hge
    have HEE : Hid (tkE xs at' = 4) := hid (by unfold tkE; rw [if_pos (by omega)])
    go_wp2_with (first | (with_reducible refine wpList_store_row rfl NdT (.tmp 4) _ rfl w.heap.size (ndV 0 lf0 la0 pr0 pa0) rfl rfl NdT ndZ K4.out infoNd16 ndZ_size ndV_one ?_))
    have KZ := setRow_heap _ w.heap.size ndZ (ndV 0 lf0 la0 pr0 pa0) NdT (0, 0) K4.out
    have hbz := below_put (w.alloc (.cells ndZ NdT)) w.heap.size (ndV 0 lf0 la0 pr0 pa0) (Nat.le_refl w.heap.size)
    refine bodyPost_ret (v := .tuple #[.agg (ndV 0 lf0 la0 pr0 pa0), .int .i64 (at' : Int), .int .i64 ((4 : Nat) : Int)]) (results_css rfl _ _ w.heap.size NdT (ndV 0 lf0 la0 pr0 pa0) (0, 0) _ rfl KZ Try.underlying29 rfl infoNd16 _ _ rfl rfl) rfl (TkOut.no HEE.out (by omega) (HB1.out.trans hbz))
end Go.Proofs.Ytlgcdddgahjknaa
end
