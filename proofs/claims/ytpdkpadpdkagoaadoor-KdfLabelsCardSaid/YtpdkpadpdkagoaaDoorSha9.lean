/-
  Package sha: what a Hash tells; the digest of parts.
-/
import Derived.Test.YtpdkpadpdkagoaaDoorSha8
import Derived.Deep.RegionHeld3
namespace Go.Proofs.YtpdkpadpdkagoaaDoor
open Go.RowKit
set_option linter.unusedVariables false
set_option linter.unusedSimpArgs false

/-- A slice of byte slices, each with its capacity, lies below B and reads as ls. -/
def Rows2' (w : World) (B : Nat) (A : Option Addr) (ls : List (List UInt8)) : Prop :=
  ∃ vs : List Value, vs.length = ls.length ∧ Lie w B A vs ∧ ∀ (j : Nat) (x : List UInt8), ls[j]? = some x → ∃ A' c, vs[j]? = some (.slice A' x.length c) ∧ Sq w B A' c (bvs x)

theorem Rows2'.at_ {w : World} {B : Nat} {A : Option Addr} {ls : List (List UInt8)} (h : Rows2' w B A ls) {k : Nat} (hk : k < ls.length) : ∃ b o A' c, A = some ⟨b, o, none⟩ ∧ b < B ∧ w.cell? ⟨b, o + k, none⟩ = some (.slice A' ls[k].length c) ∧ Sq w B A' c (bvs ls[k]) := by
  obtain ⟨vs, hl, hv, he⟩ := h
  obtain ⟨A', c, h1, h2⟩ := he k ls[k] (List.getElem?_eq_getElem hk)
  obtain ⟨b, o, hA, hb, hc⟩ := hv.at_ (k := k) (by omega)
  rw [List.getElem?_eq_getElem (by omega)] at h1
  injection h1 with h1
  exact ⟨b, o, A', c, hA, hb, by rw [hc, h1], h2⟩
theorem Rows2'.below {w w' : World} {B : Nat} {A : Option Addr} {ls : List (List UInt8)} (h : Rows2' w B A ls) (hb : Below B w w') : Rows2' w' B A ls := by
  obtain ⟨vs, hl, hv, he⟩ := h
  refine ⟨vs, hl, hv.below hb, fun j x hx => ?_⟩
  obtain ⟨A', c, h1, h2⟩ := he j x hx
  exact ⟨A', c, h1, h2.below hb⟩
theorem Glob.notGlob {w : World} (h : Glob w) {g : Nat} (hg : w.heap.size ≤ g) : NotGlob g := by
  have h1 := h.2.2.1; have h2 := h.2.2.2
  exact ⟨by omega, by omega⟩
theorem zero50 (w : World) : (zeroValue 62).run Tryd.prog w = .ok (.agg hash0) w :=
  (zero_of_info (P := Tryd.prog) (t := 62) (v := .agg hash0) (n := 73) (by kernel_rfl)).1 w
theorem flatten_take (ls : List (List UInt8)) (k : Nat) (h : k < ls.length) : (ls.take (k + 1)).flatten = (ls.take k).flatten ++ ls[k] := by
  rw [List.take_succ_eq_append_getElem h, List.flatten_append]; simp
theorem flatten_le (ls : List (List UInt8)) (k : Nat) : (ls.take k).flatten.length ≤ ls.flatten.length := by
  conv => rhs; rw [← List.take_append_drop k ls]
  rw [List.flatten_append, List.length_append]; omega

/-- A new block holds the digest's bytes, and v is the slice of it. -/
def Digest (w w' : World) (v : Value) (xs : List UInt8) : Prop := ∃ b, v = .slice (some ⟨b, 0, none⟩) 32 32 ∧ w'.heap[b]? = some (.cells (byA xs) A32 (0, 0)) ∧ w.heap.size ≤ b ∧ xs.length = 32

theorem digest_end {w W : World} {z32 : Array Value} {bs : List Value} (all : List UInt8) (dummy : Unit) (B : Nat) (hB : w.heap.size ≤ B) (hrow : W.heap[B]? = some (.cells z32 A32 (0, 0))) (hz : z32.size = 32) (hbs : bs = bvs (shaB all)) (hbel : Below w.heap.size w W) :
    Digest w (W.setCells B 0 bs) (.slice (some ⟨B, 0, none⟩) 32 32) (shaB all) ∧ Below w.heap.size w (W.setCells B 0 bs) := by
  have hl : bs.length = 32 := by rw [hbs, bvs_length, shaB_length]
  refine ⟨⟨B, rfl, ?_, hB, shaB_length all⟩, hbel.grown (grown_setCells bs W B 0) hbel.size (fun k hk => by injection hk with hk; omega)⟩
  rw [heap_setCells bs hrow 0 (by omega), List.take_zero, List.nil_append, List.drop_eq_nil_of_le (by rw [Array.length_toList]; omega), List.append_nil, hbs]
  rfl
theorem held_alloc {w W : World} {g n : Nat} {s : St} {rest : List UInt8} (h : W.heap[g]? = some (.cells (hashL s rest n).toArray HashT (0, 0)) ∧ W.cell? ⟨g, 72, none⟩ = some (.int .i64 (n : Int)) ∧ Below w.heap.size w W) (o : Obj) :
    (W.alloc o).heap[g]? = some (.cells (hashL s rest n).toArray HashT (0, 0)) ∧ (W.alloc o).cell? ⟨g, 72, none⟩ = some (.int .i64 (n : Int)) ∧ Below w.heap.size w (W.alloc o) :=
  ⟨(Below.heap_alloc _ _ _ (block_lt h.1)).trans h.1, (World.cell?_alloc_lt W o ⟨g, 72, none⟩ (block_lt h.1)).trans h.2.1, h.2.2.alloc h.2.2.size _⟩
theorem held_setCells {w W : World} {g n : Nat} {s : St} {rest : List UInt8} (h : W.heap[g]? = some (.cells (hashL s rest n).toArray HashT (0, 0)) ∧ W.cell? ⟨g, 72, none⟩ = some (.int .i64 (n : Int)) ∧ Below w.heap.size w W) (hgl : g < w.heap.size) (b o : Nat) (vs : List Value) (hb : w.heap.size ≤ b) :
    (W.setCells b o vs).heap[g]? = some (.cells (hashL s rest n).toArray HashT (0, 0)) ∧ (W.setCells b o vs).cell? ⟨g, 72, none⟩ = some (.int .i64 (n : Int)) ∧ Below w.heap.size w (W.setCells b o vs) := by
  have hg := grown_setCells vs W b o
  have hne : some g ≠ some b := by simp; omega
  exact ⟨(hg.block g (block_lt h.1) hne).trans h.1, (World.cell?_of_block (a := ⟨g, 72, none⟩) (hg.block g (block_lt h.1) hne)).trans h.2.1, h.2.2.grown hg h.2.2.size (fun k hk => by injection hk with hk; omega)⟩

set_option maxRecDepth 100000 in
set_option maxHeartbeats 800000 in
theorem HSum_any (g : Nat) (all : List UInt8) (w : World) (hH : HashIs w g all) (hG : Glob w) (hn : all.length ≤ 1152921504606846976) :
    Calls Tryd.prog 29 #[.pointer (some ⟨g, 0, none⟩)] w fun e w' => ∃ v, e = .returned v ∧ Digest w w' v (shaB all) ∧ Below w.heap.size w w' := by
  obtain ⟨s, rest, hw, hr, hs, hst, ht⟩ := hH
  have hgl := block_lt hw
  have hlen := hash_len hw hr
  have HW := hid hw; have HR := hid hr; have HT := hid ht; have HG := hid hG; have HS := hid hs; have HST := hid hst
  obtain ⟨u, hud⟩ : ∃ u, u = all.length % 64 := ⟨_, rfl⟩
  have hu1 : (0 : Int) ≤ (all.length : Int) % 64 := by omega
  have hu2 : (all.length : Int) % 64 ≤ 64 := by omega
  have hu5 : ((all.length : Int) % 64).toNat = u := by omega
  have htl : (tailOf all).length = u := by rw [tailOf_length, hud]
  have HUD := hid hud; have HTL := hid htl
  have hu64 : u < 64 := by omega
  have hn1 : (all.length : Int) ≤ 1152921504606846976 := by omega
  have hn0 : (0 : Int) ≤ (all.length : Int) := by omega
  have hmod : ((all.length : Int)).tmod 64 = (all.length : Int) % 64 := Int.tmod_eq_emod_of_nonneg hn0
  clear hw hr hst ht hs hG hud htl
  obtain ⟨bs, hbs⟩ : ∃ bs : List Value, bs = bvs (shaB all) := ⟨_, rfl⟩
  have hbl : bs.length = 32 := by rw [hbs, bvs_length, shaB_length]
  have hone : ∀ v ∈ bs, v.oneCell' = true := by rw [hbs]; exact bvs_one _
  have HCL : Hid (∀ W : World, W.heap[g]? = some (.cells (hashL s rest all.length).toArray HashT (0, 0)) ∧ W.cell? ⟨g, 72, none⟩ = some (.int .i64 (all.length : Int)) ∧ Below w.heap.size w W → Calls Tryd.prog 42 #[.agg (stA (stOf all)), .slice (some ⟨g, 8, none⟩) u 64, .int .i64 (all.length : Int)] W fun e W' => e = .returned (.agg bs.toArray) ∧ W'.heap[g]? = some (.cells (hashL s rest all.length).toArray HashT (0, 0)) ∧ W'.cell? ⟨g, 72, none⟩ = some (.int .i64 (all.length : Int)) ∧ Below w.heap.size w W' ∧ Below W.heap.size W W') := hid fun W hS => by
    have hl : Lie W W.heap.size (some ⟨g, 8, none⟩) (bvs (tailOf all)) := by
      have h := (hash_lie hS.1).take (all.length % 64)
      rw [← HT.out]
      simpa [bvs, List.map_take] using h
    have h := closed_any (stOf all) (some ⟨g, 8, none⟩) (tailOf all) 64 all.length W (stOf_ok all) (by rw [HTL.out]; exact hu64) (by rw [HTL.out, HUD.out]) hn hl (HG.out.below hS.2.2 (Nat.le_refl _))
    rw [HTL.out] at h
    refine h.mono ?_
    rintro e W' ⟨rfl, hb⟩
    exact ⟨by rw [hbs]; rfl, (hb.block g (block_lt hS.1)).trans hS.1, (hb.cell (p := ⟨g, 72, none⟩) (block_lt hS.1)).trans hS.2.1, hS.2.2.trans (hb.mono hS.2.2.size), hb⟩
  have HBEG : Hid (∀ W : World, W.heap[g]? = some (.cells (hashL s rest all.length).toArray HashT (0, 0)) ∧ W.cell? ⟨g, 72, none⟩ = some (.int .i64 (all.length : Int)) ∧ Below w.heap.size w W → Calls Tryd.prog 39 #[.pointer (some ⟨g, 0, none⟩)] W fun e W' => e = .returned (.agg (stA (stOf all))) ∧ W'.heap[g]? = some (.cells (hashL s rest all.length).toArray HashT (0, 0)) ∧ W'.cell? ⟨g, 72, none⟩ = some (.int .i64 (all.length : Int)) ∧ Below w.heap.size w W' ∧ Below W.heap.size W W') := hid fun W hS => by
    refine (begun_any g all W (by omega) ⟨s, rest, hS.1, HR.out, HS.out, HST.out, HT.out⟩ (HG.out.below hS.2.2 (Nat.le_refl _))).mono ?_
    rintro e W' ⟨rfl, hb⟩
    exact ⟨rfl, (hb.block g (block_lt hS.1)).trans hS.1, (hb.cell (p := ⟨g, 72, none⟩) (block_lt hS.1)).trans hS.2.1, hS.2.2.trans (hb.mono hS.2.2.size), hb⟩
  obtain ⟨z32, hz32, hz32s⟩ : ∃ z : Array Value, z = #[Value.int .u8 0, .int .u8 0, .int .u8 0, .int .u8 0, .int .u8 0, .int .u8 0, .int .u8 0, .int .u8 0, .int .u8 0, .int .u8 0, .int .u8 0, .int .u8 0, .int .u8 0, .int .u8 0, .int .u8 0, .int .u8 0, .int .u8 0, .int .u8 0, .int .u8 0, .int .u8 0, .int .u8 0, .int .u8 0, .int .u8 0, .int .u8 0, .int .u8 0, .int .u8 0, .int .u8 0, .int .u8 0, .int .u8 0, .int .u8 0, .int .u8 0, .int .u8 0] ∧ z.size = 32 := ⟨_, rfl, rfl⟩
  have hzero : ∀ W : World, (zeroValue 70).run Tryd.prog W = .ok (.agg z32) W := fun W => by rw [hz32]; kernel_rfl
  have HTH : Hid (∀ (W W' : World), W'.heap[W.heap.size]? = some (.cells z32 A32 (0, 0)) → W'.there W.heap.size 0 bs.toArray.size) := hid fun W W' hh j hj => by
    rw [List.size_toArray, hbl] at hj
    refine ⟨?_, frozen_of_row _ _ _ _ _ hh⟩
    rw [cell_of_row _ _ _ _ _ _ hh, Nat.zero_add, Array.getElem?_eq_getElem (by rw [hz32s]; exact hj)]
    rfl
  have hu32 : Tryd.prog.underlying 70 = some (.array 32 5) := Tryd.underlying70
  have hi32 : (Tryd.prog.info? 70).map (·.size) = some bs.toArray.size := info24.trans (congrArg some (by rw [List.size_toArray, hbl]))
  have HBS := hid hbs; have HBL := hid hbl; have HZ := hid hz32s
  clear hz32 hz32s hbs hbl
  go_enter Tryd.func29, Tryd.ntmps29
  go_wp2_with fail
  have hX : ∀ W : World, (W.alloc (.cells z32 A32)).there W.heap.size 0 bs.length := fun W => by
    have h := HTH.out W _ (heap_alloc_new W (.cells z32 A32))
    rwa [List.size_toArray] at h
  go_region_held3 (fun w' => w'.heap[g]? = some (.cells (hashL s rest all.length).toArray HashT (0, 0)) ∧ w'.cell? ⟨g, 72, none⟩ = some (.int .i64 (all.length : Int)) ∧ Below w.heap.size w w')
    (first | exact ⟨HW.out, hlen, (Below.refl _ _).drew⟩ | exact ⟨ha2, hb2, hc2⟩ | exact ⟨ha1, hb1, hc1⟩ | exact held_alloc (by assumption) _ | exact held_setCells (by assumption) hgl _ _ _ (by first | exact hc2.size | exact hc1.size | exact Nat.le_refl _))
    ((first
      | (go_at_call 39; refine (HBEG.out _ (by assumption)).mono ?_; rintro e w1 ⟨rfl, ha1, hb1, hc1, hd1⟩; try (have hrow1 := (hd1.block _ (by simp)).trans (heap_alloc_new _ _)))
      | (go_at_call 42; refine (HCL.out _ (by assumption)).mono ?_; rintro e w2 ⟨rfl, ha2, hb2, hc2, hd2⟩; first | have hth := HTH.out _ w2 ((hd2.block _ (block_lt hrow1)).trans hrow1) | have hth := HTH.out _ w2 ((hd2.block _ (by simp)).trans (heap_alloc_new _ _)) | skip)))
  · have HE := hid (digest_end all () w2.heap.size hc2.size (heap_alloc_new w2 (.cells z32 A32)) HZ.out HBS.out (hc2.alloc hc2.size _))
    go_wp2
    go_ret
    exact ⟨_, rfl, HE.out⟩
  · have HE := hid (digest_end all () w1.heap.size hc1.size ((hd2.block _ (by simp)).trans (heap_alloc_new w1 (.cells z32 A32))) HZ.out HBS.out hc2)
    go_wp2
    go_ret
    exact ⟨_, rfl, HE.out⟩
  · have HE := hid (digest_end all () w.heap.size (Nat.le_refl _) ((hd2.block _ (block_lt hrow1)).trans hrow1) HZ.out HBS.out hc2)
    go_wp2
    go_ret
    exact ⟨_, rfl, HE.out⟩

/-- Of no Hash: the digest of nothing. -/
theorem HSum_nil (w : World) (hG : Glob w) :
    Calls Tryd.prog 29 #[.pointer none] w fun e w' => ∃ v, e = .returned v ∧ Digest w w' v (shaB []) ∧ Below w.heap.size w w' := by
  have HG := hid hG
  clear hG
  go_enter Tryd.func29, Tryd.ntmps29
  go_wp2_with fail
  refine (New_any w).mono ?_
  rintro e w1 ⟨rfl, hH, hz, hb⟩
  have HC := hid (HSum_any w.heap.size [] w1 hH (HG.out.below hb (Nat.le_refl _)) (by simp))
  go_wp2_with fail
  refine HC.out.mono ?_
  rintro e w2 ⟨v, rfl, ⟨b, rfl, hbk, hbz, hl⟩, hb2⟩
  go_wp2
  go_ret
  exact ⟨_, rfl, ⟨b, rfl, hbk, by omega, hl⟩, hb.trans (hb2.mono (by omega))⟩

set_option maxRecDepth 100000 in
set_option maxHeartbeats 800000 in
theorem Of_any (A : Option Addr) (ls : List (List UInt8)) (c : Nat) (w : World) (hA : Rows2' w w.heap.size A ls) (hG : Glob w) (hn : ls.flatten.length ≤ 1152921504606846976) (hl : ls.length ≤ 9223372036854775807) :
    Calls Tryd.prog 24 #[.slice A ls.length c] w fun e w' => ∃ v, e = .returned v ∧ Digest w w' v (shaB ls.flatten) ∧ Below w.heap.size w w' := by
  have HA := hid hA; have HG := hid hG; have HN := hid hn
  clear hA hG hn
  go_enter Tryd.func24, Tryd.ntmps24
  have hz0 : ∀ W, (zeroValue 62).run Tryd.prog W = .ok (.agg hash0) W := zero50
  go_wp2
  go_loopg [8] ls.length (fun r i wr => ∃ k : Nat, k + r = ls.length ∧ i = .int .i64 (k : Int) ∧ HashIs wr w.heap.size (ls.take k).flatten ∧ Below w.heap.size w wr ∧ w.heap.size < wr.heap.size)
  case atStart => exact ⟨0, by omega, rfl, hash0_is w, (Below.refl _ _).alloc (Nat.le_refl _) _, by simp⟩
  case round =>
    clear hz0
    obtain ⟨k, hk, rfl, hH, hb, hz⟩ := hrel
    have HK := hid hk; have HH := hid hH; have HB := hid hb
    clear hk hH
    by_cases hlt : k < ls.length
    · obtain ⟨b, o, A1, c1, rfl, hb1, hc, hS⟩ := (HA.out.below hb).at_ hlt
      have hx : (k : Int) < (ls.length : Int) := by omega
      have hk0 : (0 : Int) ≤ (k : Int) := by omega
      have hft := flatten_take ls k hlt
      have hfl := flatten_le ls (k + 1)
      rw [hft, List.length_append] at hfl
      have hG := HG.out.below hb (Nat.le_refl _)
      have HC := hid (Write_any w.heap.size (ls.take k).flatten ls[k] A1 c1 wr HH.out hG (HG.out.notGlob (Nat.le_refl _)) (Nat.le_trans hfl HN.out) (hS.more (by omega)) (hS.notIn (Nat.le_refl _)))
      rw [← hft] at HC
      clear hft hfl hG hb hS
      go_wp2_with fail
      refine HC.out.mono ?_
      rintro e w2 ⟨rfl, hH2, hg2⟩
      have hz2 : w.heap.size < w2.heap.size := Nat.lt_of_lt_of_le hz hg2.size
      have HH2 := hid hH2; have HB2 := hid (HB.out.grown hg2 (Nat.le_of_lt hz) (fun q h => by injection h with h; omega))
      clear hH2 hg2
      go_wp2
      have hk := HK.out
      go_roundg (ls.length - k - 1)
      case measure => omega
      case rel => exact ⟨k + 1, by omega, by go_num, HH2.out, HB2.out, hz2⟩
    · obtain rfl : k = ls.length := by have := HK.out; omega
      have HC := hid (HSum_any w.heap.size (ls.take ls.length).flatten wr HH.out (HG.out.below hb (Nat.le_refl _)) (Nat.le_trans (flatten_le _ _) HN.out))
      rw [List.take_length] at HC
      go_wp2_with fail
      refine HC.out.mono ?_
      rintro e w2 ⟨v, rfl, ⟨b, rfl, hbk, hbz, hl2⟩, hb2⟩
      go_wp2
      go_ret
      exact ⟨_, rfl, ⟨b, rfl, hbk, by omega, hl2⟩, HB.out.trans (hb2.mono (by omega))⟩
end Go.Proofs.YtpdkpadpdkagoaaDoor
