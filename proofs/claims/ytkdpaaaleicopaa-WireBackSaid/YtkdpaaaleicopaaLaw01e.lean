/-
  The statement WireBack: the walk.
-/
import Derived.Test.YtkdpaaaleicopaaLaw01d
import Derived.Test.YtkdpaaaleicopaaBack
namespace Go.Proofs.Ytkdpaaaleicopaa
open Go.RowKit
set_option linter.unusedVariables false
set_option linter.unusedSimpArgs false

theorem below_drewN' {B : Nat} {a w : World} (h : Below B a w) (n : Nat) : Below B a (w.drewN n) := ⟨h.os, h.tape, h.output, h.size, h.block⟩
theorem Rd.drewN {w : World} {g e : Nat} {xs : List UInt8} (h : Rd w g xs e) (n : Nat) : Rd (w.drewN n) g xs e := h

def putAll (l : List It) : List UInt8 := l.flatMap putB
theorem putAll_snoc (l : List It) (k : Nat) (h : k < l.length) : putAll (l.take (k + 1)) = putAll (l.take k) ++ putB l[k] := by
  unfold putAll
  rw [List.take_succ_eq_append_getElem h, List.flatMap_append, List.flatMap_cons, List.flatMap_nil, List.append_nil]
theorem putAll_drop (l : List It) (k : Nat) (h : k < l.length) : putAll (l.drop k) = putB l[k] ++ putAll (l.drop (k + 1)) := by
  unfold putAll
  rw [List.drop_eq_getElem_cons h, List.flatMap_cons]

theorem putB_length (x : It) (hf : farIt x = false) (hs : sizeOk x) : (putB x).length ≤ 4100 := by
  obtain ⟨kind, size, n, v, l⟩ := x
  simp only [farIt, farHead, Bool.or_eq_false_iff, decide_eq_false_iff_not, sizeOk] at hf hs
  obtain ⟨⟨⟨⟨k0, k4⟩, hv⟩, hl⟩, hll⟩ := hf
  have ht := total_bound l hll (by omega)
  have h1 := lenSize_le v.length
  have h2 := lenSize_le (joinVecs l).length
  unfold putB
  simp only
  split
  · rename_i h0
    have := hs h0
    rw [beBytes_length]; omega
  · split
    · simp only [vecBytes, List.length_append, lenBytes_length]; omega
    · split
      · simp only [vecBytes, List.length_append, lenBytes_length, joinVecs_length] at h2 ⊢; omega
      · split
        · simp
        · omega
theorem putAll_length (l : List It) (hf : ∀ x ∈ l, farIt x = false) (hs : ∀ x ∈ l, sizeOk x) : (putAll l).length ≤ l.length * 4100 := by
  induction l with
  | nil => simp [putAll]
  | cons x l ih =>
    have h1 := putB_length x (hf x (by simp)) (hs x (by simp))
    have h2 := ih (fun y hy => hf y (by simp [hy])) (fun y hy => hs y (by simp [hy]))
    simp only [putAll, List.flatMap_cons, List.length_append, List.length_cons] at h2 ⊢
    omega

theorem not_far {l : List It} (h : farB l = false) : (∀ x ∈ l, farIt x = false) ∧ l.length ≤ 30 := by
  unfold farB at h
  rw [Bool.or_eq_false_iff] at h
  exact ⟨fun x hx => by have := List.any_eq_false.1 h.1 x hx; simpa using this, by simpa using h.2⟩

set_option maxRecDepth 100000 in
set_option maxHeartbeats 64000000 in
theorem back_any (A : Option Addr) (l : List It) (c : Nat) (w : World) (hA : Its w w.heap.size A l) (hm : l.length ≤ 9223372036854775807) (hm2 : ∀ x ∈ l, x.l.length ≤ 9223372036854775807) (hn : ∀ x ∈ l, x.n < 18446744073709551616) :
    Calls Try.prog 5 #[.slice A l.length c] w fun e w' => e = .returned (.bool true) ∧ Below w.heap.size w w' := by
  have HN := hid hn
  have HA := hid hA
  have HM2 := hid hm2
  clear hn hm2
  go_enter Try.func5, Try.ntmps5
  go_wp2_with fail
  refine (alive_any _).mono ?_
  rintro e w1 ⟨rfl, hb1⟩
  have hA1 := hA.below hb1
  go_wp2_with fail
  refine (far_any A l c w1 _ hA1 hm HM2.out).mono ?_
  rintro e w' ⟨rfl, rfl⟩
  by_cases hf : farB l = true
  · go_wp2
    go_ret
    exact ⟨rfl, hb1⟩
  have hff : farB l = false := by simpa using hf
  have HF := hid (not_far hff)
  have hl30 := HF.out.2
  rw [hff]
  clear hf hff
  go_wp2
  go_loopg [3, 4] l.length (fun g u i wr => ∃ (k : Nat) (Au : Option Addr) (cu : Nat), k + g = l.length ∧ i = .int .i64 (k : Int) ∧ u = .slice Au (putAll (l.take k)).length cu ∧ Lie wr wr.heap.size Au (bvs (putAll (l.take k))) ∧ (∀ x ∈ l.take k, sizeOk x) ∧ Below w.heap.size w wr)
  case atStart => exact ⟨0, none, 0, by omega, rfl, rfl, Lie.nil, by simp, hb1⟩
  case round =>
    obtain ⟨k, Au, cu, hk, rfl, rfl, hL, hs, hb⟩ := hrel
    have hAr := hA.below hb
    have HK := hid hk; have HL := hid hL; have HS := hid hs; have HB := hid hb
    clear hk hL hs hb hA1 hb1 hA
    by_cases hlt : k < l.length
    · obtain ⟨b, o, rfl, hbb, h1, h2, h3, ⟨A1, c1, h4, h5⟩, A2, c2, h6, h7⟩ := hAr.at_ hlt
      have hmem := List.getElem_mem hlt
      have hfx := HF.out.1 _ hmem
      have hnx := HN.out _ hmem
      have HX := hid (putAll_snoc l k hlt)
      have HX2 := hid (List.take_succ_eq_append_getElem hlt)
      generalize hx : l[k] = x at h1 h2 h3 h4 h5 h6 h7 hfx hnx HX HX2
      clear hx hAr hmem
      have H5 := hid h5; have H7 := hid h7; have HFX := hid hfx
      clear h5 h7 hfx
      have hlen : (putAll (l.take k)).length ≤ 1048576 := by
        have h := putAll_length (l.take k) (fun x hx => HF.out.1 x (List.mem_of_mem_take hx)) HS.out
        rw [List.length_take] at h
        omega
      have HLEN := hid hlen
      clear hlen
      by_cases hbad : x.kind = 0 ∧ ¬ (x.size = 1 ∨ x.size = 2 ∨ x.size = 4 ∨ x.size = 8)
      · obtain ⟨kind, size, n, v, ls⟩ := x
        simp only at h1 h2 h3 h4 h6 hbad
        obtain ⟨rfl, hbad⟩ := hbad
        have q1 : (size != 1) = true := by rw [bne_iff_ne]; omega
        have q2 : (size != 2) = true := by rw [bne_iff_ne]; omega
        have q4 : (size != 4) = true := by rw [bne_iff_ne]; omega
        have q8 : (size != 8) = true := by rw [bne_iff_ne]; omega
        clear hbad
        go_wp2
        go_ret
        exact ⟨rfl, HB.out⟩
      · have hok : sizeOk x := fun h0 => Classical.byContradiction fun h => hbad ⟨h0, h⟩
        have HOK := hid hok
        have HPUT := hid (fun W => put_any Au (putAll (l.take k)) cu x A1 c1 A2 c2 W)
        have hdec : (x.kind == 0) = false ∨ (x.kind = 0 ∧ (x.size = 1 ∨ x.size = 2 ∨ x.size = 4 ∨ x.size = 8)) := by
          by_cases h0 : x.kind = 0
          · exact .inr ⟨h0, hok h0⟩
          · exact .inl (by simpa using h0)
        clear hbad hok
        have hNext : ∀ (w2 : World) (v2 : Value), OwnB w2 wr.heap.size v2 (putAll (l.take k) ++ putB x) → Below wr.heap.size wr w2 → ∃ (k' : Nat) (Au : Option Addr) (cu : Nat), k' + (l.length - k - 1) = l.length ∧ Value.int .i64 ((k : Int) + 1) = .int .i64 (k' : Int) ∧ v2 = .slice Au (putAll (l.take k')).length cu ∧ Lie w2 w2.heap.size Au (bvs (putAll (l.take k'))) ∧ (∀ x ∈ l.take k', sizeOk x) ∧ Below w.heap.size w w2 := by
          intro w2 v2 ho hb2
          obtain ⟨A3, c3, rfl, hS3⟩ := own_sl ho
          refine ⟨k + 1, A3, c3, by omega, by go_num, by rw [HX.out], by rw [HX.out]; exact hS3.lie, ?_, HB.out.trans (hb2.mono HB.out.size)⟩
          intro y hy
          rw [HX2.out, List.mem_append] at hy
          rcases hy with hy | hy
          · exact HS.out y hy
          · rw [List.mem_singleton] at hy
            rw [hy]
            exact HOK.out
        have HNX := hid hNext
        have HZ := hid HB.out.size
        clear hNext
        obtain ⟨kind, size, n, v, ls⟩ := x
        simp only at h1 h2 h3 h4 h6 hdec
        simp only [itV] at HPUT
        rcases hdec with hd | ⟨rfl, rfl | rfl | rfl | rfl⟩
        all_goals
          go_wp2_with fail
          refine (HPUT.out _ HL.out HLEN.out (H5.out.more HZ.out) (H7.out.more HZ.out) HFX.out HOK.out hnx).mono ?_
          rintro e w2 ⟨v2, rfl, ho2, hb2⟩
          have HR := hid (HNX.out w2 v2 ho2 hb2)
          clear ho2 hb2
          go_wp2
          have hk := HK.out
          go_roundg (l.length - k - 1)
          case measure => omega
          case rel => exact HR.out
    · have hk := HK.out
      obtain rfl : k = l.length := by omega
      clear hk
      have hL0 := HL.out
      have hS0 := HS.out
      rw [List.take_length] at hL0 hS0
      rw [List.take_length]
      have hlen : (putAll l).length ≤ 1048576 := by
        have h := putAll_length l HF.out.1 hS0
        omega
      have HLEN := hid hlen
      have HSO := hid hS0
      have HLL := hid hL0
      clear hlen hS0 hL0 HL HS HK hAr
      go_wp2_with fail
      refine (NewReader_any Au (putAll l) cu wr _ HLL.out (by have := HLEN.out; omega)).mono ?_
      rintro e w3 ⟨g, rfl, hg, hr, hg3⟩
      have hg0 : w.heap.size ≤ g := Nat.le_trans HB.out.size hg
      have hb3 : Below w.heap.size w w3 := HB.out.grown hg3 HB.out.size (fun _ h => by cases h)
      have HB3 := hid hb3
      have HR3 := hid hr
      clear hr hg3 hb3 hg HB HLL
      go_wp2
      go_loopg [6] l.length (fun gg i wr => ∃ k : Nat, k + gg = l.length ∧ i = .int .i64 (k : Int) ∧ Rd wr g (putAll (l.drop k)) 0 ∧ Below w.heap.size w wr)
      case atStart => exact ⟨0, by omega, rfl, HR3.out, HB3.out⟩
      case round =>
        obtain ⟨k, hk, rfl, hR, hB⟩ := hrel
        have HK := hid hk; have HR := hid hR; have HB := hid hB
        clear hk hR hB
        by_cases hlt : k < l.length
        · have hmem := List.getElem_mem hlt
          obtain ⟨b, o, rfl, hbb, h1, h2, h3, ⟨A1, c1, h4, h5⟩, A2, c2, h6, h7⟩ := (HA.out.below HB.out).at_ hlt
          have hlg := HR.out.lt
          have HFX := hid (HF.out.1 _ hmem)
          have HNX := hid (HN.out _ hmem)
          have HSX := hid (HSO.out _ hmem)
          have HPD := hid (putAll_drop l k hlt)
          have hb4 : (putAll (l.drop k)).length ≤ 1048576 := by
            have h := putAll_length (l.drop k) (fun x hx => HF.out.1 x (List.mem_of_mem_drop hx)) (fun x hx => HSO.out x (List.mem_of_mem_drop hx))
            rw [List.length_drop] at h
            omega
          have HB4 := hid hb4
          have hz := HB.out.size
          generalize hx : l[k] = x at h1 h2 h3 h4 h5 h6 h7 HFX HNX HSX HPD
          clear hx hmem hb4 HSO HLEN HM2 HN HR3 HB3
          obtain ⟨kind, size, n, v, ls⟩ := x
          simp only at h1 h2 h3 h4 h5 h6 h7
          have HV := hid h5; have HLS := hid h7
          clear h5 h7
          have hk5 : kind = 0 ∨ kind = 1 ∨ kind = 2 ∨ kind = 3 ∨ kind = 4 := by
            have h := HFX.out
            simp only [farIt, farHead, Bool.or_eq_false_iff, decide_eq_false_iff_not] at h
            omega
          generalize hrest : putAll (l.drop (k + 1)) = rest at HPD
          have HREST := hid hrest
          clear hrest
          generalize hxs : putAll (l.drop k) = xs at HPD HR HB4
          clear hxs
          rcases hk5 with hk0 | hk0 | hk0 | hk0 | hk0
          · obtain rfl := hk0
            have hs := HSX.out rfl
            simp only at hs
            have hB0 : Below w.heap.size w (wr.alloc (.cells #[.int .i64 0, .int .i64 size, .int .u64 (n : Int), .slice A1 v.length c1, .slice A2 ls.length c2] 29)) := HB.out.alloc hz _
            have hback := numAt_back size.toNat n rest
            have hpb : putB ⟨0, size, n, v, ls⟩ = beBytes size.toNat n := by simp [putB]
            rw [hpb] at HPD
            rw [← HPD.out] at hback
            have hT := take_num g xs ⟨0, size, n, v, ls⟩ A1 c1 A2 c2 _ (HR.out.alloc (.cells #[.int .i64 0, .int .i64 size, .int .u64 (n : Int), .slice A1 v.length c1, .slice A2 ls.length c2] 29)) rfl hs
            simp only [itV, Int.toNat_natCast] at hT
            rw [hback] at hT
            obtain ⟨m, hm1⟩ : ∃ m, m = n % 256 ^ size.toNat := ⟨_, rfl⟩
            rw [← hm1] at hT
            have HT := hid hT
            have HM1 := hid hm1
            clear hT hback hpb hm1 HPD HFX HSX
            have HNX2 := HNX.out
            rcases hs with rfl | rfl | rfl | rfl
            · have hq : ((m : Int) != (n : Int) % 256) = false := by
                have h := HM1.out
                rw [show (((1 : Int)).toNat) = 1 from rfl] at h
                simp only [bne_eq_false_iff_eq]
                simp only at HNX2
                omega
              clear HM1 HNX2
              go_wp2_with fail
              refine HT.out.mono ?_
              rintro e w4 ⟨rfl, hr4, hg4⟩
              have hX : w4.heap[wr.heap.size]? = some (.cells #[.int .i64 0, .int .i64 1, .int .u64 (n : Int), .slice A1 v.length c1, .slice A2 ls.length c2] 29 (0, 0)) := block_grown (blk_new rfl _ _) hg4 (by simp; omega)
              have hXlt := block_lt hX
              have x0 : ∀ ob, (w4.alloc ob).cell? ⟨wr.heap.size, 0, none⟩ = some (.int .i64 0) := fun ob => cell_of (blk_alloc hX ob) 0 _ rfl
              have x1 : ∀ ob, (w4.alloc ob).cell? ⟨wr.heap.size, 1, none⟩ = some (.int .i64 1) := fun ob => cell_of (blk_alloc hX ob) 1 _ rfl
              have x2 : ∀ ob, (w4.alloc ob).cell? ⟨wr.heap.size, 2, none⟩ = some (.int .u64 (n : Int)) := fun ob => cell_of (blk_alloc hX ob) 2 _ rfl
              have x3 : ∀ ob, (w4.alloc ob).cell? ⟨wr.heap.size, 3, none⟩ = some (.slice A1 v.length c1) := fun ob => cell_of (blk_alloc hX ob) 3 _ rfl
              have x4 : ∀ ob, (w4.alloc ob).cell? ⟨wr.heap.size, 4, none⟩ = some (.slice A2 ls.length c2) := fun ob => cell_of (blk_alloc hX ob) 4 _ rfl
              have hB4 : Below w.heap.size w w4 := hB0.grown hg4 (by simp; omega) (fun q h => by injection h with h; omega)
              have HEND := hid (fun ob (q : Nat) => (⟨(hr4.alloc ob), (hB4.alloc hB4.size ob)⟩ : Rd (w4.alloc ob) g rest 0 ∧ Below w.heap.size w (w4.alloc ob)))
              have HB5 := hid hB4
              clear hX hXlt hr4 hg4 hB0 hB4 h1 h2 h3 h4 h6
              go_wp2
              go_quiet (fail)
              go_wp2
              have hk := HK.out
              go_roundg (l.length - k - 1)
              case measure => omega
              case rel => exact ⟨k + 1, by omega, by go_num, by rw [HREST.out]; exact ((HEND.out _ 0).1), (below_drewN' (HEND.out _ 0).2 _)⟩
            · have hq : ((m : Int) != (n : Int) % 65536) = false := by
                have h := HM1.out
                rw [show (((2 : Int)).toNat) = 2 from rfl] at h
                simp only [bne_eq_false_iff_eq]
                simp only at HNX2
                omega
              clear HM1 HNX2
              go_wp2_with fail
              refine HT.out.mono ?_
              rintro e w4 ⟨rfl, hr4, hg4⟩
              have hX : w4.heap[wr.heap.size]? = some (.cells #[.int .i64 0, .int .i64 2, .int .u64 (n : Int), .slice A1 v.length c1, .slice A2 ls.length c2] 29 (0, 0)) := block_grown (blk_new rfl _ _) hg4 (by simp; omega)
              have hXlt := block_lt hX
              have x0 : ∀ ob, (w4.alloc ob).cell? ⟨wr.heap.size, 0, none⟩ = some (.int .i64 0) := fun ob => cell_of (blk_alloc hX ob) 0 _ rfl
              have x1 : ∀ ob, (w4.alloc ob).cell? ⟨wr.heap.size, 1, none⟩ = some (.int .i64 2) := fun ob => cell_of (blk_alloc hX ob) 1 _ rfl
              have x2 : ∀ ob, (w4.alloc ob).cell? ⟨wr.heap.size, 2, none⟩ = some (.int .u64 (n : Int)) := fun ob => cell_of (blk_alloc hX ob) 2 _ rfl
              have x3 : ∀ ob, (w4.alloc ob).cell? ⟨wr.heap.size, 3, none⟩ = some (.slice A1 v.length c1) := fun ob => cell_of (blk_alloc hX ob) 3 _ rfl
              have x4 : ∀ ob, (w4.alloc ob).cell? ⟨wr.heap.size, 4, none⟩ = some (.slice A2 ls.length c2) := fun ob => cell_of (blk_alloc hX ob) 4 _ rfl
              have hB4 : Below w.heap.size w w4 := hB0.grown hg4 (by simp; omega) (fun q h => by injection h with h; omega)
              have HEND := hid (fun ob (q : Nat) => (⟨(hr4.alloc ob), (hB4.alloc hB4.size ob)⟩ : Rd (w4.alloc ob) g rest 0 ∧ Below w.heap.size w (w4.alloc ob)))
              have HB5 := hid hB4
              clear hX hXlt hr4 hg4 hB0 hB4 h1 h2 h3 h4 h6
              go_wp2
              go_quiet (fail)
              go_wp2
              have hk := HK.out
              go_roundg (l.length - k - 1)
              case measure => omega
              case rel => exact ⟨k + 1, by omega, by go_num, by rw [HREST.out]; exact ((HEND.out _ 0).1), (below_drewN' (HEND.out _ 0).2 _)⟩
            · have hq : ((m : Int) != (n : Int) % 4294967296) = false := by
                have h := HM1.out
                rw [show (((4 : Int)).toNat) = 4 from rfl] at h
                simp only [bne_eq_false_iff_eq]
                simp only at HNX2
                omega
              clear HM1 HNX2
              go_wp2_with fail
              refine HT.out.mono ?_
              rintro e w4 ⟨rfl, hr4, hg4⟩
              have hX : w4.heap[wr.heap.size]? = some (.cells #[.int .i64 0, .int .i64 4, .int .u64 (n : Int), .slice A1 v.length c1, .slice A2 ls.length c2] 29 (0, 0)) := block_grown (blk_new rfl _ _) hg4 (by simp; omega)
              have hXlt := block_lt hX
              have x0 : ∀ ob, (w4.alloc ob).cell? ⟨wr.heap.size, 0, none⟩ = some (.int .i64 0) := fun ob => cell_of (blk_alloc hX ob) 0 _ rfl
              have x1 : ∀ ob, (w4.alloc ob).cell? ⟨wr.heap.size, 1, none⟩ = some (.int .i64 4) := fun ob => cell_of (blk_alloc hX ob) 1 _ rfl
              have x2 : ∀ ob, (w4.alloc ob).cell? ⟨wr.heap.size, 2, none⟩ = some (.int .u64 (n : Int)) := fun ob => cell_of (blk_alloc hX ob) 2 _ rfl
              have x3 : ∀ ob, (w4.alloc ob).cell? ⟨wr.heap.size, 3, none⟩ = some (.slice A1 v.length c1) := fun ob => cell_of (blk_alloc hX ob) 3 _ rfl
              have x4 : ∀ ob, (w4.alloc ob).cell? ⟨wr.heap.size, 4, none⟩ = some (.slice A2 ls.length c2) := fun ob => cell_of (blk_alloc hX ob) 4 _ rfl
              have hB4 : Below w.heap.size w w4 := hB0.grown hg4 (by simp; omega) (fun q h => by injection h with h; omega)
              have HEND := hid (fun ob (q : Nat) => (⟨(hr4.alloc ob), (hB4.alloc hB4.size ob)⟩ : Rd (w4.alloc ob) g rest 0 ∧ Below w.heap.size w (w4.alloc ob)))
              have HB5 := hid hB4
              clear hX hXlt hr4 hg4 hB0 hB4 h1 h2 h3 h4 h6
              go_wp2
              go_quiet (fail)
              go_wp2
              have hk := HK.out
              go_roundg (l.length - k - 1)
              case measure => omega
              case rel => exact ⟨k + 1, by omega, by go_num, by rw [HREST.out]; exact ((HEND.out _ 0).1), (below_drewN' (HEND.out _ 0).2 _)⟩
            · have hq : ((m : Int) != (n : Int)) = false := by
                have h := HM1.out
                rw [show (((8 : Int)).toNat) = 8 from rfl] at h
                simp only [bne_eq_false_iff_eq]
                simp only at HNX2
                omega
              clear HM1 HNX2
              go_wp2_with fail
              refine HT.out.mono ?_
              rintro e w4 ⟨rfl, hr4, hg4⟩
              have hX : w4.heap[wr.heap.size]? = some (.cells #[.int .i64 0, .int .i64 8, .int .u64 (n : Int), .slice A1 v.length c1, .slice A2 ls.length c2] 29 (0, 0)) := block_grown (blk_new rfl _ _) hg4 (by simp; omega)
              have hXlt := block_lt hX
              have x0 : ∀ ob, (w4.alloc ob).cell? ⟨wr.heap.size, 0, none⟩ = some (.int .i64 0) := fun ob => cell_of (blk_alloc hX ob) 0 _ rfl
              have x1 : ∀ ob, (w4.alloc ob).cell? ⟨wr.heap.size, 1, none⟩ = some (.int .i64 8) := fun ob => cell_of (blk_alloc hX ob) 1 _ rfl
              have x2 : ∀ ob, (w4.alloc ob).cell? ⟨wr.heap.size, 2, none⟩ = some (.int .u64 (n : Int)) := fun ob => cell_of (blk_alloc hX ob) 2 _ rfl
              have x3 : ∀ ob, (w4.alloc ob).cell? ⟨wr.heap.size, 3, none⟩ = some (.slice A1 v.length c1) := fun ob => cell_of (blk_alloc hX ob) 3 _ rfl
              have x4 : ∀ ob, (w4.alloc ob).cell? ⟨wr.heap.size, 4, none⟩ = some (.slice A2 ls.length c2) := fun ob => cell_of (blk_alloc hX ob) 4 _ rfl
              have hB4 : Below w.heap.size w w4 := hB0.grown hg4 (by simp; omega) (fun q h => by injection h with h; omega)
              have HEND := hid (fun ob (q : Nat) => (⟨(hr4.alloc ob), (hB4.alloc hB4.size ob)⟩ : Rd (w4.alloc ob) g rest 0 ∧ Below w.heap.size w (w4.alloc ob)))
              have HB5 := hid hB4
              clear hX hXlt hr4 hg4 hB0 hB4 h1 h2 h3 h4 h6
              go_wp2
              go_quiet (fail)
              go_wp2
              have hk := HK.out
              go_roundg (l.length - k - 1)
              case measure => omega
              case rel => exact ⟨k + 1, by omega, by go_num, by rw [HREST.out]; exact ((HEND.out _ 0).1), (below_drewN' (HEND.out _ 0).2 _)⟩
          · obtain rfl := hk0
            have hB0 : Below w.heap.size w (wr.alloc (.cells #[.int .i64 1, .int .i64 size, .int .u64 (n : Int), .slice A1 v.length c1, .slice A2 ls.length c2] 29)) := HB.out.alloc hz _
            have hW0 : Below w.heap.size wr (wr.alloc (.cells #[.int .i64 1, .int .i64 size, .int .u64 (n : Int), .slice A1 v.length c1, .slice A2 ls.length c2] 29)) := (Below.refl _ _).alloc hz _
            have hpb : putB ⟨1, size, n, v, ls⟩ = vecBytes v := by simp [putB]
            have hfx := HFX.out
            simp only [farIt, farHead, Bool.or_eq_false_iff, decide_eq_false_iff_not] at hfx
            obtain ⟨⟨⟨⟨k0, k4⟩, hv3⟩, hl2⟩, hll⟩ := hfx
            have htot := total_bound ls hll (by omega)
            have hback := vecAt_back v rest (by omega)
            rw [hpb] at HPD
            rw [← HPD.out] at hback
            have hT := take_vec g xs ⟨1, size, n, v, ls⟩ A1 c1 A2 c2 _ (HR.out.alloc (.cells #[.int .i64 1, .int .i64 size, .int .u64 (n : Int), .slice A1 v.length c1, .slice A2 ls.length c2] 29)) rfl HB4.out
            simp only [itV, Int.toNat_natCast] at hT
            rw [hback] at hT
            have HT := hid hT
            have HLL2 := hid hll
            clear hT hback hpb HPD HFX HSX HNX k0 k4 hll htot
            go_wp2_with fail
            refine HT.out.mono ?_
            rintro e w4 ⟨A3, c3, rfl, ho4, hr4, hg4⟩
            obtain ⟨A4, c4, hA4, hS4⟩ := own_sl ho4
            simp only [Value.slice.injEq, true_and] at hA4
            obtain ⟨rfl, rfl⟩ := hA4
            have HO := hid hS4.lie
            clear ho4 hS4
            have hBW : ∀ ob, Below w.heap.size wr (w4.alloc ob) := fun ob => (hW0.grown hg4 (by simp; omega) (fun q h => by injection h with h; omega)).alloc (by have := hg4.size; simp at this; omega) ob
            have HBW := hid hBW
            clear hBW hW0
            have hX : w4.heap[wr.heap.size]? = some (.cells #[.int .i64 1, .int .i64 size, .int .u64 (n : Int), .slice A1 v.length c1, .slice A2 ls.length c2] 29 (0, 0)) := block_grown (blk_new rfl _ _) hg4 (by simp; omega)
            have hXlt := block_lt hX
            have x0 : ∀ ob, (w4.alloc ob).cell? ⟨wr.heap.size, 0, none⟩ = some (.int .i64 1) := fun ob => cell_of (blk_alloc hX ob) 0 _ rfl
            have x1 : ∀ ob, (w4.alloc ob).cell? ⟨wr.heap.size, 1, none⟩ = some (.int .i64 size) := fun ob => cell_of (blk_alloc hX ob) 1 _ rfl
            have x2 : ∀ ob, (w4.alloc ob).cell? ⟨wr.heap.size, 2, none⟩ = some (.int .u64 (n : Int)) := fun ob => cell_of (blk_alloc hX ob) 2 _ rfl
            have x3 : ∀ ob, (w4.alloc ob).cell? ⟨wr.heap.size, 3, none⟩ = some (.slice A1 v.length c1) := fun ob => cell_of (blk_alloc hX ob) 3 _ rfl
            have x4 : ∀ ob, (w4.alloc ob).cell? ⟨wr.heap.size, 4, none⟩ = some (.slice A2 ls.length c2) := fun ob => cell_of (blk_alloc hX ob) 4 _ rfl
            have hB4 : Below w.heap.size w w4 := hB0.grown hg4 (by simp; omega) (fun q h => by injection h with h; omega)
            have HEND := hid (fun ob (q : Nat) => (⟨(hr4.alloc ob), (hB4.alloc hB4.size ob)⟩ : Rd (w4.alloc ob) g rest 0 ∧ Below w.heap.size w (w4.alloc ob)))
            have HB5 := hid hB4
            clear hX hXlt hr4 hg4 hB0 hB4 h1 h2 h3 h4 h6
            go_wp2_with fail
            refine (Same_any A3 v c3 A1 v c1 _ _ _ (HO.out.alloc (Nat.le_refl _) _) (HV.out.below (HBW.out _)) (by omega)).mono ?_
            rintro e w5 ⟨rfl, q5, rfl⟩
            rw [show (v == v) = true from beq_self_eq_true v]
            go_wp2
            have hk := HK.out
            go_roundg (l.length - k - 1)
            case measure => omega
            case rel => exact ⟨k + 1, by omega, by go_num, by rw [HREST.out]; exact (HEND.out _ 0).1, below_drewN' (HEND.out _ 0).2 _⟩
          · obtain rfl := hk0
            have hB0 : Below w.heap.size w (wr.alloc (.cells #[.int .i64 2, .int .i64 size, .int .u64 (n : Int), .slice A1 v.length c1, .slice A2 ls.length c2] 29)) := HB.out.alloc hz _
            have hW0 : Below w.heap.size wr (wr.alloc (.cells #[.int .i64 2, .int .i64 size, .int .u64 (n : Int), .slice A1 v.length c1, .slice A2 ls.length c2] 29)) := (Below.refl _ _).alloc hz _
            have hpb : putB ⟨2, size, n, v, ls⟩ = vecBytes (joinVecs ls) := by simp [putB]
            have hfx := HFX.out
            simp only [farIt, farHead, Bool.or_eq_false_iff, decide_eq_false_iff_not] at hfx
            obtain ⟨⟨⟨⟨k0, k4⟩, hv3⟩, hl2⟩, hll⟩ := hfx
            have htot := total_bound ls hll (by omega)
            have hback := listAt_back ls rest (by omega)
            rw [hpb] at HPD
            rw [← HPD.out] at hback
            have hT := take_list g xs ⟨2, size, n, v, ls⟩ A1 c1 A2 c2 _ (HR.out.alloc (.cells #[.int .i64 2, .int .i64 size, .int .u64 (n : Int), .slice A1 v.length c1, .slice A2 ls.length c2] 29)) rfl HB4.out
            simp only [itV, Int.toNat_natCast] at hT
            rw [hback] at hT
            have HT := hid hT
            have HLL2 := hid hll
            clear hT hback hpb HPD HFX HSX HNX k0 k4 hll htot
            go_wp2_with fail
            refine HT.out.mono ?_
            rintro e w4 ⟨A3, c3, rfl, ho4, hr4, hg4⟩
            have HO := hid ho4
            clear ho4
            have hBW : ∀ ob, Below w.heap.size wr (w4.alloc ob) := fun ob => (hW0.grown hg4 (by simp; omega) (fun q h => by injection h with h; omega)).alloc (by have := hg4.size; simp at this; omega) ob
            have HBW := hid hBW
            clear hBW hW0
            have hX : w4.heap[wr.heap.size]? = some (.cells #[.int .i64 2, .int .i64 size, .int .u64 (n : Int), .slice A1 v.length c1, .slice A2 ls.length c2] 29 (0, 0)) := block_grown (blk_new rfl _ _) hg4 (by simp; omega)
            have hXlt := block_lt hX
            have x0 : ∀ ob, (w4.alloc ob).cell? ⟨wr.heap.size, 0, none⟩ = some (.int .i64 2) := fun ob => cell_of (blk_alloc hX ob) 0 _ rfl
            have x1 : ∀ ob, (w4.alloc ob).cell? ⟨wr.heap.size, 1, none⟩ = some (.int .i64 size) := fun ob => cell_of (blk_alloc hX ob) 1 _ rfl
            have x2 : ∀ ob, (w4.alloc ob).cell? ⟨wr.heap.size, 2, none⟩ = some (.int .u64 (n : Int)) := fun ob => cell_of (blk_alloc hX ob) 2 _ rfl
            have x3 : ∀ ob, (w4.alloc ob).cell? ⟨wr.heap.size, 3, none⟩ = some (.slice A1 v.length c1) := fun ob => cell_of (blk_alloc hX ob) 3 _ rfl
            have x4 : ∀ ob, (w4.alloc ob).cell? ⟨wr.heap.size, 4, none⟩ = some (.slice A2 ls.length c2) := fun ob => cell_of (blk_alloc hX ob) 4 _ rfl
            have hB4 : Below w.heap.size w w4 := hB0.grown hg4 (by simp; omega) (fun q h => by injection h with h; omega)
            have HEND := hid (fun ob (q : Nat) => (⟨(hr4.alloc ob), (hB4.alloc hB4.size ob)⟩ : Rd (w4.alloc ob) g rest 0 ∧ Below w.heap.size w (w4.alloc ob)))
            have HB5 := hid hB4
            clear hX hXlt hr4 hg4 hB0 hB4 h1 h2 h3 h4 h6
            go_wp2_with fail
            refine (SameLists_any A3 ls c3 A2 ls c2 _ w4.heap.size w.heap.size (HO.out.below ((Below.refl _ _).alloc (Nat.le_refl _) _)) (HLS.out.below (HBW.out _)) (by omega) (fun y hy => by
              have h := List.any_eq_false.1 HLL2.out y hy
              simp only [decide_eq_true_eq] at h
              omega)).mono ?_
            rintro e w5 ⟨rfl, q5, rfl⟩
            rw [show (ls == ls) = true from beq_self_eq_true ls]
            go_wp2
            have hk := HK.out
            go_roundg (l.length - k - 1)
            case measure => omega
            case rel => exact ⟨k + 1, by omega, by go_num, by rw [HREST.out]; exact (HEND.out _ 0).1, below_drewN' (HEND.out _ 0).2 _⟩
          · by_cases hn0 : 0 < n
            · obtain rfl := hk0
              have hB0 : Below w.heap.size w (wr.alloc (.cells #[.int .i64 3, .int .i64 size, .int .u64 (n : Int), .slice A1 v.length c1, .slice A2 ls.length c2] 29)) := HB.out.alloc hz _
              have hW0 : Below w.heap.size wr (wr.alloc (.cells #[.int .i64 3, .int .i64 size, .int .u64 (n : Int), .slice A1 v.length c1, .slice A2 ls.length c2] 29)) := (Below.refl _ _).alloc hz _
              have hpb : putB ⟨3, size, n, v, ls⟩ = beBytes 1 1 := by simp [putB, hn0]
              have hfx := HFX.out
              simp only [farIt, farHead, Bool.or_eq_false_iff, decide_eq_false_iff_not] at hfx
              obtain ⟨⟨⟨⟨k0, k4⟩, hv3⟩, hl2⟩, hll⟩ := hfx
              have htot := total_bound ls hll (by omega)
              have hback := flagAt_back true rest
              rw [hpb] at HPD
              simp only [if_true, Bool.false_eq_true, if_false] at hback
              rw [← HPD.out] at hback
              have hT := take_flag g xs ⟨3, size, n, v, ls⟩ A1 c1 A2 c2 _ (HR.out.alloc (.cells #[.int .i64 3, .int .i64 size, .int .u64 (n : Int), .slice A1 v.length c1, .slice A2 ls.length c2] 29)) rfl
              simp only [itV, Int.toNat_natCast] at hT
              rw [hback] at hT
              simp only [if_true, Bool.false_eq_true, if_false] at hT
              have HT := hid hT
              have HLL2 := hid hll
              clear hT hback hpb HPD HFX HSX HNX k0 k4 hll htot
              have hdn : decide (0 < n) = true := by simpa using hn0
              have hdni : decide ((0 : Int) < (n : Int)) = true := by simp; omega
              have hnb : ∀ (W : World) (p q : Bool), (binOp .neq 4 (.bool p) (.bool q)).run Try.prog W = .ok (.bool (!(p == q))) W := fun W p q => run_neq_bool W 4 p q Try.underlying4
              go_wp2_with fail
              refine HT.out.mono ?_
              rintro e w4 ⟨rfl, hr4, hg4⟩
              clear hW0
              have hX : w4.heap[wr.heap.size]? = some (.cells #[.int .i64 3, .int .i64 size, .int .u64 (n : Int), .slice A1 v.length c1, .slice A2 ls.length c2] 29 (0, 0)) := block_grown (blk_new rfl _ _) hg4 (by simp; omega)
              have hXlt := block_lt hX
              have x0 : ∀ ob, (w4.alloc ob).cell? ⟨wr.heap.size, 0, none⟩ = some (.int .i64 3) := fun ob => cell_of (blk_alloc hX ob) 0 _ rfl
              have x1 : ∀ ob, (w4.alloc ob).cell? ⟨wr.heap.size, 1, none⟩ = some (.int .i64 size) := fun ob => cell_of (blk_alloc hX ob) 1 _ rfl
              have x2 : ∀ ob, (w4.alloc ob).cell? ⟨wr.heap.size, 2, none⟩ = some (.int .u64 (n : Int)) := fun ob => cell_of (blk_alloc hX ob) 2 _ rfl
              have x3 : ∀ ob, (w4.alloc ob).cell? ⟨wr.heap.size, 3, none⟩ = some (.slice A1 v.length c1) := fun ob => cell_of (blk_alloc hX ob) 3 _ rfl
              have x4 : ∀ ob, (w4.alloc ob).cell? ⟨wr.heap.size, 4, none⟩ = some (.slice A2 ls.length c2) := fun ob => cell_of (blk_alloc hX ob) 4 _ rfl
              have hB4 : Below w.heap.size w w4 := hB0.grown hg4 (by simp; omega) (fun q h => by injection h with h; omega)
              have HEND := hid (fun ob (q : Nat) => (⟨(hr4.alloc ob), (hB4.alloc hB4.size ob)⟩ : Rd (w4.alloc ob) g rest 0 ∧ Below w.heap.size w (w4.alloc ob)))
              have HB5 := hid hB4
              clear hX hXlt hr4 hg4 hB0 hB4 h1 h2 h3 h4 h6
              go_wp2
              have hk := HK.out
              go_roundg (l.length - k - 1)
              case measure => omega
              case rel => exact ⟨k + 1, by omega, by go_num, by rw [HREST.out]; exact (HEND.out _ 0).1, (HEND.out _ 0).2⟩
            · obtain rfl := hk0
              have hB0 : Below w.heap.size w (wr.alloc (.cells #[.int .i64 3, .int .i64 size, .int .u64 (n : Int), .slice A1 v.length c1, .slice A2 ls.length c2] 29)) := HB.out.alloc hz _
              have hW0 : Below w.heap.size wr (wr.alloc (.cells #[.int .i64 3, .int .i64 size, .int .u64 (n : Int), .slice A1 v.length c1, .slice A2 ls.length c2] 29)) := (Below.refl _ _).alloc hz _
              have hpb : putB ⟨3, size, n, v, ls⟩ = beBytes 1 0 := by simp [putB, hn0]
              have hfx := HFX.out
              simp only [farIt, farHead, Bool.or_eq_false_iff, decide_eq_false_iff_not] at hfx
              obtain ⟨⟨⟨⟨k0, k4⟩, hv3⟩, hl2⟩, hll⟩ := hfx
              have htot := total_bound ls hll (by omega)
              have hback := flagAt_back false rest
              rw [hpb] at HPD
              simp only [if_true, Bool.false_eq_true, if_false] at hback
              rw [← HPD.out] at hback
              have hT := take_flag g xs ⟨3, size, n, v, ls⟩ A1 c1 A2 c2 _ (HR.out.alloc (.cells #[.int .i64 3, .int .i64 size, .int .u64 (n : Int), .slice A1 v.length c1, .slice A2 ls.length c2] 29)) rfl
              simp only [itV, Int.toNat_natCast] at hT
              rw [hback] at hT
              simp only [if_true, Bool.false_eq_true, if_false] at hT
              have HT := hid hT
              have HLL2 := hid hll
              clear hT hback hpb HPD HFX HSX HNX k0 k4 hll htot
              have hdn : decide (0 < n) = false := by simpa using hn0
              have hdni : decide ((0 : Int) < (n : Int)) = false := by simp; omega
              have hnb : ∀ (W : World) (p q : Bool), (binOp .neq 4 (.bool p) (.bool q)).run Try.prog W = .ok (.bool (!(p == q))) W := fun W p q => run_neq_bool W 4 p q Try.underlying4
              go_wp2_with fail
              refine HT.out.mono ?_
              rintro e w4 ⟨rfl, hr4, hg4⟩
              clear hW0
              have hX : w4.heap[wr.heap.size]? = some (.cells #[.int .i64 3, .int .i64 size, .int .u64 (n : Int), .slice A1 v.length c1, .slice A2 ls.length c2] 29 (0, 0)) := block_grown (blk_new rfl _ _) hg4 (by simp; omega)
              have hXlt := block_lt hX
              have x0 : ∀ ob, (w4.alloc ob).cell? ⟨wr.heap.size, 0, none⟩ = some (.int .i64 3) := fun ob => cell_of (blk_alloc hX ob) 0 _ rfl
              have x1 : ∀ ob, (w4.alloc ob).cell? ⟨wr.heap.size, 1, none⟩ = some (.int .i64 size) := fun ob => cell_of (blk_alloc hX ob) 1 _ rfl
              have x2 : ∀ ob, (w4.alloc ob).cell? ⟨wr.heap.size, 2, none⟩ = some (.int .u64 (n : Int)) := fun ob => cell_of (blk_alloc hX ob) 2 _ rfl
              have x3 : ∀ ob, (w4.alloc ob).cell? ⟨wr.heap.size, 3, none⟩ = some (.slice A1 v.length c1) := fun ob => cell_of (blk_alloc hX ob) 3 _ rfl
              have x4 : ∀ ob, (w4.alloc ob).cell? ⟨wr.heap.size, 4, none⟩ = some (.slice A2 ls.length c2) := fun ob => cell_of (blk_alloc hX ob) 4 _ rfl
              have hB4 : Below w.heap.size w w4 := hB0.grown hg4 (by simp; omega) (fun q h => by injection h with h; omega)
              have HEND := hid (fun ob (q : Nat) => (⟨(hr4.alloc ob), (hB4.alloc hB4.size ob)⟩ : Rd (w4.alloc ob) g rest 0 ∧ Below w.heap.size w (w4.alloc ob)))
              have HB5 := hid hB4
              clear hX hXlt hr4 hg4 hB0 hB4 h1 h2 h3 h4 h6
              go_wp2
              have hk := HK.out
              go_roundg (l.length - k - 1)
              case measure => omega
              case rel => exact ⟨k + 1, by omega, by go_num, by rw [HREST.out]; exact (HEND.out _ 0).1, (HEND.out _ 0).2⟩
          · obtain rfl := hk0
            have hB0 : Below w.heap.size w (wr.alloc (.cells #[.int .i64 4, .int .i64 (v.length : Int), .int .u64 (n : Int), .slice A1 v.length c1, .slice A2 ls.length c2] 29)) := HB.out.alloc hz _
            have hW0 : Below w.heap.size wr (wr.alloc (.cells #[.int .i64 4, .int .i64 (v.length : Int), .int .u64 (n : Int), .slice A1 v.length c1, .slice A2 ls.length c2] 29)) := (Below.refl _ _).alloc hz _
            have hpb : putB ⟨4, size, n, v, ls⟩ = v := by simp [putB]
            have hfx := HFX.out
            simp only [farIt, farHead, Bool.or_eq_false_iff, decide_eq_false_iff_not] at hfx
            obtain ⟨⟨⟨⟨k0, k4⟩, hv3⟩, hl2⟩, hll⟩ := hfx
            have htot := total_bound ls hll (by omega)
            have hback := takeAt_back v rest
            rw [hpb] at HPD
            rw [← HPD.out] at hback
            have hT := take_bytes g xs ⟨4, (v.length : Int), n, v, ls⟩ A1 c1 A2 c2 _ (HR.out.alloc (.cells #[.int .i64 4, .int .i64 (v.length : Int), .int .u64 (n : Int), .slice A1 v.length c1, .slice A2 ls.length c2] 29)) rfl HB4.out (by simp) (by simp; omega)
            simp only [itV, Int.toNat_natCast] at hT
            rw [hback] at hT
            have HT := hid hT
            have HLL2 := hid hll
            clear hT hback hpb HPD HFX HSX HNX k0 k4 hll htot
            go_wp2_with fail
            refine HT.out.mono ?_
            rintro e w4 ⟨A3, c3, rfl, ho4, hr4, hg4⟩
            obtain ⟨A4, c4, hA4, hS4⟩ := own_sl ho4
            simp only [Value.slice.injEq, true_and] at hA4
            obtain ⟨rfl, rfl⟩ := hA4
            have HO := hid hS4.lie
            clear ho4 hS4
            have hBW : ∀ ob, Below w.heap.size wr (w4.alloc ob) := fun ob => (hW0.grown hg4 (by simp; omega) (fun q h => by injection h with h; omega)).alloc (by have := hg4.size; simp at this; omega) ob
            have HBW := hid hBW
            clear hBW hW0
            have hX : w4.heap[wr.heap.size]? = some (.cells #[.int .i64 4, .int .i64 (v.length : Int), .int .u64 (n : Int), .slice A1 v.length c1, .slice A2 ls.length c2] 29 (0, 0)) := block_grown (blk_new rfl _ _) hg4 (by simp; omega)
            have hXlt := block_lt hX
            have x0 : ∀ ob, (w4.alloc ob).cell? ⟨wr.heap.size, 0, none⟩ = some (.int .i64 4) := fun ob => cell_of (blk_alloc hX ob) 0 _ rfl
            have x1 : ∀ ob, (w4.alloc ob).cell? ⟨wr.heap.size, 1, none⟩ = some (.int .i64 (v.length : Int)) := fun ob => cell_of (blk_alloc hX ob) 1 _ rfl
            have x2 : ∀ ob, (w4.alloc ob).cell? ⟨wr.heap.size, 2, none⟩ = some (.int .u64 (n : Int)) := fun ob => cell_of (blk_alloc hX ob) 2 _ rfl
            have x3 : ∀ ob, (w4.alloc ob).cell? ⟨wr.heap.size, 3, none⟩ = some (.slice A1 v.length c1) := fun ob => cell_of (blk_alloc hX ob) 3 _ rfl
            have x4 : ∀ ob, (w4.alloc ob).cell? ⟨wr.heap.size, 4, none⟩ = some (.slice A2 ls.length c2) := fun ob => cell_of (blk_alloc hX ob) 4 _ rfl
            have hB4 : Below w.heap.size w w4 := hB0.grown hg4 (by simp; omega) (fun q h => by injection h with h; omega)
            have HEND := hid (fun ob (q : Nat) => (⟨(hr4.alloc ob), (hB4.alloc hB4.size ob)⟩ : Rd (w4.alloc ob) g rest 0 ∧ Below w.heap.size w (w4.alloc ob)))
            have HB5 := hid hB4
            clear hX hXlt hr4 hg4 hB0 hB4 h1 h2 h3 h4 h6
            go_wp2_with fail
            refine (Same_any A3 v c3 A1 v c1 _ _ _ (HO.out.alloc (Nat.le_refl _) _) (HV.out.below (HBW.out _)) (by omega)).mono ?_
            rintro e w5 ⟨rfl, q5, rfl⟩
            rw [show (v == v) = true from beq_self_eq_true v]
            go_wp2
            have hk := HK.out
            go_roundg (l.length - k - 1)
            case measure => omega
            case rel => exact ⟨k + 1, by omega, by go_num, by rw [HREST.out]; exact (HEND.out _ 0).1, below_drewN' (HEND.out _ 0).2 _⟩
        · have hk := HK.out
          obtain rfl : k = l.length := by omega
          clear hk
          have hR := HR.out
          rw [List.drop_length] at hR
          have HE := hid (End_any g [] 0 _ hR (by omega))
          clear hR
          go_wp2_with fail
          refine HE.out.mono ?_
          rintro e w' ⟨rfl, rfl⟩
          have hE0 : endOf [] 0 = 0 := rfl
          rw [hE0]
          clear hE0 HE
          go_wp2_with fail
          refine (Num_nil _ _).mono ?_
          rintro e w' ⟨rfl, rfl⟩
          go_wp2_with fail
          refine (Vec_nil _).mono ?_
          rintro e w' ⟨rfl, rfl⟩
          go_wp2_with fail
          refine (Take_nil _ _).mono ?_
          rintro e w' ⟨rfl, rfl⟩
          go_wp2_with fail
          refine (Left_nil _).mono ?_
          rintro e w' ⟨rfl, rfl⟩
          go_wp2_with fail
          refine (Flag_nil _).mono ?_
          rintro e w' ⟨rfl, rfl⟩
          go_wp2_with fail
          refine (Err_nil _).mono ?_
          rintro e w' ⟨rfl, rfl⟩
          go_wp2_with fail
          refine (End_nil _).mono ?_
          rintro e w' ⟨rfl, rfl⟩
          go_wp2
          go_ret
          exact ⟨rfl, HB.out⟩
end Go.Proofs.Ytkdpaaaleicopaa
