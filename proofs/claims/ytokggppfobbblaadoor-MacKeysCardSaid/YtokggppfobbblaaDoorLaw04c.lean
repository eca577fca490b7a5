/-
  The statement MacKeys: the walk.
-/
import Derived.Test.YtokggppfobbblaaDoorLaw04b
namespace Go.Proofs.YtokggppfobbblaaDoor
open Go.RowKit
set_option linter.unusedVariables false
set_option linter.unusedSimpArgs false

/-- Block b holds the tag. -/
def TagAt (W : World) (b : Nat) (key text : List UInt8) : Prop := W.heap[b]? = some (.cells (byA (macB key text)) A32 (0, 0))
theorem tagAt_keep {W W' : World} {b : Nat} {key text : List UInt8} (h : TagAt W b key text) (hk : W'.heap[b]? = W.heap[b]?) : TagAt W' b key text := hk.trans h
theorem msame_tags (W : World) (b b' : Nat) (key text key' text' : List UInt8) (h : TagAt W b key text) (h' : TagAt W b' key' text') (he : macB key text = macB key' text') :
    Calls Tryd.prog 23 #[.slice (some ⟨b, 0, none⟩) 32 32, .slice (some ⟨b', 0, none⟩) 32 32] W fun e w' => e = .returned (.bool true) ∧ W = w' := by
  have h1 := MSame_any (some ⟨b, 0, none⟩) (macB key text) 32 (some ⟨b', 0, none⟩) (macB key' text') 32 W W.heap.size W.heap.size (lie_block h) (lie_block h') (by rw [macB_length]; omega) (by rw [macB_length]; omega)
  rw [macB_length, macB_length, he, show (macB key' text' == macB key' text') = true from beq_self_eq_true _] at h1
  exact h1
/-- A tag of one part that stands in a new row. -/
theorem tag1_any (A : Option Addr) (key : List UInt8) (c n : Nat) (A' : Option Addr) (text : List UInt8) (c' m k : Nat) (w : World) (hA : Sq w w.heap.size A c (bvs key)) (hA' : Sq w w.heap.size A' c' (bvs text)) (hG : Glob w)
    (hn : key.length = n) (hm : text.length = m) (hk : w.heap.size = k) (hn2 : n ≤ 1152921504606846976) (hm2 : m ≤ 1152921504606840000) :
    Calls Tryd.prog 21 #[.slice A n c, .slice (some ⟨k, 0, none⟩) 1 1] (w.alloc (.cells #[.slice A' m c'] 22)) (fun e W' => ∃ b, e = .returned (.slice (some ⟨b, 0, none⟩) 32 32) ∧ TagAt W' b key text ∧ w.heap.size < b ∧ b < W'.heap.size ∧ Below w.heap.size w W') := by
  subst hn; subst hm; subst hk
  have h := tags_any A key c [(A', text, c')] w hA (by intro p hp; rw [List.mem_singleton] at hp; subst hp; exact hA') hG hn2 (by simpa using hm2) (by simp)
  simp only [List.map_cons, List.map_nil, List.flatten_cons, List.flatten_nil, List.append_nil, List.length_cons, List.length_nil] at h
  exact h.mono fun e W' ⟨b, h1, h2, h3, h4⟩ => ⟨b, h1, h2, h3, block_lt h2, h4⟩

theorem splice_zero {α : Type} (cur cs : List α) : splice cur 0 cs = cs ++ cur.drop cs.length := by simp [splice]
/-- A new row of noughts in which a key was laid. -/
theorem long_sq {w : World} {g n d : Nat} {key : List UInt8} {cur : List Value} {t : TypeId} (h : w.heap[g]? = some (.cells (splice cur 0 (bvs key)).toArray t (0, 0))) (hc : cur.take n = List.replicate n (.int .u8 0)) (hn : n = key.length + d) (hn2 : n ≤ 9223372036854775807) :
    Sq w w.heap.size (some ⟨g, 0, none⟩) n (bvs (key ++ List.replicate d 0)) := by
  refine .inr ⟨g, 0, rfl, block_lt h, by rw [bvs_length]; simp [hn], hn2, fun j u hu => ?_⟩
  rw [Nat.zero_add]
  refine cell_of h j u ?_
  rw [List.getElem?_toArray, splice_zero]
  have hj : j < n := by
    have := (List.getElem?_eq_some_iff.1 hu).1
    rw [bvs_length] at this
    simpa [hn] using this
  rw [bvs_append] at hu
  by_cases hk : j < key.length
  · rw [List.getElem?_append_left (by simpa using hk)] at hu ⊢
    exact hu
  · rw [List.getElem?_append_right (by simpa using hk)] at hu ⊢
    rw [bvs_length, List.getElem?_drop, Nat.add_sub_cancel' (by omega)]
    rw [bvs_length] at hu
    have h0 : u = .int .u8 0 := by
      simp only [bvs, List.map_replicate, List.getElem?_replicate] at hu
      split at hu
      · injection hu with hu; rw [← hu]; rfl
      · cases hu
    have h1 : (cur.take n)[j]? = some (.int .u8 0) := by rw [hc, List.getElem?_replicate, if_pos hj]
    rw [List.getElem?_take, if_pos hj] at h1
    rw [h1, h0]

set_option maxRecDepth 100000 in
set_option maxHeartbeats 1600000 in
theorem macKeys_any (A : Option Addr) (key : List UInt8) (c : Nat) (A' : Option Addr) (text : List UInt8) (c' : Nat) (t : Int) (w : World) (hA : Sq w w.heap.size A c (bvs key)) (hA' : Sq w w.heap.size A' c' (bvs text)) (ht0 : 0 ≤ t) (ht1 : t ≤ 255) (hG : Glob w) :
    Calls Tryd.prog 8 #[.slice A key.length c, .slice A' text.length c', .int .u8 t] w fun e w' => e = .returned (.bool true) ∧ Below w.heap.size w w' := by
  have hc1 := hA.cap; have hc2 := hA'.cap
  rw [bvs_length] at hc1 hc2
  obtain ⟨hc1, hc1'⟩ := hc1; obtain ⟨hc2, hc2'⟩ := hc2
  have HA := hid hA; have HA' := hid hA'; have HG := hid hG
  clear hA hA' hG
  by_cases h1 : 150 < key.length
  · have hx : (150 : Int) < (key.length : Int) := by omega
    go_enter Tryd.func8, Tryd.ntmps8
    go_wp2_with fail
    refine (alive4_any _ HG.out).mono ?_
    rintro e w1 ⟨rfl, hb1⟩
    go_wp2
    go_ret
    exact ⟨rfl, hb1⟩
  have hx1 : ¬ (150 : Int) < (key.length : Int) := by omega
  have hx1' : decide ((150 : Int) < (key.length : Int)) = false := by simpa using hx1
  by_cases h2 : 200 < text.length
  · have hx : (200 : Int) < (text.length : Int) := by omega
    go_enter Tryd.func8, Tryd.ntmps8
    go_wp2_with fail
    refine (alive4_any _ HG.out).mono ?_
    rintro e w1 ⟨rfl, hb1⟩
    go_wp2
    go_ret
    exact ⟨rfl, hb1⟩
  have hx2 : ¬ (200 : Int) < (text.length : Int) := by omega
  have hx2' : decide ((200 : Int) < (text.length : Int)) = false := by simpa using hx2
  go_enter Tryd.func8, Tryd.ntmps8
  go_wp2_with fail
  refine (alive4_any _ HG.out).mono ?_
  rintro e w1 ⟨rfl, hb1⟩
  have hw1 := hb1.size
  have HT1 := hid (tag1_any A key c _ A' text c' _ _ w1 ((HA.out.below hb1).more hw1) ((HA'.out.below hb1).more hw1) (HG.out.below hb1 (Nat.le_refl _)) rfl rfl rfl (by omega) (by omega))
  have HB1 := hid hb1
  clear hb1
  go_wp2_with fail
  refine HT1.out.mono ?_
  rintro e w2 ⟨bt, rfl, ht2, hbt, hbtl, hb2⟩
  have hw2 : w1.heap.size ≤ w2.heap.size := hb2.size
  have HB2 := hid (HB1.out.trans (hb2.mono hw1)); have HT2 := hid ht2
  clear hb2 ht2 HT1
  by_cases h64 : 64 < key.length
  · have hx : (64 : Int) < (key.length : Int) := by omega
    have HO := hid (ofs_any [(A, key, c)] w2 (by intro p hp; rw [List.mem_singleton] at hp; subst hp; exact (HA.out.below HB2.out).more HB2.out.size) (HG.out.below HB2.out (Nat.le_refl _)) (by simp; omega) (by simp))
    simp only [List.map_cons, List.map_nil, List.flatten_cons, List.flatten_nil, List.append_nil, List.length_cons, List.length_nil] at HO
    go_wp2_with fail
    refine HO.out.mono ?_
    rintro e w3 ⟨bd, rfl, hbd, hbdz, hb3⟩
    have hB3 : Below w.heap.size w w3 := HB2.out.trans (hb3.mono HB2.out.size)
    have HT3 : Hid (TagAt w3 bt key text) := hid ((hb3.block bt hbtl).trans HT2.out)
    have HK := hid (tag1_any (some ⟨bd, 0, none⟩) (shaB key) 32 32 A' text c' _ _ w3 ((lie_block hbd).sq (by rw [bvs_length, shaB_length]; exact Nat.le_refl _) (by omega)) ((HA'.out.below hB3).more hB3.size) (HG.out.below hB3 (Nat.le_refl _)) (shaB_length _) rfl rfl (by omega) (by omega))
    have HB3 := hid hB3
    have hbt3 : bt < w3.heap.size := by have := hb3.size; omega
    clear hbd hb3 hB3 HO
    go_wp2_with fail
    refine HK.out.mono ?_
    rintro e w4 ⟨b4, rfl, ht4, hbz4, hbl4, hb4⟩
    have HM := hid (msame_tags w4 bt b4 key text (shaB key) text ((hb4.block bt hbt3).trans HT3.out) ht4 (macB_digest key text h64).symm)
    have HB4 := hid (HB3.out.trans (hb4.mono HB3.out.size))
    clear ht4 hb4 HK
    go_wp2_with fail
    refine HM.out.mono ?_
    rintro e w5 ⟨rfl, rfl⟩
    go_wp2
    go_ret
    exact ⟨rfl, HB4.out⟩
  · have hx : ¬ (64 : Int) < (key.length : Int) := by omega
    obtain ⟨tn, rfl⟩ := Int.eq_ofNat_of_zero_le ht0
    obtain ⟨d, hd⟩ : ∃ d, d = tn % (65 - key.length) := ⟨_, rfl⟩
    have hdl : d < 65 - key.length := by rw [hd]; exact Nat.mod_lt _ (by omega)
    have htw : IntKind.i64.wrap (tn : Int) = (tn : Int) := IntWalk.i64_in _ (by omega)
    have hsw : IntKind.i64.wrap (65 - (key.length : Int)) = 65 - (key.length : Int) := IntWalk.i64_in _ (by omega)
    have htm : Int.tmod (tn : Int) (65 - (key.length : Int)) = (d : Int) := by
      rw [show (65 : Int) - (key.length : Int) = ((65 - key.length : Nat) : Int) by omega, hd]; exact (Int.ofNat_tmod tn _).symm
    have hne : ¬ (65 - (key.length : Int) = 0) := by omega
    obtain ⟨n, hn⟩ : ∃ n, n = key.length + d := ⟨_, rfl⟩
    have hnw : IntKind.i64.wrap ((key.length : Int) + (d : Int)) = (n : Int) := by rw [hn]; exact IntWalk.i64_in _ (by omega)
    have hnc : (key.length : Int) + (d : Int) = (n : Int) := by omega
    obtain ⟨i8, hi8, hz8, hs8, hb8⟩ := info_parts infoU8
    have HI8 := hid hi8; have HZ8 := hid hz8; have HS8 := hid hs8; have HB8 := hid hb8
    have HD := hid hd; have HN := hid hn; have HNC := hid hnc
    have hn64 : n ≤ 64 := by omega
    clear hd hi8 hz8 hs8 hb8 hn hnc hnw
    go_wp2_with (first | fail | (with_reducible refine wpList_make_full _ rfl (.tmp 45) (.tmp 45) 22 rfl w2.heap.size 5 i8 (.int .u8 0) 1 Tryd.underlying22 HI8.out HZ8.out HS8.out .i64 .i64 _ _ n rfl rfl HNC.out HNC.out ?m1 ?m2 (Nat.le_refl _) ?_))
    case m1 => rw [HB8.out]; omega
    case m2 => unfold maxLen; omega
    intro w3 hown3 hg3
    obtain ⟨cur, hcur, hct⟩ : ∃ cur : List Value, w3.heap[w2.heap.size]? = some (.cells cur.toArray 5 (0, 0)) ∧ cur.take n = List.replicate n (.int .u8 0) ∧ n ≤ cur.length := by
      rcases hown3.2 with ⟨h, _⟩ | ⟨g', cap, cur, hv, hb, hg, h1, h2, h3, h4⟩
      · simp at h
      · simp only [Value.slice.injEq, Option.some.injEq, Addr.mk.injEq] at hv
        obtain ⟨⟨rfl, _⟩, _, rfl⟩ := hv
        refine ⟨cur.toList, by simpa using hg, ?_, ?_⟩
        · have h5 := h4
          rw [toList_madeCells_one] at h5
          simpa using h5
        · simpa using Nat.le_of_eq h3.symm
    obtain ⟨hct, hcl⟩ := hct
    have hB3 : Below w.heap.size w w3 := HB2.out.grown hg3 HB2.out.size (fun q h => by cases h)
    have hwz : w.heap.size ≤ w2.heap.size := HB2.out.size
    have HT3 : Hid (TagAt w3 bt key text) := hid ((hg3.block bt hbtl (by simp)).trans HT2.out)
    have HCUR := hid hcur; have HCT := hid hct; have HB3 := hid hB3
    have HA3 : Hid (Lie w3 w3.heap.size A (bvs key)) := hid (((HA.out.below hB3).more hB3.size).lie)
    have HLK : Hid ((bvs key).length = Nat.min key.length n) := hid (by rw [bvs_length]; exact (Nat.min_eq_left (by have := HN.out; omega)).symm)
    obtain ⟨kb, hkb⟩ : ∃ kb, kb = bvs key := ⟨_, rfl⟩
    have hkl : kb.length = key.length := by rw [hkb, bvs_length]
    have hko : ∀ v ∈ kb, v.oneCell' = true := by rw [hkb]; exact bvs_one key
    rw [← hkb] at HA3 HLK
    have HKO := hid hko; have HKB := hid hkb; have HKL := hid hkl
    clear hown3 hg3 hcur hct hB3 hkb hkl hko
    go_wp2_with (first
      | fail
      | (with_reducible refine wpList_copy_grown rfl (.tmp 47) (.tmp 48) _ _ rfl 5 Tryd.underlying22 sizeU8 _ _ _ _ _ _ rfl rfl w2.heap.size 0 cur 5 HCUR.out kb ?e2 ?e3 ?e4 ?e5 w3 (World.grownBy.refl w3 _) ?_))
    case e2 => exact HLK.out
    case e3 => intro hp; first | exact ⟨rfl, HA3.out.src hp⟩ | exact HA3.out.src hp
    case e4 => rw [HKL.out]; have := HN.out; omega
    case e5 => exact HKO.out
    intro w4 HW4 hg4
    have hb4 : Below w.heap.size w w4 := HB3.out.grown hg4 HB3.out.size (fun q h => by injection h with h; omega)
    have hbt3 : bt < w3.heap.size := block_lt HT3.out
    have HT4 : Hid (TagAt w4 bt key text) := hid ((hg4.block bt hbt3 (by simp; omega)).trans HT3.out)
    have HLK4 : Hid (Sq w4 w4.heap.size (some ⟨w2.heap.size, 0, none⟩) n (bvs (key ++ List.replicate d 0))) := hid (long_sq (by rw [← HKB.out]; exact HW4.out) HCT.out HN.out (by omega))
    have HB4 := hid hb4
    have hbt4 : bt < w4.heap.size := block_lt HT4.out
    obtain ⟨k, hk⟩ : ∃ k, k = text.length / 2 := ⟨_, rfl⟩
    have hki : Int.tdiv (text.length : Int) 2 = (k : Int) := by rw [hk]; exact (Int.ofNat_tdiv text.length 2).symm
    have hkw : IntKind.i64.wrap (k : Int) = (k : Int) := IntWalk.i64_in _ (by omega)
    have hki2 : (text.length : Int) / 2 = (k : Int) := by rw [hk]; rfl
    have HK := hid hk
    have hkt : k ≤ text.length := by omega
    generalize w2.heap.size = G at *
    clear hk hb4 hg4 HW4 HCUR HCT HT3 HB3 HA3 HLK HKB HKL HKO HI8 HZ8 HS8 HB8
    have HC1 : Hid (∀ W, Below w4.heap.size w4 W → Calls Tryd.prog 21 #[.slice (some ⟨G, 0, none⟩) n n, .slice (some ⟨W.heap.size, 0, none⟩) 1 1] (W.alloc (.cells #[.slice A' text.length c'] 22)) (fun e W' => ∃ b, e = .returned (.slice (some ⟨b, 0, none⟩) 32 32) ∧ TagAt W' b (key ++ List.replicate d 0) text ∧ W.heap.size < b ∧ b < W'.heap.size ∧ Below W.heap.size W W')) := hid fun W hW => by
      have hB : Below w.heap.size w W := HB4.out.trans (hW.mono HB4.out.size)
      exact tag1_any (some ⟨G, 0, none⟩) (key ++ List.replicate d 0) n n A' text c' _ _ W ((HLK4.out.below hW).more hW.size) ((HA'.out.below hB).more hB.size) (HG.out.below hB (Nat.le_refl _)) (by simp; exact HN.out.symm) rfl rfl (by omega) (by omega)
    have HC2 : Hid (∀ W A1 A2 c1 c2 m2, Below w4.heap.size w4 W → m2 = (text.drop k).length → Sq W W.heap.size A1 c1 (bvs (text.take k)) → Sq W W.heap.size A2 c2 (bvs (text.drop k)) → Calls Tryd.prog 21 #[.slice A key.length c, .slice (some ⟨W.heap.size, 0, none⟩) 3 3] (W.alloc (.cells #[.slice A1 k c1, .slice none 0 0, .slice A2 m2 c2] 22)) (fun e W' => ∃ b, e = .returned (.slice (some ⟨b, 0, none⟩) 32 32) ∧ TagAt W' b key text ∧ W.heap.size < b ∧ b < W'.heap.size ∧ Below W.heap.size W W')) := hid fun W A1 A2 c1 c2 m2 hW hm h1 h2 => by
      have hB : Below w.heap.size w W := HB4.out.trans (hW.mono HB4.out.size)
      have hl1 : (text.take k).length = k := by rw [List.length_take]; omega
      have h := tags_any A key c [(A1, text.take k, c1), (none, [], 0), (A2, text.drop k, c2)] W ((HA.out.below hB).more hB.size) (by
        intro p hp
        rcases List.mem_cons.1 hp with rfl | hp
        · exact h1
        · rcases List.mem_cons.1 hp with rfl | hp
          · exact Sq.nil
          · rw [List.mem_singleton] at hp
            subst hp
            exact h2) (HG.out.below hB (Nat.le_refl _)) (by omega) (by simp; omega) (by simp)
      simp only [List.map_cons, List.map_nil, List.flatten_cons, List.flatten_nil, List.append_nil, List.nil_append, List.length_cons, List.length_nil, List.take_append_drop, hl1] at h
      rw [hm]
      exact h.mono fun e W' ⟨b, h1, h2, h3, h4⟩ => ⟨b, h1, h2, h3, block_lt h2, h4⟩
    have HEQ : Hid (macB key text = macB (key ++ List.replicate d 0) text) := hid (macB_noughts key text d (by omega)).symm
    by_cases h0 : text = []
    · have hl0 : text.length = 0 := by rw [h0]; rfl
      have e1 : (k : Int) ≤ (c' : Int) := by omega
      have e2 : (k : Int) ≤ (text.length : Int) := by omega
      have e3 : (text.length : Int) ≤ (c' : Int) := by omega
      have e0 : (0 : Int) ≤ (k : Int) := by omega
      have HL0 := hid hl0; have H0 := hid h0
      clear hl0 h0
      by_cases e5 : c' = k
      · subst e5
        rcases A' with _ | ⟨b, o, sp⟩
        · go_wp2
          refine wp_region_any (by kernel_rfl) ?_
          change wpAny _ _ _ _ _ _ _ (World.drew _)
          obtain ⟨wd, hwd⟩ : ∃ wd, wd = w4.drew := ⟨_, rfl⟩
          have HBD : Hid (Below w4.heap.size w4 wd) := hid (by rw [hwd]; exact (Below.refl _ _).drew)
          have HTD : Hid (TagAt wd bt key text) := hid (by rw [hwd]; exact HT4.out)
          have hbtd : bt < wd.heap.size := block_lt HTD.out
          rw [← hwd]
          clear hwd
          refine wpAny_take (i := 0) (v := ?vva0) rfl (by kernel_rfl) (by kernel_rfl) (by kernel_rfl) (fun _ _ _ h => h) (Or.inl ⟨by rfl, ?hya0⟩) ?_
          case hya0 => (intro w'; go_simp; try with_reducible rfl)
          try go_simp
          refine wpAny_take (i := 1) (v := ?vva1) rfl (by kernel_rfl) (by kernel_rfl) (by kernel_rfl) (fun _ _ _ h => h) (Or.inl ⟨by rfl, ?hya1⟩) ?_
          case hya1 => (intro w'; go_simp; try with_reducible rfl)
          try go_simp
          refine wpAny_take (i := 2) (v := ?vva2) rfl (by kernel_rfl) (by kernel_rfl) (by kernel_rfl) (fun _ _ _ h => h) (Or.inl ⟨by rfl, ?hya2⟩) ?_
          case hya2 => (intro w'; go_simp; try with_reducible rfl)
          try go_simp
          refine wpAny_ready (rs := [3]) (by kernel_rfl) (by simp) ?_
          refine AllReady.cons rfl (fun K hK => ?_) AllReady.nil
          go_simp
          try go_simp
          refine hK _ _ ?_
          clear hK K
          refine wpAny_ready (rs := [4]) (by kernel_rfl) (by simp) ?_
          refine AllReady.cons rfl (fun K hK => ?_) AllReady.nil
          go_simp
          go_at_call 21
          with_reducible refine (HC1.out _ HBD.out).mono ?_
          rintro e w5 ⟨b5, rfl, ht5, hb5, hbl5, hbel5⟩
          try go_simp
          refine hK _ _ ?_
          clear hK K
          refine wpAny_ready (rs := [5]) (by kernel_rfl) (by simp) ?_
          refine AllReady.cons rfl (fun K hK => ?_) AllReady.nil
          go_simp
          go_at_call 23
          with_reducible refine (msame_tags w5 bt b5 key text (key ++ List.replicate d 0) text (tagAt_keep HTD.out (hbel5.block bt hbtd)) ht5 HEQ.out).mono ?_
          rintro e w6 ⟨rfl, rfl⟩
          try go_simp
          refine hK _ _ ?_
          clear hK K
          refine wpAny_take (i := 6) (v := ?vva6) rfl (by kernel_rfl) (by kernel_rfl) (by kernel_rfl) (fun _ _ _ h => h) (Or.inl ⟨by rfl, ?hya6⟩) ?_
          case hya6 => (intro w'; go_simp; try with_reducible rfl)
          try go_simp
          refine wpAny_take (i := 7) (v := ?vva7) rfl (by kernel_rfl) (by kernel_rfl) (by kernel_rfl) (fun _ _ _ h => h) (Or.inl ⟨by rfl, ?hya7⟩) ?_
          case hya7 => (intro w'; go_simp; try with_reducible rfl)
          try go_simp
          refine wpAny_take (i := 8) (v := ?vva8) rfl (by kernel_rfl) (by kernel_rfl) (by kernel_rfl) (fun _ _ _ h => h) (Or.inl ⟨by rfl, ?hya8⟩) ?_
          case hya8 => (intro w'; go_simp; try with_reducible rfl)
          try go_simp
          refine wpAny_take (i := 9) (v := ?vva9) rfl (by kernel_rfl) (by kernel_rfl) (by kernel_rfl) (fun _ _ _ h => h) (Or.inl ⟨by rfl, ?hya9⟩) ?_
          case hya9 => (intro w'; go_simp; try with_reducible rfl)
          try go_simp
          refine wpAny_take (i := 10) (v := ?vva10) rfl (by kernel_rfl) (by kernel_rfl) (by kernel_rfl) (fun _ _ _ h => h) (Or.inl ⟨by rfl, ?hya10⟩) ?_
          case hya10 => (intro w'; go_simp; try with_reducible rfl)
          try go_simp
          refine wpAny_take (i := 12) (v := ?vva12) rfl (by kernel_rfl) (by kernel_rfl) (by kernel_rfl) (fun _ _ _ h => h) (Or.inl ⟨by rfl, ?hya12⟩) ?_
          case hya12 => (intro w'; go_simp; try with_reducible rfl)
          try go_simp
          refine wpAny_take (i := 13) (v := ?vva13) rfl (by kernel_rfl) (by kernel_rfl) (by kernel_rfl) (fun _ _ _ h => h) (Or.inl ⟨by rfl, ?hya13⟩) ?_
          case hya13 => (intro w'; go_simp; try with_reducible rfl)
          try go_simp
          refine wpAny_take (i := 11) (v := ?vva11) rfl (by kernel_rfl) (by kernel_rfl) (by kernel_rfl) (fun _ _ _ h => h) (Or.inl ⟨by rfl, ?hya11⟩) ?_
          case hya11 => (intro w'; go_simp; try with_reducible rfl)
          try go_simp
          refine wpAny_take (i := 14) (v := ?vva14) rfl (by kernel_rfl) (by kernel_rfl) (by kernel_rfl) (fun _ _ _ h => h) (Or.inl ⟨by rfl, ?hya14⟩) ?_
          case hya14 => (intro w'; go_simp; try with_reducible rfl)
          try go_simp
          refine wpAny_ready (rs := [15]) (by kernel_rfl) (by simp) ?_
          refine AllReady.cons rfl (fun K hK => ?_) AllReady.nil
          go_simp
          try go_simp
          refine hK _ _ ?_
          clear hK K
          refine wpAny_ready (rs := [16]) (by kernel_rfl) (by simp) ?_
          refine AllReady.cons rfl (fun K hK => ?_) AllReady.nil
          go_simp
          go_at_call 21
          have hB5 : Below w4.heap.size w4 w5 := HBD.out.trans (hbel5.mono (by have := HBD.out.size; omega))
          have hBw5 : Below w.heap.size w w5 := HB4.out.trans (hB5.mono HB4.out.size)
          have hs1 : ∀ A1 c1, c1 ≤ 9223372036854775807 → Sq w5 w5.heap.size A1 c1 (bvs (text.take c')) := fun A1 c1 h => .inl ⟨by rw [H0.out]; simp [bvs], h⟩
          have hs2 : ∀ A1 c1, c1 ≤ 9223372036854775807 → Sq w5 w5.heap.size A1 c1 (bvs (text.drop c')) := fun A1 c1 h => .inl ⟨by rw [H0.out]; simp [bvs], h⟩
          with_reducible refine (HC2.out w5 _ _ _ _ _ hB5 ?hm2a (hs1 _ _ (by omega)) (hs2 _ _ (by omega))).mono ?_
          case hm2a => (simp only [List.length_drop]; try (have := HL0.out; omega))
          rintro e w7 ⟨b7, rfl, ht7, hb7, hbl7, hbel7⟩
          try go_simp
          refine hK _ _ ?_
          clear hK K
          refine wpAny_ready (rs := [17]) (by kernel_rfl) (by simp) ?_
          refine AllReady.cons rfl (fun K hK => ?_) AllReady.nil
          go_simp
          go_at_call 23
          with_reducible refine (msame_tags w7 bt b7 key text key text (tagAt_keep (tagAt_keep HTD.out (hbel5.block bt hbtd)) (hbel7.block bt (by have := hbel5.size; omega))) ht7 rfl).mono ?_
          rintro e w8 ⟨rfl, rfl⟩
          try go_simp
          refine hK _ _ ?_
          clear hK K
          refine wpAny_take (i := 18) (v := ?vva18) rfl (by kernel_rfl) (by kernel_rfl) (by kernel_rfl) (fun _ _ _ h => h) (Or.inl ⟨by rfl, ?hya18⟩) ?_
          case hya18 => (intro w'; go_simp; try with_reducible rfl)
          try go_simp
          refine wpAny_take (i := 19) (v := ?vva19) rfl (by kernel_rfl) (by kernel_rfl) (by kernel_rfl) (fun _ _ _ h => h) (Or.inl ⟨by rfl, ?hya19⟩) ?_
          case hya19 => (intro w'; go_simp; try with_reducible rfl)
          try go_simp
          refine wpAny_take (i := 20) (v := ?vva20) rfl (by kernel_rfl) (by kernel_rfl) (by kernel_rfl) (fun _ _ _ h => h) (Or.inl ⟨by rfl, ?hya20⟩) ?_
          case hya20 => (intro w'; go_simp; try with_reducible rfl)
          try go_simp
          refine wpAny_take (i := 21) (v := ?vva21) rfl (by kernel_rfl) (by kernel_rfl) (by kernel_rfl) (fun _ _ _ h => h) (Or.inl ⟨by rfl, ?hya21⟩) ?_
          case hya21 => (intro w'; go_simp; try with_reducible rfl)
          try go_simp
          refine wpAny_take (i := 22) (v := ?vva22) rfl (by kernel_rfl) (by kernel_rfl) (by kernel_rfl) (fun _ _ _ h => h) (Or.inl ⟨by rfl, ?hya22⟩) ?_
          case hya22 => (intro w'; go_simp; try with_reducible rfl)
          try go_simp
          refine wpAny_take (i := 23) (v := ?vva23) rfl (by kernel_rfl) (by kernel_rfl) (by kernel_rfl) (fun _ _ _ h => h) (Or.inl ⟨by rfl, ?hya23⟩) ?_
          case hya23 => (intro w'; go_simp; try with_reducible rfl)
          try go_simp
          refine wpAny_take (i := 24) (v := ?vva24) rfl (by kernel_rfl) (by kernel_rfl) (by kernel_rfl) (fun _ _ _ h => h) (Or.inl ⟨by rfl, ?hya24⟩) ?_
          case hya24 => (intro w'; go_simp; try with_reducible rfl)
          try go_simp
          refine wpAny_done (by kernel_rfl) ?_ _
          have HEND : Hid (Below w.heap.size w w7) := hid (HB4.out.trans ((HBD.out.trans ((hbel5.trans (hbel7.mono hbel5.size)).mono HBD.out.size)).mono HB4.out.size))
          go_wp2
          go_ret
          exact ⟨rfl, HEND.out⟩
        · go_wp2
          refine wp_region_any (by kernel_rfl) ?_
          change wpAny _ _ _ _ _ _ _ (World.drew _)
          obtain ⟨wd, hwd⟩ : ∃ wd, wd = w4.drew := ⟨_, rfl⟩
          have HBD : Hid (Below w4.heap.size w4 wd) := hid (by rw [hwd]; exact (Below.refl _ _).drew)
          have HTD : Hid (TagAt wd bt key text) := hid (by rw [hwd]; exact HT4.out)
          have hbtd : bt < wd.heap.size := block_lt HTD.out
          rw [← hwd]
          clear hwd
          refine wpAny_take (i := 0) (v := ?vvb0) rfl (by kernel_rfl) (by kernel_rfl) (by kernel_rfl) (fun _ _ _ h => h) (Or.inl ⟨by rfl, ?hyb0⟩) ?_
          case hyb0 => (intro w'; go_simp; try with_reducible rfl)
          try go_simp
          refine wpAny_take (i := 1) (v := ?vvb1) rfl (by kernel_rfl) (by kernel_rfl) (by kernel_rfl) (fun _ _ _ h => h) (Or.inl ⟨by rfl, ?hyb1⟩) ?_
          case hyb1 => (intro w'; go_simp; try with_reducible rfl)
          try go_simp
          refine wpAny_take (i := 2) (v := ?vvb2) rfl (by kernel_rfl) (by kernel_rfl) (by kernel_rfl) (fun _ _ _ h => h) (Or.inl ⟨by rfl, ?hyb2⟩) ?_
          case hyb2 => (intro w'; go_simp; try with_reducible rfl)
          try go_simp
          refine wpAny_ready (rs := [3]) (by kernel_rfl) (by simp) ?_
          refine AllReady.cons rfl (fun K hK => ?_) AllReady.nil
          go_simp
          try go_simp
          refine hK _ _ ?_
          clear hK K
          refine wpAny_ready (rs := [4]) (by kernel_rfl) (by simp) ?_
          refine AllReady.cons rfl (fun K hK => ?_) AllReady.nil
          go_simp
          go_at_call 21
          with_reducible refine (HC1.out _ HBD.out).mono ?_
          rintro e w5 ⟨b5, rfl, ht5, hb5, hbl5, hbel5⟩
          try go_simp
          refine hK _ _ ?_
          clear hK K
          refine wpAny_ready (rs := [5]) (by kernel_rfl) (by simp) ?_
          refine AllReady.cons rfl (fun K hK => ?_) AllReady.nil
          go_simp
          go_at_call 23
          with_reducible refine (msame_tags w5 bt b5 key text (key ++ List.replicate d 0) text (tagAt_keep HTD.out (hbel5.block bt hbtd)) ht5 HEQ.out).mono ?_
          rintro e w6 ⟨rfl, rfl⟩
          try go_simp
          refine hK _ _ ?_
          clear hK K
          refine wpAny_take (i := 6) (v := ?vvb6) rfl (by kernel_rfl) (by kernel_rfl) (by kernel_rfl) (fun _ _ _ h => h) (Or.inl ⟨by rfl, ?hyb6⟩) ?_
          case hyb6 => (intro w'; go_simp; try with_reducible rfl)
          try go_simp
          refine wpAny_take (i := 7) (v := ?vvb7) rfl (by kernel_rfl) (by kernel_rfl) (by kernel_rfl) (fun _ _ _ h => h) (Or.inl ⟨by rfl, ?hyb7⟩) ?_
          case hyb7 => (intro w'; go_simp; try with_reducible rfl)
          try go_simp
          refine wpAny_take (i := 8) (v := ?vvb8) rfl (by kernel_rfl) (by kernel_rfl) (by kernel_rfl) (fun _ _ _ h => h) (Or.inl ⟨by rfl, ?hyb8⟩) ?_
          case hyb8 => (intro w'; go_simp; try with_reducible rfl)
          try go_simp
          refine wpAny_take (i := 9) (v := ?vvb9) rfl (by kernel_rfl) (by kernel_rfl) (by kernel_rfl) (fun _ _ _ h => h) (Or.inl ⟨by rfl, ?hyb9⟩) ?_
          case hyb9 => (intro w'; go_simp; try with_reducible rfl)
          try go_simp
          refine wpAny_take (i := 10) (v := ?vvb10) rfl (by kernel_rfl) (by kernel_rfl) (by kernel_rfl) (fun _ _ _ h => h) (Or.inl ⟨by rfl, ?hyb10⟩) ?_
          case hyb10 => (intro w'; go_simp; try with_reducible rfl)
          try go_simp
          refine wpAny_take (i := 12) (v := ?vvb12) rfl (by kernel_rfl) (by kernel_rfl) (by kernel_rfl) (fun _ _ _ h => h) (Or.inl ⟨by rfl, ?hyb12⟩) ?_
          case hyb12 => (intro w'; go_simp; try with_reducible rfl)
          try go_simp
          refine wpAny_take (i := 13) (v := ?vvb13) rfl (by kernel_rfl) (by kernel_rfl) (by kernel_rfl) (fun _ _ _ h => h) (Or.inl ⟨by rfl, ?hyb13⟩) ?_
          case hyb13 => (intro w'; go_simp; try with_reducible rfl)
          try go_simp
          refine wpAny_take (i := 11) (v := ?vvb11) rfl (by kernel_rfl) (by kernel_rfl) (by kernel_rfl) (fun _ _ _ h => h) (Or.inl ⟨by rfl, ?hyb11⟩) ?_
          case hyb11 => (intro w'; go_simp; try with_reducible rfl)
          try go_simp
          refine wpAny_take (i := 14) (v := ?vvb14) rfl (by kernel_rfl) (by kernel_rfl) (by kernel_rfl) (fun _ _ _ h => h) (Or.inl ⟨by rfl, ?hyb14⟩) ?_
          case hyb14 => (intro w'; go_simp; try with_reducible rfl)
          try go_simp
          refine wpAny_ready (rs := [15]) (by kernel_rfl) (by simp) ?_
          refine AllReady.cons rfl (fun K hK => ?_) AllReady.nil
          go_simp
          try go_simp
          refine hK _ _ ?_
          clear hK K
          refine wpAny_ready (rs := [16]) (by kernel_rfl) (by simp) ?_
          refine AllReady.cons rfl (fun K hK => ?_) AllReady.nil
          go_simp
          go_at_call 21
          have hB5 : Below w4.heap.size w4 w5 := HBD.out.trans (hbel5.mono (by have := HBD.out.size; omega))
          have hBw5 : Below w.heap.size w w5 := HB4.out.trans (hB5.mono HB4.out.size)
          have hs1 : ∀ A1 c1, c1 ≤ 9223372036854775807 → Sq w5 w5.heap.size A1 c1 (bvs (text.take c')) := fun A1 c1 h => .inl ⟨by rw [H0.out]; simp [bvs], h⟩
          have hs2 : ∀ A1 c1, c1 ≤ 9223372036854775807 → Sq w5 w5.heap.size A1 c1 (bvs (text.drop c')) := fun A1 c1 h => .inl ⟨by rw [H0.out]; simp [bvs], h⟩
          with_reducible refine (HC2.out w5 _ _ _ _ _ hB5 ?hm2b (hs1 _ _ (by omega)) (hs2 _ _ (by omega))).mono ?_
          case hm2b => (simp only [List.length_drop]; try (have := HL0.out; omega))
          rintro e w7 ⟨b7, rfl, ht7, hb7, hbl7, hbel7⟩
          try go_simp
          refine hK _ _ ?_
          clear hK K
          refine wpAny_ready (rs := [17]) (by kernel_rfl) (by simp) ?_
          refine AllReady.cons rfl (fun K hK => ?_) AllReady.nil
          go_simp
          go_at_call 23
          with_reducible refine (msame_tags w7 bt b7 key text key text (tagAt_keep (tagAt_keep HTD.out (hbel5.block bt hbtd)) (hbel7.block bt (by have := hbel5.size; omega))) ht7 rfl).mono ?_
          rintro e w8 ⟨rfl, rfl⟩
          try go_simp
          refine hK _ _ ?_
          clear hK K
          refine wpAny_take (i := 18) (v := ?vvb18) rfl (by kernel_rfl) (by kernel_rfl) (by kernel_rfl) (fun _ _ _ h => h) (Or.inl ⟨by rfl, ?hyb18⟩) ?_
          case hyb18 => (intro w'; go_simp; try with_reducible rfl)
          try go_simp
          refine wpAny_take (i := 19) (v := ?vvb19) rfl (by kernel_rfl) (by kernel_rfl) (by kernel_rfl) (fun _ _ _ h => h) (Or.inl ⟨by rfl, ?hyb19⟩) ?_
          case hyb19 => (intro w'; go_simp; try with_reducible rfl)
          try go_simp
          refine wpAny_take (i := 20) (v := ?vvb20) rfl (by kernel_rfl) (by kernel_rfl) (by kernel_rfl) (fun _ _ _ h => h) (Or.inl ⟨by rfl, ?hyb20⟩) ?_
          case hyb20 => (intro w'; go_simp; try with_reducible rfl)
          try go_simp
          refine wpAny_take (i := 21) (v := ?vvb21) rfl (by kernel_rfl) (by kernel_rfl) (by kernel_rfl) (fun _ _ _ h => h) (Or.inl ⟨by rfl, ?hyb21⟩) ?_
          case hyb21 => (intro w'; go_simp; try with_reducible rfl)
          try go_simp
          refine wpAny_take (i := 22) (v := ?vvb22) rfl (by kernel_rfl) (by kernel_rfl) (by kernel_rfl) (fun _ _ _ h => h) (Or.inl ⟨by rfl, ?hyb22⟩) ?_
          case hyb22 => (intro w'; go_simp; try with_reducible rfl)
          try go_simp
          refine wpAny_take (i := 23) (v := ?vvb23) rfl (by kernel_rfl) (by kernel_rfl) (by kernel_rfl) (fun _ _ _ h => h) (Or.inl ⟨by rfl, ?hyb23⟩) ?_
          case hyb23 => (intro w'; go_simp; try with_reducible rfl)
          try go_simp
          refine wpAny_take (i := 24) (v := ?vvb24) rfl (by kernel_rfl) (by kernel_rfl) (by kernel_rfl) (fun _ _ _ h => h) (Or.inl ⟨by rfl, ?hyb24⟩) ?_
          case hyb24 => (intro w'; go_simp; try with_reducible rfl)
          try go_simp
          refine wpAny_done (by kernel_rfl) ?_ _
          have HEND : Hid (Below w.heap.size w w7) := hid (HB4.out.trans ((HBD.out.trans ((hbel5.trans (hbel7.mono hbel5.size)).mono HBD.out.size)).mono HB4.out.size))
          go_wp2
          go_ret
          exact ⟨rfl, HEND.out⟩
      · have e4 : ¬ (c' : Int) = (k : Int) := by omega
        rcases A' with _ | ⟨b, o, sp⟩
        · go_wp2
          refine wp_region_any (by kernel_rfl) ?_
          change wpAny _ _ _ _ _ _ _ (World.drew _)
          obtain ⟨wd, hwd⟩ : ∃ wd, wd = w4.drew := ⟨_, rfl⟩
          have HBD : Hid (Below w4.heap.size w4 wd) := hid (by rw [hwd]; exact (Below.refl _ _).drew)
          have HTD : Hid (TagAt wd bt key text) := hid (by rw [hwd]; exact HT4.out)
          have hbtd : bt < wd.heap.size := block_lt HTD.out
          rw [← hwd]
          clear hwd
          refine wpAny_take (i := 0) (v := ?vvc0) rfl (by kernel_rfl) (by kernel_rfl) (by kernel_rfl) (fun _ _ _ h => h) (Or.inl ⟨by rfl, ?hyc0⟩) ?_
          case hyc0 => (intro w'; go_simp; try with_reducible rfl)
          try go_simp
          refine wpAny_take (i := 1) (v := ?vvc1) rfl (by kernel_rfl) (by kernel_rfl) (by kernel_rfl) (fun _ _ _ h => h) (Or.inl ⟨by rfl, ?hyc1⟩) ?_
          case hyc1 => (intro w'; go_simp; try with_reducible rfl)
          try go_simp
          refine wpAny_take (i := 2) (v := ?vvc2) rfl (by kernel_rfl) (by kernel_rfl) (by kernel_rfl) (fun _ _ _ h => h) (Or.inl ⟨by rfl, ?hyc2⟩) ?_
          case hyc2 => (intro w'; go_simp; try with_reducible rfl)
          try go_simp
          refine wpAny_ready (rs := [3]) (by kernel_rfl) (by simp) ?_
          refine AllReady.cons rfl (fun K hK => ?_) AllReady.nil
          go_simp
          try go_simp
          refine hK _ _ ?_
          clear hK K
          refine wpAny_ready (rs := [4]) (by kernel_rfl) (by simp) ?_
          refine AllReady.cons rfl (fun K hK => ?_) AllReady.nil
          go_simp
          go_at_call 21
          with_reducible refine (HC1.out _ HBD.out).mono ?_
          rintro e w5 ⟨b5, rfl, ht5, hb5, hbl5, hbel5⟩
          try go_simp
          refine hK _ _ ?_
          clear hK K
          refine wpAny_ready (rs := [5]) (by kernel_rfl) (by simp) ?_
          refine AllReady.cons rfl (fun K hK => ?_) AllReady.nil
          go_simp
          go_at_call 23
          with_reducible refine (msame_tags w5 bt b5 key text (key ++ List.replicate d 0) text (tagAt_keep HTD.out (hbel5.block bt hbtd)) ht5 HEQ.out).mono ?_
          rintro e w6 ⟨rfl, rfl⟩
          try go_simp
          refine hK _ _ ?_
          clear hK K
          refine wpAny_take (i := 6) (v := ?vvc6) rfl (by kernel_rfl) (by kernel_rfl) (by kernel_rfl) (fun _ _ _ h => h) (Or.inl ⟨by rfl, ?hyc6⟩) ?_
          case hyc6 => (intro w'; go_simp; try with_reducible rfl)
          try go_simp
          refine wpAny_take (i := 7) (v := ?vvc7) rfl (by kernel_rfl) (by kernel_rfl) (by kernel_rfl) (fun _ _ _ h => h) (Or.inl ⟨by rfl, ?hyc7⟩) ?_
          case hyc7 => (intro w'; go_simp; try with_reducible rfl)
          try go_simp
          refine wpAny_take (i := 8) (v := ?vvc8) rfl (by kernel_rfl) (by kernel_rfl) (by kernel_rfl) (fun _ _ _ h => h) (Or.inl ⟨by rfl, ?hyc8⟩) ?_
          case hyc8 => (intro w'; go_simp; try with_reducible rfl)
          try go_simp
          refine wpAny_take (i := 9) (v := ?vvc9) rfl (by kernel_rfl) (by kernel_rfl) (by kernel_rfl) (fun _ _ _ h => h) (Or.inl ⟨by rfl, ?hyc9⟩) ?_
          case hyc9 => (intro w'; go_simp; try with_reducible rfl)
          try go_simp
          refine wpAny_take (i := 10) (v := ?vvc10) rfl (by kernel_rfl) (by kernel_rfl) (by kernel_rfl) (fun _ _ _ h => h) (Or.inl ⟨by rfl, ?hyc10⟩) ?_
          case hyc10 => (intro w'; go_simp; try with_reducible rfl)
          try go_simp
          refine wpAny_take (i := 12) (v := ?vvc12) rfl (by kernel_rfl) (by kernel_rfl) (by kernel_rfl) (fun _ _ _ h => h) (Or.inl ⟨by rfl, ?hyc12⟩) ?_
          case hyc12 => (intro w'; go_simp; try with_reducible rfl)
          try go_simp
          refine wpAny_take (i := 13) (v := ?vvc13) rfl (by kernel_rfl) (by kernel_rfl) (by kernel_rfl) (fun _ _ _ h => h) (Or.inl ⟨by rfl, ?hyc13⟩) ?_
          case hyc13 => (intro w'; go_simp; try with_reducible rfl)
          try go_simp
          refine wpAny_take (i := 11) (v := ?vvc11) rfl (by kernel_rfl) (by kernel_rfl) (by kernel_rfl) (fun _ _ _ h => h) (Or.inl ⟨by rfl, ?hyc11⟩) ?_
          case hyc11 => (intro w'; go_simp; try with_reducible rfl)
          try go_simp
          refine wpAny_take (i := 14) (v := ?vvc14) rfl (by kernel_rfl) (by kernel_rfl) (by kernel_rfl) (fun _ _ _ h => h) (Or.inl ⟨by rfl, ?hyc14⟩) ?_
          case hyc14 => (intro w'; go_simp; try with_reducible rfl)
          try go_simp
          refine wpAny_ready (rs := [15]) (by kernel_rfl) (by simp) ?_
          refine AllReady.cons rfl (fun K hK => ?_) AllReady.nil
          go_simp
          try go_simp
          refine hK _ _ ?_
          clear hK K
          refine wpAny_ready (rs := [16]) (by kernel_rfl) (by simp) ?_
          refine AllReady.cons rfl (fun K hK => ?_) AllReady.nil
          go_simp
          go_at_call 21
          have hB5 : Below w4.heap.size w4 w5 := HBD.out.trans (hbel5.mono (by have := HBD.out.size; omega))
          have hBw5 : Below w.heap.size w w5 := HB4.out.trans (hB5.mono HB4.out.size)
          have hs1 : ∀ A1 c1, c1 ≤ 9223372036854775807 → Sq w5 w5.heap.size A1 c1 (bvs (text.take k)) := fun A1 c1 h => .inl ⟨by rw [H0.out]; simp [bvs], h⟩
          have hs2 : ∀ A1 c1, c1 ≤ 9223372036854775807 → Sq w5 w5.heap.size A1 c1 (bvs (text.drop k)) := fun A1 c1 h => .inl ⟨by rw [H0.out]; simp [bvs], h⟩
          with_reducible refine (HC2.out w5 _ _ _ _ _ hB5 ?hm2c (hs1 _ _ (by omega)) (hs2 _ _ (by omega))).mono ?_
          case hm2c => (simp only [List.length_drop]; try (have := HL0.out; omega))
          rintro e w7 ⟨b7, rfl, ht7, hb7, hbl7, hbel7⟩
          try go_simp
          refine hK _ _ ?_
          clear hK K
          refine wpAny_ready (rs := [17]) (by kernel_rfl) (by simp) ?_
          refine AllReady.cons rfl (fun K hK => ?_) AllReady.nil
          go_simp
          go_at_call 23
          with_reducible refine (msame_tags w7 bt b7 key text key text (tagAt_keep (tagAt_keep HTD.out (hbel5.block bt hbtd)) (hbel7.block bt (by have := hbel5.size; omega))) ht7 rfl).mono ?_
          rintro e w8 ⟨rfl, rfl⟩
          try go_simp
          refine hK _ _ ?_
          clear hK K
          refine wpAny_take (i := 18) (v := ?vvc18) rfl (by kernel_rfl) (by kernel_rfl) (by kernel_rfl) (fun _ _ _ h => h) (Or.inl ⟨by rfl, ?hyc18⟩) ?_
          case hyc18 => (intro w'; go_simp; try with_reducible rfl)
          try go_simp
          refine wpAny_take (i := 19) (v := ?vvc19) rfl (by kernel_rfl) (by kernel_rfl) (by kernel_rfl) (fun _ _ _ h => h) (Or.inl ⟨by rfl, ?hyc19⟩) ?_
          case hyc19 => (intro w'; go_simp; try with_reducible rfl)
          try go_simp
          refine wpAny_take (i := 20) (v := ?vvc20) rfl (by kernel_rfl) (by kernel_rfl) (by kernel_rfl) (fun _ _ _ h => h) (Or.inl ⟨by rfl, ?hyc20⟩) ?_
          case hyc20 => (intro w'; go_simp; try with_reducible rfl)
          try go_simp
          refine wpAny_take (i := 21) (v := ?vvc21) rfl (by kernel_rfl) (by kernel_rfl) (by kernel_rfl) (fun _ _ _ h => h) (Or.inl ⟨by rfl, ?hyc21⟩) ?_
          case hyc21 => (intro w'; go_simp; try with_reducible rfl)
          try go_simp
          refine wpAny_take (i := 22) (v := ?vvc22) rfl (by kernel_rfl) (by kernel_rfl) (by kernel_rfl) (fun _ _ _ h => h) (Or.inl ⟨by rfl, ?hyc22⟩) ?_
          case hyc22 => (intro w'; go_simp; try with_reducible rfl)
          try go_simp
          refine wpAny_take (i := 23) (v := ?vvc23) rfl (by kernel_rfl) (by kernel_rfl) (by kernel_rfl) (fun _ _ _ h => h) (Or.inl ⟨by rfl, ?hyc23⟩) ?_
          case hyc23 => (intro w'; go_simp; try with_reducible rfl)
          try go_simp
          refine wpAny_take (i := 24) (v := ?vvc24) rfl (by kernel_rfl) (by kernel_rfl) (by kernel_rfl) (fun _ _ _ h => h) (Or.inl ⟨by rfl, ?hyc24⟩) ?_
          case hyc24 => (intro w'; go_simp; try with_reducible rfl)
          try go_simp
          refine wpAny_done (by kernel_rfl) ?_ _
          have HEND : Hid (Below w.heap.size w w7) := hid (HB4.out.trans ((HBD.out.trans ((hbel5.trans (hbel7.mono hbel5.size)).mono HBD.out.size)).mono HB4.out.size))
          go_wp2
          go_ret
          exact ⟨rfl, HEND.out⟩
        · go_wp2
          refine wp_region_any (by kernel_rfl) ?_
          change wpAny _ _ _ _ _ _ _ (World.drew _)
          obtain ⟨wd, hwd⟩ : ∃ wd, wd = w4.drew := ⟨_, rfl⟩
          have HBD : Hid (Below w4.heap.size w4 wd) := hid (by rw [hwd]; exact (Below.refl _ _).drew)
          have HTD : Hid (TagAt wd bt key text) := hid (by rw [hwd]; exact HT4.out)
          have hbtd : bt < wd.heap.size := block_lt HTD.out
          rw [← hwd]
          clear hwd
          refine wpAny_take (i := 0) (v := ?vvd0) rfl (by kernel_rfl) (by kernel_rfl) (by kernel_rfl) (fun _ _ _ h => h) (Or.inl ⟨by rfl, ?hyd0⟩) ?_
          case hyd0 => (intro w'; go_simp; try with_reducible rfl)
          try go_simp
          refine wpAny_take (i := 1) (v := ?vvd1) rfl (by kernel_rfl) (by kernel_rfl) (by kernel_rfl) (fun _ _ _ h => h) (Or.inl ⟨by rfl, ?hyd1⟩) ?_
          case hyd1 => (intro w'; go_simp; try with_reducible rfl)
          try go_simp
          refine wpAny_take (i := 2) (v := ?vvd2) rfl (by kernel_rfl) (by kernel_rfl) (by kernel_rfl) (fun _ _ _ h => h) (Or.inl ⟨by rfl, ?hyd2⟩) ?_
          case hyd2 => (intro w'; go_simp; try with_reducible rfl)
          try go_simp
          refine wpAny_ready (rs := [3]) (by kernel_rfl) (by simp) ?_
          refine AllReady.cons rfl (fun K hK => ?_) AllReady.nil
          go_simp
          try go_simp
          refine hK _ _ ?_
          clear hK K
          refine wpAny_ready (rs := [4]) (by kernel_rfl) (by simp) ?_
          refine AllReady.cons rfl (fun K hK => ?_) AllReady.nil
          go_simp
          go_at_call 21
          with_reducible refine (HC1.out _ HBD.out).mono ?_
          rintro e w5 ⟨b5, rfl, ht5, hb5, hbl5, hbel5⟩
          try go_simp
          refine hK _ _ ?_
          clear hK K
          refine wpAny_ready (rs := [5]) (by kernel_rfl) (by simp) ?_
          refine AllReady.cons rfl (fun K hK => ?_) AllReady.nil
          go_simp
          go_at_call 23
          with_reducible refine (msame_tags w5 bt b5 key text (key ++ List.replicate d 0) text (tagAt_keep HTD.out (hbel5.block bt hbtd)) ht5 HEQ.out).mono ?_
          rintro e w6 ⟨rfl, rfl⟩
          try go_simp
          refine hK _ _ ?_
          clear hK K
          refine wpAny_take (i := 6) (v := ?vvd6) rfl (by kernel_rfl) (by kernel_rfl) (by kernel_rfl) (fun _ _ _ h => h) (Or.inl ⟨by rfl, ?hyd6⟩) ?_
          case hyd6 => (intro w'; go_simp; try with_reducible rfl)
          try go_simp
          refine wpAny_take (i := 7) (v := ?vvd7) rfl (by kernel_rfl) (by kernel_rfl) (by kernel_rfl) (fun _ _ _ h => h) (Or.inl ⟨by rfl, ?hyd7⟩) ?_
          case hyd7 => (intro w'; go_simp; try with_reducible rfl)
          try go_simp
          refine wpAny_take (i := 8) (v := ?vvd8) rfl (by kernel_rfl) (by kernel_rfl) (by kernel_rfl) (fun _ _ _ h => h) (Or.inl ⟨by rfl, ?hyd8⟩) ?_
          case hyd8 => (intro w'; go_simp; try with_reducible rfl)
          try go_simp
          refine wpAny_take (i := 9) (v := ?vvd9) rfl (by kernel_rfl) (by kernel_rfl) (by kernel_rfl) (fun _ _ _ h => h) (Or.inl ⟨by rfl, ?hyd9⟩) ?_
          case hyd9 => (intro w'; go_simp; try with_reducible rfl)
          try go_simp
          refine wpAny_take (i := 10) (v := ?vvd10) rfl (by kernel_rfl) (by kernel_rfl) (by kernel_rfl) (fun _ _ _ h => h) (Or.inl ⟨by rfl, ?hyd10⟩) ?_
          case hyd10 => (intro w'; go_simp; try with_reducible rfl)
          try go_simp
          refine wpAny_take (i := 12) (v := ?vvd12) rfl (by kernel_rfl) (by kernel_rfl) (by kernel_rfl) (fun _ _ _ h => h) (Or.inl ⟨by rfl, ?hyd12⟩) ?_
          case hyd12 => (intro w'; go_simp; try with_reducible rfl)
          try go_simp
          refine wpAny_take (i := 13) (v := ?vvd13) rfl (by kernel_rfl) (by kernel_rfl) (by kernel_rfl) (fun _ _ _ h => h) (Or.inl ⟨by rfl, ?hyd13⟩) ?_
          case hyd13 => (intro w'; go_simp; try with_reducible rfl)
          try go_simp
          refine wpAny_take (i := 11) (v := ?vvd11) rfl (by kernel_rfl) (by kernel_rfl) (by kernel_rfl) (fun _ _ _ h => h) (Or.inl ⟨by rfl, ?hyd11⟩) ?_
          case hyd11 => (intro w'; go_simp; try with_reducible rfl)
          try go_simp
          refine wpAny_take (i := 14) (v := ?vvd14) rfl (by kernel_rfl) (by kernel_rfl) (by kernel_rfl) (fun _ _ _ h => h) (Or.inl ⟨by rfl, ?hyd14⟩) ?_
          case hyd14 => (intro w'; go_simp; try with_reducible rfl)
          try go_simp
          refine wpAny_ready (rs := [15]) (by kernel_rfl) (by simp) ?_
          refine AllReady.cons rfl (fun K hK => ?_) AllReady.nil
          go_simp
          try go_simp
          refine hK _ _ ?_
          clear hK K
          refine wpAny_ready (rs := [16]) (by kernel_rfl) (by simp) ?_
          refine AllReady.cons rfl (fun K hK => ?_) AllReady.nil
          go_simp
          go_at_call 21
          have hB5 : Below w4.heap.size w4 w5 := HBD.out.trans (hbel5.mono (by have := HBD.out.size; omega))
          have hBw5 : Below w.heap.size w w5 := HB4.out.trans (hB5.mono HB4.out.size)
          have hs1 : ∀ A1 c1, c1 ≤ 9223372036854775807 → Sq w5 w5.heap.size A1 c1 (bvs (text.take k)) := fun A1 c1 h => .inl ⟨by rw [H0.out]; simp [bvs], h⟩
          have hs2 : ∀ A1 c1, c1 ≤ 9223372036854775807 → Sq w5 w5.heap.size A1 c1 (bvs (text.drop k)) := fun A1 c1 h => .inl ⟨by rw [H0.out]; simp [bvs], h⟩
          with_reducible refine (HC2.out w5 _ _ _ _ _ hB5 ?hm2d (hs1 _ _ (by omega)) (hs2 _ _ (by omega))).mono ?_
          case hm2d => (simp only [List.length_drop]; try (have := HL0.out; omega))
          rintro e w7 ⟨b7, rfl, ht7, hb7, hbl7, hbel7⟩
          try go_simp
          refine hK _ _ ?_
          clear hK K
          refine wpAny_ready (rs := [17]) (by kernel_rfl) (by simp) ?_
          refine AllReady.cons rfl (fun K hK => ?_) AllReady.nil
          go_simp
          go_at_call 23
          with_reducible refine (msame_tags w7 bt b7 key text key text (tagAt_keep (tagAt_keep HTD.out (hbel5.block bt hbtd)) (hbel7.block bt (by have := hbel5.size; omega))) ht7 rfl).mono ?_
          rintro e w8 ⟨rfl, rfl⟩
          try go_simp
          refine hK _ _ ?_
          clear hK K
          refine wpAny_take (i := 18) (v := ?vvd18) rfl (by kernel_rfl) (by kernel_rfl) (by kernel_rfl) (fun _ _ _ h => h) (Or.inl ⟨by rfl, ?hyd18⟩) ?_
          case hyd18 => (intro w'; go_simp; try with_reducible rfl)
          try go_simp
          refine wpAny_take (i := 19) (v := ?vvd19) rfl (by kernel_rfl) (by kernel_rfl) (by kernel_rfl) (fun _ _ _ h => h) (Or.inl ⟨by rfl, ?hyd19⟩) ?_
          case hyd19 => (intro w'; go_simp; try with_reducible rfl)
          try go_simp
          refine wpAny_take (i := 20) (v := ?vvd20) rfl (by kernel_rfl) (by kernel_rfl) (by kernel_rfl) (fun _ _ _ h => h) (Or.inl ⟨by rfl, ?hyd20⟩) ?_
          case hyd20 => (intro w'; go_simp; try with_reducible rfl)
          try go_simp
          refine wpAny_take (i := 21) (v := ?vvd21) rfl (by kernel_rfl) (by kernel_rfl) (by kernel_rfl) (fun _ _ _ h => h) (Or.inl ⟨by rfl, ?hyd21⟩) ?_
          case hyd21 => (intro w'; go_simp; try with_reducible rfl)
          try go_simp
          refine wpAny_take (i := 22) (v := ?vvd22) rfl (by kernel_rfl) (by kernel_rfl) (by kernel_rfl) (fun _ _ _ h => h) (Or.inl ⟨by rfl, ?hyd22⟩) ?_
          case hyd22 => (intro w'; go_simp; try with_reducible rfl)
          try go_simp
          refine wpAny_take (i := 23) (v := ?vvd23) rfl (by kernel_rfl) (by kernel_rfl) (by kernel_rfl) (fun _ _ _ h => h) (Or.inl ⟨by rfl, ?hyd23⟩) ?_
          case hyd23 => (intro w'; go_simp; try with_reducible rfl)
          try go_simp
          refine wpAny_take (i := 24) (v := ?vvd24) rfl (by kernel_rfl) (by kernel_rfl) (by kernel_rfl) (fun _ _ _ h => h) (Or.inl ⟨by rfl, ?hyd24⟩) ?_
          case hyd24 => (intro w'; go_simp; try with_reducible rfl)
          try go_simp
          refine wpAny_done (by kernel_rfl) ?_ _
          have HEND : Hid (Below w.heap.size w w7) := hid (HB4.out.trans ((HBD.out.trans ((hbel5.trans (hbel7.mono hbel5.size)).mono HBD.out.size)).mono HB4.out.size))
          go_wp2
          go_ret
          exact ⟨rfl, HEND.out⟩
    · have hp0 : 0 < text.length := List.length_pos_iff.2 h0
      have hkl : k < text.length := by have := HK.out; omega
      obtain ⟨b, o, rfl, hbl⟩ := HA'.out.form (by rw [bvs_length]; exact hp0)
      have e1 : (k : Int) ≤ (c' : Int) := by omega
      have e2 : (k : Int) ≤ (text.length : Int) := by omega
      have e3 : (text.length : Int) ≤ (c' : Int) := by omega
      have e4 : ¬ (c' : Int) = (k : Int) := by omega
      have e5 : ¬ c' = k := by omega
      have e0 : (0 : Int) ≤ (k : Int) := by omega
      -- the last line
      go_wp2
      refine wp_region_any (by kernel_rfl) ?_
      change wpAny _ _ _ _ _ _ _ (World.drew _)
      obtain ⟨wd, hwd⟩ : ∃ wd, wd = w4.drew := ⟨_, rfl⟩
      have HBD : Hid (Below w4.heap.size w4 wd) := hid (by rw [hwd]; exact (Below.refl _ _).drew)
      have HTD : Hid (TagAt wd bt key text) := hid (by rw [hwd]; exact HT4.out)
      have hbtd : bt < wd.heap.size := block_lt HTD.out
      rw [← hwd]
      clear hwd
      refine wpAny_take (i := 0) (v := ?vv0) rfl (by kernel_rfl) (by kernel_rfl) (by kernel_rfl) (fun _ _ _ h => h) (Or.inl ⟨by rfl, ?hy0⟩) ?_
      case hy0 => (intro w'; go_simp; try with_reducible rfl)
      try go_simp
      refine wpAny_take (i := 1) (v := ?vv1) rfl (by kernel_rfl) (by kernel_rfl) (by kernel_rfl) (fun _ _ _ h => h) (Or.inl ⟨by rfl, ?hy1⟩) ?_
      case hy1 => (intro w'; go_simp; try with_reducible rfl)
      try go_simp
      refine wpAny_take (i := 2) (v := ?vv2) rfl (by kernel_rfl) (by kernel_rfl) (by kernel_rfl) (fun _ _ _ h => h) (Or.inl ⟨by rfl, ?hy2⟩) ?_
      case hy2 => (intro w'; go_simp; try with_reducible rfl)
      try go_simp
      refine wpAny_ready (rs := [3]) (by kernel_rfl) (by simp) ?_
      refine AllReady.cons rfl (fun K hK => ?_) AllReady.nil
      go_simp
      try go_simp
      refine hK _ _ ?_
      clear hK K
      refine wpAny_ready (rs := [4]) (by kernel_rfl) (by simp) ?_
      refine AllReady.cons rfl (fun K hK => ?_) AllReady.nil
      go_simp
      go_at_call 21
      with_reducible refine (HC1.out _ HBD.out).mono ?_
      rintro e w5 ⟨b5, rfl, ht5, hb5, hbl5, hbel5⟩
      try go_simp
      refine hK _ _ ?_
      clear hK K
      refine wpAny_ready (rs := [5]) (by kernel_rfl) (by simp) ?_
      refine AllReady.cons rfl (fun K hK => ?_) AllReady.nil
      go_simp
      go_at_call 23
      with_reducible refine (msame_tags w5 bt b5 key text (key ++ List.replicate d 0) text (tagAt_keep HTD.out (hbel5.block bt hbtd)) ht5 HEQ.out).mono ?_
      rintro e w6 ⟨rfl, rfl⟩
      try go_simp
      refine hK _ _ ?_
      clear hK K
      refine wpAny_take (i := 6) (v := ?vv6) rfl (by kernel_rfl) (by kernel_rfl) (by kernel_rfl) (fun _ _ _ h => h) (Or.inl ⟨by rfl, ?hy6⟩) ?_
      case hy6 => (intro w'; go_simp; try with_reducible rfl)
      try go_simp
      refine wpAny_take (i := 7) (v := ?vv7) rfl (by kernel_rfl) (by kernel_rfl) (by kernel_rfl) (fun _ _ _ h => h) (Or.inl ⟨by rfl, ?hy7⟩) ?_
      case hy7 => (intro w'; go_simp; try with_reducible rfl)
      try go_simp
      refine wpAny_take (i := 8) (v := ?vv8) rfl (by kernel_rfl) (by kernel_rfl) (by kernel_rfl) (fun _ _ _ h => h) (Or.inl ⟨by rfl, ?hy8⟩) ?_
      case hy8 => (intro w'; go_simp; try with_reducible rfl)
      try go_simp
      refine wpAny_take (i := 9) (v := ?vv9) rfl (by kernel_rfl) (by kernel_rfl) (by kernel_rfl) (fun _ _ _ h => h) (Or.inl ⟨by rfl, ?hy9⟩) ?_
      case hy9 => (intro w'; go_simp; try with_reducible rfl)
      try go_simp
      refine wpAny_take (i := 10) (v := ?vv10) rfl (by kernel_rfl) (by kernel_rfl) (by kernel_rfl) (fun _ _ _ h => h) (Or.inl ⟨by rfl, ?hy10⟩) ?_
      case hy10 => (intro w'; go_simp; try with_reducible rfl)
      try go_simp
      refine wpAny_take (i := 12) (v := ?vv12) rfl (by kernel_rfl) (by kernel_rfl) (by kernel_rfl) (fun _ _ _ h => h) (Or.inl ⟨by rfl, ?hy12⟩) ?_
      case hy12 => (intro w'; go_simp; try with_reducible rfl)
      try go_simp
      refine wpAny_take (i := 13) (v := ?vv13) rfl (by kernel_rfl) (by kernel_rfl) (by kernel_rfl) (fun _ _ _ h => h) (Or.inl ⟨by rfl, ?hy13⟩) ?_
      case hy13 => (intro w'; go_simp; try with_reducible rfl)
      try go_simp
      refine wpAny_take (i := 11) (v := ?vv11) rfl (by kernel_rfl) (by kernel_rfl) (by kernel_rfl) (fun _ _ _ h => h) (Or.inl ⟨by rfl, ?hy11⟩) ?_
      case hy11 => (intro w'; go_simp; try with_reducible rfl)
      try go_simp
      refine wpAny_take (i := 14) (v := ?vv14) rfl (by kernel_rfl) (by kernel_rfl) (by kernel_rfl) (fun _ _ _ h => h) (Or.inl ⟨by rfl, ?hy14⟩) ?_
      case hy14 => (intro w'; go_simp; try with_reducible rfl)
      try go_simp
      refine wpAny_ready (rs := [15]) (by kernel_rfl) (by simp) ?_
      refine AllReady.cons rfl (fun K hK => ?_) AllReady.nil
      go_simp
      try go_simp
      refine hK _ _ ?_
      clear hK K
      refine wpAny_ready (rs := [16]) (by kernel_rfl) (by simp) ?_
      refine AllReady.cons rfl (fun K hK => ?_) AllReady.nil
      go_simp
      go_at_call 21
      have hB5 : Below w4.heap.size w4 w5 := HBD.out.trans (hbel5.mono (by have := HBD.out.size; omega))
      have hBw5 : Below w.heap.size w w5 := HB4.out.trans (hB5.mono HB4.out.size)
      have hs1 : Sq w5 w5.heap.size (some ⟨b, o, none⟩) c' (bvs (text.take k)) := by have h := ((((HA'.out.lie.below hBw5).more hBw5.size).take k)).sq (c := c') (by rw [List.length_take, bvs_length]; omega) hc2'; simpa only [bvs, List.map_take] using h
      have hs2 : Sq w5 w5.heap.size (some ⟨b, o + k, none⟩) (c' - k) (bvs (text.drop k)) := by have h := (((HA'.out.below hBw5).more hBw5.size).drop k (by omega)); simpa only [bvs, List.map_drop] using h
      with_reducible refine (HC2.out w5 _ _ _ _ _ hB5 ?hm2 hs1 hs2).mono ?_
      case hm2 => (simp only [List.length_drop]; try (have := HL0.out; omega))
      rintro e w7 ⟨b7, rfl, ht7, hb7, hbl7, hbel7⟩
      try go_simp
      refine hK _ _ ?_
      clear hK K
      refine wpAny_ready (rs := [17]) (by kernel_rfl) (by simp) ?_
      refine AllReady.cons rfl (fun K hK => ?_) AllReady.nil
      go_simp
      go_at_call 23
      with_reducible refine (msame_tags w7 bt b7 key text key text (tagAt_keep (tagAt_keep HTD.out (hbel5.block bt hbtd)) (hbel7.block bt (by have := hbel5.size; omega))) ht7 rfl).mono ?_
      rintro e w8 ⟨rfl, rfl⟩
      try go_simp
      refine hK _ _ ?_
      clear hK K
      refine wpAny_take (i := 18) (v := ?vv18) rfl (by kernel_rfl) (by kernel_rfl) (by kernel_rfl) (fun _ _ _ h => h) (Or.inl ⟨by rfl, ?hy18⟩) ?_
      case hy18 => (intro w'; go_simp; try with_reducible rfl)
      try go_simp
      refine wpAny_take (i := 19) (v := ?vv19) rfl (by kernel_rfl) (by kernel_rfl) (by kernel_rfl) (fun _ _ _ h => h) (Or.inl ⟨by rfl, ?hy19⟩) ?_
      case hy19 => (intro w'; go_simp; try with_reducible rfl)
      try go_simp
      refine wpAny_take (i := 20) (v := ?vv20) rfl (by kernel_rfl) (by kernel_rfl) (by kernel_rfl) (fun _ _ _ h => h) (Or.inl ⟨by rfl, ?hy20⟩) ?_
      case hy20 => (intro w'; go_simp; try with_reducible rfl)
      try go_simp
      refine wpAny_take (i := 21) (v := ?vv21) rfl (by kernel_rfl) (by kernel_rfl) (by kernel_rfl) (fun _ _ _ h => h) (Or.inl ⟨by rfl, ?hy21⟩) ?_
      case hy21 => (intro w'; go_simp; try with_reducible rfl)
      try go_simp
      refine wpAny_take (i := 22) (v := ?vv22) rfl (by kernel_rfl) (by kernel_rfl) (by kernel_rfl) (fun _ _ _ h => h) (Or.inl ⟨by rfl, ?hy22⟩) ?_
      case hy22 => (intro w'; go_simp; try with_reducible rfl)
      try go_simp
      refine wpAny_take (i := 23) (v := ?vv23) rfl (by kernel_rfl) (by kernel_rfl) (by kernel_rfl) (fun _ _ _ h => h) (Or.inl ⟨by rfl, ?hy23⟩) ?_
      case hy23 => (intro w'; go_simp; try with_reducible rfl)
      try go_simp
      refine wpAny_take (i := 24) (v := ?vv24) rfl (by kernel_rfl) (by kernel_rfl) (by kernel_rfl) (fun _ _ _ h => h) (Or.inl ⟨by rfl, ?hy24⟩) ?_
      case hy24 => (intro w'; go_simp; try with_reducible rfl)
      try go_simp
      refine wpAny_done (by kernel_rfl) ?_ _
      have HEND : Hid (Below w.heap.size w w7) := hid (HB4.out.trans ((HBD.out.trans ((hbel5.trans (hbel7.mono hbel5.size)).mono HBD.out.size)).mono HB4.out.size))
      go_wp2
      go_ret
      exact ⟨rfl, HEND.out⟩
end Go.Proofs.YtokggppfobbblaaDoor
