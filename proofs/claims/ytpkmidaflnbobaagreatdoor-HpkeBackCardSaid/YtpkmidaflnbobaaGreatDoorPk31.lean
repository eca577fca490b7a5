/-
  Texts of this claim in one file: Mrk.
-/
import Derived.Test.YtpkmidaflnbobaaGreatDoorPk29
import Derived.Test.YtpkmidaflnbobaaGreatDoorPk12
import Derived.Test.YtpkmidaflnbobaaGreatDoorPk9
import Derived.Test.YtpkmidaflnbobaaGreatDoorPk21
section
namespace Go.Proofs.YtpkmidaflnbobaaGreatDoor
open Go Go.RowKit
set_option linter.unusedVariables false
set_option linter.unusedSimpArgs false
/-- Cells written ahead of the first that is frozen. -/
theorem run_storeCells_ahead (P : Program) (g o : Nat) (t : TypeId) (fz : Nat × Nat) : ∀ (vs : List Value) (i : Nat) (cur : Array Value) (w : World), w.heap[g]? = some (.cells cur t fz) → o + i + vs.length ≤ fz.1 → o + i + vs.length ≤ cur.size → (∀ v ∈ vs, v.oneCell' = true) →
    (storeCells ⟨g, o, none⟩ vs i).run P w = .ok () (w.setRow g (cur.toList.take (o + i) ++ vs ++ cur.toList.drop (o + i + vs.length)).toArray)
  | [], i, cur, w, hg, _, _, _ => by
    simp only [storeCells, List.append_nil, List.length_nil, Nat.add_zero, List.take_append_drop, Array.toArray_toList]
    rw [setRow_self w g cur t fz hg]
    rfl
  | v :: rest, i, cur, w, hg, hfz, hl, h1 => by
    have hi : o + i < cur.size := by simp at hl; omega
    have hadd : (⟨g, o, none⟩ : Addr).add i = ⟨g, o + i, none⟩ := by unfold Addr.add; split <;> simp_all
    have hcell : w.cell? ⟨g, o + i, none⟩ = some cur[o + i] := by simp [World.cell?, hg, hi]
    have hfro : w.frozen? ⟨g, o + i, none⟩ = false := by
      obtain ⟨lo, hi'⟩ := fz
      simp only [World.frozen?, hg, Bool.and_eq_false_iff, decide_eq_false_iff_not]
      left
      simp at hfz
      omega
    have hst : (store ((⟨g, o, none⟩ : Addr).add i) v).run P w = .ok () (w.setRow g (cur.setIfInBounds (o + i) v)) := by
      rw [hadd, run_store P w _ v _ (h1 v (by simp)), hcell]
      simp [hfro, setCell_eq_setRow w g (o + i) cur t fz v hg]
    have ih := run_storeCells_ahead P g o t fz rest (i + 1) (cur.setIfInBounds (o + i) v) (w.setRow g (cur.setIfInBounds (o + i) v)) (setRow_heap w g cur _ t _ hg) (by simp at hfz ⊢; omega) (by simp at hl ⊢; omega) (fun x hx => h1 x (by simp [hx]))
    simp only [storeCells, Sem.run_bind, hst, Result.andThen_ok, ih, setRow_setRow]
    congr 3
    have e := list_seg_step cur.toList (o + i) v rest (by simp at hl ⊢; omega)
    simpa [Array.toList_setIfInBounds, Nat.add_assoc] using e
section
variable {P : Program} {w : World}
theorem run_append_mark (t ty e : TypeId) (z : Value) (bytes : Nat) (ht : P.underlying t = some (.slice e))
    (hinfo : (P.info? e).map (fun i => (i.zero, i.size, i.bytes)) = some (some z, 1, bytes)) (hzs : z.cells.size = 1)
    {g n cap : Nat} {cur : Array Value} (hg : w.heap[g]? = some (.cells cur e (cap, cap + 1))) (hcs : cur.size = cap) (hn : n ≤ cap) (hcm : cap ≤ maxLen) {xs : List Value} (hx : cur.toList.take n = xs)
    {B : Nat} {A : Option Addr} {news : List Value} (c m : Nat) (hm : news.length = m) (hr : Lie w B A news)
    (h1 : ∀ u ∈ news, u.oneCell' = true) (h63 : n + m ≤ maxLen) (hbytes : (n + m) * bytes ≤ 140737488355328) :
    ∃ g' c' w', (Builtin.append_ #[t, t] ty #[.slice (some ⟨g, 0, none⟩) n cap, .slice A m c]).run P w = .ok (.slice (some ⟨g', 0, none⟩) (n + m) c') w' ∧ Sq w' w'.heap.size (some ⟨g', 0, none⟩) c' (xs ++ news) ∧ w.grownBy w' (some g) := by
  obtain ⟨i, hi, hz, hsize, hby⟩ := info_parts hinfo
  subst hm
  have hxl : xs.length = n := by rw [← hx, List.length_take, Array.length_toList]; omega
  have hxc : ∀ j u, xs[j]? = some u → w.cell? ⟨g, j, none⟩ = some u := fun j u hu => by
    rw [cell_of_row w g j cur e _ hg]
    rw [← hx, List.getElem?_take] at hu
    split at hu
    · simpa using hu
    · cases hu
  have hlt : g < w.heap.size := (Array.getElem?_eq_some_iff.1 hg).1
  have hcm' : cap ≤ 9223372036854775807 := by unfold maxLen at hcm; omega
  rcases A with _ | ad
  · have hnn : news = [] := by
      rcases news with _ | ⟨x, l⟩
      · rfl
      · obtain ⟨b, o, h, _⟩ := hr (by simp)
        cases h
    subst hnn
    refine ⟨g, cap, w, ?_, ?_, World.grownBy.refl w _⟩
    · simp [Builtin.append_, run_underlying ht, sizeOf, typeInfo, hi, Builtin.lenOf, Builtin.firstCells, hn, storeCells]
    · refine .inr ⟨g, 0, rfl, hlt, by simp; omega, hcm', fun j u hu => ?_⟩
      rw [Nat.zero_add]
      exact hxc j u (by simpa using hu)
  · have hcells : ∀ j u, news[j]? = some u → w.cell? (ad.add j) = some u := by
      intro j u hu
      obtain ⟨b, o, h, _, hc⟩ := hr (fun e => by subst e; simp at hu)
      injection h with h
      subst h
      have hadd : (⟨b, o, none⟩ : Addr).add j = ⟨b, o + j, none⟩ := by unfold Addr.add; split <;> simp_all
      rw [hadd]
      exact hc j u hu
    by_cases hroom : n + news.length ≤ cap
    · have hf := run_firstCells_some (P := P) w i.size news.length ad news.length c news (by rw [hsize]; omega) hcells
      have hst := run_storeCells_ahead P g n e (cap, cap + 1) news 0 cur w hg (by simpa using hroom) (by rw [hcs]; simpa using hroom) h1
      simp only [Nat.add_zero] at hst
      refine ⟨g, cap, w.setRow g (cur.toList.take n ++ news ++ cur.toList.drop (n + news.length)).toArray, ?_, ?_, ⟨rfl, rfl, rfl, by simp, fun k _ hk => setRow_other w g k _ (fun e => hk (by simp [e]))⟩⟩
      · simp [Builtin.append_, run_underlying ht, sizeOf, typeInfo, hi, Builtin.lenOf, hroom, hsize, Addr.add_lit, run_firstCells_some (P := P) w 1 news.length ad news.length c news (by omega) hcells, hst]
      · have hg' := setRow_heap w g cur (cur.toList.take n ++ news ++ cur.toList.drop (n + news.length)).toArray e _ hg
        refine .inr ⟨g, 0, rfl, by simpa using hlt, by rw [List.length_append]; omega, hcm', fun j u hu => ?_⟩
        rw [Nat.zero_add, cell_of_row _ g j _ e _ hg', hx]
        have hj : j < (xs ++ news).length := (List.getElem?_eq_some_iff.1 hu).1
        rw [List.getElem?_toArray, List.getElem?_append_left hj]
        exact hu
    · have holds : ∀ j u, xs[j]? = some u → w.cell? ((⟨g, 0, none⟩ : Addr).add j) = some u := fun j u hu => by
        have hadd : (⟨g, 0, none⟩ : Addr).add j = ⟨g, j, none⟩ := by unfold Addr.add; split <;> simp_all
        rw [hadd]
        exact hxc j u hu
      have hrn := run_append_grow (P := P) w t ty e i z ht hi hz ⟨g, 0, none⟩ n cap xs (by rw [hsize]; omega) holds ad news.length c news (by rw [hsize]; omega) hcells (by omega) (by unfold maxLen at h63; omega) (growslice_fits (by omega) (by rw [hby]; exact hbytes))
      have hge := grownCap_ge w (n + news.length) cap e
      have hcm2 : grownCap w (n + news.length) cap e ≤ maxLen := grownCap_le_maxLen w (n + news.length) cap e h63
      refine ⟨w.heap.size, _, _, hrn, .inr ⟨w.heap.size, 0, rfl, by simp, by rw [List.length_append]; omega, by unfold maxLen at hcm2; omega, fun j u hu => ?_⟩, ⟨rfl, rfl, rfl, by simp, fun k hk _ => Below.heap_alloc w.drew _ k hk⟩⟩
      have hj : j < (xs ++ news).length := (List.getElem?_eq_some_iff.1 hu).1
      rw [Nat.zero_add]
      refine cell_of (heap_alloc_new w.drew _) j u ?_
      rw [Array.getElem?_append_left (by simpa using hj)]
      simpa using hu
theorem wpList_append_mark {ops : Array Oper} {rest : List Oper} {o : Oper} {a : Act} {Q : Exit → Act → World → Prop} (hgd : o.guard = none) (s x : Operand) (t : TypeId)
    (ho : o.op = .call { callee := .builtin .append, args := #[s, x], argTypes := #[t, t] })
    (e : TypeId) (z : Value) (bytes : Nat) (ht : P.underlying t = some (.slice e))
    (hinfo : (P.info? e).map (fun i => (i.zero, i.size, i.bytes)) = some (some z, 1, bytes)) (hzs : z.cells.size = 1)
    {g n cap : Nat} {cur : Array Value} (hs : a.eval s = .slice (some ⟨g, 0, none⟩) n cap) (hg : w.heap[g]? = some (.cells cur e (cap, cap + 1))) (hcs : cur.size = cap) (hn : n ≤ cap) (hcm : cap ≤ maxLen) {xs : List Value} (hx : cur.toList.take n = xs)
    {B : Nat} {A : Option Addr} {news : List Value} {c m : Nat} (hm : news.length = m) (hy : a.eval x = .slice A m c) (hr : Lie w B A news)
    (h1 : ∀ u ∈ news, u.oneCell' = true) (h63 : n + m ≤ maxLen) (hbytes : (n + m) * bytes ≤ 140737488355328)
    (h : ∀ g' c' w', Sq w' w'.heap.size (some ⟨g', 0, none⟩) c' (xs ++ news) → w.grownBy w' (some g) → wpList P ops Q rest (a.put o.dst (.slice (some ⟨g', 0, none⟩) (n + m) c')) w') : wpList P ops Q (o :: rest) a w :=
  wpList_plain hgd fun K hK => by
    obtain ⟨g', c', w', hrun, h2, h3⟩ := run_append_mark (P := P) t o.type e z bytes ht hinfo hzs hg hcs hn hcm hx c m hm hr h1 h63 hbytes
    unfold Oper.wp execOp
    simp only [ho, resolve, invoke, builtin, Sem.run_bind, Sem.run_pure, Result.andThen_ok, List.map_toArray, List.map_cons, List.map_nil, hs, hy, hrun]
    exact hK _ _ (h g' c' w' h2 h3)
end
/-- The row of a text made bytes. -/
theorem strW_row (W : World) (s : ByteArray) (hs : s.size ≤ 1000000) : ∃ cur : Array Value, (strW W s).heap[W.heap.size]? = some (.cells cur U8 (grownCap W s.size 0 U8, grownCap W s.size 0 U8 + 1)) ∧ cur.size = grownCap W s.size 0 U8 ∧ s.size ≤ grownCap W s.size 0 U8 ∧ grownCap W s.size 0 U8 ≤ maxLen ∧ cur.toList.take s.size = bvs (sby s) := by
  have h1 := grownCap_ge W s.size 0 U8
  have h2 := grownCap_le_maxLen W s.size 0 U8 (by unfold maxLen; omega)
  have hsz : (bytesRow s (grownCap W s.size 0 U8)).size = grownCap W s.size 0 U8 := by
    unfold bytesRow
    rw [Array.size_append, Array.size_map, Array.size_replicate]
    show s.size + (_ - s.size) = _
    omega
  refine ⟨bytesRow s (grownCap W s.size 0 U8), ?_, hsz, h1, h2, ?_⟩
  · have h := heap_alloc_new W.drew (.cells (bytesRow s (grownCap W s.size 0 U8)) U8 ((bytesRow s (grownCap W s.size 0 U8)).size, (bytesRow s (grownCap W s.size 0 U8)).size + 1))
    rw [hsz] at h
    unfold strW
    rw [hsz]
    exact h
  · unfold bytesRow
    rw [Array.toList_append, List.take_append_of_le_length (by rw [Array.length_toList, Array.size_map]; exact Nat.le_refl _)]
    rw [List.take_of_length_le (by rw [Array.length_toList, Array.size_map]; exact Nat.le_refl _)]
    unfold bvs sby
    rw [Array.toList_map]
theorem run_text (W : World) (s t : ByteArray) (h : s.size + t.size ≤ 1048576) : (Op.stringOp .add s t).run Tryz.prog W = .ok (.string (s ++ t)) W := run_string_add_sum W _ _ (by omega)
theorem sby_add (s t : ByteArray) : sby (s ++ t) = sby s ++ sby t := by simp [sby, ByteArray.data_append]
theorem growB0_e (w : World) : Calls Tryz.prog 69 #[.slice none 0 0, .int .i64 0] w fun e w' => ∃ v, e = .returned v ∧ OwnB w' w.heap.size v [] ∧ Below w.heap.size w w' := by
  go_enter Tryz.func69, Tryz.ntmps69
  go_wp2_with fail
  go_ret
  exact ⟨_, rfl, ⟨rfl, .inl ⟨rfl, rfl⟩⟩, Below.refl _ _⟩
theorem growB_all (n : Nat) (w : World) (hn : n ≤ 1000) : Calls Tryz.prog 69 #[.slice none 0 0, .int .i64 (n : Int)] w fun e w' => ∃ v, e = .returned v ∧ OwnB w' w.heap.size v [] ∧ Below w.heap.size w w' := by
  by_cases h0 : 0 < n
  · exact growB_e n w h0 hn
  · obtain rfl : n = 0 := by omega
    exact growB0_e w
set_option maxRecDepth 100000 in
set_option maxHeartbeats 1000000 in
theorem concatB_all (A : Option Addr) (gs : List (List UInt8)) (g c : Nat) (w : World) (hA : Rows2 w w.heap.size A gs) (hl : gs.flatten.length ≤ 1000) (hg : gs.length = g) (hg2 : g ≤ 1000) :
    Calls Tryz.prog 48 #[.slice A g c] w fun e w' => ∃ v, e = .returned v ∧ OwnB w' w.heap.size v gs.flatten ∧ Below w.heap.size w w' := by
  subst hg
  have HA := hid hA; have HL := hid hl
  clear hA hl
  go_enter Tryz.func48, Tryz.ntmps48
  go_wp2
  go_loopg [3, 11] gs.length (fun r s i wr => ∃ k : Nat, k + r = gs.length ∧ i = .int .i64 (k : Int) ∧ s = .int .i64 ((gs.take k).flatten.length : Int) ∧ w = wr)
  case atStart => exact ⟨0, by omega, rfl, by simp, rfl⟩
  case round =>
    obtain ⟨k, hk, rfl, rfl, rfl⟩ := hrel
    have HK := hid hk
    clear hk
    by_cases hlt : k < gs.length
    · obtain ⟨b, o, A1, c1, rfl, hb1, hc, hS⟩ := HA.out.at_ hlt
      have hx : (k : Int) < (gs.length : Int) := by omega
      have hk0 : (0 : Int) ≤ (k : Int) := by omega
      obtain ⟨m, hm⟩ : ∃ m, m = gs[k].length := ⟨_, rfl⟩
      obtain ⟨n, hn⟩ : ∃ n, n = (gs.take k).flatten.length := ⟨_, rfl⟩
      obtain ⟨q, hq⟩ : ∃ q, q = (gs.take (k + 1)).flatten.length := ⟨_, rfl⟩
      have hs : q = n + m := by rw [hq, flat_takeB gs k hlt, List.length_append, hn, hm]
      have hql : q ≤ 1000 := by have := flat_leB gs (k + 1); have := HL.out; omega
      have hwr : wrap64 ((n : Int) + (m : Int)) = (q : Int) := wrap64_sumB hs hql
      have hq0 : ¬ ((q : Int) < 0) := Int.not_lt.2 (Int.natCast_nonneg q)
      rw [← hm] at hc
      rw [← hn]
      have HQ := hid hq
      clear hs hm hn hq hql hS
      go_wp2
      have hk := HK.out
      go_roundg (gs.length - k - 1)
      case measure => omega
      case rel => exact ⟨k + 1, by omega, by go_num, by rw [HQ.out], rfl⟩
    · obtain rfl : k = gs.length := by have := HK.out; omega
      rw [List.take_length]
      obtain ⟨n, hn⟩ : ∃ n, n = gs.flatten.length := ⟨_, rfl⟩
      have HC := hid (growB_all n w (by rw [hn]; exact HL.out))
      rw [← hn]
      have HN := hid hn
      clear hn
      go_wp2_with fail
      refine HC.out.mono ?_
      rintro e w2 ⟨v, rfl, ho, hb⟩
      have HO : Hid (OwnB w2 w.heap.size v []) := hid ho
      have HB := hid hb
      clear ho hb HC
      go_wp2
      go_loopg [6, 27] gs.length (fun r u i wr => ∃ k : Nat, k + r = gs.length ∧ i = .int .i64 (k : Int) ∧ OwnB wr w.heap.size u (gs.take k).flatten ∧ Below w.heap.size w wr)
      case atStart => exact ⟨0, by omega, rfl, HO.out, HB.out⟩
      case round =>
        clear HO HB
        obtain ⟨k, hk, rfl, hR, hB⟩ := hrel
        have HK2 := hid hk
        by_cases hlt : k < gs.length
        · obtain ⟨b, o, A1, c1, rfl, hb1, hc, hS⟩ := HA.out.at_ hlt
          have hc' : wr.cell? ⟨b, o + k, none⟩ = some (.slice A1 gs[k].length c1) := by rw [← hc]; exact hB.cell (p := ⟨b, o + k, none⟩) hb1
          have hx : (k : Int) < (gs.length : Int) := by omega
          have hk0 : (0 : Int) ≤ (k : Int) := by omega
          have hft := flat_takeB gs k hlt
          have hle := flat_leB gs (k + 1)
          rw [hft, List.length_append] at hle
          obtain ⟨x, hxd⟩ : ∃ x, x = gs[k] := ⟨_, rfl⟩
          rw [← hxd] at hc' hS hft hle
          have HFT := hid hft; have HB := hid hB
          have hsum : (gs.take k).flatten.length + x.length ≤ 1000 := by have := HL.out; omega
          have hlie := hid (hS.below hB)
          have HO := hid hR
          have hsz := hB.size
          obtain ⟨ys, hys⟩ : ∃ ys, ys = (gs.take k).flatten := ⟨_, rfl⟩
          rw [← hys] at HO hsum HFT
          obtain ⟨m, hm⟩ : ∃ m, m = x.length := ⟨_, rfl⟩
          rw [← hm] at hc' hsum
          have HM := hid hm
          clear hc hk hft hxd hle hB hR hys hm hS
          go_wp2_with (at_builtin; refine wpList_append_lie rfl _ _ 22 rfl w.heap.size 5 (.int .u8 0) 1 Tryz.underlying22 infoU8 rfl rfl HO.out (by rw [bvs_length]; exact HM.out.symm) rfl hlie.out (bvs_one x) ?d1 ?d2 hsz ?_)
          case d1 => unfold maxLen; omega
          case d2 => omega
          intro v4 w4 hown4 hg4 hat4
          have hB4 := hid (HB.out.grown hg4 hsz (own_lt HO.out))
          have hR4 : Hid (OwnB w4 w.heap.size v4 (gs.take (k + 1)).flatten) := hid (by
            rw [HFT.out]
            unfold OwnB
            rw [List.length_append, bvs_append, ← HM.out]
            exact hown4)
          clear hown4 hg4 hat4
          go_wp2
          have hk := HK2.out
          go_roundg (gs.length - k - 1)
          case measure => omega
          case rel => exact ⟨k + 1, by omega, by go_num, hR4.out, hB4.out⟩
        · obtain rfl : k = gs.length := by have := HK2.out; omega
          rw [List.take_length] at hR
          obtain ⟨A, c, rfl, hr⟩ := own_sl hR
          have HR := hid hR; have HB := hid hB
          clear hr hB hR
          go_wp2
          go_ret
          exact ⟨_, rfl, HR.out, HB.out⟩
theorem Rows2'.rows2 {w : World} {B : Nat} {A : Option Addr} {ls : List (List UInt8)} (h : Rows2' w B A ls) : Rows2 w B A ls := by
  obtain ⟨vs, h1, h2, h3⟩ := h
  exact ⟨vs, h1, h2, fun j x hx => by obtain ⟨A', c, h4, h5⟩ := h3 j x hx; exact ⟨A', c, h4, h5.lie⟩⟩
theorem rows_nil {w : World} {B : Nat} : Rows2' w B none [] := ⟨[], rfl, Lie.nil, fun j x h => by simp at h⟩
theorem concat_n (A : Option Addr) (gs : List (List UInt8)) (g c : Nat) (w : World) (hA : Rows2' w w.heap.size A gs) (hg : gs.length = g) {L : Nat} {Z : List UInt8} (hZ : gs.flatten = Z) (hL : Z.length = L) (h1 : L ≤ 1000) (hg2 : g ≤ 1000) :
    Calls Tryz.prog 48 #[.slice A g c] w (ByN w L Z) := by
  have h := concatB_all A gs g c w hA.rows2 (by rw [hZ]; omega) hg hg2
  rw [hZ] at h
  exact byn_own hL h
end Go.Proofs.YtpkmidaflnbobaaGreatDoor
end
