/-
  Texts of this claim in one file: HpC, HpD.
-/
import Derived.Test.YtpkmidaflnbobaaGreatDoorPk30
import Derived.Test.YtpkmidaflnbobaaGreatDoorPk31
import Derived.Test.YtpkmidaflnbobaaGreatDoorPk12
import Derived.Test.YtpkmidaflnbobaaGreatDoorPk8
import Derived.Test.YtpkmidaflnbobaaGreatDoorPk34
import Derived.Test.YtpkmidaflnbobaaGreatDoorPk22
section
namespace Go.Proofs.YtpkmidaflnbobaaGreatDoor
open Go Go.RowKit
set_option linter.unusedVariables false
set_option linter.unusedSimpArgs false
theorem ext13 (A : Option Addr) (xs : List UInt8) (n c : Nat) (A' : Option Addr) (ys : List UInt8) (m c' : Nat) (W : World) (hG : Glob W) (h : Sq W W.heap.size A c (bvs xs)) (h' : Sq W W.heap.size A' c' (bvs ys)) (hx : xs.length = n) (hy : ys.length = m) (hl : n ≤ 100000 ∧ m ≤ 100000) :
    Calls Tryz.prog 46 #[.slice A n c, .slice A' m c'] W (ByN W 32 (macB xs ys)) := by
  subst hx; subst hy
  refine (Extract_any A xs c A' ys c' W h h' hG (by omega) (by omega)).mono fun e w' ⟨b, he, hc, hB, hb⟩ => ⟨_, _, he, ?_, hb⟩
  refine .inr ⟨b, 0, rfl, block_lt hc, by rw [bvs_length, macB_length]; omega, by decide, fun j u hu => ?_⟩
  rw [Nat.zero_add]
  exact cell_of hc j u (by unfold byA; simpa using hu)
theorem exp13 (A : Option Addr) (xs : List UInt8) (m c : Nat) (A' : Option Addr) (ys : List UInt8) (k c' n : Nat) (W : World) (hG : Glob W) (h : Sq W W.heap.size A c (bvs xs)) (h' : Sq W W.heap.size A' c' (bvs ys)) (hx : xs.length = m) (hy : ys.length = k) (hl : m ≤ 100000 ∧ k ≤ 100000) (hn : n ≤ 8160) :
    Calls Tryz.prog 50 #[.slice A m c, .slice A' k c', .int .i64 (n : Int)] W (By1N W n (kdfB xs ys n) 0) := by
  subst hx; subst hy
  refine (Expand_ok A xs c A' ys c' n W h h' hG hn (by omega) (by omega)).mono fun e w' ⟨v, he, ho, hb⟩ => ?_
  obtain ⟨A1, c1, rfl, hq⟩ := own_n ho (kdfB_length xs ys n)
  exact ⟨A1, c1, he, hq.sq, hb⟩
set_option maxHeartbeats 1000000 in
theorem labelled_e (s t : ByteArray) (A : Option Addr) (gs : List (List UInt8)) (g c : Nat) (w : World) (hA : Rows2' w w.heap.size A gs) (hg : gs.length = g) {L : Nat} {Z : List UInt8} (hZ : gs.flatten = Z) (hL : Z.length = L) (hl : s.size ≤ 100 ∧ t.size ≤ 100 ∧ L ≤ 1000 ∧ g ≤ 1000) :
    Calls Tryz.prog 47 #[.string s, .string t, .slice A g c] w (ByN w (7 + s.size + t.size + L) ((hpV ++ sby s) ++ (sby t ++ Z))) := by
  obtain ⟨hl1, hl2, hl3, hl4⟩ := hl
  have hm1 := fun W => run_text W ⟨#[72, 80, 75, 69, 45, 118, 49]⟩ s (by show 7 + _ ≤ _; omega)
  obtain ⟨S1, hS1⟩ : ∃ S : ByteArray, S = ⟨#[72, 80, 75, 69, 45, 118, 49]⟩ ++ s := ⟨_, rfl⟩
  have hz1 : S1.size = 7 + s.size := by rw [hS1, ByteArray.size_append]; rfl
  have hb1 : sby S1 = hpV ++ sby s := by rw [hS1, sby_add]; rfl
  have hm2 := fun W => run_text W S1 t (by omega)
  obtain ⟨T, hT⟩ : ∃ S : ByteArray, S = S1 ++ t := ⟨_, rfl⟩
  have hz : T.size = 7 + s.size + t.size := by rw [hT, ByteArray.size_append, hz1]
  have hb : sby T = (hpV ++ sby s) ++ sby t := by rw [hT, sby_add, hb1]
  rw [← hS1] at hm1
  rw [← hT] at hm2
  obtain ⟨cur, hr1, hr2, hr3, hr4, hr5⟩ := strW_row w T (by omega)
  have hbw := strW_below w T
  have hsz := strW_size w T
  have hcv := run_bytes w T
  have HK := hid (concat_n A gs g c (strW w T) (rows_on hA hbw) hg hZ hL hl3 hl4)
  have HR : Hid (_ ∧ _ ∧ _ ∧ _ ∧ _) := hid ⟨hr1, hr2, hr3, hr4, hr5⟩
  have HB := hid hbw; have HZ := hid hsz; have HT := hid hb; have HTL := hid hz; have HL := hid hL
  have HN : Hid (T.size + L ≤ 2000) := hid (by omega)
  rw [show 7 + s.size + t.size + L = T.size + L by omega]
  clear hr1 hr2 hr3 hr4 hr5 hbw hsz hb hz hS1 hz1 hb1 hT hA hg hZ hL hl1 hl2 hl3 hl4
  go_enter Tryz.func47, Tryz.ntmps47
  go_wp2_with fail
  refine HK.out.mono ?_
  rintro e w1 ⟨A1, c1, rfl, hq, hb⟩
  have HQ := hid hq
  have HB1 := hid (HB.out.trans (hb.mono HB.out.size))
  obtain ⟨hr1, hr2, hr3, hr4, hr5⟩ := HR.out
  have hg1 := hid ((hb.block w.heap.size (by have := HZ.out; omega)).trans hr1)
  have hsz1 := hb.size
  clear hr1 hq HK hb
  go_wp2_with (at_builtin; refine wpList_append_mark rfl _ _ SU8 rfl U8 (.int .u8 0) 1 Tryz.underlying22 infoU8 rfl rfl hg1.out hr2 hr3 hr4 hr5 (by rw [bvs_length]; exact HL.out) rfl HQ.out.lie (bvs_one _) ?d1 ?d2 ?_)
  case d1 => have := HN.out; unfold maxLen; omega
  case d2 => have := HN.out; omega
  intro g2 c2 w2 hq2 hg2
  have HB2 : Hid (Below w.heap.size w w2) := hid (HB1.out.grown hg2 (by have := HB1.out.size; omega) (fun k hk => by injection hk with hk; omega))
  have HQ2 : Hid (Sq w2 w2.heap.size (some ⟨g2, 0, none⟩) c2 (bvs ((hpV ++ sby s) ++ (sby t ++ Z)))) := hid (by
    rw [← List.append_assoc, ← HT.out, bvs_append]
    exact hq2)
  clear hq2 hg2 hg1 hr2 hr3 hr4 hr5 hsz1 HB HB1 HQ HR HT HTL HZ HN HL
  go_wp2_with fail
  go_ret
  exact ⟨_, _, rfl, HQ2.out, HB2.out⟩
set_option maxRecDepth 100000 in
set_option maxHeartbeats 2000000 in
theorem extract_e (s : ByteArray) (A : Option Addr) (xs : List UInt8) (n c : Nat) (t : ByteArray) (A' : Option Addr) (gs : List (List UInt8)) (g c' : Nat) (w : World) (hG : Glob w) (hS : Sq w w.heap.size A c (bvs xs)) (hR : Rows2' w w.heap.size A' gs) (hx : xs.length = n) (hg : gs.length = g) {ys : List UInt8} {m : Nat} (hZ : gs.flatten = ys) (hy : ys.length = m) (hl : s.size ≤ 100 ∧ n ≤ 1000 ∧ t.size ≤ 100 ∧ m ≤ 400 ∧ g ≤ 100) :
    Calls Tryz.prog 26 #[.string s, .slice A n c, .string t, .slice A' g c'] w (ByN w 32 (exH (sby s) xs (sby t) ys)) := by
  have HS := hid hS; have HR := hid hR; have HG := hid hG
  have h1 := sby_length s; have h2 := sby_length t
  obtain ⟨R, hRR⟩ : ∃ R, R = exH (sby s) xs (sby t) ys := ⟨_, rfl⟩
  rw [← hRR]
  unfold exH at hRR
  have hv : hpV.length = 7 := rfl
  obtain ⟨X, hX⟩ : ∃ X, X = (hpV ++ sby s) ++ (sby t ++ ys) := ⟨_, rfl⟩
  rw [← hX] at hRR
  obtain ⟨L, hL⟩ : ∃ L, X.length = L := ⟨_, rfl⟩
  have hLb : 7 + s.size + t.size + m = L := by rw [← hL, hX]; simp only [List.length_append]; omega
  have KL : Hid (∀ (A0 : Option Addr) (c0 : Nat) (W : World), Rows2' W W.heap.size A0 gs → Calls Tryz.prog 47 #[.string s, .string t, .slice A0 g c0] W (ByN W L X)) := hid fun A0 c0 W h => by
    rw [hX, ← hLb]
    exact labelled_e s t A0 gs g c0 W h hg hZ hy ⟨by omega, by omega, by omega, by omega⟩
  have KE : Hid (∀ (A0 : Option Addr) (c0 : Nat) (A1 : Option Addr) (c1 : Nat) (W : World), Glob W → Sq W W.heap.size A0 c0 (bvs xs) → Sq W W.heap.size A1 c1 (bvs X) → Calls Tryz.prog 46 #[.slice A0 n c0, .slice A1 L c1] W (ByN W 32 R)) := hid fun A0 c0 A1 c1 W hG h h' => by
    rw [hRR]
    exact ext13 A0 xs n c0 A1 X L c1 W hG h h' hx hL ⟨by omega, by omega⟩
  clear hS hR hG hRR hX hL hLb hx hy hl h1 h2 hv hg hZ
  go_enter Tryz.func26, Tryz.ntmps26
  have S0 : Hid (St w w [] []) := hid (St.start w)
  go_upto_region 0 with fail
  refine wpLA_start ?_
  refine wpLA_take (.slice none 0 0) (yG_val _ (by rfl) (fun w' _ => by (go_simp; try rfl))) ?_
  (try simp only [Act.put, List.getElem_toArray, List.getElem_cons_succ, List.getElem_cons_zero, List.setIfInBounds_toArray, List.set_cons_zero, List.set_cons_succ])
  refine wpLA_end ?_
  intro w1 hb
  have S1 := hid (S0.out.on hb)
  have RW2 := hid (rows_on HR.out hb)
  clear HR
  clear hb S0
  go_upto_region 1 with fail
  refine wpLA_start ?_
  refine wpLA_take (.slice A n c) (yG_val _ (by rfl) (fun w' _ => by (go_simp; try rfl))) ?_
  (try simp only [Act.put, List.getElem_toArray, List.getElem_cons_succ, List.getElem_cons_zero, List.setIfInBounds_toArray, List.set_cons_zero, List.set_cons_succ])
  refine wpLA_take (.string s) (yG_val _ (by rfl) (fun w' _ => by (go_simp; try rfl))) ?_
  (try simp only [Act.put, List.getElem_toArray, List.getElem_cons_succ, List.getElem_cons_zero, List.setIfInBounds_toArray, List.set_cons_zero, List.set_cons_succ])
  refine wpLA_take (.string t) (yG_val _ (by rfl) (fun w' _ => by (go_simp; try rfl))) ?_
  (try simp only [Act.put, List.getElem_toArray, List.getElem_cons_succ, List.getElem_cons_zero, List.setIfInBounds_toArray, List.set_cons_zero, List.set_cons_succ])
  refine wpLA_take (.slice A' g c') (yG_val _ (by rfl) (fun w' _ => by (go_simp; try rfl))) ?_
  (try simp only [Act.put, List.getElem_toArray, List.getElem_cons_succ, List.getElem_cons_zero, List.setIfInBounds_toArray, List.set_cons_zero, List.set_cons_succ])
  refine wpLA_byn X L (by rfl) (fun w' => by go_simp) (fun w' hb => KL.out A' c' w' (rows_on RW2.out hb)) ?_
  intro A3 c3 w3 hb hs
  have S3 : Hid (St w w3 [] [(A3, c3, bvs X)]) := hid ((S1.out.on hb).more hs)
  have RW4 := hid (rows_on RW2.out hb)
  clear RW2
  clear hb hs S1
  (try simp only [Act.put, List.getElem_toArray, List.getElem_cons_succ, List.getElem_cons_zero, List.setIfInBounds_toArray, List.set_cons_zero, List.set_cons_succ])
  refine wpLA_byn R 32 (by rfl) (fun w' => by go_simp) (fun w' hb => KE.out A c A3 c3 w' (HG.out.below (S3.out.on hb).below (Nat.le_refl _)) (HS.out.on6 ((S3.out.on hb).below)) (S3.out.on hb).sq.1) ?_
  intro A5 c5 w5 hb hs
  have S5 : Hid (St w w5 [] [(A5, c5, bvs R), (A3, c3, bvs X)]) := hid ((S3.out.on hb).more hs)
  have RW6 := hid (rows_on RW4.out hb)
  clear RW4
  clear hb hs S3
  (try simp only [Act.put, List.getElem_toArray, List.getElem_cons_succ, List.getElem_cons_zero, List.setIfInBounds_toArray, List.set_cons_zero, List.set_cons_succ])
  refine wpLA_take (.slice A5 32 c5) (yG_val _ (by rfl) (fun w' _ => by (go_simp; try rfl))) ?_
  (try simp only [Act.put, List.getElem_toArray, List.getElem_cons_succ, List.getElem_cons_zero, List.setIfInBounds_toArray, List.set_cons_zero, List.set_cons_succ])
  refine wpLA_end ?_
  intro w7 hb
  have S7 := hid (S5.out.on hb)
  have RW8 := hid (rows_on RW6.out hb)
  clear RW6
  clear hb S5
  go_wp2_with fail
  go_ret
  exact ⟨_, _, rfl, S7.out.sq.1, S7.out.below⟩
set_option maxRecDepth 100000 in
set_option maxHeartbeats 2000000 in
theorem expand_e (s : ByteArray) (A : Option Addr) (xs : List UInt8) (q c : Nat) (t : ByteArray) (A' : Option Addr) (gs : List (List UInt8)) (g c' : Nat) (n : Nat) (w : World) (hG : Glob w) (hS : Sq w w.heap.size A c (bvs xs)) (hR : Rows2' w w.heap.size A' gs) (hx : xs.length = q) (hg : gs.length = g) {ys : List UInt8} {m : Nat} (hZ : gs.flatten = ys) (hy : ys.length = m) (hl : s.size ≤ 100 ∧ q ≤ 1000 ∧ t.size ≤ 100 ∧ m ≤ 400 ∧ g ≤ 100) (hn : n ≤ 8160) :
    Calls Tryz.prog 27 #[.string s, .slice A q c, .int .i64 (n : Int), .string t, .slice A' g c'] w (ByN w n (epL (sby s) xs (sby t) ys n)) := by
  have HS := hid hS; have HR := hid hR; have HG := hid hG
  have h1 := sby_length s; have h2 := sby_length t
  have HNW : Hid (IntKind.u64.wrap (n : Int) = (n : Int)) := hid (by rw [IntKind.wrap_u64]; omega)
  obtain ⟨R, hRR⟩ : ∃ R, R = epL (sby s) xs (sby t) ys n := ⟨_, rfl⟩
  rw [← hRR]
  unfold epL at hRR
  have hv : hpV.length = 7 := rfl
  obtain ⟨B, hB⟩ : ∃ B, B = beBytes 2 n := ⟨_, rfl⟩
  have hbl : B.length = 2 := by rw [hB]; exact beBytes_length _ _
  obtain ⟨Y, hY⟩ : ∃ X, X = (hpV ++ sby s) ++ (sby t ++ ys) := ⟨_, rfl⟩
  obtain ⟨M, hM⟩ : ∃ L, Y.length = L := ⟨_, rfl⟩
  have hMb : 7 + s.size + t.size + m = M := by rw [← hM, hY]; simp only [List.length_append]; omega
  obtain ⟨X, hX⟩ : ∃ X, X = ((B ++ hpV) ++ sby s) ++ (sby t ++ ys) := ⟨_, rfl⟩
  have hfl : [B, Y].flatten = X := by rw [hX, hY]; simp
  rw [← hB, ← hX] at hRR
  obtain ⟨L, hL⟩ : ∃ L, X.length = L := ⟨_, rfl⟩
  have hLb : L = 2 + M := by rw [← hL, ← hfl]; simp only [List.flatten_cons, List.flatten_nil, List.length_append, List.length_nil]; omega
  have HBL := hid hbl; have HYL := hid hM
  have KN : Hid (∀ (W : World), Calls Tryz.prog 49 #[.slice none 0 0, .int .i64 2, .int .u64 (n : Int)] W (ByN W 2 B)) := hid fun W => byn_own hbl (by
    have h5 := PutNum_ok none [] 0 2 n W (by omega) (by omega) Lie.nil (by decide)
    rw [List.nil_append, ← hB] at h5
    exact h5)
  have KL : Hid (∀ (A0 : Option Addr) (c0 : Nat) (W : World), Rows2' W W.heap.size A0 gs → Calls Tryz.prog 47 #[.string s, .string t, .slice A0 g c0] W (ByN W M Y)) := hid fun A0 c0 W h => by
    rw [hY, ← hMb]
    exact labelled_e s t A0 gs g c0 W h hg hZ hy ⟨by omega, by omega, by omega, by omega⟩
  have KC : Hid (∀ (A0 : Option Addr) (c0 : Nat) (W : World), Rows2' W W.heap.size A0 [B, Y] → Calls Tryz.prog 48 #[.slice A0 2 c0] W (ByN W L X)) := hid fun A0 c0 W h => concat_n A0 _ 2 c0 W h rfl hfl hL (by omega) (by decide)
  have KE : Hid (∀ (A0 : Option Addr) (c0 : Nat) (A1 : Option Addr) (c1 : Nat) (W : World), Glob W → Sq W W.heap.size A0 c0 (bvs xs) → Sq W W.heap.size A1 c1 (bvs X) → Calls Tryz.prog 50 #[.slice A0 q c0, .slice A1 L c1, .int .i64 (n : Int)] W (By1N W n R 0)) := hid fun A0 c0 A1 c1 W hG h h' => by
    rw [hRR]
    exact exp13 A0 xs q c0 A1 X L c1 n W hG h h' hx hL ⟨by omega, by omega⟩ hn
  clear hS hR hG hRR hX hfl hL hLb hx hy hl h1 h2 hv hB hbl hn hY hM hMb hg hZ
  go_enter Tryz.func27, Tryz.ntmps27
  have S0 : Hid (St w w [] []) := hid (St.start w)
  go_upto_region 0 with fail
  refine wpLA_start ?_
  refine wpLA_take (.slice none 0 0) (yG_val _ (by rfl) (fun w' _ => by (go_simp; try rfl))) ?_
  (try simp only [Act.put, List.getElem_toArray, List.getElem_cons_succ, List.getElem_cons_zero, List.setIfInBounds_toArray, List.set_cons_zero, List.set_cons_succ])
  refine wpLA_end ?_
  intro w1 hb
  have S1 := hid (S0.out.on hb)
  have RW2 := hid (rows_on HR.out hb)
  clear HR
  clear hb S0
  go_upto_region 1 with fail
  refine wpLA_start ?_
  refine wpLA_take (.int .i64 ((n : Int))) (yG_val _ (by rfl) (fun w' _ => by (go_simp; try rfl))) ?_
  (try simp only [Act.put, List.getElem_toArray, List.getElem_cons_succ, List.getElem_cons_zero, List.setIfInBounds_toArray, List.set_cons_zero, List.set_cons_succ])
  refine wpLA_take (.int .u64 ((n : Int))) (yG_val _ (by rfl) (fun w' _ => by (have hz := HNW.out; go_simp; try rfl))) ?_
  (try simp only [Act.put, List.getElem_toArray, List.getElem_cons_succ, List.getElem_cons_zero, List.setIfInBounds_toArray, List.set_cons_zero, List.set_cons_succ])
  refine wpLA_byn B 2 (by rfl) (fun w' => by go_simp) (fun w' hb => KN.out  w' ) ?_
  intro A3 c3 w3 hb hs
  have S3 : Hid (St w w3 [] [(A3, c3, bvs B)]) := hid ((S1.out.on hb).more hs)
  have RW4 := hid (rows_on RW2.out hb)
  clear RW2
  clear hb hs S1
  (try simp only [Act.put, List.getElem_toArray, List.getElem_cons_succ, List.getElem_cons_zero, List.setIfInBounds_toArray, List.set_cons_zero, List.set_cons_succ])
  refine wpLA_take (.string s) (yG_val _ (by rfl) (fun w' _ => by (go_simp; try rfl))) ?_
  (try simp only [Act.put, List.getElem_toArray, List.getElem_cons_succ, List.getElem_cons_zero, List.setIfInBounds_toArray, List.set_cons_zero, List.set_cons_succ])
  refine wpLA_take (.string t) (yG_val _ (by rfl) (fun w' _ => by (go_simp; try rfl))) ?_
  (try simp only [Act.put, List.getElem_toArray, List.getElem_cons_succ, List.getElem_cons_zero, List.setIfInBounds_toArray, List.set_cons_zero, List.set_cons_succ])
  refine wpLA_take (.slice A' g c') (yG_val _ (by rfl) (fun w' _ => by (go_simp; try rfl))) ?_
  (try simp only [Act.put, List.getElem_toArray, List.getElem_cons_succ, List.getElem_cons_zero, List.setIfInBounds_toArray, List.set_cons_zero, List.set_cons_succ])
  refine wpLA_byn Y M (by rfl) (fun w' => by go_simp) (fun w' hb => KL.out A' c' w' (rows_on RW4.out hb)) ?_
  intro A5 c5 w5 hb hs
  have S5 : Hid (St w w5 [] [(A5, c5, bvs Y), (A3, c3, bvs B)]) := hid ((S3.out.on hb).more hs)
  have RW6 := hid (rows_on RW4.out hb)
  clear RW4
  clear hb hs S3
  (try simp only [Act.put, List.getElem_toArray, List.getElem_cons_succ, List.getElem_cons_zero, List.setIfInBounds_toArray, List.set_cons_zero, List.set_cons_succ])
  refine wpLA_rows [(A3, B, c3), (A5, Y, c5)] (n := 2) rfl (by (intro p hp; simp only [List.mem_cons, List.not_mem_nil, or_false] at hp; rcases hp with rfl | rfl <;> first | exact (S5.out.sq.2.1) | exact (S5.out.sq.1))) (by rfl) 22 (fun w' => by (simp only [List.map_cons, List.map_nil, List.length_cons, List.length_nil, HBL.out, HYL.out]; go_simp; try rfl)) ?_
  intro g7 w7 hb hr
  have S7 : Hid (St w w7 [] [(A5, c5, bvs Y), (A3, c3, bvs B)]) := hid (S5.out.on hb)
  have R7 : Hid (Rows2' w7 w7.heap.size (some ⟨g7, 0, none⟩) [B, Y]) := hid hr
  have RW8 := hid (rows_on RW6.out hb)
  clear RW6
  clear hb hr S5
  (try simp only [Act.put, List.getElem_toArray, List.getElem_cons_succ, List.getElem_cons_zero, List.setIfInBounds_toArray, List.set_cons_zero, List.set_cons_succ])
  refine wpLA_byn X L (by rfl) (fun w' => by go_simp) (fun w' hb => KC.out (some ⟨g7, 0, none⟩) 2 w' (rows_on R7.out hb)) ?_
  intro A9 c9 w9 hb hs
  have S9 : Hid (St w w9 [] [(A9, c9, bvs X), (A5, c5, bvs Y), (A3, c3, bvs B)]) := hid ((S7.out.on hb).more hs)
  have RW10 := hid (rows_on RW8.out hb)
  clear RW8
  have RW11 := hid (rows_on R7.out hb)
  clear R7
  clear hb hs S7
  (try simp only [Act.put, List.getElem_toArray, List.getElem_cons_succ, List.getElem_cons_zero, List.setIfInBounds_toArray, List.set_cons_zero, List.set_cons_succ])
  refine wpLA_take (.slice A9 L c9) (yG_val _ (by rfl) (fun w' _ => by (go_simp; try rfl))) ?_
  (try simp only [Act.put, List.getElem_toArray, List.getElem_cons_succ, List.getElem_cons_zero, List.setIfInBounds_toArray, List.set_cons_zero, List.set_cons_succ])
  refine wpLA_end ?_
  intro w12 hb
  have S12 := hid (S9.out.on hb)
  have RW13 := hid (rows_on RW10.out hb)
  clear RW10
  have RW14 := hid (rows_on RW11.out hb)
  clear RW11
  clear hb S9
  go_upto_region 2 with fail
  refine wpLA_start ?_
  refine wpLA_take (.slice A q c) (yG_val _ (by rfl) (fun w' _ => by (go_simp; try rfl))) ?_
  (try simp only [Act.put, List.getElem_toArray, List.getElem_cons_succ, List.getElem_cons_zero, List.setIfInBounds_toArray, List.set_cons_zero, List.set_cons_succ])
  refine wpLA_take (.slice A9 L c9) (yG_val _ (by rfl) (fun w' _ => by (go_simp; try rfl))) ?_
  (try simp only [Act.put, List.getElem_toArray, List.getElem_cons_succ, List.getElem_cons_zero, List.setIfInBounds_toArray, List.set_cons_zero, List.set_cons_succ])
  refine wpLA_take (.int .i64 ((n : Int))) (yG_val _ (by rfl) (fun w' _ => by (go_simp; try rfl))) ?_
  (try simp only [Act.put, List.getElem_toArray, List.getElem_cons_succ, List.getElem_cons_zero, List.setIfInBounds_toArray, List.set_cons_zero, List.set_cons_succ])
  refine wpLA_by1 R n 0 (by rfl) (fun w' => by go_simp) (fun w' hb => KE.out A c A9 c9 w' (HG.out.below (S12.out.on hb).below (Nat.le_refl _)) (HS.out.on6 ((S12.out.on hb).below)) (S12.out.on hb).sq.1) ?_
  intro A15 c15 w15 hb hs
  have S15 : Hid (St w w15 [] [(A15, c15, bvs R), (A9, c9, bvs X), (A5, c5, bvs Y), (A3, c3, bvs B)]) := hid ((S12.out.on hb).more hs)
  have RW16 := hid (rows_on RW13.out hb)
  clear RW13
  have RW17 := hid (rows_on RW14.out hb)
  clear RW14
  clear hb hs S12
  (try simp only [Act.put, List.getElem_toArray, List.getElem_cons_succ, List.getElem_cons_zero, List.setIfInBounds_toArray, List.set_cons_zero, List.set_cons_succ])
  refine wpLA_take (.tuple #[(.slice A15 n c15), (.int .u8 0)]) (yG_val _ (by rfl) (fun w' _ => by (go_simp; try rfl))) ?_
  (try simp only [Act.put, List.getElem_toArray, List.getElem_cons_succ, List.getElem_cons_zero, List.setIfInBounds_toArray, List.set_cons_zero, List.set_cons_succ])
  refine wpLA_take (.slice A15 n c15) (yG_val _ (by rfl) (fun w' _ => by (go_simp; try rfl))) ?_
  (try simp only [Act.put, List.getElem_toArray, List.getElem_cons_succ, List.getElem_cons_zero, List.setIfInBounds_toArray, List.set_cons_zero, List.set_cons_succ])
  refine wpLA_take (.int .u8 0) (yG_val _ (by rfl) (fun w' _ => by (go_simp; try rfl))) ?_
  (try simp only [Act.put, List.getElem_toArray, List.getElem_cons_succ, List.getElem_cons_zero, List.setIfInBounds_toArray, List.set_cons_zero, List.set_cons_succ])
  refine wpLA_take (.slice A15 n c15) (yG_val _ (by rfl) (fun w' _ => by (go_simp; try rfl))) ?_
  (try simp only [Act.put, List.getElem_toArray, List.getElem_cons_succ, List.getElem_cons_zero, List.setIfInBounds_toArray, List.set_cons_zero, List.set_cons_succ])
  refine wpLA_take (.int .u8 0) (yG_val _ (by rfl) (fun w' _ => by (go_simp; try rfl))) ?_
  (try simp only [Act.put, List.getElem_toArray, List.getElem_cons_succ, List.getElem_cons_zero, List.setIfInBounds_toArray, List.set_cons_zero, List.set_cons_succ])
  refine wpLA_end ?_
  intro w18 hb
  have S18 := hid (S15.out.on hb)
  have RW19 := hid (rows_on RW16.out hb)
  clear RW16
  have RW20 := hid (rows_on RW17.out hb)
  clear RW17
  clear hb S15
  go_upto_region 3 with fail
  refine wpLA_start ?_
  refine wpLA_take (.slice A15 n c15) (yG_val _ (by rfl) (fun w' _ => by (go_simp; try rfl))) ?_
  (try simp only [Act.put, List.getElem_toArray, List.getElem_cons_succ, List.getElem_cons_zero, List.setIfInBounds_toArray, List.set_cons_zero, List.set_cons_succ])
  refine wpLA_take (.slice A15 n c15) (yG_val _ (by rfl) (fun w' _ => by (go_simp; try rfl))) ?_
  (try simp only [Act.put, List.getElem_toArray, List.getElem_cons_succ, List.getElem_cons_zero, List.setIfInBounds_toArray, List.set_cons_zero, List.set_cons_succ])
  refine wpLA_end ?_
  intro w21 hb
  have S21 := hid (S18.out.on hb)
  have RW22 := hid (rows_on RW19.out hb)
  clear RW19
  have RW23 := hid (rows_on RW20.out hb)
  clear RW20
  clear hb S18
  go_wp2_with fail
  go_ret
  exact ⟨_, _, rfl, S21.out.sq.1, S21.out.below⟩
set_option maxRecDepth 100000 in
set_option maxHeartbeats 2000000 in
theorem shared_e (A : Option Addr) (xs : List UInt8) (n c : Nat) (A' : Option Addr) (ys : List UInt8) (m c' : Nat) (A'' : Option Addr) (zs : List UInt8) (k c'' : Nat) (w : World) (hG : Glob w) (hS : Sq w w.heap.size A c (bvs xs)) (hS' : Sq w w.heap.size A' c' (bvs ys)) (hS'' : Sq w w.heap.size A'' c'' (bvs zs)) (hx : xs.length = n) (hy : ys.length = m) (hz : zs.length = k) (hl : n ≤ 400 ∧ m ≤ 100 ∧ k ≤ 100) :
    Calls Tryz.prog 34 #[.slice A n c, .slice A' m c', .slice A'' k c''] w (ByN w 32 (sharedL xs ys zs)) := by
  have HS := hid hS; have HS' := hid hS'; have HS'' := hid hS''; have HG := hid hG; have HX := hid hx; have HY := hid hy; have HZ := hid hz
  obtain ⟨R, hR⟩ : ∃ R, R = sharedL xs ys zs := ⟨_, rfl⟩
  rw [← hR]
  unfold sharedL at hR
  obtain ⟨X, hX⟩ : ∃ X, X = exH pairsB [] eaeB xs := ⟨_, rfl⟩
  have lx : X.length = 32 := by rw [hX]; exact exH_length _ _ _ _
  obtain ⟨J, hJ⟩ : ∃ X, X = ys ++ zs := ⟨_, rfl⟩
  have hfl : [ys, zs].flatten = J := by rw [hJ]; simp
  have hf1 : [xs].flatten = xs := by simp
  obtain ⟨L, hL⟩ : ∃ L, J.length = L := ⟨_, rfl⟩
  have hLb : L = m + k := by rw [← hL, hJ, List.length_append]; omega
  rw [← hX, ← hJ] at hR
  have KX : Hid (∀ (A0 : Option Addr) (c0 : Nat) (W : World), Glob W → Rows2' W W.heap.size A0 [xs] → Calls Tryz.prog 26 #[.string ⟨#[75, 69, 77, 0, 32]⟩, .slice none 0 0, .string ⟨#[101, 97, 101, 95, 112, 114, 107]⟩, .slice A0 1 c0] W (ByN W 32 X)) := hid fun A0 c0 W hG h => by rw [hX]; exact extract_e ⟨#[75, 69, 77, 0, 32]⟩ none [] 0 0 ⟨#[101, 97, 101, 95, 112, 114, 107]⟩ A0 _ 1 c0 W hG Sq.nil h rfl rfl hf1 hx ⟨by decide, by omega, by decide, by omega, by decide⟩
  have KE : Hid (∀ (A0 : Option Addr) (c0 : Nat) (A1 : Option Addr) (c1 : Nat) (W : World), Glob W → Sq W W.heap.size A0 c0 (bvs X) → Rows2' W W.heap.size A1 [ys, zs] → Calls Tryz.prog 27 #[.string ⟨#[75, 69, 77, 0, 32]⟩, .slice A0 32 c0, .int .i64 32, .string ⟨#[115, 104, 97, 114, 101, 100, 95, 115, 101, 99, 114, 101, 116]⟩, .slice A1 2 c1] W (ByN W 32 R)) := hid fun A0 c0 A1 c1 W hG h h' => by
    rw [hR]
    exact expand_e ⟨#[75, 69, 77, 0, 32]⟩ A0 X 32 c0 ⟨#[115, 104, 97, 114, 101, 100, 95, 115, 101, 99, 114, 101, 116]⟩ A1 _ 2 c1 32 W hG h h' lx rfl hfl hL ⟨by decide, by omega, by decide, by omega, by decide⟩ (by omega)
  clear hS hS' hS'' hG hR hX lx hJ hfl hf1 hL hLb hx hy hz hl
  go_enter Tryz.func34, Tryz.ntmps34
  have S0 : Hid (St w w [] []) := hid (St.start w)
  go_upto_region 0 with fail
  refine wpLA_start ?_
  refine wpLA_take (.slice none 0 0) (yG_val _ (by rfl) (fun w' _ => by (go_simp; try rfl))) ?_
  (try simp only [Act.put, List.getElem_toArray, List.getElem_cons_succ, List.getElem_cons_zero, List.setIfInBounds_toArray, List.set_cons_zero, List.set_cons_succ])
  refine wpLA_end ?_
  intro w1 hb
  have S1 := hid (S0.out.on hb)
  clear hb S0
  go_upto_region 1 with fail
  refine wpLA_start ?_
  refine wpLA_take (.slice A n c) (yG_val _ (by rfl) (fun w' _ => by (go_simp; try rfl))) ?_
  (try simp only [Act.put, List.getElem_toArray, List.getElem_cons_succ, List.getElem_cons_zero, List.setIfInBounds_toArray, List.set_cons_zero, List.set_cons_succ])
  refine wpLA_rows [(A, xs, c)] (n := 1) rfl (by (intro p hp; simp only [List.mem_cons, List.not_mem_nil, or_false] at hp; subst hp; exact (HS.out.on6 S1.out.below))) (by rfl) 22 (fun w' => by (simp only [List.map_cons, List.map_nil, List.length_cons, List.length_nil, HX.out]; go_simp; try rfl)) ?_
  intro g2 w2 hb hr
  have S2 : Hid (St w w2 [] []) := hid (S1.out.on hb)
  have R2 : Hid (Rows2' w2 w2.heap.size (some ⟨g2, 0, none⟩) [xs]) := hid hr
  clear hb hr S1
  (try simp only [Act.put, List.getElem_toArray, List.getElem_cons_succ, List.getElem_cons_zero, List.setIfInBounds_toArray, List.set_cons_zero, List.set_cons_succ])
  refine wpLA_byn X 32 (by rfl) (fun w' => by go_simp) (fun w' hb => KX.out (some ⟨g2, 0, none⟩) 1 w' (HG.out.below (S2.out.on hb).below (Nat.le_refl _)) (rows_on R2.out hb)) ?_
  intro A3 c3 w3 hb hs
  have S3 : Hid (St w w3 [] [(A3, c3, bvs X)]) := hid ((S2.out.on hb).more hs)
  have RW4 := hid (rows_on R2.out hb)
  clear R2
  clear hb hs S2
  (try simp only [Act.put, List.getElem_toArray, List.getElem_cons_succ, List.getElem_cons_zero, List.setIfInBounds_toArray, List.set_cons_zero, List.set_cons_succ])
  refine wpLA_take (.slice A3 32 c3) (yG_val _ (by rfl) (fun w' _ => by (go_simp; try rfl))) ?_
  (try simp only [Act.put, List.getElem_toArray, List.getElem_cons_succ, List.getElem_cons_zero, List.setIfInBounds_toArray, List.set_cons_zero, List.set_cons_succ])
  refine wpLA_end ?_
  intro w5 hb
  have S5 := hid (S3.out.on hb)
  have RW6 := hid (rows_on RW4.out hb)
  clear RW4
  clear hb S3
  go_upto_region 2 with fail
  refine wpLA_start ?_
  refine wpLA_take (.slice A3 32 c3) (yG_val _ (by rfl) (fun w' _ => by (go_simp; try rfl))) ?_
  (try simp only [Act.put, List.getElem_toArray, List.getElem_cons_succ, List.getElem_cons_zero, List.setIfInBounds_toArray, List.set_cons_zero, List.set_cons_succ])
  refine wpLA_take (.slice A' m c') (yG_val _ (by rfl) (fun w' _ => by (go_simp; try rfl))) ?_
  (try simp only [Act.put, List.getElem_toArray, List.getElem_cons_succ, List.getElem_cons_zero, List.setIfInBounds_toArray, List.set_cons_zero, List.set_cons_succ])
  refine wpLA_take (.slice A'' k c'') (yG_val _ (by rfl) (fun w' _ => by (go_simp; try rfl))) ?_
  (try simp only [Act.put, List.getElem_toArray, List.getElem_cons_succ, List.getElem_cons_zero, List.setIfInBounds_toArray, List.set_cons_zero, List.set_cons_succ])
  refine wpLA_rows [(A', ys, c'), (A'', zs, c'')] (n := 2) rfl (by (intro p hp; simp only [List.mem_cons, List.not_mem_nil, or_false] at hp; rcases hp with rfl | rfl <;> first | exact (HS'.out.on6 S5.out.below) | exact (HS''.out.on6 S5.out.below))) (by rfl) 22 (fun w' => by (simp only [List.map_cons, List.map_nil, List.length_cons, List.length_nil, HY.out, HZ.out]; go_simp; try rfl)) ?_
  intro g7 w7 hb hr
  have S7 : Hid (St w w7 [] [(A3, c3, bvs X)]) := hid (S5.out.on hb)
  have R7 : Hid (Rows2' w7 w7.heap.size (some ⟨g7, 0, none⟩) [ys, zs]) := hid hr
  have RW8 := hid (rows_on RW6.out hb)
  clear RW6
  clear hb hr S5
  (try simp only [Act.put, List.getElem_toArray, List.getElem_cons_succ, List.getElem_cons_zero, List.setIfInBounds_toArray, List.set_cons_zero, List.set_cons_succ])
  refine wpLA_byn R 32 (by rfl) (fun w' => by go_simp) (fun w' hb => KE.out A3 c3 (some ⟨g7, 0, none⟩) 2 w' (HG.out.below (S7.out.on hb).below (Nat.le_refl _)) (S7.out.on hb).sq.1 (rows_on R7.out hb)) ?_
  intro A9 c9 w9 hb hs
  have S9 : Hid (St w w9 [] [(A9, c9, bvs R), (A3, c3, bvs X)]) := hid ((S7.out.on hb).more hs)
  have RW10 := hid (rows_on RW8.out hb)
  clear RW8
  have RW11 := hid (rows_on R7.out hb)
  clear R7
  clear hb hs S7
  (try simp only [Act.put, List.getElem_toArray, List.getElem_cons_succ, List.getElem_cons_zero, List.setIfInBounds_toArray, List.set_cons_zero, List.set_cons_succ])
  refine wpLA_take (.slice A9 32 c9) (yG_val _ (by rfl) (fun w' _ => by (go_simp; try rfl))) ?_
  (try simp only [Act.put, List.getElem_toArray, List.getElem_cons_succ, List.getElem_cons_zero, List.setIfInBounds_toArray, List.set_cons_zero, List.set_cons_succ])
  refine wpLA_end ?_
  intro w12 hb
  have S12 := hid (S9.out.on hb)
  have RW13 := hid (rows_on RW10.out hb)
  clear RW10
  have RW14 := hid (rows_on RW11.out hb)
  clear RW11
  clear hb S9
  go_wp2_with fail
  go_ret
  exact ⟨_, _, rfl, S12.out.sq.1, S12.out.below⟩
set_option maxRecDepth 100000 in
set_option maxHeartbeats 2000000 in
theorem key_e (A : Option Addr) (xs : List UInt8) (n c : Nat) (A' : Option Addr) (ys : List UInt8) (m c' : Nat) (w : World) (hG : Glob w) (hS : Sq w w.heap.size A c (bvs xs)) (hS' : Sq w w.heap.size A' c' (bvs ys)) (hx : xs.length = n) (hy : ys.length = m) (hl : n ≤ 400 ∧ m ≤ 400) :
    Calls Tryz.prog 38 #[.slice A n c, .slice A' m c'] w (By2 w 16 (keyL xs ys) 12 (nonL xs ys)) := by
  have HS := hid hS; have HS' := hid hS'; have HG := hid hG; have HY := hid hy
  obtain ⟨R1, hR1⟩ : ∃ R, R = keyL xs ys := ⟨_, rfl⟩
  obtain ⟨R2, hR2⟩ : ∃ R, R = nonL xs ys := ⟨_, rfl⟩
  rw [← hR1, ← hR2]
  unfold keyL keyS keyC at hR1
  unfold nonL keyS keyC at hR2
  have HV := hid lit_z1
  have hv : z1B.length = 1 := rfl
  rw [show ([0] : List UInt8) = z1B from rfl] at hR1 hR2
  generalize z1B = Z at HV hv hR1 hR2
  obtain ⟨X1, hX1⟩ : ∃ X, X = exH boxesB [] pskB [] := ⟨_, rfl⟩
  obtain ⟨X2, hX2⟩ : ∃ X, X = exH boxesB [] infB ys := ⟨_, rfl⟩
  obtain ⟨X3, hX3⟩ : ∃ X, X = exH boxesB xs secB [] := ⟨_, rfl⟩
  have l1 : X1.length = 32 := by rw [hX1]; exact exH_length _ _ _ _
  have l2 : X2.length = 32 := by rw [hX2]; exact exH_length _ _ _ _
  have l3 : X3.length = 32 := by rw [hX3]; exact exH_length _ _ _ _
  have HZL := hid hv; have L1 := hid l1; have L2 := hid l2
  rw [← hX1, ← hX2, ← hX3] at hR1 hR2
  obtain ⟨J, hJ⟩ : ∃ X, X = Z ++ (X1 ++ X2) := ⟨_, rfl⟩
  have hfl : [Z, X1, X2].flatten = J := by rw [hJ]; simp
  have hf1 : [ys].flatten = ys := by simp
  have lj : J.length = 65 := by rw [hJ, List.length_append, List.length_append]; omega
  rw [← hJ] at hR1 hR2
  have KX1 : Hid (∀ (W : World), Glob W → Calls Tryz.prog 26 #[.string ⟨#[72, 80, 75, 69, 0, 32, 0, 1, 0, 1]⟩, .slice none 0 0, .string ⟨#[112, 115, 107, 95, 105, 100, 95, 104, 97, 115, 104]⟩, .slice none 0 0] W (ByN W 32 X1)) := hid fun W hG => by rw [hX1]; exact extract_e ⟨#[72, 80, 75, 69, 0, 32, 0, 1, 0, 1]⟩ none [] 0 0 ⟨#[112, 115, 107, 95, 105, 100, 95, 104, 97, 115, 104]⟩ none [] 0 0 W hG Sq.nil rows_nil rfl rfl rfl rfl ⟨by decide, by omega, by decide, by decide, by decide⟩
  have KX2 : Hid (∀ (A0 : Option Addr) (c0 : Nat) (W : World), Glob W → Rows2' W W.heap.size A0 [ys] → Calls Tryz.prog 26 #[.string ⟨#[72, 80, 75, 69, 0, 32, 0, 1, 0, 1]⟩, .slice none 0 0, .string ⟨#[105, 110, 102, 111, 95, 104, 97, 115, 104]⟩, .slice A0 1 c0] W (ByN W 32 X2)) := hid fun A0 c0 W hG h => by rw [hX2]; exact extract_e ⟨#[72, 80, 75, 69, 0, 32, 0, 1, 0, 1]⟩ none [] 0 0 ⟨#[105, 110, 102, 111, 95, 104, 97, 115, 104]⟩ A0 _ 1 c0 W hG Sq.nil h rfl rfl hf1 hy ⟨by decide, by omega, by decide, by omega, by decide⟩
  have KX3 : Hid (∀ (A0 : Option Addr) (c0 : Nat) (W : World), Glob W → Sq W W.heap.size A0 c0 (bvs xs) → Calls Tryz.prog 26 #[.string ⟨#[72, 80, 75, 69, 0, 32, 0, 1, 0, 1]⟩, .slice A0 n c0, .string ⟨#[115, 101, 99, 114, 101, 116]⟩, .slice none 0 0] W (ByN W 32 X3)) := hid fun A0 c0 W hG h => by rw [hX3]; exact extract_e ⟨#[72, 80, 75, 69, 0, 32, 0, 1, 0, 1]⟩ A0 xs n c0 ⟨#[115, 101, 99, 114, 101, 116]⟩ none [] 0 0 W hG h rows_nil hx rfl rfl rfl ⟨by decide, by omega, by decide, by decide, by decide⟩
  have KE1 : Hid (∀ (A0 : Option Addr) (c0 : Nat) (A1 : Option Addr) (c1 : Nat) (W : World), Glob W → Sq W W.heap.size A0 c0 (bvs X3) → Rows2' W W.heap.size A1 [Z, X1, X2] → Calls Tryz.prog 27 #[.string ⟨#[72, 80, 75, 69, 0, 32, 0, 1, 0, 1]⟩, .slice A0 32 c0, .int .i64 16, .string ⟨#[107, 101, 121]⟩, .slice A1 3 c1] W (ByN W 16 R1)) := hid fun A0 c0 A1 c1 W hG h h' => by
    rw [hR1]
    exact expand_e ⟨#[72, 80, 75, 69, 0, 32, 0, 1, 0, 1]⟩ A0 X3 32 c0 ⟨#[107, 101, 121]⟩ A1 _ 3 c1 16 W hG h h' l3 rfl hfl lj ⟨by decide, by omega, by decide, by omega, by decide⟩ (by omega)
  have KE2 : Hid (∀ (A0 : Option Addr) (c0 : Nat) (A1 : Option Addr) (c1 : Nat) (W : World), Glob W → Sq W W.heap.size A0 c0 (bvs X3) → Rows2' W W.heap.size A1 [Z, X1, X2] → Calls Tryz.prog 27 #[.string ⟨#[72, 80, 75, 69, 0, 32, 0, 1, 0, 1]⟩, .slice A0 32 c0, .int .i64 12, .string ⟨#[98, 97, 115, 101, 95, 110, 111, 110, 99, 101]⟩, .slice A1 3 c1] W (ByN W 12 R2)) := hid fun A0 c0 A1 c1 W hG h h' => by
    rw [hR2]
    exact expand_e ⟨#[72, 80, 75, 69, 0, 32, 0, 1, 0, 1]⟩ A0 X3 32 c0 ⟨#[98, 97, 115, 101, 95, 110, 111, 110, 99, 101]⟩ A1 _ 3 c1 12 W hG h h' l3 rfl hfl lj ⟨by decide, by omega, by decide, by omega, by decide⟩ (by omega)
  clear hS hS' hG hR1 hR2 hv hX1 hX2 hX3 l1 l2 l3 hJ hfl hf1 lj hx hy hl
  go_enter Tryz.func38, Tryz.ntmps38
  have S0 : Hid (St w w [] []) := hid (St.start w)
  go_upto_region 0 with fail
  refine wpLA_start ?_
  refine wpLA_take (.slice none 0 0) (yG_val _ (by rfl) (fun w' _ => by (go_simp; try rfl))) ?_
  (try simp only [Act.put, List.getElem_toArray, List.getElem_cons_succ, List.getElem_cons_zero, List.setIfInBounds_toArray, List.set_cons_zero, List.set_cons_succ])
  refine wpLA_take (.slice none 0 0) (yG_val _ (by rfl) (fun w' _ => by (go_simp; try rfl))) ?_
  (try simp only [Act.put, List.getElem_toArray, List.getElem_cons_succ, List.getElem_cons_zero, List.setIfInBounds_toArray, List.set_cons_zero, List.set_cons_succ])
  refine wpLA_end ?_
  intro w1 hb
  have S1 := hid (S0.out.on hb)
  clear hb S0
  go_upto_region 1 with fail
  refine wpLA_start ?_
  refine wpLA_slice rfl _ _ 1 _ rfl Tryz.underlying22 [(0, .int .u8 0)] rfl (bvs Z) HV.out.1 HV.out.2 (by decide) ?_
  intro p2 w2 hb hs
  have S2 : Hid (St w w2 [] [((some ⟨p2, 0, none⟩), 1, bvs Z)]) := hid ((S1.out.on hb).more hs)
  clear hb hs S1
  (try simp only [Act.put, List.getElem_toArray, List.getElem_cons_succ, List.getElem_cons_zero, List.setIfInBounds_toArray, List.set_cons_zero, List.set_cons_succ])
  refine wpLA_byn X1 32 (by rfl) (fun w' => by go_simp) (fun w' hb => KX1.out  w' (HG.out.below (S2.out.on hb).below (Nat.le_refl _)) ) ?_
  intro A3 c3 w3 hb hs
  have S3 : Hid (St w w3 [] [(A3, c3, bvs X1), ((some ⟨p2, 0, none⟩), 1, bvs Z)]) := hid ((S2.out.on hb).more hs)
  clear hb hs S2
  (try simp only [Act.put, List.getElem_toArray, List.getElem_cons_succ, List.getElem_cons_zero, List.setIfInBounds_toArray, List.set_cons_zero, List.set_cons_succ])
  refine wpLA_take (.slice A' m c') (yG_val _ (by rfl) (fun w' _ => by (go_simp; try rfl))) ?_
  (try simp only [Act.put, List.getElem_toArray, List.getElem_cons_succ, List.getElem_cons_zero, List.setIfInBounds_toArray, List.set_cons_zero, List.set_cons_succ])
  refine wpLA_rows [(A', ys, c')] (n := 1) rfl (by (intro p hp; simp only [List.mem_cons, List.not_mem_nil, or_false] at hp; subst hp; exact (HS'.out.on6 S3.out.below))) (by rfl) 22 (fun w' => by (simp only [List.map_cons, List.map_nil, List.length_cons, List.length_nil, HY.out]; go_simp; try rfl)) ?_
  intro g4 w4 hb hr
  have S4 : Hid (St w w4 [] [(A3, c3, bvs X1), ((some ⟨p2, 0, none⟩), 1, bvs Z)]) := hid (S3.out.on hb)
  have R4 : Hid (Rows2' w4 w4.heap.size (some ⟨g4, 0, none⟩) [ys]) := hid hr
  clear hb hr S3
  (try simp only [Act.put, List.getElem_toArray, List.getElem_cons_succ, List.getElem_cons_zero, List.setIfInBounds_toArray, List.set_cons_zero, List.set_cons_succ])
  refine wpLA_byn X2 32 (by rfl) (fun w' => by go_simp) (fun w' hb => KX2.out (some ⟨g4, 0, none⟩) 1 w' (HG.out.below (S4.out.on hb).below (Nat.le_refl _)) (rows_on R4.out hb)) ?_
  intro A5 c5 w5 hb hs
  have S5 : Hid (St w w5 [] [(A5, c5, bvs X2), (A3, c3, bvs X1), ((some ⟨p2, 0, none⟩), 1, bvs Z)]) := hid ((S4.out.on hb).more hs)
  have RW6 := hid (rows_on R4.out hb)
  clear R4
  clear hb hs S4
  (try simp only [Act.put, List.getElem_toArray, List.getElem_cons_succ, List.getElem_cons_zero, List.setIfInBounds_toArray, List.set_cons_zero, List.set_cons_succ])
  refine wpLA_rows [((some ⟨p2, 0, none⟩), Z, 1), (A3, X1, c3), (A5, X2, c5)] (n := 3) rfl (by (intro p hp; simp only [List.mem_cons, List.not_mem_nil, or_false] at hp; rcases hp with rfl | rfl | rfl <;> first | exact (S5.out.sq.2.2.1) | exact (S5.out.sq.2.1) | exact (S5.out.sq.1))) (by rfl) 22 (fun w' => by (simp only [List.map_cons, List.map_nil, List.length_cons, List.length_nil, HZL.out, L1.out, L2.out]; go_simp; try rfl)) ?_
  intro g7 w7 hb hr
  have S7 : Hid (St w w7 [] [(A5, c5, bvs X2), (A3, c3, bvs X1), ((some ⟨p2, 0, none⟩), 1, bvs Z)]) := hid (S5.out.on hb)
  have R7 : Hid (Rows2' w7 w7.heap.size (some ⟨g7, 0, none⟩) [Z, X1, X2]) := hid hr
  have RW8 := hid (rows_on RW6.out hb)
  clear RW6
  clear hb hr S5
  (try simp only [Act.put, List.getElem_toArray, List.getElem_cons_succ, List.getElem_cons_zero, List.setIfInBounds_toArray, List.set_cons_zero, List.set_cons_succ])
  refine wpLA_take (.slice (some ⟨g7, 0, none⟩) 3 3) (yG_val _ (by rfl) (fun w' _ => by (go_simp; try rfl))) ?_
  (try simp only [Act.put, List.getElem_toArray, List.getElem_cons_succ, List.getElem_cons_zero, List.setIfInBounds_toArray, List.set_cons_zero, List.set_cons_succ])
  refine wpLA_end ?_
  intro w9 hb
  have S9 := hid (S7.out.on hb)
  have RW10 := hid (rows_on RW8.out hb)
  clear RW8
  have RW11 := hid (rows_on R7.out hb)
  clear R7
  clear hb S7
  go_upto_region 2 with fail
  refine wpLA_start ?_
  refine wpLA_take (.slice A n c) (yG_val _ (by rfl) (fun w' _ => by (go_simp; try rfl))) ?_
  (try simp only [Act.put, List.getElem_toArray, List.getElem_cons_succ, List.getElem_cons_zero, List.setIfInBounds_toArray, List.set_cons_zero, List.set_cons_succ])
  refine wpLA_byn X3 32 (by rfl) (fun w' => by go_simp) (fun w' hb => KX3.out A c w' (HG.out.below (S9.out.on hb).below (Nat.le_refl _)) (HS.out.on6 ((S9.out.on hb).below))) ?_
  intro A12 c12 w12 hb hs
  have S12 : Hid (St w w12 [] [(A12, c12, bvs X3), (A5, c5, bvs X2), (A3, c3, bvs X1), ((some ⟨p2, 0, none⟩), 1, bvs Z)]) := hid ((S9.out.on hb).more hs)
  have RW13 := hid (rows_on RW10.out hb)
  clear RW10
  have RW14 := hid (rows_on RW11.out hb)
  clear RW11
  clear hb hs S9
  (try simp only [Act.put, List.getElem_toArray, List.getElem_cons_succ, List.getElem_cons_zero, List.setIfInBounds_toArray, List.set_cons_zero, List.set_cons_succ])
  refine wpLA_take (.slice A12 32 c12) (yG_val _ (by rfl) (fun w' _ => by (go_simp; try rfl))) ?_
  (try simp only [Act.put, List.getElem_toArray, List.getElem_cons_succ, List.getElem_cons_zero, List.setIfInBounds_toArray, List.set_cons_zero, List.set_cons_succ])
  refine wpLA_end ?_
  intro w15 hb
  have S15 := hid (S12.out.on hb)
  have RW16 := hid (rows_on RW13.out hb)
  clear RW13
  have RW17 := hid (rows_on RW14.out hb)
  clear RW14
  clear hb S12
  go_upto_region 3 with fail
  refine wpLA_start ?_
  refine wpLA_take (.slice A12 32 c12) (yG_val _ (by rfl) (fun w' _ => by (go_simp; try rfl))) ?_
  (try simp only [Act.put, List.getElem_toArray, List.getElem_cons_succ, List.getElem_cons_zero, List.setIfInBounds_toArray, List.set_cons_zero, List.set_cons_succ])
  refine wpLA_take (.slice (some ⟨g7, 0, none⟩) 3 3) (yG_val _ (by rfl) (fun w' _ => by (go_simp; try rfl))) ?_
  (try simp only [Act.put, List.getElem_toArray, List.getElem_cons_succ, List.getElem_cons_zero, List.setIfInBounds_toArray, List.set_cons_zero, List.set_cons_succ])
  refine wpLA_byn R1 16 (by rfl) (fun w' => by go_simp) (fun w' hb => KE1.out A12 c12 (some ⟨g7, 0, none⟩) 3 w' (HG.out.below (S15.out.on hb).below (Nat.le_refl _)) (S15.out.on hb).sq.1 (rows_on RW17.out hb)) ?_
  intro A18 c18 w18 hb hs
  have S18 : Hid (St w w18 [] [(A18, c18, bvs R1), (A12, c12, bvs X3), (A5, c5, bvs X2), (A3, c3, bvs X1), ((some ⟨p2, 0, none⟩), 1, bvs Z)]) := hid ((S15.out.on hb).more hs)
  have RW19 := hid (rows_on RW16.out hb)
  clear RW16
  have RW20 := hid (rows_on RW17.out hb)
  clear RW17
  clear hb hs S15
  (try simp only [Act.put, List.getElem_toArray, List.getElem_cons_succ, List.getElem_cons_zero, List.setIfInBounds_toArray, List.set_cons_zero, List.set_cons_succ])
  refine wpLA_take (.slice A12 32 c12) (yG_val _ (by rfl) (fun w' _ => by (go_simp; try rfl))) ?_
  (try simp only [Act.put, List.getElem_toArray, List.getElem_cons_succ, List.getElem_cons_zero, List.setIfInBounds_toArray, List.set_cons_zero, List.set_cons_succ])
  refine wpLA_take (.slice (some ⟨g7, 0, none⟩) 3 3) (yG_val _ (by rfl) (fun w' _ => by (go_simp; try rfl))) ?_
  (try simp only [Act.put, List.getElem_toArray, List.getElem_cons_succ, List.getElem_cons_zero, List.setIfInBounds_toArray, List.set_cons_zero, List.set_cons_succ])
  refine wpLA_byn R2 12 (by rfl) (fun w' => by go_simp) (fun w' hb => KE2.out A12 c12 (some ⟨g7, 0, none⟩) 3 w' (HG.out.below (S18.out.on hb).below (Nat.le_refl _)) (S18.out.on hb).sq.2.1 (rows_on RW20.out hb)) ?_
  intro A21 c21 w21 hb hs
  have S21 : Hid (St w w21 [] [(A21, c21, bvs R2), (A18, c18, bvs R1), (A12, c12, bvs X3), (A5, c5, bvs X2), (A3, c3, bvs X1), ((some ⟨p2, 0, none⟩), 1, bvs Z)]) := hid ((S18.out.on hb).more hs)
  have RW22 := hid (rows_on RW19.out hb)
  clear RW19
  have RW23 := hid (rows_on RW20.out hb)
  clear RW20
  clear hb hs S18
  (try simp only [Act.put, List.getElem_toArray, List.getElem_cons_succ, List.getElem_cons_zero, List.setIfInBounds_toArray, List.set_cons_zero, List.set_cons_succ])
  refine wpLA_take (.slice A18 16 c18) (yG_val _ (by rfl) (fun w' _ => by (go_simp; try rfl))) ?_
  (try simp only [Act.put, List.getElem_toArray, List.getElem_cons_succ, List.getElem_cons_zero, List.setIfInBounds_toArray, List.set_cons_zero, List.set_cons_succ])
  refine wpLA_take (.slice A21 12 c21) (yG_val _ (by rfl) (fun w' _ => by (go_simp; try rfl))) ?_
  (try simp only [Act.put, List.getElem_toArray, List.getElem_cons_succ, List.getElem_cons_zero, List.setIfInBounds_toArray, List.set_cons_zero, List.set_cons_succ])
  refine wpLA_end ?_
  intro w24 hb
  have S24 := hid (S21.out.on hb)
  have RW25 := hid (rows_on RW22.out hb)
  clear RW22
  have RW26 := hid (rows_on RW23.out hb)
  clear RW23
  clear hb S21
  go_wp2_with fail
  go_ret2
  exact ⟨_, _, _, _, rfl, S24.out.sq.2.1, S24.out.sq.1, S24.out.below⟩
set_option maxRecDepth 100000 in
set_option maxHeartbeats 2000000 in
theorem infoOf_e (s : ByteArray) (A : Option Addr) (xs : List UInt8) (n c : Nat) (w : World) (hS : Sq w w.heap.size A c (bvs xs)) (hx : xs.length = n) (hl : n ≤ 400 ∧ s.size ≤ 400) :
    Calls Tryz.prog 45 #[.string s, .slice A n c] w (ByN w (infoL (sby s) xs).length (infoL (sby s) xs)) := by
  have HS := hid hS
  have KM : Hid (∀ W : World, (Op.stringOp .add ⟨#[77, 76, 83, 32, 49, 46, 48, 32]⟩ s).run Tryz.prog W = .ok (.string (mlsS s)) W) := hid fun W => run_mls W s (by omega)
  have hT := mlsS_sby s
  have hz := mlsS_size s
  generalize mlsS s = T at KM hT hz
  have HSS : Hid (T.size ≤ 1000000) := hid (by omega)
  have hTl := sby_length T
  unfold infoL
  rw [← hT]
  obtain ⟨V1, hV1⟩ : ∃ l, l = vecBytes (sby T) := ⟨_, rfl⟩
  obtain ⟨R, hR⟩ : ∃ l, l = V1 ++ vecBytes xs := ⟨_, rfl⟩
  rw [← hV1, ← hR]
  obtain ⟨L1, hL1⟩ : ∃ L, V1.length = L := ⟨_, rfl⟩
  obtain ⟨L, hL⟩ : ∃ L, R.length = L := ⟨_, rfl⟩
  have hLb : L1 ≤ 500 := by have := vecBytes_le (sby T); rw [← hV1, hL1] at this; omega
  rw [hL]
  have KP1 : Hid (∀ (A0 : Option Addr) (c0 : Nat) (W : World), Sq W W.heap.size A0 c0 (bvs (sby T)) → Calls Tryz.prog 67 #[.slice none 0 0, .slice A0 T.size c0] W (ByN W L1 V1)) := hid fun A0 c0 W h => byn_own hL1 (by
    have h5 := PutVec_n none [] 0 0 A0 (sby T) T.size c0 W rfl hTl (by omega) Lie.nil h.lie (by decide)
    rw [List.nil_append, ← hV1] at h5; exact h5)
  have KP2 : Hid (∀ (A0 : Option Addr) (c0 : Nat) (A1 : Option Addr) (c1 : Nat) (W : World), Sq W W.heap.size A0 c0 (bvs V1) → Sq W W.heap.size A1 c1 (bvs xs) → Calls Tryz.prog 67 #[.slice A0 L1 c0, .slice A1 n c1] W (ByN W L R)) := hid fun A0 c0 A1 c1 W h h' => byn_own hL (by
    have h5 := PutVec_n A0 V1 L1 c0 A1 xs n c1 W hL1 hx (by omega) h.lie h'.lie (by omega)
    rw [← hR] at h5; exact h5)
  clear hS hT hz hTl hV1 hR hL1 hL hLb hx hl
  go_enter Tryz.func45, Tryz.ntmps45
  have S0 : Hid (St w w [] []) := hid (St.start w)
  go_upto_region 0 with fail
  refine wpLA_start ?_
  refine wpLA_take (.slice none 0 0) (yG_val _ (by rfl) (fun w' _ => by (go_simp; try rfl))) ?_
  (try simp only [Act.put, List.getElem_toArray, List.getElem_cons_succ, List.getElem_cons_zero, List.setIfInBounds_toArray, List.set_cons_zero, List.set_cons_succ])
  refine wpLA_end ?_
  intro w1 hb
  have S1 := hid (S0.out.on hb)
  clear hb S0
  go_upto_region 1 with fail
  refine wpLA_start ?_
  refine wpLA_take (.string s) (yG_val _ (by rfl) (fun w' _ => by (go_simp; try rfl))) ?_
  (try simp only [Act.put, List.getElem_toArray, List.getElem_cons_succ, List.getElem_cons_zero, List.setIfInBounds_toArray, List.set_cons_zero, List.set_cons_succ])
  refine wpLA_take (.string T) (yG_val _ (by rfl) (fun w' _ => by (have hm := KM.out w'; go_simp; try rfl))) ?_
  (try simp only [Act.put, List.getElem_toArray, List.getElem_cons_succ, List.getElem_cons_zero, List.setIfInBounds_toArray, List.set_cons_zero, List.set_cons_succ])
  refine wpLA_str T HSS.out (by rfl) (fun w' => by (have hm := run_bytes w' T; go_simp; try rfl)) ?_
  intro p2 c2 w2 hb hs
  have S2 : Hid (St w w2 [] [((some ⟨p2, 0, none⟩), c2, bvs (sby T))]) := hid ((S1.out.on hb).more hs)
  clear hb hs S1
  (try simp only [Act.put, List.getElem_toArray, List.getElem_cons_succ, List.getElem_cons_zero, List.setIfInBounds_toArray, List.set_cons_zero, List.set_cons_succ])
  refine wpLA_byn V1 L1 (by rfl) (fun w' => by go_simp) (fun w' hb => KP1.out (some ⟨p2, 0, none⟩) c2 w' (S2.out.on hb).sq.1) ?_
  intro A3 c3 w3 hb hs
  have S3 : Hid (St w w3 [] [(A3, c3, bvs V1), ((some ⟨p2, 0, none⟩), c2, bvs (sby T))]) := hid ((S2.out.on hb).more hs)
  clear hb hs S2
  (try simp only [Act.put, List.getElem_toArray, List.getElem_cons_succ, List.getElem_cons_zero, List.setIfInBounds_toArray, List.set_cons_zero, List.set_cons_succ])
  refine wpLA_take (.slice A n c) (yG_val _ (by rfl) (fun w' _ => by (go_simp; try rfl))) ?_
  (try simp only [Act.put, List.getElem_toArray, List.getElem_cons_succ, List.getElem_cons_zero, List.setIfInBounds_toArray, List.set_cons_zero, List.set_cons_succ])
  refine wpLA_byn R L (by rfl) (fun w' => by go_simp) (fun w' hb => KP2.out A3 c3 A c w' (S3.out.on hb).sq.1 (HS.out.on6 ((S3.out.on hb).below))) ?_
  intro A4 c4 w4 hb hs
  have S4 : Hid (St w w4 [] [(A4, c4, bvs R), (A3, c3, bvs V1), ((some ⟨p2, 0, none⟩), c2, bvs (sby T))]) := hid ((S3.out.on hb).more hs)
  clear hb hs S3
  (try simp only [Act.put, List.getElem_toArray, List.getElem_cons_succ, List.getElem_cons_zero, List.setIfInBounds_toArray, List.set_cons_zero, List.set_cons_succ])
  refine wpLA_take (.slice A4 L c4) (yG_val _ (by rfl) (fun w' _ => by (go_simp; try rfl))) ?_
  (try simp only [Act.put, List.getElem_toArray, List.getElem_cons_succ, List.getElem_cons_zero, List.setIfInBounds_toArray, List.set_cons_zero, List.set_cons_succ])
  refine wpLA_end ?_
  intro w5 hb
  have S5 := hid (S4.out.on hb)
  clear hb S4
  go_wp2_with fail
  go_ret
  exact ⟨_, _, rfl, S5.out.sq.1, S5.out.below⟩
set_option maxRecDepth 100000 in
set_option maxHeartbeats 2000000 in
theorem pair_ok : PairOk := fun A xs n c w hG hS hx hn => by
  have HS := hid hS; have HG := hid hG; have HX := hid hx
  obtain ⟨X, hX⟩ : ∃ l, l = exH pairsB [] dkpB xs := ⟨_, rfl⟩
  have lx : X.length = 32 := by rw [hX]; exact exH_length _ _ _ _
  have hf1 : [xs].flatten = xs := by simp
  obtain ⟨PR, hPR⟩ : ∃ l, l = privL xs := ⟨_, rfl⟩
  obtain ⟨PU, hPU⟩ : ∃ l, l = pubL xs := ⟨_, rfl⟩
  have lr : PR.length = 32 := by rw [hPR]; exact privL_length _
  have KX : Hid (∀ (A0 : Option Addr) (c0 : Nat) (W : World), Glob W → Rows2' W W.heap.size A0 [xs] → Calls Tryz.prog 26 #[.string ⟨#[75, 69, 77, 0, 32]⟩, .slice none 0 0, .string ⟨#[100, 107, 112, 95, 112, 114, 107]⟩, .slice A0 1 c0] W (ByN W 32 X)) := hid fun A0 c0 W hG h => by rw [hX]; exact extract_e ⟨#[75, 69, 77, 0, 32]⟩ none [] 0 0 ⟨#[100, 107, 112, 95, 112, 114, 107]⟩ A0 _ 1 c0 W hG Sq.nil h rfl rfl hf1 hx ⟨by decide, by omega, by decide, by omega, by decide⟩
  have KE : Hid (∀ (A0 : Option Addr) (c0 : Nat) (W : World), Glob W → Sq W W.heap.size A0 c0 (bvs X) → Calls Tryz.prog 27 #[.string ⟨#[75, 69, 77, 0, 32]⟩, .slice A0 32 c0, .int .i64 32, .string ⟨#[115, 107]⟩, .slice none 0 0] W (ByN W 32 PR)) := hid fun A0 c0 W hG h => by rw [hPR, show privL xs = epL pairsB X skB [] 32 by rw [hX]; rfl]; exact expand_e ⟨#[75, 69, 77, 0, 32]⟩ A0 X 32 c0 ⟨#[115, 107]⟩ none [] 0 0 32 W hG h rows_nil lx rfl rfl rfl ⟨by decide, by omega, by decide, by decide, by decide⟩ (by omega)
  have KB : Hid (∀ (A0 : Option Addr) (c0 : Nat) (W : World), Sq W W.heap.size A0 c0 (bvs PR) → Calls Tryz.prog 12 #[.slice A0 32 c0] W (By1N W 32 PU 0)) := hid fun A0 c0 W h => by rw [show PU = dhV PR (b32 9) by rw [hPU, hPR]; rfl]; exact base13 A0 PR c0 W h lr
  rw [← hPR, ← hPU]
  clear hS hG hX lx hPR hPU lr hx hn hf1
  go_enter Tryz.func10, Tryz.ntmps10
  have S0 : Hid (St w w [] []) := hid (St.start w)
  go_upto_region 0 with fail
  refine wpLA_start ?_
  refine wpLA_take (.slice none 0 0) (yG_val _ (by rfl) (fun w' _ => by (go_simp; try rfl))) ?_
  (try simp only [Act.put, List.getElem_toArray, List.getElem_cons_succ, List.getElem_cons_zero, List.setIfInBounds_toArray, List.set_cons_zero, List.set_cons_succ])
  refine wpLA_take (.slice none 0 0) (yG_val _ (by rfl) (fun w' _ => by (go_simp; try rfl))) ?_
  (try simp only [Act.put, List.getElem_toArray, List.getElem_cons_succ, List.getElem_cons_zero, List.setIfInBounds_toArray, List.set_cons_zero, List.set_cons_succ])
  refine wpLA_end ?_
  intro w1 hb
  have S1 := hid (S0.out.on hb)
  clear hb S0
  go_upto_region 1 with fail
  refine wpLA_start ?_
  refine wpLA_take (.slice A n c) (yG_val _ (by rfl) (fun w' _ => by (go_simp; try rfl))) ?_
  (try simp only [Act.put, List.getElem_toArray, List.getElem_cons_succ, List.getElem_cons_zero, List.setIfInBounds_toArray, List.set_cons_zero, List.set_cons_succ])
  refine wpLA_rows [(A, xs, c)] (n := 1) rfl (by (intro p hp; simp only [List.mem_cons, List.not_mem_nil, or_false] at hp; subst hp; exact (HS.out.on6 S1.out.below))) (by rfl) 22 (fun w' => by (simp only [List.map_cons, List.map_nil, List.length_cons, List.length_nil, HX.out]; go_simp; try rfl)) ?_
  intro g2 w2 hb hr
  have S2 : Hid (St w w2 [] []) := hid (S1.out.on hb)
  have R2 : Hid (Rows2' w2 w2.heap.size (some ⟨g2, 0, none⟩) [xs]) := hid hr
  clear hb hr S1
  (try simp only [Act.put, List.getElem_toArray, List.getElem_cons_succ, List.getElem_cons_zero, List.setIfInBounds_toArray, List.set_cons_zero, List.set_cons_succ])
  refine wpLA_byn X 32 (by rfl) (fun w' => by go_simp) (fun w' hb => KX.out (some ⟨g2, 0, none⟩) 1 w' (HG.out.below (S2.out.on hb).below (Nat.le_refl _)) (rows_on R2.out hb)) ?_
  intro A3 c3 w3 hb hs
  have S3 : Hid (St w w3 [] [(A3, c3, bvs X)]) := hid ((S2.out.on hb).more hs)
  have RW4 := hid (rows_on R2.out hb)
  clear R2
  clear hb hs S2
  (try simp only [Act.put, List.getElem_toArray, List.getElem_cons_succ, List.getElem_cons_zero, List.setIfInBounds_toArray, List.set_cons_zero, List.set_cons_succ])
  refine wpLA_take (.slice A3 32 c3) (yG_val _ (by rfl) (fun w' _ => by (go_simp; try rfl))) ?_
  (try simp only [Act.put, List.getElem_toArray, List.getElem_cons_succ, List.getElem_cons_zero, List.setIfInBounds_toArray, List.set_cons_zero, List.set_cons_succ])
  refine wpLA_end ?_
  intro w5 hb
  have S5 := hid (S3.out.on hb)
  have RW6 := hid (rows_on RW4.out hb)
  clear RW4
  clear hb S3
  go_upto_region 2 with fail
  refine wpLA_start ?_
  refine wpLA_take (.slice A3 32 c3) (yG_val _ (by rfl) (fun w' _ => by (go_simp; try rfl))) ?_
  (try simp only [Act.put, List.getElem_toArray, List.getElem_cons_succ, List.getElem_cons_zero, List.setIfInBounds_toArray, List.set_cons_zero, List.set_cons_succ])
  refine wpLA_byn PR 32 (by rfl) (fun w' => by go_simp) (fun w' hb => KE.out A3 c3 w' (HG.out.below (S5.out.on hb).below (Nat.le_refl _)) (S5.out.on hb).sq.1) ?_
  intro A7 c7 w7 hb hs
  have S7 : Hid (St w w7 [] [(A7, c7, bvs PR), (A3, c3, bvs X)]) := hid ((S5.out.on hb).more hs)
  have RW8 := hid (rows_on RW6.out hb)
  clear RW6
  clear hb hs S5
  (try simp only [Act.put, List.getElem_toArray, List.getElem_cons_succ, List.getElem_cons_zero, List.setIfInBounds_toArray, List.set_cons_zero, List.set_cons_succ])
  refine wpLA_take (.slice A7 32 c7) (yG_val _ (by rfl) (fun w' _ => by (go_simp; try rfl))) ?_
  (try simp only [Act.put, List.getElem_toArray, List.getElem_cons_succ, List.getElem_cons_zero, List.setIfInBounds_toArray, List.set_cons_zero, List.set_cons_succ])
  refine wpLA_end ?_
  intro w9 hb
  have S9 := hid (S7.out.on hb)
  have RW10 := hid (rows_on RW8.out hb)
  clear RW8
  clear hb S7
  go_upto_region 3 with fail
  refine wpLA_start ?_
  refine wpLA_take (.slice A7 32 c7) (yG_val _ (by rfl) (fun w' _ => by (go_simp; try rfl))) ?_
  (try simp only [Act.put, List.getElem_toArray, List.getElem_cons_succ, List.getElem_cons_zero, List.setIfInBounds_toArray, List.set_cons_zero, List.set_cons_succ])
  refine wpLA_by1 PU 32 0 (by rfl) (fun w' => by go_simp) (fun w' hb => KB.out A7 c7 w' (S9.out.on hb).sq.1) ?_
  intro A11 c11 w11 hb hs
  have S11 : Hid (St w w11 [] [(A11, c11, bvs PU), (A7, c7, bvs PR), (A3, c3, bvs X)]) := hid ((S9.out.on hb).more hs)
  have RW12 := hid (rows_on RW10.out hb)
  clear RW10
  clear hb hs S9
  (try simp only [Act.put, List.getElem_toArray, List.getElem_cons_succ, List.getElem_cons_zero, List.setIfInBounds_toArray, List.set_cons_zero, List.set_cons_succ])
  refine wpLA_take (.tuple #[(.slice A11 32 c11), (.int .u8 0)]) (yG_val _ (by rfl) (fun w' _ => by (go_simp; try rfl))) ?_
  (try simp only [Act.put, List.getElem_toArray, List.getElem_cons_succ, List.getElem_cons_zero, List.setIfInBounds_toArray, List.set_cons_zero, List.set_cons_succ])
  refine wpLA_take (.slice A11 32 c11) (yG_val _ (by rfl) (fun w' _ => by (go_simp; try rfl))) ?_
  (try simp only [Act.put, List.getElem_toArray, List.getElem_cons_succ, List.getElem_cons_zero, List.setIfInBounds_toArray, List.set_cons_zero, List.set_cons_succ])
  refine wpLA_take (.int .u8 0) (yG_val _ (by rfl) (fun w' _ => by (go_simp; try rfl))) ?_
  (try simp only [Act.put, List.getElem_toArray, List.getElem_cons_succ, List.getElem_cons_zero, List.setIfInBounds_toArray, List.set_cons_zero, List.set_cons_succ])
  refine wpLA_take (.slice A11 32 c11) (yG_val _ (by rfl) (fun w' _ => by (go_simp; try rfl))) ?_
  (try simp only [Act.put, List.getElem_toArray, List.getElem_cons_succ, List.getElem_cons_zero, List.setIfInBounds_toArray, List.set_cons_zero, List.set_cons_succ])
  refine wpLA_end ?_
  intro w13 hb
  have S13 := hid (S11.out.on hb)
  have RW14 := hid (rows_on RW12.out hb)
  clear RW12
  clear hb S11
  go_upto_region 4 with fail
  refine wpLA_start ?_
  refine wpLA_take (.slice A7 32 c7) (yG_val _ (by rfl) (fun w' _ => by (go_simp; try rfl))) ?_
  (try simp only [Act.put, List.getElem_toArray, List.getElem_cons_succ, List.getElem_cons_zero, List.setIfInBounds_toArray, List.set_cons_zero, List.set_cons_succ])
  refine wpLA_take (.slice A11 32 c11) (yG_val _ (by rfl) (fun w' _ => by (go_simp; try rfl))) ?_
  (try simp only [Act.put, List.getElem_toArray, List.getElem_cons_succ, List.getElem_cons_zero, List.setIfInBounds_toArray, List.set_cons_zero, List.set_cons_succ])
  refine wpLA_take (.slice A7 32 c7) (yG_val _ (by rfl) (fun w' _ => by (go_simp; try rfl))) ?_
  (try simp only [Act.put, List.getElem_toArray, List.getElem_cons_succ, List.getElem_cons_zero, List.setIfInBounds_toArray, List.set_cons_zero, List.set_cons_succ])
  refine wpLA_take (.slice A11 32 c11) (yG_val _ (by rfl) (fun w' _ => by (go_simp; try rfl))) ?_
  (try simp only [Act.put, List.getElem_toArray, List.getElem_cons_succ, List.getElem_cons_zero, List.setIfInBounds_toArray, List.set_cons_zero, List.set_cons_succ])
  refine wpLA_end ?_
  intro w15 hb
  have S15 := hid (S13.out.on hb)
  have RW16 := hid (rows_on RW14.out hb)
  clear RW14
  clear hb S13
  go_wp2_with fail
  go_ret2
  exact ⟨_, _, _, _, rfl, S15.out.sq.2.1, S15.out.sq.1, S15.out.below⟩
end Go.Proofs.YtpkmidaflnbobaaGreatDoor
end
section
namespace Go.Proofs.YtpkmidaflnbobaaGreatDoor
open Go Go.RowKit
set_option linter.unusedVariables false
set_option linter.unusedSimpArgs false
theorem by1_to {P : Program} {f : FuncId} {args : Array Value} {w : World} {r : List UInt8 × Nat} {xs : List UInt8} {k n : Nat} (hr : r = (xs, k)) (hx : xs.length = n) (h : Calls P f args w (By1N w n xs (k : Int))) : Calls P f args w (By1E w r) := by
  subst hr; subst hx; exact h
theorem by2_to {P : Program} {f : FuncId} {args : Array Value} {w : World} {r : List UInt8 × List UInt8 × Nat} {xs ys : List UInt8} {k n m : Nat} (hr : r = (xs, ys, k)) (hx : xs.length = n) (hy : ys.length = m) (h : Calls P f args w (By2N w n xs m ys (k : Int))) : Calls P f args w (By2E w r) := by
  subst hr; subst hx; subst hy; exact h
theorem wrap_cases (p s : List UInt8) : (wrapR p s = ([], [], 3) ∨ wrapR p s = ([], [], 9)) ∨ ∃ S, wrapR p s = (S, pubL s, 0) ∧ S.length = 32 := by
  by_cases h : p.length = 32
  · by_cases hz : dhV (privL s) p = z32
    · exact .inl (.inr (wrap_zero h hz))
    · exact .inr ⟨_, wrap_ok h hz, sharedL_length _ _ _⟩
  · exact .inl (.inl (wrap_len h))
theorem unwrap_cases (p s : List UInt8) : (unwrapR p s = ([], 1) ∨ unwrapR p s = ([], 3) ∨ unwrapR p s = ([], 9)) ∨ ∃ S, unwrapR p s = (S, 0) ∧ S.length = 32 := by
  by_cases h : p.length = 32
  · by_cases h' : s.length = 32
    · by_cases hz : dhV p s = z32
      · exact .inl (.inr (.inr (unwrap_zero h h' hz)))
      · exact .inr ⟨_, unwrap_ok h h' hz, sharedL_length _ _ _⟩
    · exact .inl (.inr (.inl (unwrap_len h h')))
  · exact .inl (.inl (unwrap_arg h))
theorem gopenM_ok (hGO : OpenOk) {key nonce box more tx : List UInt8} {l q t : Nat} (A : Option Addr) (c : Nat) (A' : Option Addr) (c' : Nat) (A2 : Option Addr) (c2 : Nat) (A3 : Option Addr) (c3 : Nat) (W : World) (h : Sq W W.heap.size A c (bvs key)) (h' : Sq W W.heap.size A' c' (bvs nonce)) (h2 : Sq W W.heap.size A2 c2 (bvs box)) (h3 : Sq W W.heap.size A3 c3 (bvs more))
    (hk : key.length = 16) (hn : nonce.length = 12) (hb : box.length = l) (hm : more.length = q) (hl : l ≤ 1000) (hq : q ≤ 1000) (ho : opens key nonce box more) (ht : tx = maskedL key nonce (box.take (box.length - 16))) (hlt : tx.length = t) :
    Calls Tryz.prog 20 #[.slice A 16 c, .slice A' 12 c', .slice A2 l c2, .slice A3 q c3] W (ByOk W t tx true) :=
  (hGO A A' A2 A3 key nonce box more 16 12 l q c c' c2 c3 W h h' h2 h3 hk hn hb hm (by omega) (by omega) hl hq).mono fun e w' hr => by
    obtain ⟨hr, hb⟩ := hr
    rw [if_pos ho, ← ht] at hr
    obtain ⟨v, rfl, hv⟩ := hr
    obtain ⟨At, ct, rfl, hq⟩ := own_n hv hlt
    exact ⟨At, ct, rfl, hq.sq, hb⟩
theorem gopenM_no (hGO : OpenOk) {key nonce box more : List UInt8} {l q : Nat} (A : Option Addr) (c : Nat) (A' : Option Addr) (c' : Nat) (A2 : Option Addr) (c2 : Nat) (A3 : Option Addr) (c3 : Nat) (W : World) (h : Sq W W.heap.size A c (bvs key)) (h' : Sq W W.heap.size A' c' (bvs nonce)) (h2 : Sq W W.heap.size A2 c2 (bvs box)) (h3 : Sq W W.heap.size A3 c3 (bvs more))
    (hk : key.length = 16) (hn : nonce.length = 12) (hb : box.length = l) (hm : more.length = q) (hl : l ≤ 1000) (hq : q ≤ 1000) (ho : ¬ opens key nonce box more) :
    Calls Tryz.prog 20 #[.slice A 16 c, .slice A' 12 c', .slice A2 l c2, .slice A3 q c3] W (ByNo W) :=
  (hGO A A' A2 A3 key nonce box more 16 12 l q c c' c2 c3 W h h' h2 h3 hk hn hb hm (by omega) (by omega) hl hq).mono fun e w' hr => by
    obtain ⟨hr, hb⟩ := hr
    rw [if_neg ho] at hr
    obtain ⟨A4, c4, rfl⟩ := hr
    exact ⟨A4, c4, rfl, hb⟩
theorem dh13_arg {xs ys : List UInt8} {n m : Nat} (A : Option Addr) (c : Nat) (A' : Option Addr) (c' : Nat) (W : World) (h : Sq W W.heap.size A c (bvs xs)) (h' : Sq W W.heap.size A' c' (bvs ys)) (hx : xs.length = n) (hy : ys.length = m) (hn : n ≠ 32) (hl : n ≤ 1000 ∧ m ≤ 1000) : Calls Tryz.prog 15 #[.slice A n c, .slice A' m c'] W (DhErr W 1) := by
  subst hx; subst hy
  exact DhShared_arg A xs c A' ys c' W h h' hl.1 hl.2 hn
theorem dh13_form {xs ys : List UInt8} {m : Nat} (A : Option Addr) (c : Nat) (A' : Option Addr) (c' : Nat) (W : World) (h : Sq W W.heap.size A c (bvs xs)) (h' : Sq W W.heap.size A' c' (bvs ys)) (hx : xs.length = 32) (hy : ys.length = m) (hn : m ≠ 32) (hl : m ≤ 1000) : Calls Tryz.prog 15 #[.slice A 32 c, .slice A' m c'] W (DhErr W 3) := by
  subst hy
  exact DhShared_form A xs c A' ys c' W h h' (by omega) hl hx hn
set_option maxRecDepth 100000 in
set_option maxHeartbeats 4000000 in
theorem wrap_ok13 : WrapOk := fun A xs n c A' ys m c' w hG hS_xs hS_ys hx hy hn hm => by
  have HG := hid hG
  have Q_xs := hid hS_xs
  have Q_ys := hid hS_ys
  clear hG hS_xs hS_ys
  obtain ⟨PR, hPR⟩ : ∃ l, l = privL ys := ⟨_, rfl⟩
  obtain ⟨PU, hPU⟩ : ∃ l, l = pubL ys := ⟨_, rfl⟩
  have lr : PR.length = 32 := by rw [hPR]; exact privL_length _
  have lu : PU.length = 32 := by rw [hPU]; exact pubL_length _
  have KP : Hid (∀ (A0 : Option Addr) (c0 : Nat) (W : World), Glob W → Sq W W.heap.size A0 c0 (bvs ys) → Calls Tryz.prog 10 #[.slice A0 m c0] W (By2 W 32 PR 32 PU)) := hid fun A0 c0 W hG h => by rw [hPR, hPU]; exact pair_ok A0 ys m c0 W hG h hy (by omega)
  by_cases h32 : n ≠ 32
  · have KD : Hid (∀ (A0 : Option Addr) (c0 : Nat) (A1 : Option Addr) (c1 : Nat) (W : World), Sq W W.heap.size A0 c0 (bvs PR) → Sq W W.heap.size A1 c1 (bvs xs) → Calls Tryz.prog 15 #[.slice A0 32 c0, .slice A1 n c1] W (DhErr W 3)) := hid fun A0 c0 A1 c1 W h h' => dh13_form A0 c0 A1 c1 W h h' lr hx h32 (by omega)
    refine by2_to (wrap_len (by omega)) rfl rfl (n := 0) (m := 0) ?_
    clear h32 hPR hPU lr lu hx hy hn hm
    have HB0 : Hid (Below w.heap.size w w) := hid (Below.refl _ _)
    go_enter Tryz.func14, Tryz.ntmps14
    go_wp2_with fail
    refine (KP.out A' c' w (HG.out.below HB0.out (Nat.le_refl _)) Q_ys.out).mono ?_
    rintro e w1 ⟨A_p, c_p, A_u, c_u, rfl, hq_p, hq_u, hb⟩
    have HB1 : Hid (Below w.heap.size w w1) := hid (HB0.out.trans (hb.mono HB0.out.size))
    have Q_xs := hid (sq_on Q_xs.out hb)
    have Q_ys := hid (sq_on Q_ys.out hb)
    have Q_p := hid hq_p
    have Q_u := hid hq_u
    clear hb hq_p hq_u HB0
    go_wp2_with fail
    refine (KD.out A_p c_p A c w1 Q_p.out Q_xs.out).mono ?_
    rintro e w2 ⟨A_d, c_d, rfl, hb⟩
    have HB2 : Hid (Below w.heap.size w w2) := hid (HB1.out.trans (hb.mono HB1.out.size))
    have Q_xs := hid (sq_on Q_xs.out hb)
    have Q_ys := hid (sq_on Q_ys.out hb)
    have Q_p := hid (sq_on Q_p.out hb)
    have Q_u := hid (sq_on Q_u.out hb)
    clear hb  HB1
    go_wp2
    go_ret3
    exact ⟨none, 0, none, 0, rfl, Sq.nil, Sq.nil, HB2.out⟩
  obtain rfl : n = 32 := by omega
  clear h32
  by_cases hz : dhV PR xs = z32
  · have KD : Hid (∀ (A0 : Option Addr) (c0 : Nat) (A1 : Option Addr) (c1 : Nat) (W : World), Sq W W.heap.size A0 c0 (bvs PR) → Sq W W.heap.size A1 c1 (bvs xs) → Calls Tryz.prog 15 #[.slice A0 32 c0, .slice A1 32 c1] W (DhErr W 9)) := hid fun A0 c0 A1 c1 W h h' => dh13_zero A0 PR c0 A1 xs c1 W h h' lr hx hz
    refine by2_to (wrap_zero hx (by rw [← hPR]; exact hz)) rfl rfl (n := 0) (m := 0) ?_
    clear hz hPR hPU lr lu hx hy hn hm
    have HB0 : Hid (Below w.heap.size w w) := hid (Below.refl _ _)
    go_enter Tryz.func14, Tryz.ntmps14
    go_wp2_with fail
    refine (KP.out A' c' w (HG.out.below HB0.out (Nat.le_refl _)) Q_ys.out).mono ?_
    rintro e w1 ⟨A_p, c_p, A_u, c_u, rfl, hq_p, hq_u, hb⟩
    have HB1 : Hid (Below w.heap.size w w1) := hid (HB0.out.trans (hb.mono HB0.out.size))
    have Q_xs := hid (sq_on Q_xs.out hb)
    have Q_ys := hid (sq_on Q_ys.out hb)
    have Q_p := hid hq_p
    have Q_u := hid hq_u
    clear hb hq_p hq_u HB0
    go_wp2_with fail
    refine (KD.out A_p c_p A c w1 Q_p.out Q_xs.out).mono ?_
    rintro e w2 ⟨A_d, c_d, rfl, hb⟩
    have HB2 : Hid (Below w.heap.size w w2) := hid (HB1.out.trans (hb.mono HB1.out.size))
    have Q_xs := hid (sq_on Q_xs.out hb)
    have Q_ys := hid (sq_on Q_ys.out hb)
    have Q_p := hid (sq_on Q_p.out hb)
    have Q_u := hid (sq_on Q_u.out hb)
    clear hb  HB1
    go_wp2
    go_ret3
    exact ⟨none, 0, none, 0, rfl, Sq.nil, Sq.nil, HB2.out⟩
  obtain ⟨D, hD⟩ : ∃ l, l = dhV PR xs := ⟨_, rfl⟩
  have ld : D.length = 32 := by rw [hD]; exact dhV_length _ _
  obtain ⟨S, hS⟩ : ∃ l, l = sharedL D PU xs := ⟨_, rfl⟩
  have ls : S.length = 32 := by rw [hS]; exact sharedL_length _ _ _
  have KD : Hid (∀ (A0 : Option Addr) (c0 : Nat) (A1 : Option Addr) (c1 : Nat) (W : World), Sq W W.heap.size A0 c0 (bvs PR) → Sq W W.heap.size A1 c1 (bvs xs) → Calls Tryz.prog 15 #[.slice A0 32 c0, .slice A1 32 c1] W (By1N W 32 D 0)) := hid fun A0 c0 A1 c1 W h h' => by rw [hD]; exact dh13_ok A0 PR c0 A1 xs c1 W h h' lr hx hz
  have KH : Hid (∀ (A0 : Option Addr) (c0 : Nat) (A1 : Option Addr) (c1 : Nat) (A2 : Option Addr) (c2 : Nat) (W : World), Glob W → Sq W W.heap.size A0 c0 (bvs D) → Sq W W.heap.size A1 c1 (bvs PU) → Sq W W.heap.size A2 c2 (bvs xs) → Calls Tryz.prog 34 #[.slice A0 32 c0, .slice A1 32 c1, .slice A2 32 c2] W (ByN W 32 S)) := hid fun A0 c0 A1 c1 A2 c2 W hG h h' h'' => by rw [hS]; exact shared_e A0 D 32 c0 A1 PU 32 c1 A2 xs 32 c2 W hG h h' h'' ld lu hx ⟨by omega, by omega, by omega⟩
  refine by2_to (xs := S) (ys := PU) (k := 0) (by rw [hS, hD, hPU, hPR]; exact wrap_ok hx (by rw [← hPR]; exact hz)) ls lu ?_
  clear hz hPR hPU lr lu hx hy hn hm hD ld hS ls
  have HB0 : Hid (Below w.heap.size w w) := hid (Below.refl _ _)
  go_enter Tryz.func14, Tryz.ntmps14
  go_wp2_with fail
  refine (KP.out A' c' w (HG.out.below HB0.out (Nat.le_refl _)) Q_ys.out).mono ?_
  rintro e w1 ⟨A_p, c_p, A_u, c_u, rfl, hq_p, hq_u, hb⟩
  have HB1 : Hid (Below w.heap.size w w1) := hid (HB0.out.trans (hb.mono HB0.out.size))
  have Q_xs := hid (sq_on Q_xs.out hb)
  have Q_ys := hid (sq_on Q_ys.out hb)
  have Q_p := hid hq_p
  have Q_u := hid hq_u
  clear hb hq_p hq_u HB0
  go_wp2_with fail
  refine (KD.out A_p c_p A c w1 Q_p.out Q_xs.out).mono ?_
  rintro e w2 ⟨A_d, c_d, rfl, hq_d, hb⟩
  have HB2 : Hid (Below w.heap.size w w2) := hid (HB1.out.trans (hb.mono HB1.out.size))
  have Q_xs := hid (sq_on Q_xs.out hb)
  have Q_ys := hid (sq_on Q_ys.out hb)
  have Q_p := hid (sq_on Q_p.out hb)
  have Q_u := hid (sq_on Q_u.out hb)
  have Q_d := hid hq_d
  clear hb hq_d HB1
  go_wp2_with fail
  refine (KH.out A_d c_d A_u c_u A c w2 (HG.out.below HB2.out (Nat.le_refl _)) Q_d.out Q_u.out Q_xs.out).mono ?_
  rintro e w3 ⟨A_s, c_s, rfl, hq_s, hb⟩
  have HB3 : Hid (Below w.heap.size w w3) := hid (HB2.out.trans (hb.mono HB2.out.size))
  have Q_xs := hid (sq_on Q_xs.out hb)
  have Q_ys := hid (sq_on Q_ys.out hb)
  have Q_p := hid (sq_on Q_p.out hb)
  have Q_u := hid (sq_on Q_u.out hb)
  have Q_d := hid (sq_on Q_d.out hb)
  have Q_s := hid hq_s
  clear hb hq_s HB2
  go_wp2
  go_ret3
  exact ⟨A_s, c_s, A_u, c_u, rfl, Q_s.out, Q_u.out, HB3.out⟩
set_option maxRecDepth 100000 in
set_option maxHeartbeats 4000000 in
theorem unwrap_ok13 : UnwrapOk := fun A xs n c A' ys m c' w hG hS_xs hS_ys hx hy hn hm => by
  have HG := hid hG
  have Q_xs := hid hS_xs
  have Q_ys := hid hS_ys
  clear hG hS_xs hS_ys
  by_cases h32 : n ≠ 32
  · have KD : Hid (∀ (A0 : Option Addr) (c0 : Nat) (A1 : Option Addr) (c1 : Nat) (W : World), Sq W W.heap.size A0 c0 (bvs xs) → Sq W W.heap.size A1 c1 (bvs ys) → Calls Tryz.prog 15 #[.slice A0 n c0, .slice A1 m c1] W (DhErr W 1)) := hid fun A0 c0 A1 c1 W h h' => dh13_arg A0 c0 A1 c1 W h h' hx hy h32 ⟨by omega, by omega⟩
    refine by1_to (unwrap_arg (by omega)) rfl (n := 0) ?_
    clear h32 hx hy hn hm
    have HB0 : Hid (Below w.heap.size w w) := hid (Below.refl _ _)
    go_enter Tryz.func17, Tryz.ntmps17
    go_wp2_with fail
    refine (KD.out A c A' c' w Q_xs.out Q_ys.out).mono ?_
    rintro e w1 ⟨A_d, c_d, rfl, hb⟩
    have HB1 : Hid (Below w.heap.size w w1) := hid (HB0.out.trans (hb.mono HB0.out.size))
    have Q_xs := hid (sq_on Q_xs.out hb)
    have Q_ys := hid (sq_on Q_ys.out hb)
    clear hb  HB0
    go_wp2
    go_ret2
    exact ⟨none, 0, rfl, Sq.nil, HB1.out⟩
  obtain rfl : n = 32 := by omega
  clear h32
  by_cases h32 : m ≠ 32
  · have KD : Hid (∀ (A0 : Option Addr) (c0 : Nat) (A1 : Option Addr) (c1 : Nat) (W : World), Sq W W.heap.size A0 c0 (bvs xs) → Sq W W.heap.size A1 c1 (bvs ys) → Calls Tryz.prog 15 #[.slice A0 32 c0, .slice A1 m c1] W (DhErr W 3)) := hid fun A0 c0 A1 c1 W h h' => dh13_form A0 c0 A1 c1 W h h' hx hy h32 (by omega)
    refine by1_to (unwrap_len hx (by omega)) rfl (n := 0) ?_
    clear h32 hx hy hn hm
    have HB0 : Hid (Below w.heap.size w w) := hid (Below.refl _ _)
    go_enter Tryz.func17, Tryz.ntmps17
    go_wp2_with fail
    refine (KD.out A c A' c' w Q_xs.out Q_ys.out).mono ?_
    rintro e w1 ⟨A_d, c_d, rfl, hb⟩
    have HB1 : Hid (Below w.heap.size w w1) := hid (HB0.out.trans (hb.mono HB0.out.size))
    have Q_xs := hid (sq_on Q_xs.out hb)
    have Q_ys := hid (sq_on Q_ys.out hb)
    clear hb  HB0
    go_wp2
    go_ret2
    exact ⟨none, 0, rfl, Sq.nil, HB1.out⟩
  obtain rfl : m = 32 := by omega
  clear h32
  by_cases hz : dhV xs ys = z32
  · have KD : Hid (∀ (A0 : Option Addr) (c0 : Nat) (A1 : Option Addr) (c1 : Nat) (W : World), Sq W W.heap.size A0 c0 (bvs xs) → Sq W W.heap.size A1 c1 (bvs ys) → Calls Tryz.prog 15 #[.slice A0 32 c0, .slice A1 32 c1] W (DhErr W 9)) := hid fun A0 c0 A1 c1 W h h' => dh13_zero A0 xs c0 A1 ys c1 W h h' hx hy hz
    refine by1_to (unwrap_zero hx hy hz) rfl (n := 0) ?_
    clear hz hx hy hn hm
    have HB0 : Hid (Below w.heap.size w w) := hid (Below.refl _ _)
    go_enter Tryz.func17, Tryz.ntmps17
    go_wp2_with fail
    refine (KD.out A c A' c' w Q_xs.out Q_ys.out).mono ?_
    rintro e w1 ⟨A_d, c_d, rfl, hb⟩
    have HB1 : Hid (Below w.heap.size w w1) := hid (HB0.out.trans (hb.mono HB0.out.size))
    have Q_xs := hid (sq_on Q_xs.out hb)
    have Q_ys := hid (sq_on Q_ys.out hb)
    clear hb  HB0
    go_wp2
    go_ret2
    exact ⟨none, 0, rfl, Sq.nil, HB1.out⟩
  obtain ⟨PB, hPB⟩ : ∃ l, l = dhV xs (b32 9) := ⟨_, rfl⟩
  have lu : PB.length = 32 := by rw [hPB]; exact dhV_length _ _
  obtain ⟨D, hD⟩ : ∃ l, l = dhV xs ys := ⟨_, rfl⟩
  have ld : D.length = 32 := by rw [hD]; exact dhV_length _ _
  obtain ⟨S, hS⟩ : ∃ l, l = sharedL D ys PB := ⟨_, rfl⟩
  have ls : S.length = 32 := by rw [hS]; exact sharedL_length _ _ _
  have KD : Hid (∀ (A0 : Option Addr) (c0 : Nat) (A1 : Option Addr) (c1 : Nat) (W : World), Sq W W.heap.size A0 c0 (bvs xs) → Sq W W.heap.size A1 c1 (bvs ys) → Calls Tryz.prog 15 #[.slice A0 32 c0, .slice A1 32 c1] W (By1N W 32 D 0)) := hid fun A0 c0 A1 c1 W h h' => by rw [hD]; exact dh13_ok A0 xs c0 A1 ys c1 W h h' hx hy hz
  have KB : Hid (∀ (A0 : Option Addr) (c0 : Nat) (W : World), Sq W W.heap.size A0 c0 (bvs xs) → Calls Tryz.prog 12 #[.slice A0 32 c0] W (By1N W 32 PB 0)) := hid fun A0 c0 W h => by rw [hPB]; exact base13 A0 xs c0 W h hx
  have KH : Hid (∀ (A0 : Option Addr) (c0 : Nat) (A1 : Option Addr) (c1 : Nat) (A2 : Option Addr) (c2 : Nat) (W : World), Glob W → Sq W W.heap.size A0 c0 (bvs D) → Sq W W.heap.size A1 c1 (bvs ys) → Sq W W.heap.size A2 c2 (bvs PB) → Calls Tryz.prog 34 #[.slice A0 32 c0, .slice A1 32 c1, .slice A2 32 c2] W (ByN W 32 S)) := hid fun A0 c0 A1 c1 A2 c2 W hG h h' h'' => by rw [hS]; exact shared_e A0 D 32 c0 A1 ys 32 c1 A2 PB 32 c2 W hG h h' h'' ld hy lu ⟨by omega, by omega, by omega⟩
  refine by1_to (xs := S) (k := 0) (by rw [hS, hD, hPB]; exact unwrap_ok hx hy hz) ls ?_
  clear hz hPB lu hx hy hn hm hD ld hS ls
  have HB0 : Hid (Below w.heap.size w w) := hid (Below.refl _ _)
  go_enter Tryz.func17, Tryz.ntmps17
  go_wp2_with fail
  refine (KD.out A c A' c' w Q_xs.out Q_ys.out).mono ?_
  rintro e w1 ⟨A_d, c_d, rfl, hq_d, hb⟩
  have HB1 : Hid (Below w.heap.size w w1) := hid (HB0.out.trans (hb.mono HB0.out.size))
  have Q_xs := hid (sq_on Q_xs.out hb)
  have Q_ys := hid (sq_on Q_ys.out hb)
  have Q_d := hid hq_d
  clear hb hq_d HB0
  go_wp2_with fail
  refine (KB.out A c w1 Q_xs.out).mono ?_
  rintro e w2 ⟨A_b, c_b, rfl, hq_b, hb⟩
  have HB2 : Hid (Below w.heap.size w w2) := hid (HB1.out.trans (hb.mono HB1.out.size))
  have Q_xs := hid (sq_on Q_xs.out hb)
  have Q_ys := hid (sq_on Q_ys.out hb)
  have Q_d := hid (sq_on Q_d.out hb)
  have Q_b := hid hq_b
  clear hb hq_b HB1
  go_wp2_with fail
  refine (KH.out A_d c_d A' c' A_b c_b w2 (HG.out.below HB2.out (Nat.le_refl _)) Q_d.out Q_ys.out Q_b.out).mono ?_
  rintro e w3 ⟨A_s, c_s, rfl, hq_s, hb⟩
  have HB3 : Hid (Below w.heap.size w w3) := hid (HB2.out.trans (hb.mono HB2.out.size))
  have Q_xs := hid (sq_on Q_xs.out hb)
  have Q_ys := hid (sq_on Q_ys.out hb)
  have Q_d := hid (sq_on Q_d.out hb)
  have Q_b := hid (sq_on Q_b.out hb)
  have Q_s := hid hq_s
  clear hb hq_s HB2
  go_wp2
  go_ret2
  exact ⟨A_s, c_s, rfl, Q_s.out, HB3.out⟩
set_option maxRecDepth 100000 in
set_option maxHeartbeats 4000000 in
theorem seal_ok13 : SealOk13 := fun A xs n c A' ys m c' A2 is n2 c2 A3 ts n3 c3 A4 ms n4 c4 w hG hS_xs hS_ys hS_is hS_ts hS_ms hx hy hi ht hm hn hnm hn2 hn3 hn4 => by
  have HG := hid hG
  have Q_xs := hid hS_xs
  have Q_ys := hid hS_ys
  have Q_is := hid hS_is
  have Q_ts := hid hS_ts
  have Q_ms := hid hS_ms
  clear hG hS_xs hS_ys hS_is hS_ts hS_ms
  rcases wrap_cases xs ys with (hr | hr) | ⟨S, hr, ls⟩
  · have KW : Hid (∀ (A0 : Option Addr) (c0 : Nat) (A1 : Option Addr) (c1 : Nat) (W : World), Glob W → Sq W W.heap.size A0 c0 (bvs xs) → Sq W W.heap.size A1 c1 (bvs ys) → Calls Tryz.prog 14 #[.slice A0 n c0, .slice A1 m c1] W (By2N W 0 [] 0 [] 3)) := hid fun A0 c0 A1 c1 W hG h h' => by2_is (wrap_ok13 A0 xs n c0 A1 ys m c1 W hG h h' hx hy hn hnm) hr rfl rfl
    refine by2_to (seal_err hr (by decide)) rfl rfl (n := 0) (m := 0) ?_
    clear hr hx hy hi ht hm hn hnm hn2 hn3 hn4
    have HB0 : Hid (Below w.heap.size w w) := hid (Below.refl _ _)
    go_enter Tryz.func21, Tryz.ntmps21
    go_wp2_with fail
    refine (KW.out A c A' c' w (HG.out.below HB0.out (Nat.le_refl _)) Q_xs.out Q_ys.out).mono ?_
    rintro e w1 ⟨A_s, c_s, A_e, c_e, rfl, hq_s, hq_e, hb⟩
    have HB1 : Hid (Below w.heap.size w w1) := hid (HB0.out.trans (hb.mono HB0.out.size))
    have Q_xs := hid (sq_on Q_xs.out hb)
    have Q_ys := hid (sq_on Q_ys.out hb)
    have Q_is := hid (sq_on Q_is.out hb)
    have Q_ts := hid (sq_on Q_ts.out hb)
    have Q_ms := hid (sq_on Q_ms.out hb)
    have Q_s := hid hq_s
    have Q_e := hid hq_e
    clear hb hq_s hq_e HB0
    go_wp2
    go_ret3
    exact ⟨none, 0, none, 0, rfl, Sq.nil, Sq.nil, HB1.out⟩
  · have KW : Hid (∀ (A0 : Option Addr) (c0 : Nat) (A1 : Option Addr) (c1 : Nat) (W : World), Glob W → Sq W W.heap.size A0 c0 (bvs xs) → Sq W W.heap.size A1 c1 (bvs ys) → Calls Tryz.prog 14 #[.slice A0 n c0, .slice A1 m c1] W (By2N W 0 [] 0 [] 9)) := hid fun A0 c0 A1 c1 W hG h h' => by2_is (wrap_ok13 A0 xs n c0 A1 ys m c1 W hG h h' hx hy hn hnm) hr rfl rfl
    refine by2_to (seal_err hr (by decide)) rfl rfl (n := 0) (m := 0) ?_
    clear hr hx hy hi ht hm hn hnm hn2 hn3 hn4
    have HB0 : Hid (Below w.heap.size w w) := hid (Below.refl _ _)
    go_enter Tryz.func21, Tryz.ntmps21
    go_wp2_with fail
    refine (KW.out A c A' c' w (HG.out.below HB0.out (Nat.le_refl _)) Q_xs.out Q_ys.out).mono ?_
    rintro e w1 ⟨A_s, c_s, A_e, c_e, rfl, hq_s, hq_e, hb⟩
    have HB1 : Hid (Below w.heap.size w w1) := hid (HB0.out.trans (hb.mono HB0.out.size))
    have Q_xs := hid (sq_on Q_xs.out hb)
    have Q_ys := hid (sq_on Q_ys.out hb)
    have Q_is := hid (sq_on Q_is.out hb)
    have Q_ts := hid (sq_on Q_ts.out hb)
    have Q_ms := hid (sq_on Q_ms.out hb)
    have Q_s := hid hq_s
    have Q_e := hid hq_e
    clear hb hq_s hq_e HB0
    go_wp2
    go_ret3
    exact ⟨none, 0, none, 0, rfl, Sq.nil, Sq.nil, HB1.out⟩
  · obtain ⟨E, hE⟩ : ∃ l, l = pubL ys := ⟨_, rfl⟩
    have le : E.length = 32 := by rw [hE]; exact pubL_length _
    rw [← hE] at hr
    obtain ⟨KY, hKY⟩ : ∃ l, l = keyL S is := ⟨_, rfl⟩
    obtain ⟨NO, hNO⟩ : ∃ l, l = nonL S is := ⟨_, rfl⟩
    have lk : KY.length = 16 := by rw [hKY]; exact keyL_length _ _
    have lo : NO.length = 12 := by rw [hNO]; exact nonL_length _ _
    obtain ⟨BX, hBX⟩ : ∃ l, l = seal12L KY NO ts ms := ⟨_, rfl⟩
    obtain ⟨d, ld⟩ : ∃ d, BX.length = d := ⟨_, rfl⟩
    have KW : Hid (∀ (A0 : Option Addr) (c0 : Nat) (A1 : Option Addr) (c1 : Nat) (W : World), Glob W → Sq W W.heap.size A0 c0 (bvs xs) → Sq W W.heap.size A1 c1 (bvs ys) → Calls Tryz.prog 14 #[.slice A0 n c0, .slice A1 m c1] W (By2N W 32 S 32 E 0)) := hid fun A0 c0 A1 c1 W hG h h' => by2_is (wrap_ok13 A0 xs n c0 A1 ys m c1 W hG h h' hx hy hn hnm) hr ls le
    have KK : Hid (∀ (A0 : Option Addr) (c0 : Nat) (A1 : Option Addr) (c1 : Nat) (W : World), Glob W → Sq W W.heap.size A0 c0 (bvs S) → Sq W W.heap.size A1 c1 (bvs is) → Calls Tryz.prog 38 #[.slice A0 32 c0, .slice A1 n2 c1] W (By2 W 16 KY 12 NO)) := hid fun A0 c0 A1 c1 W hG h h' => by rw [hKY, hNO]; exact key_e A0 S 32 c0 A1 is n2 c1 W hG h h' ls hi ⟨by omega, by omega⟩
    have KG : Hid (∀ (A0 : Option Addr) (c0 : Nat) (A1 : Option Addr) (c1 : Nat) (A2 : Option Addr) (c2 : Nat) (A3 : Option Addr) (c3 : Nat) (W : World), Sq W W.heap.size A0 c0 (bvs KY) → Sq W W.heap.size A1 c1 (bvs NO) → Sq W W.heap.size A2 c2 (bvs ts) → Sq W W.heap.size A3 c3 (bvs ms) → Calls Tryz.prog 22 #[.slice A0 16 c0, .slice A1 12 c1, .slice A2 n3 c2, .slice A3 n4 c3] W (ByOk W d BX true)) := hid fun A0 c0 A1 c1 A2 c2 A3 c3 W h h' h2 h3 => gseal_ok seal12_ok A0 c0 A1 c1 A2 c2 A3 c3 W h h' h2 h3 lk lo ht hm (by omega) (by omega) hBX ld
    refine by2_to (xs := E) (ys := BX) (k := 0) (by rw [hBX, hKY, hNO]; exact seal_ok hr) le ld ?_
    clear hr hx hy hi ht hm hn hnm hn2 hn3 hn4 hE le ls hKY hNO lk lo hBX ld
    have HB0 : Hid (Below w.heap.size w w) := hid (Below.refl _ _)
    go_enter Tryz.func21, Tryz.ntmps21
    go_wp2_with fail
    refine (KW.out A c A' c' w (HG.out.below HB0.out (Nat.le_refl _)) Q_xs.out Q_ys.out).mono ?_
    rintro e w1 ⟨A_s, c_s, A_e, c_e, rfl, hq_s, hq_e, hb⟩
    have HB1 : Hid (Below w.heap.size w w1) := hid (HB0.out.trans (hb.mono HB0.out.size))
    have Q_xs := hid (sq_on Q_xs.out hb)
    have Q_ys := hid (sq_on Q_ys.out hb)
    have Q_is := hid (sq_on Q_is.out hb)
    have Q_ts := hid (sq_on Q_ts.out hb)
    have Q_ms := hid (sq_on Q_ms.out hb)
    have Q_s := hid hq_s
    have Q_e := hid hq_e
    clear hb hq_s hq_e HB0
    go_wp2_with fail
    refine (KK.out A_s c_s A2 c2 w1 (HG.out.below HB1.out (Nat.le_refl _)) Q_s.out Q_is.out).mono ?_
    rintro e w2 ⟨A_ky, c_ky, A_no, c_no, rfl, hq_ky, hq_no, hb⟩
    have HB2 : Hid (Below w.heap.size w w2) := hid (HB1.out.trans (hb.mono HB1.out.size))
    have Q_xs := hid (sq_on Q_xs.out hb)
    have Q_ys := hid (sq_on Q_ys.out hb)
    have Q_is := hid (sq_on Q_is.out hb)
    have Q_ts := hid (sq_on Q_ts.out hb)
    have Q_ms := hid (sq_on Q_ms.out hb)
    have Q_s := hid (sq_on Q_s.out hb)
    have Q_e := hid (sq_on Q_e.out hb)
    have Q_ky := hid hq_ky
    have Q_no := hid hq_no
    clear hb hq_ky hq_no HB1
    go_wp2_with fail
    refine (KG.out A_ky c_ky A_no c_no A3 c3 A4 c4 w2 Q_ky.out Q_no.out Q_ts.out Q_ms.out).mono ?_
    rintro e w3 ⟨A_g, c_g, rfl, hq_g, hb⟩
    have HB3 : Hid (Below w.heap.size w w3) := hid (HB2.out.trans (hb.mono HB2.out.size))
    have Q_xs := hid (sq_on Q_xs.out hb)
    have Q_ys := hid (sq_on Q_ys.out hb)
    have Q_is := hid (sq_on Q_is.out hb)
    have Q_ts := hid (sq_on Q_ts.out hb)
    have Q_ms := hid (sq_on Q_ms.out hb)
    have Q_s := hid (sq_on Q_s.out hb)
    have Q_e := hid (sq_on Q_e.out hb)
    have Q_ky := hid (sq_on Q_ky.out hb)
    have Q_no := hid (sq_on Q_no.out hb)
    have Q_g := hid hq_g
    clear hb hq_g HB2
    go_wp2
    go_ret3
    exact ⟨A_e, c_e, A_g, c_g, rfl, Q_e.out, Q_g.out, HB3.out⟩
set_option maxRecDepth 100000 in
set_option maxHeartbeats 4000000 in
theorem open_ok13 : OpenOk13 := fun A xs n c A' ys m c' A2 is n2 c2 A3 ts n3 c3 A4 ms n4 c4 w hG hS_xs hS_ys hS_is hS_ts hS_ms hx hy hi ht hm hn hnm hn2 hn3 hn4 => by
  have HG := hid hG
  have Q_xs := hid hS_xs
  have Q_ys := hid hS_ys
  have Q_is := hid hS_is
  have Q_ts := hid hS_ts
  have Q_ms := hid hS_ms
  clear hG hS_xs hS_ys hS_is hS_ts hS_ms
  rcases unwrap_cases xs ys with (hr | hr | hr) | ⟨S, hr, ls⟩
  · have KU : Hid (∀ (A0 : Option Addr) (c0 : Nat) (A1 : Option Addr) (c1 : Nat) (W : World), Glob W → Sq W W.heap.size A0 c0 (bvs xs) → Sq W W.heap.size A1 c1 (bvs ys) → Calls Tryz.prog 17 #[.slice A0 n c0, .slice A1 m c1] W (By1N W 0 [] 1)) := hid fun A0 c0 A1 c1 W hG h h' => by1_is (unwrap_ok13 A0 xs n c0 A1 ys m c1 W hG h h' hx hy hn hnm) hr rfl
    refine by1_to (open_err hr (by decide)) rfl (n := 0) ?_
    clear hx hy hi ht hm hn hnm hn2 hn3 hn4 hr
    have HB0 : Hid (Below w.heap.size w w) := hid (Below.refl _ _)
    go_enter Tryz.func18, Tryz.ntmps18
    go_wp2_with fail
    refine (KU.out A c A' c' w (HG.out.below HB0.out (Nat.le_refl _)) Q_xs.out Q_ys.out).mono ?_
    rintro e w1 ⟨A_s, c_s, rfl, hq_s, hb⟩
    have HB1 : Hid (Below w.heap.size w w1) := hid (HB0.out.trans (hb.mono HB0.out.size))
    have Q_xs := hid (sq_on Q_xs.out hb)
    have Q_ys := hid (sq_on Q_ys.out hb)
    have Q_is := hid (sq_on Q_is.out hb)
    have Q_ts := hid (sq_on Q_ts.out hb)
    have Q_ms := hid (sq_on Q_ms.out hb)
    have Q_s := hid hq_s
    clear hb hq_s HB0
    go_wp2
    go_ret2
    exact ⟨none, 0, rfl, Sq.nil, HB1.out⟩
  · have KU : Hid (∀ (A0 : Option Addr) (c0 : Nat) (A1 : Option Addr) (c1 : Nat) (W : World), Glob W → Sq W W.heap.size A0 c0 (bvs xs) → Sq W W.heap.size A1 c1 (bvs ys) → Calls Tryz.prog 17 #[.slice A0 n c0, .slice A1 m c1] W (By1N W 0 [] 3)) := hid fun A0 c0 A1 c1 W hG h h' => by1_is (unwrap_ok13 A0 xs n c0 A1 ys m c1 W hG h h' hx hy hn hnm) hr rfl
    refine by1_to (open_err hr (by decide)) rfl (n := 0) ?_
    clear hx hy hi ht hm hn hnm hn2 hn3 hn4 hr
    have HB0 : Hid (Below w.heap.size w w) := hid (Below.refl _ _)
    go_enter Tryz.func18, Tryz.ntmps18
    go_wp2_with fail
    refine (KU.out A c A' c' w (HG.out.below HB0.out (Nat.le_refl _)) Q_xs.out Q_ys.out).mono ?_
    rintro e w1 ⟨A_s, c_s, rfl, hq_s, hb⟩
    have HB1 : Hid (Below w.heap.size w w1) := hid (HB0.out.trans (hb.mono HB0.out.size))
    have Q_xs := hid (sq_on Q_xs.out hb)
    have Q_ys := hid (sq_on Q_ys.out hb)
    have Q_is := hid (sq_on Q_is.out hb)
    have Q_ts := hid (sq_on Q_ts.out hb)
    have Q_ms := hid (sq_on Q_ms.out hb)
    have Q_s := hid hq_s
    clear hb hq_s HB0
    go_wp2
    go_ret2
    exact ⟨none, 0, rfl, Sq.nil, HB1.out⟩
  · have KU : Hid (∀ (A0 : Option Addr) (c0 : Nat) (A1 : Option Addr) (c1 : Nat) (W : World), Glob W → Sq W W.heap.size A0 c0 (bvs xs) → Sq W W.heap.size A1 c1 (bvs ys) → Calls Tryz.prog 17 #[.slice A0 n c0, .slice A1 m c1] W (By1N W 0 [] 9)) := hid fun A0 c0 A1 c1 W hG h h' => by1_is (unwrap_ok13 A0 xs n c0 A1 ys m c1 W hG h h' hx hy hn hnm) hr rfl
    refine by1_to (open_err hr (by decide)) rfl (n := 0) ?_
    clear hx hy hi ht hm hn hnm hn2 hn3 hn4 hr
    have HB0 : Hid (Below w.heap.size w w) := hid (Below.refl _ _)
    go_enter Tryz.func18, Tryz.ntmps18
    go_wp2_with fail
    refine (KU.out A c A' c' w (HG.out.below HB0.out (Nat.le_refl _)) Q_xs.out Q_ys.out).mono ?_
    rintro e w1 ⟨A_s, c_s, rfl, hq_s, hb⟩
    have HB1 : Hid (Below w.heap.size w w1) := hid (HB0.out.trans (hb.mono HB0.out.size))
    have Q_xs := hid (sq_on Q_xs.out hb)
    have Q_ys := hid (sq_on Q_ys.out hb)
    have Q_is := hid (sq_on Q_is.out hb)
    have Q_ts := hid (sq_on Q_ts.out hb)
    have Q_ms := hid (sq_on Q_ms.out hb)
    have Q_s := hid hq_s
    clear hb hq_s HB0
    go_wp2
    go_ret2
    exact ⟨none, 0, rfl, Sq.nil, HB1.out⟩
  · obtain ⟨KY, hKY⟩ : ∃ l, l = keyL S is := ⟨_, rfl⟩
    obtain ⟨NO, hNO⟩ : ∃ l, l = nonL S is := ⟨_, rfl⟩
    have lk : KY.length = 16 := by rw [hKY]; exact keyL_length _ _
    have lo : NO.length = 12 := by rw [hNO]; exact nonL_length _ _
    have KU : Hid (∀ (A0 : Option Addr) (c0 : Nat) (A1 : Option Addr) (c1 : Nat) (W : World), Glob W → Sq W W.heap.size A0 c0 (bvs xs) → Sq W W.heap.size A1 c1 (bvs ys) → Calls Tryz.prog 17 #[.slice A0 n c0, .slice A1 m c1] W (By1N W 32 S 0)) := hid fun A0 c0 A1 c1 W hG h h' => by1_is (unwrap_ok13 A0 xs n c0 A1 ys m c1 W hG h h' hx hy hn hnm) hr ls
    have KK : Hid (∀ (A0 : Option Addr) (c0 : Nat) (A1 : Option Addr) (c1 : Nat) (W : World), Glob W → Sq W W.heap.size A0 c0 (bvs S) → Sq W W.heap.size A1 c1 (bvs is) → Calls Tryz.prog 38 #[.slice A0 32 c0, .slice A1 n2 c1] W (By2 W 16 KY 12 NO)) := hid fun A0 c0 A1 c1 W hG h h' => by rw [hKY, hNO]; exact key_e A0 S 32 c0 A1 is n2 c1 W hG h h' ls hi ⟨by omega, by omega⟩
    by_cases ho : ¬ opens KY NO ts ms
    · have KG : Hid (∀ (A0 : Option Addr) (c0 : Nat) (A1 : Option Addr) (c1 : Nat) (A2 : Option Addr) (c2 : Nat) (A3 : Option Addr) (c3 : Nat) (W : World), Sq W W.heap.size A0 c0 (bvs KY) → Sq W W.heap.size A1 c1 (bvs NO) → Sq W W.heap.size A2 c2 (bvs ts) → Sq W W.heap.size A3 c3 (bvs ms) → Calls Tryz.prog 20 #[.slice A0 16 c0, .slice A1 12 c1, .slice A2 n3 c2, .slice A3 n4 c3] W (ByNo W)) := hid fun A0 c0 A1 c1 A2 c2 A3 c3 W h h' h2 h3 => gopenM_no open12_ok A0 c0 A1 c1 A2 c2 A3 c3 W h h' h2 h3 lk lo ht hm (by omega) (by omega) ho
      refine by1_to (open_no hr (by rw [← hKY, ← hNO]; exact ho)) rfl (n := 0) ?_
      clear hx hy hi ht hm hn hnm hn2 hn3 hn4 hr ho ls hKY hNO lk lo
      have HB0 : Hid (Below w.heap.size w w) := hid (Below.refl _ _)
      go_enter Tryz.func18, Tryz.ntmps18
      go_wp2_with fail
      refine (KU.out A c A' c' w (HG.out.below HB0.out (Nat.le_refl _)) Q_xs.out Q_ys.out).mono ?_
      rintro e w1 ⟨A_s, c_s, rfl, hq_s, hb⟩
      have HB1 : Hid (Below w.heap.size w w1) := hid (HB0.out.trans (hb.mono HB0.out.size))
      have Q_xs := hid (sq_on Q_xs.out hb)
      have Q_ys := hid (sq_on Q_ys.out hb)
      have Q_is := hid (sq_on Q_is.out hb)
      have Q_ts := hid (sq_on Q_ts.out hb)
      have Q_ms := hid (sq_on Q_ms.out hb)
      have Q_s := hid hq_s
      clear hb hq_s HB0
      go_wp2_with fail
      refine (KK.out A_s c_s A2 c2 w1 (HG.out.below HB1.out (Nat.le_refl _)) Q_s.out Q_is.out).mono ?_
      rintro e w2 ⟨A_ky, c_ky, A_no, c_no, rfl, hq_ky, hq_no, hb⟩
      have HB2 : Hid (Below w.heap.size w w2) := hid (HB1.out.trans (hb.mono HB1.out.size))
      have Q_xs := hid (sq_on Q_xs.out hb)
      have Q_ys := hid (sq_on Q_ys.out hb)
      have Q_is := hid (sq_on Q_is.out hb)
      have Q_ts := hid (sq_on Q_ts.out hb)
      have Q_ms := hid (sq_on Q_ms.out hb)
      have Q_s := hid (sq_on Q_s.out hb)
      have Q_ky := hid hq_ky
      have Q_no := hid hq_no
      clear hb hq_ky hq_no HB1
      go_wp2_with fail
      refine (KG.out A_ky c_ky A_no c_no A3 c3 A4 c4 w2 Q_ky.out Q_no.out Q_ts.out Q_ms.out).mono ?_
      rintro e w3 ⟨A_g, c_g, rfl, hb⟩
      have HB3 : Hid (Below w.heap.size w w3) := hid (HB2.out.trans (hb.mono HB2.out.size))
      have Q_xs := hid (sq_on Q_xs.out hb)
      have Q_ys := hid (sq_on Q_ys.out hb)
      have Q_is := hid (sq_on Q_is.out hb)
      have Q_ts := hid (sq_on Q_ts.out hb)
      have Q_ms := hid (sq_on Q_ms.out hb)
      have Q_s := hid (sq_on Q_s.out hb)
      have Q_ky := hid (sq_on Q_ky.out hb)
      have Q_no := hid (sq_on Q_no.out hb)
      clear hb  HB2
      go_wp2
      go_ret2
      exact ⟨none, 0, rfl, Sq.nil, HB3.out⟩
    have ho : opens KY NO ts ms := by simpa using ho
    obtain ⟨TX, hTX⟩ : ∃ l, l = maskedL KY NO (ts.take (ts.length - 16)) := ⟨_, rfl⟩
    obtain ⟨t, lt⟩ : ∃ t, TX.length = t := ⟨_, rfl⟩
    have KG : Hid (∀ (A0 : Option Addr) (c0 : Nat) (A1 : Option Addr) (c1 : Nat) (A2 : Option Addr) (c2 : Nat) (A3 : Option Addr) (c3 : Nat) (W : World), Sq W W.heap.size A0 c0 (bvs KY) → Sq W W.heap.size A1 c1 (bvs NO) → Sq W W.heap.size A2 c2 (bvs ts) → Sq W W.heap.size A3 c3 (bvs ms) → Calls Tryz.prog 20 #[.slice A0 16 c0, .slice A1 12 c1, .slice A2 n3 c2, .slice A3 n4 c3] W (ByOk W t TX true)) := hid fun A0 c0 A1 c1 A2 c2 A3 c3 W h h' h2 h3 => gopenM_ok open12_ok A0 c0 A1 c1 A2 c2 A3 c3 W h h' h2 h3 lk lo ht hm (by omega) (by omega) ho hTX lt
    refine by1_to (xs := TX) (k := 0) (by rw [hTX, hKY, hNO]; exact open_ok hr (by rw [← hKY, ← hNO]; exact ho)) lt ?_
    clear hx hy hi ht hm hn hnm hn2 hn3 hn4 hr ho ls hKY hNO lk lo hTX lt
    have HB0 : Hid (Below w.heap.size w w) := hid (Below.refl _ _)
    go_enter Tryz.func18, Tryz.ntmps18
    go_wp2_with fail
    refine (KU.out A c A' c' w (HG.out.below HB0.out (Nat.le_refl _)) Q_xs.out Q_ys.out).mono ?_
    rintro e w1 ⟨A_s, c_s, rfl, hq_s, hb⟩
    have HB1 : Hid (Below w.heap.size w w1) := hid (HB0.out.trans (hb.mono HB0.out.size))
    have Q_xs := hid (sq_on Q_xs.out hb)
    have Q_ys := hid (sq_on Q_ys.out hb)
    have Q_is := hid (sq_on Q_is.out hb)
    have Q_ts := hid (sq_on Q_ts.out hb)
    have Q_ms := hid (sq_on Q_ms.out hb)
    have Q_s := hid hq_s
    clear hb hq_s HB0
    go_wp2_with fail
    refine (KK.out A_s c_s A2 c2 w1 (HG.out.below HB1.out (Nat.le_refl _)) Q_s.out Q_is.out).mono ?_
    rintro e w2 ⟨A_ky, c_ky, A_no, c_no, rfl, hq_ky, hq_no, hb⟩
    have HB2 : Hid (Below w.heap.size w w2) := hid (HB1.out.trans (hb.mono HB1.out.size))
    have Q_xs := hid (sq_on Q_xs.out hb)
    have Q_ys := hid (sq_on Q_ys.out hb)
    have Q_is := hid (sq_on Q_is.out hb)
    have Q_ts := hid (sq_on Q_ts.out hb)
    have Q_ms := hid (sq_on Q_ms.out hb)
    have Q_s := hid (sq_on Q_s.out hb)
    have Q_ky := hid hq_ky
    have Q_no := hid hq_no
    clear hb hq_ky hq_no HB1
    go_wp2_with fail
    refine (KG.out A_ky c_ky A_no c_no A3 c3 A4 c4 w2 Q_ky.out Q_no.out Q_ts.out Q_ms.out).mono ?_
    rintro e w3 ⟨A_g, c_g, rfl, hq_g, hb⟩
    have HB3 : Hid (Below w.heap.size w w3) := hid (HB2.out.trans (hb.mono HB2.out.size))
    have Q_xs := hid (sq_on Q_xs.out hb)
    have Q_ys := hid (sq_on Q_ys.out hb)
    have Q_is := hid (sq_on Q_is.out hb)
    have Q_ts := hid (sq_on Q_ts.out hb)
    have Q_ms := hid (sq_on Q_ms.out hb)
    have Q_s := hid (sq_on Q_s.out hb)
    have Q_ky := hid (sq_on Q_ky.out hb)
    have Q_no := hid (sq_on Q_no.out hb)
    have Q_g := hid hq_g
    clear hb hq_g HB2
    go_wp2
    go_ret2
    exact ⟨A_g, c_g, rfl, Q_g.out, HB3.out⟩
set_option maxRecDepth 100000 in
set_option maxHeartbeats 4000000 in
theorem seallabel_ok : SealLabelOk := fun A xs n c A' ys m c' s A2 cs n2 c2 A3 ts n3 c3 w hG hS_xs hS_ys hS_cs hS_ts hx hy hc ht hs hn hnm hn2 hn3 => by
  have HG := hid hG
  have Q_xs := hid hS_xs
  have Q_ys := hid hS_ys
  have Q_cs := hid hS_cs
  have Q_ts := hid hS_ts
  clear hG hS_xs hS_ys hS_cs hS_ts
  obtain ⟨I, hI⟩ : ∃ l, l = infoL (sby s) cs := ⟨_, rfl⟩
  obtain ⟨i, li⟩ : ∃ i, I.length = i := ⟨_, rfl⟩
  have lib : i ≤ 400 := by have h1 := infoL_length (sby s) cs; have h2 := sby_length s; rw [← li, hI]; omega
  rw [← hI]
  have KI : Hid (∀ (A0 : Option Addr) (c0 : Nat) (W : World), Sq W W.heap.size A0 c0 (bvs cs) → Calls Tryz.prog 45 #[.string s, .slice A0 n2 c0] W (ByN W i I)) := hid fun A0 c0 W h => by have h5 := infoOf_e s A0 cs n2 c0 W h hc ⟨by omega, by omega⟩; rw [← hI, li] at h5; exact h5
  obtain ⟨E, B, f, hR⟩ : ∃ E B f, sealR xs ys I ts [] = (E, B, f) := ⟨_, _, _, rfl⟩
  obtain ⟨e, he⟩ : ∃ e, E.length = e := ⟨_, rfl⟩
  obtain ⟨b, hb⟩ : ∃ e, B.length = e := ⟨_, rfl⟩
  have KL : Hid (∀ (A0 : Option Addr) (c0 : Nat) (A1 : Option Addr) (c1 : Nat) (A2 : Option Addr) (c2 : Nat) (A3 : Option Addr) (c3 : Nat) (W : World), Glob W → Sq W W.heap.size A0 c0 (bvs xs) → Sq W W.heap.size A1 c1 (bvs ys) → Sq W W.heap.size A2 c2 (bvs I) → Sq W W.heap.size A3 c3 (bvs ts) → Calls Tryz.prog 21 #[.slice A0 n c0, .slice A1 m c1, .slice A2 i c2, .slice A3 n3 c3, .slice none 0 0] W (By2N W e E b B (f : Int))) := hid fun A0 c0 A1 c1 A2 c2 A3 c3 W hG h h' h2 h3 => by2_is (seal_ok13 A0 xs n c0 A1 ys m c1 A2 I i c2 A3 ts n3 c3 none [] 0 0 W hG h h' h2 h3 Sq.nil hx hy li ht rfl hn hnm lib hn3 (by decide)) hR he hb
  refine by2_to hR he hb ?_
  clear hI li lib hR he hb hx hy hc ht hs hn hnm hn2 hn3
  have HB0 : Hid (Below w.heap.size w w) := hid (Below.refl _ _)
  go_enter Tryz.func24, Tryz.ntmps24
  go_wp2_with fail
  refine (KI.out A2 c2 w Q_cs.out).mono ?_
  rintro e w1 ⟨A_i, c_i, rfl, hq_i, hb⟩
  have HB1 : Hid (Below w.heap.size w w1) := hid (HB0.out.trans (hb.mono HB0.out.size))
  have Q_xs := hid (sq_on Q_xs.out hb)
  have Q_ys := hid (sq_on Q_ys.out hb)
  have Q_cs := hid (sq_on Q_cs.out hb)
  have Q_ts := hid (sq_on Q_ts.out hb)
  have Q_i := hid hq_i
  clear hb hq_i HB0
  go_wp2_with fail
  refine (KL.out A c A' c' A_i c_i A3 c3 w1 (HG.out.below HB1.out (Nat.le_refl _)) Q_xs.out Q_ys.out Q_i.out Q_ts.out).mono ?_
  rintro e w2 ⟨A_e, c_e, A_b, c_b, rfl, hq_e, hq_b, hb⟩
  have HB2 : Hid (Below w.heap.size w w2) := hid (HB1.out.trans (hb.mono HB1.out.size))
  have Q_xs := hid (sq_on Q_xs.out hb)
  have Q_ys := hid (sq_on Q_ys.out hb)
  have Q_cs := hid (sq_on Q_cs.out hb)
  have Q_ts := hid (sq_on Q_ts.out hb)
  have Q_i := hid (sq_on Q_i.out hb)
  have Q_e := hid hq_e
  have Q_b := hid hq_b
  clear hb hq_e hq_b HB1
  go_wp2
  go_ret3
  exact ⟨A_e, c_e, A_b, c_b, rfl, Q_e.out, Q_b.out, HB2.out⟩
set_option maxRecDepth 100000 in
set_option maxHeartbeats 4000000 in
theorem openlabel_ok : OpenLabelOk := fun A xs n c A' ys m c' s A2 cs n2 c2 A3 ts n3 c3 w hG hS_xs hS_ys hS_cs hS_ts hx hy hc ht hs hn hnm hn2 hn3 => by
  have HG := hid hG
  have Q_xs := hid hS_xs
  have Q_ys := hid hS_ys
  have Q_cs := hid hS_cs
  have Q_ts := hid hS_ts
  clear hG hS_xs hS_ys hS_cs hS_ts
  obtain ⟨I, hI⟩ : ∃ l, l = infoL (sby s) cs := ⟨_, rfl⟩
  obtain ⟨i, li⟩ : ∃ i, I.length = i := ⟨_, rfl⟩
  have lib : i ≤ 400 := by have h1 := infoL_length (sby s) cs; have h2 := sby_length s; rw [← li, hI]; omega
  rw [← hI]
  have KI : Hid (∀ (A0 : Option Addr) (c0 : Nat) (W : World), Sq W W.heap.size A0 c0 (bvs cs) → Calls Tryz.prog 45 #[.string s, .slice A0 n2 c0] W (ByN W i I)) := hid fun A0 c0 W h => by have h5 := infoOf_e s A0 cs n2 c0 W h hc ⟨by omega, by omega⟩; rw [← hI, li] at h5; exact h5
  obtain ⟨T, g, hR⟩ : ∃ T g, openR xs ys I ts [] = (T, g) := ⟨_, _, rfl⟩
  obtain ⟨t, hl⟩ : ∃ e, T.length = e := ⟨_, rfl⟩
  have KL : Hid (∀ (A0 : Option Addr) (c0 : Nat) (A1 : Option Addr) (c1 : Nat) (A2 : Option Addr) (c2 : Nat) (A3 : Option Addr) (c3 : Nat) (W : World), Glob W → Sq W W.heap.size A0 c0 (bvs xs) → Sq W W.heap.size A1 c1 (bvs ys) → Sq W W.heap.size A2 c2 (bvs I) → Sq W W.heap.size A3 c3 (bvs ts) → Calls Tryz.prog 18 #[.slice A0 n c0, .slice A1 m c1, .slice A2 i c2, .slice A3 n3 c3, .slice none 0 0] W (By1N W t T (g : Int))) := hid fun A0 c0 A1 c1 A2 c2 A3 c3 W hG h h' h2 h3 => by1_is (open_ok13 A0 xs n c0 A1 ys m c1 A2 I i c2 A3 ts n3 c3 none [] 0 0 W hG h h' h2 h3 Sq.nil hx hy li ht rfl hn hnm lib hn3 (by decide)) hR hl
  refine by1_to hR hl ?_
  clear hI li lib hR hl hx hy hc ht hs hn hnm hn2 hn3
  have HB0 : Hid (Below w.heap.size w w) := hid (Below.refl _ _)
  go_enter Tryz.func25, Tryz.ntmps25
  go_wp2_with fail
  refine (KI.out A2 c2 w Q_cs.out).mono ?_
  rintro e w1 ⟨A_i, c_i, rfl, hq_i, hb⟩
  have HB1 : Hid (Below w.heap.size w w1) := hid (HB0.out.trans (hb.mono HB0.out.size))
  have Q_xs := hid (sq_on Q_xs.out hb)
  have Q_ys := hid (sq_on Q_ys.out hb)
  have Q_cs := hid (sq_on Q_cs.out hb)
  have Q_ts := hid (sq_on Q_ts.out hb)
  have Q_i := hid hq_i
  clear hb hq_i HB0
  go_wp2_with fail
  refine (KL.out A c A' c' A_i c_i A3 c3 w1 (HG.out.below HB1.out (Nat.le_refl _)) Q_xs.out Q_ys.out Q_i.out Q_ts.out).mono ?_
  rintro e w2 ⟨A_t, c_t, rfl, hq_t, hb⟩
  have HB2 : Hid (Below w.heap.size w w2) := hid (HB1.out.trans (hb.mono HB1.out.size))
  have Q_xs := hid (sq_on Q_xs.out hb)
  have Q_ys := hid (sq_on Q_ys.out hb)
  have Q_cs := hid (sq_on Q_cs.out hb)
  have Q_ts := hid (sq_on Q_ts.out hb)
  have Q_i := hid (sq_on Q_i.out hb)
  have Q_t := hid hq_t
  clear hb hq_t HB1
  go_wp2
  go_ret2
  exact ⟨A_t, c_t, rfl, Q_t.out, HB2.out⟩
end Go.Proofs.YtpkmidaflnbobaaGreatDoor
end
