/-
  Package kdf: bytes of strings; Extract, Expand, Label, Secret, Ref.
-/
import Derived.Test.YtpdkpadpdkagoaaDoorKdf1
import Derived.Laws.IdiomStrings
namespace Go.Proofs.YtpdkpadpdkagoaaDoor
open Go.RowKit
set_option linter.unusedVariables false
set_option linter.unusedSimpArgs false

/-- The bytes of a string. -/
def sby (s : ByteArray) : List UInt8 := s.data.toList
theorem sby_length (s : ByteArray) : (sby s).length = s.size := by unfold sby; rw [Array.length_toList]; rfl
/-- The world behind '[]byte(s)'. -/
def strW (W : World) (s : ByteArray) : World := W.drew.alloc (.cells (bytesRow s (grownCap W s.size 0 U8)) U8 ((bytesRow s (grownCap W s.size 0 U8)).size, (bytesRow s (grownCap W s.size 0 U8)).size + 1))
theorem strW_size (W : World) (s : ByteArray) : (strW W s).heap.size = W.heap.size + 1 := by simp [strW]
theorem strW_below (W : World) (s : ByteArray) : Below W.heap.size W (strW W s) := (Below.refl _ _).drew.alloc (by simp) _
theorem strW_lie (W : World) (s : ByteArray) : Lie (strW W s) (strW W s).heap.size (some ⟨W.heap.size, 0, none⟩) (bvs (sby s)) := fun _ =>
  ⟨W.heap.size, 0, rfl, by rw [strW_size]; omega, fun j u hu => by
    unfold strW
    rw [Nat.zero_add, cell_of_row _ W.heap.size j _ _ _ (heap_alloc_new W.drew _)]
    have hj : j < s.data.size := by
      have := (List.getElem?_eq_some_iff.1 hu).1
      simpa [sby] using this
    rw [bytesRow, Array.getElem?_append_left (by simpa using hj)]
    simp only [bvs, sby, List.getElem?_map, Array.getElem?_toList] at hu
    simpa using hu⟩
theorem run_bytes (W : World) (s : ByteArray) : (convert 9 22 (.string s)).run Tryd.prog W = .ok (.slice (some ⟨W.heap.size, 0, none⟩) s.size (grownCap W s.size 0 U8)) (strW W s) :=
  run_bytes_of_string W 9 22 5 s Tryd.underlying9 Tryd.underlying22 Tryd.underlying5
/-- The text ahead of a label. -/
def mlsS (s : ByteArray) : ByteArray := ⟨#[77, 76, 83, 32, 49, 46, 48, 32]⟩ ++ s
theorem mlsS_size (s : ByteArray) : (mlsS s).size = s.size + 8 := by rw [mlsS, ByteArray.size_append, Nat.add_comm]; rfl
theorem mlsS_sby (s : ByteArray) : sby (mlsS s) = mlsB ++ sby s := by
  simp [sby, mlsS, mlsB, ByteArray.data_append]
theorem run_mls (W : World) (s : ByteArray) (h : s.size ≤ 1048576) : (Op.stringOp .add ⟨#[77, 76, 83, 32, 49, 46, 48, 32]⟩ s).run Tryd.prog W = .ok (.string (mlsS s)) W :=
  run_string_add_sum W _ _ (by have : (ByteArray.mk #[77, 76, 83, 32, 49, 46, 48, 32]).size = 8 := rfl; omega)

theorem Extract_any (A : Option Addr) (salt : List UInt8) (c : Nat) (A' : Option Addr) (secret : List UInt8) (c' : Nat) (w : World) (hA : Sq w w.heap.size A c (bvs salt)) (hA' : Sq w w.heap.size A' c' (bvs secret)) (hG : Glob w)
    (hn : salt.length ≤ 1152921504606846976) (hn2 : secret.length ≤ 1152921504606840000) :
    Calls Tryd.prog 8 #[.slice A salt.length c, .slice A' secret.length c'] w fun e w' => ∃ b, e = .returned (.slice (some ⟨b, 0, none⟩) 32 32) ∧ w'.heap[b]? = some (.cells (byA (macB salt secret)) A32 (0, 0)) ∧ w.heap.size ≤ b ∧ Below w.heap.size w w' := by
  have h := tags_any A salt c [(A', secret, c')] w hA (by intro p hp; rw [List.mem_singleton] at hp; subst hp; exact hA') hG hn (by simpa using hn2) (by simp)
  simp only [List.map_cons, List.map_nil, List.flatten_cons, List.flatten_nil, List.append_nil, List.length_cons, List.length_nil] at h
  have H := hid h
  clear h hA hA' hG
  go_enter Tryd.func8, Tryd.ntmps8
  go_wp2_with fail
  refine H.out.mono ?_
  rintro e w1 ⟨b, rfl, hbk, hbz, hb⟩
  go_wp2
  go_ret
  exact ⟨b, rfl, hbk, by omega, hb⟩

theorem Expand_ok (A : Option Addr) (key : List UInt8) (c : Nat) (A' : Option Addr) (info : List UInt8) (c' n : Nat) (w : World) (hA : Sq w w.heap.size A c (bvs key)) (hA' : Sq w w.heap.size A' c' (bvs info)) (hG : Glob w)
    (hn : n ≤ 8160) (hk : key.length ≤ 1152921504606846976) (hi : info.length ≤ 1000000000000) :
    Calls Tryd.prog 10 #[.slice A key.length c, .slice A' info.length c', .int .i64 (n : Int)] w fun e w' => ∃ v, e = .returned (.tuple #[v, .int .u8 0]) ∧ OwnB w' w.heap.size v (kdfB key info n) ∧ Below w.heap.size w w' := by
  have hc : canB (n : Int) = true := by unfold canB; simp; omega
  have H := hid (expanded_any A key c A' info c' n w hA hA' hG hn hk hi)
  clear hA hA' hG
  go_enter Tryd.func10, Tryd.ntmps10
  go_wp2_with fail
  refine (canExpand_any _ _).mono ?_
  rintro e w1 ⟨rfl, rfl⟩
  rw [hc]
  go_wp2_with fail
  refine H.out.mono ?_
  rintro e w2 ⟨v, rfl, ho, hb⟩
  go_wp2
  exact bodyPost_ret (v := .tuple #[v, .int .u8 0]) (by simp [results, Tryd.results10]) rfl ⟨v, rfl, ho, hb⟩
theorem Expand_bad (a b : Value) (n : Int) (w : World) (hc : canB n = false) :
    Calls Tryd.prog 10 #[a, b, .int .i64 n] w fun e w' => e = .returned (.tuple #[.slice none 0 0, .int .u8 1]) ∧ w = w' := by
  go_enter Tryd.func10, Tryd.ntmps10
  go_wp2_with fail
  refine (canExpand_any _ _).mono ?_
  rintro e w1 ⟨rfl, rfl⟩
  rw [hc]
  go_wp2
  exact bodyPost_ret (v := .tuple #[.slice none 0 0, .int .u8 1]) (by simp [results, Tryd.results10]) rfl ⟨rfl, rfl⟩

/-- PutVec with the lengths as they are spelled. -/
theorem PutVec_n (A : Option Addr) (xs : List UInt8) (n c : Nat) (A' : Option Addr) (ys : List UInt8) (m c' : Nat) (w : World) (hx : xs.length = n) (hy : ys.length = m) (hm : m < 1073741824) (hA : Lie w w.heap.size A (bvs xs)) (hA' : Lie w w.heap.size A' (bvs ys)) (hb : n + 1073741840 ≤ 140737488355328) :
    Calls Tryd.prog 25 #[.slice A n c, .slice A' m c'] w fun e w' => ∃ v, e = .returned v ∧ OwnB w' w.heap.size v (xs ++ vecBytes ys) ∧ Below w.heap.size w w' := by
  subst hx; subst hy
  exact PutVec_ok A xs c A' ys c' w hm hA hA' hb

theorem labelled_any (s : ByteArray) (A' : Option Addr) (ctx : List UInt8) (c' n : Nat) (w : World) (hs : s.size ≤ 1048576) (hA' : Lie w w.heap.size A' (bvs ctx)) (hl : ctx.length ≤ 1048576) (hn : n ≤ 8160) :
    Calls Tryd.prog 21 #[.string s, .slice A' ctx.length c', .int .i64 (n : Int)] w fun e w' => ∃ v, e = .returned v ∧ OwnB w' w.heap.size v (labB (sby s) ctx n) ∧ Below w.heap.size w w' := by
  have HN := PutNum_ok none [] 0 2 n w (by omega) (by omega) Lie.nil (by simp)
  simp only [List.length_nil, List.nil_append] at HN
  have HN := hid HN; have HA' := hid hA'
  clear hA'
  have hcv := run_bytes
  have hmls := fun W => run_mls W s hs
  go_enter Tryd.func21, Tryd.ntmps21
  go_wp2_with fail
  refine HN.out.mono ?_
  rintro e w1 ⟨v1, rfl, ho1, hb1⟩
  obtain ⟨A1, c1, rfl, hS1⟩ := own_sl ho1
  rw [beBytes_length]
  have HB1 := hid hb1; have HS1 := hid hS1.lie
  have hz1 : w.heap.size ≤ w1.heap.size := hb1.size
  clear ho1 hb1 hS1
  have hbs := strW_below w1 (mlsS s)
  have HV := hid (PutVec_n A1 (beBytes 2 n) 2 c1 (some ⟨w1.heap.size, 0, none⟩) (sby (mlsS s)) (mlsS s).size (grownCap w1 (mlsS s).size 0 U8) (strW w1 (mlsS s)) (by simp) (sby_length _) (by rw [mlsS_size]; omega) ((HS1.out.below hbs).more hbs.size) (strW_lie _ _) (by omega))
  rw [mlsS_sby] at HV
  have HB2 := hid (HB1.out.trans (hbs.mono hz1))
  clear hbs
  go_wp2_with fail
  refine HV.out.mono ?_
  rintro e w2 ⟨v2, rfl, ho2, hb2⟩
  obtain ⟨A2, c2, rfl, hS2⟩ := own_sl ho2
  obtain ⟨L, hL⟩ : ∃ L, L = (beBytes 2 n ++ vecBytes (mlsB ++ sby s)).length := ⟨_, rfl⟩
  rw [← hL]
  have hLl : L ≤ 2000000 := by
    have := vecBytes_le (mlsB ++ sby s)
    rw [List.length_append, sby_length, show mlsB.length = 8 from rfl] at this
    rw [hL, List.length_append, beBytes_length]; omega
  have hB2 : Below w.heap.size w w2 := HB2.out.trans (hb2.mono HB2.out.size)
  have HX := hid (PutVec_n A2 (beBytes 2 n ++ vecBytes (mlsB ++ sby s)) L c2 A' ctx ctx.length c' w2 hL.symm rfl (by omega) hS2.lie ((HA'.out.below hB2).more hB2.size) (by omega))
  have HB3 := hid hB2
  clear hL ho2 hb2 hS2 hB2 HV
  go_wp2_with fail
  refine HX.out.mono ?_
  rintro e w3 ⟨v3, rfl, ho3, hb3⟩
  have HO := hid (own_base ho3 HB3.out.size); have HBE := hid (HB3.out.trans (hb3.mono HB3.out.size))
  clear ho3 hb3
  go_wp2
  go_ret
  exact ⟨_, rfl, HO.out, HBE.out⟩

theorem Label_ok (A : Option Addr) (key : List UInt8) (c : Nat) (s : ByteArray) (A' : Option Addr) (ctx : List UInt8) (c' n : Nat) (w : World) (hA : Sq w w.heap.size A c (bvs key)) (hA' : Lie w w.heap.size A' (bvs ctx)) (hG : Glob w)
    (hn : n ≤ 8160) (hk : key.length ≤ 1152921504606846976) (hs : s.size ≤ 1048576) (hl : ctx.length ≤ 1048576) :
    Calls Tryd.prog 12 #[.slice A key.length c, .string s, .slice A' ctx.length c', .int .i64 (n : Int)] w fun e w' => ∃ v, e = .returned (.tuple #[v, .int .u8 0]) ∧ OwnB w' w.heap.size v (kdfB key (labB (sby s) ctx n) n) ∧ Below w.heap.size w w' := by
  have hc : canB (n : Int) = true := by unfold canB; simp; omega
  have hx1 : ¬ (1048576 : Int) < (s.size : Int) := by omega
  have hx1' : decide ((1048576 : Int) < (s.size : Int)) = false := by simpa using hx1
  have hx2 : ¬ (1048576 : Int) < (ctx.length : Int) := by omega
  have hx2' : decide ((1048576 : Int) < (ctx.length : Int)) = false := by simpa using hx2
  have H := hid (labelled_any s A' ctx c' n w hs hA' hl hn)
  have HA := hid hA; have HG := hid hG
  clear hA hA' hG
  go_enter Tryd.func12, Tryd.ntmps12
  go_wp2_with fail
  refine (canExpand_any _ _).mono ?_
  rintro e w1 ⟨rfl, rfl⟩
  rw [hc]
  go_wp2_with fail
  refine H.out.mono ?_
  rintro e w1 ⟨v1, rfl, ho1, hb1⟩
  obtain ⟨A1, c1, rfl, hS1⟩ := own_sl ho1
  have HX := hid (expanded_any A key c A1 (labB (sby s) ctx n) c1 n w1 ((HA.out.below hb1).more hb1.size) hS1.sq (HG.out.below hb1 (Nat.le_refl _)) hn hk (by have := labB_le (sby s) ctx n; rw [sby_length] at this; omega))
  have HB1 := hid hb1
  clear ho1 hb1 hS1
  go_wp2_with fail
  refine HX.out.mono ?_
  rintro e w2 ⟨v, rfl, ho, hb⟩
  have HO := hid (own_base ho HB1.out.size); have HBE := hid (HB1.out.trans (hb.mono HB1.out.size))
  clear ho hb
  go_wp2
  exact bodyPost_ret (v := .tuple #[v, .int .u8 0]) (by simp [results, Tryd.results12]) rfl ⟨v, rfl, HO.out, HBE.out⟩
theorem Label_bad (a s b : Value) (n : Int) (w : World) (hc : canB n = false) :
    Calls Tryd.prog 12 #[a, s, b, .int .i64 n] w fun e w' => e = .returned (.tuple #[.slice none 0 0, .int .u8 1]) ∧ w = w' := by
  go_enter Tryd.func12, Tryd.ntmps12
  go_wp2_with fail
  refine (canExpand_any _ _).mono ?_
  rintro e w1 ⟨rfl, rfl⟩
  rw [hc]
  go_wp2
  exact bodyPost_ret (v := .tuple #[.slice none 0 0, .int .u8 1]) (by simp [results, Tryd.results12]) rfl ⟨rfl, rfl⟩

theorem Secret_ok (A : Option Addr) (key : List UInt8) (c : Nat) (s : ByteArray) (w : World) (hA : Sq w w.heap.size A c (bvs key)) (hG : Glob w)
    (hk : key.length ≤ 1152921504606846976) (hs : s.size ≤ 1048576) :
    Calls Tryd.prog 14 #[.slice A key.length c, .string s] w fun e w' => ∃ v, e = .returned v ∧ OwnB w' w.heap.size v (kdfB key (labB (sby s) [] 32) 32) ∧ Below w.heap.size w w' := by
  have H := Label_ok A key c s none [] 0 32 w hA Lie.nil hG (by omega) hk hs (by simp)
  simp only [List.length_nil] at H
  have H := hid H
  clear hA hG
  go_enter Tryd.func14, Tryd.ntmps14
  go_wp2_with fail
  refine H.out.mono ?_
  rintro e w1 ⟨v1, rfl, ho1, hb1⟩
  go_wp2
  go_ret
  exact ⟨v1, rfl, ho1, hb1⟩

/-- The digest of two parts. -/
theorem of2_any (A1 : Option Addr) (x : List UInt8) (c1 n1 : Nat) (A2 : Option Addr) (y : List UInt8) (c2 n2 k : Nat) (w : World)
    (h1 : Sq w w.heap.size A1 c1 (bvs x)) (h2 : Sq w w.heap.size A2 c2 (bvs y)) (hG : Glob w) (e1 : x.length = n1) (e2 : y.length = n2) (hk : w.heap.size = k) (hl : n1 + n2 ≤ 1152921504606840000) :
    Calls Tryd.prog 24 #[.slice (some ⟨k, 0, none⟩) 2 2] (w.alloc (.cells #[.slice A1 n1 c1, .slice A2 n2 c2] 22))
      (fun e W' => ∃ b, e = .returned (.slice (some ⟨b, 0, none⟩) 32 32) ∧ W'.heap[b]? = some (.cells (byA (shaB (x ++ y))) A32 (0, 0)) ∧ w.heap.size < b ∧ Below w.heap.size w W') := by
  subst e1; subst e2; subst hk
  have h := ofs_any [(A1, x, c1), (A2, y, c2)] w (by
    intro p hp
    rcases List.mem_cons.1 hp with rfl | hp
    · exact h1
    rw [List.mem_singleton] at hp
    subst hp
    exact h2) hG (by
      simp only [List.map_cons, List.map_nil, List.flatten_cons, List.flatten_nil, List.append_nil, List.length_append]
      omega) (by simp)
  simp only [List.map_cons, List.map_nil, List.flatten_cons, List.flatten_nil, List.append_nil, List.length_cons, List.length_nil] at h
  exact h

theorem Ref_ok (s : ByteArray) (A' : Option Addr) (b : List UInt8) (c' : Nat) (w : World) (hs : s.size ≤ 1048576) (hA' : Lie w w.heap.size A' (bvs b)) (hG : Glob w) (hl : b.length ≤ 1048576) :
    Calls Tryd.prog 15 #[.string s, .slice A' b.length c'] w fun e w' => ∃ g, e = .returned (.slice (some ⟨g, 0, none⟩) 32 32) ∧ w'.heap[g]? = some (.cells (byA (refB (sby s) b)) A32 (0, 0)) ∧ w.heap.size ≤ g ∧ Below w.heap.size w w' := by
  have HA' := hid hA'; have HG := hid hG
  clear hA' hG
  have hcv := run_bytes
  have hbs := strW_below w s
  have HV := PutVec_n none [] 0 0 (some ⟨w.heap.size, 0, none⟩) (sby s) s.size (grownCap w s.size 0 U8) (strW w s) rfl (sby_length _) (by omega) Lie.nil (strW_lie _ _) (by omega)
  rw [List.nil_append] at HV
  have HV := hid HV; have HB := hid hbs
  clear hbs
  go_enter Tryd.func15, Tryd.ntmps15
  go_wp2_with fail
  refine HV.out.mono ?_
  rintro e w1 ⟨v1, rfl, ho1, hb1⟩
  obtain ⟨A1, c1, rfl, hS1⟩ := own_sl ho1
  obtain ⟨L1, hL1⟩ : ∃ L, L = (vecBytes (sby s)).length := ⟨_, rfl⟩
  rw [← hL1]
  have hl1 : L1 ≤ 1048580 := by have := vecBytes_le (sby s); rw [sby_length] at this; omega
  have hB1 : Below w.heap.size w w1 := HB.out.trans (hb1.mono HB.out.size)
  have HX := PutVec_n none [] 0 0 A' b b.length c' w1 rfl rfl (by omega) Lie.nil ((HA'.out.below hB1).more hB1.size) (by omega)
  rw [List.nil_append] at HX
  have HX := hid HX; have HB1 := hid hB1; have HS1 := hid hS1.sq; have HL1 := hid hL1.symm
  clear ho1 hb1 hS1 hL1 hB1 HV HB
  go_wp2_with fail
  refine HX.out.mono ?_
  rintro e w2 ⟨v2, rfl, ho2, hb2⟩
  obtain ⟨A2, c2, rfl, hS2⟩ := own_sl ho2
  obtain ⟨L2, hL2⟩ : ∃ L, L = (vecBytes b).length := ⟨_, rfl⟩
  rw [← hL2]
  have hl2 : L2 ≤ 1048580 := by have := vecBytes_le b; omega
  have hB2 : Below w.heap.size w w2 := HB1.out.trans (hb2.mono HB1.out.size)
  have HO := hid (of2_any A1 (vecBytes (sby s)) c1 L1 A2 (vecBytes b) c2 L2 w2.heap.size w2 ((HS1.out.below hb2).more hb2.size) hS2.sq (HG.out.below hB2 (Nat.le_refl _)) HL1.out hL2.symm rfl (by omega))
  have HB2 := hid hB2
  clear ho2 hb2 hS2 hL2 hB2 HX HS1
  go_wp2_with fail
  refine HO.out.mono ?_
  rintro e w3 ⟨g, rfl, hg, hgz, hb3⟩
  have HBE := hid (HB2.out.trans (hb3.mono HB2.out.size))
  have hz2 := HB2.out.size
  clear hb3
  go_wp2
  go_ret
  exact ⟨g, rfl, hg, by omega, HBE.out⟩
end Go.Proofs.YtpdkpadpdkagoaaDoor
