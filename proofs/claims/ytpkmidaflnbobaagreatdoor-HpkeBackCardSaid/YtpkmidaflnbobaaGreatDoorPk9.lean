/-
  Texts of this claim in one file: KdfP, Kdf1, Kdf2.
-/
import Derived.Test.YtpkmidaflnbobaaGreatDoorPk7
import Derived.Test.YtpkmidaflnbobaaGreatDoorPk8
import Derived.Test.YtpkmidaflnbobaaGreatDoorPk41
import Derived.Laws.IdiomStrings
section
namespace Go.Proofs.YtpkmidaflnbobaaGreatDoor
set_option linter.unusedVariables false
set_option linter.unusedSimpArgs false
/-- The i-th block: nothing at first. -/
def kBlk (key info : List UInt8) : Nat → List UInt8
  | 0 => []
  | i + 1 => macB key (kBlk key info i ++ (info ++ [UInt8.ofNat (i + 1)]))
/-- The first i blocks. -/
def kAll (key info : List UInt8) : Nat → List UInt8
  | 0 => []
  | i + 1 => kAll key info i ++ kBlk key info (i + 1)
/-- Expanded to n bytes. -/
def kdfB (key info : List UInt8) (n : Nat) : List UInt8 := (kAll key info ((n + 31) / 32)).take n
theorem kBlk_length (key info : List UInt8) (i : Nat) : (kBlk key info (i + 1)).length = 32 := macB_length _ _
theorem kBlk_le (key info : List UInt8) (i : Nat) : (kBlk key info i).length ≤ 32 := by
  cases i with
  | zero => simp [kBlk]
  | succ i => rw [kBlk_length]; omega
theorem kAll_length (key info : List UInt8) (i : Nat) : (kAll key info i).length = 32 * i := by
  induction i with
  | zero => rfl
  | succ i ih => rw [kAll, List.length_append, ih, kBlk_length]; omega
theorem kdfB_length (key info : List UInt8) (n : Nat) : (kdfB key info n).length = n := by
  rw [kdfB, List.length_take, kAll_length]; omega
theorem kAll_prefix (key info : List UInt8) (i j : Nat) (h : i ≤ j) : (kAll key info j).take (32 * i) = kAll key info i := by
  obtain ⟨d, rfl⟩ := Nat.exists_eq_add_of_le h
  clear h
  induction d with
  | zero => rw [Nat.add_zero, List.take_of_length_le (by rw [kAll_length]; omega)]
  | succ d ih =>
    rw [← Nat.add_assoc, kAll, List.take_append_of_le_length (by rw [kAll_length]; omega)]
    exact ih
/-- Whatever number of blocks that is enough. -/
theorem kAll_cut (key info : List UInt8) (i n : Nat) (h : n ≤ 32 * i) : (kAll key info i).take n = kdfB key info n := by
  rw [kdfB, ← kAll_prefix key info ((n + 31) / 32) i (by omega), List.take_take, Nat.min_eq_left (by omega)]
/-- A round of the program: the bytes told, and as many of the next block as are missing. -/
theorem kAll_round (key info : List UInt8) (i n : Nat) (h : 32 * i < n) :
    (kAll key info i).take n ++ (kBlk key info (i + 1)).take (min 32 (n - 32 * i)) = (kAll key info (i + 1)).take n := by
  rw [kAll, List.take_append, kAll_length]
  congr 1
  by_cases h32 : n - 32 * i ≤ 32
  · rw [Nat.min_eq_right h32]
  · rw [Nat.min_eq_left (by omega), List.take_of_length_le (by rw [kBlk_length]; omega), List.take_of_length_le (by rw [kBlk_length]; omega)]
def mlsB : List UInt8 := [77, 76, 83, 32, 49, 46, 48, 32]
theorem vecBytes_length (v : List UInt8) : (vecBytes v).length = lenSize v.length + v.length := by rw [vecBytes, List.length_append, lenBytes_length]
theorem vecBytes_le (v : List UInt8) : (vecBytes v).length ≤ v.length + 4 := by have := lenSize_le v.length; rw [vecBytes_length]; omega
end Go.Proofs.YtpkmidaflnbobaaGreatDoor
end
section
namespace Go.Proofs.YtpkmidaflnbobaaGreatDoor
open Go.RowKit
set_option linter.unusedVariables false
set_option linter.unusedSimpArgs false
def canB (n : Int) : Bool := decide (0 ≤ n) && decide (n ≤ 8160)
theorem canExpand_any (n : Int) (w : World) :
    Calls Tryz.prog 74 #[.int .i64 n] w fun e w' => e = .returned (.bool (canB n)) ∧ w = w' := by
  by_cases h0 : 0 ≤ n
  · by_cases h1 : n ≤ 8160
    · have hd : decide (0 ≤ n) = true := by simpa using h0
      have hd1 : decide (n ≤ 8160) = true := by simpa using h1
      rw [canB, hd, hd1]
      go_enter Tryz.func74, Tryz.ntmps74
      go_wp2
      go_ret
      exact ⟨rfl, rfl⟩
    · have hd : decide (0 ≤ n) = true := by simpa using h0
      have hd1 : decide (n ≤ 8160) = false := by simpa using h1
      rw [canB, hd, hd1]
      go_enter Tryz.func74, Tryz.ntmps74
      go_wp2
      go_ret
      exact ⟨rfl, rfl⟩
  · have hd : decide (0 ≤ n) = false := by simpa using h0
    rw [canB, hd, Bool.false_and]
    go_enter Tryz.func74, Tryz.ntmps74
    go_wp2
    go_ret
    exact ⟨rfl, rfl⟩
/-- What holds at the label, behind i blocks. -/
def ExpAt (w : World) (key info : List UInt8) (n i : Nat) (Av : Option Addr) (Lv cv : Nat) (Ab : Option Addr) (Lb cb : Nat) (w' : World) : Prop :=
  Lv = min n (32 * i) ∧ OwnB w' w.heap.size (.slice Av Lv cv) ((kAll key info i).take n) ∧ Lb = (kBlk key info i).length ∧ Sq w' w'.heap.size Ab cb (bvs (kBlk key info i)) ∧ i ≤ 255 ∧ Below w.heap.size w w'
/-- The tag of three parts. -/
theorem tag3_any (A : Option Addr) (key : List UInt8) (c : Nat) (A1 : Option Addr) (x : List UInt8) (c1 n1 : Nat) (A2 : Option Addr) (y : List UInt8) (c2 n2 : Nat) (A3 : Option Addr) (z : List UInt8) (c3 n3 k : Nat) (w : World)
    (hA : Sq w w.heap.size A c (bvs key)) (h1 : Sq w w.heap.size A1 c1 (bvs x)) (h2 : Sq w w.heap.size A2 c2 (bvs y)) (h3 : Sq w w.heap.size A3 c3 (bvs z)) (hG : Glob w) (hn : key.length ≤ 1152921504606846976)
    (e1 : x.length = n1) (e2 : y.length = n2) (e3 : z.length = n3) (hk : w.heap.size = k) (hl : n1 + n2 + n3 ≤ 1152921504606840000) :
    Calls Tryz.prog 68 #[.slice A key.length c, .slice (some ⟨k, 0, none⟩) 3 3] (w.alloc (.cells #[.slice A1 n1 c1, .slice A2 n2 c2, .slice A3 n3 c3] 22))
      (fun e W' => ∃ b, e = .returned (.slice (some ⟨b, 0, none⟩) 32 32) ∧ W'.heap[b]? = some (.cells (byA (macB key (x ++ (y ++ z)))) A32 (0, 0)) ∧ w.heap.size < b ∧ Below w.heap.size w W') := by
  subst e1; subst e2; subst e3; subst hk
  have h := tags_any A key c [(A1, x, c1), (A2, y, c2), (A3, z, c3)] w hA (by
    intro p hp
    rcases List.mem_cons.1 hp with rfl | hp
    · exact h1
    rcases List.mem_cons.1 hp with rfl | hp
    · exact h2
    rw [List.mem_singleton] at hp
    subst hp
    exact h3) hG hn (by
      simp only [List.map_cons, List.map_nil, List.flatten_cons, List.flatten_nil, List.append_nil, List.length_append]
      omega) (by simp)
  simp only [List.map_cons, List.map_nil, List.flatten_cons, List.flatten_nil, List.append_nil, List.length_cons, List.length_nil] at h
  exact h
set_option maxRecDepth 100000 in
set_option maxHeartbeats 800000 in
theorem expanded_any (A : Option Addr) (key : List UInt8) (c : Nat) (A' : Option Addr) (info : List UInt8) (c' n : Nat) (w : World) (hA : Sq w w.heap.size A c (bvs key)) (hA' : Sq w w.heap.size A' c' (bvs info)) (hG : Glob w)
    (hn : n ≤ 8160) (hk : key.length ≤ 1152921504606846976) (hi : info.length ≤ 1000000000000) :
    Calls Tryz.prog 75 #[.slice A key.length c, .slice A' info.length c', .int .i64 (n : Int)] w fun e w' => ∃ v, e = .returned v ∧ OwnB w' w.heap.size v (kdfB key info n) ∧ Below w.heap.size w w' := by
  obtain ⟨i0, hi0, hz0, hz1, hz2⟩ := info_parts infoU8
  have HA := hid hA; have HA' := hid hA'; have HG := hid hG
  clear hA hA' hG
  go_enter Tryz.func75, Tryz.ntmps75
  go_wp2
  refine wp_scope_at 0 (fun a' w' => ∃ (i : Nat) (Av : Option Addr) (Lv cv : Nat) (Ab : Option Addr) (Lb cb : Nat) (u10 u11 u12 u13 u14 u15 u16 u17 u18 u19 u20 u21 u22 u23 u24 u25 u26 u27 u28 u29 u30 u31 u32 u33 u34 u35 u36 : Value), a' = { tmps := (.slice A key.length c :: .slice A' info.length c' :: .int .i64 (n : Int) :: undef :: undef :: undef :: .slice none 0 0 :: .slice Av Lv cv :: .slice Ab Lb cb :: .int .u8 (((i + 1) % 256 : Nat) : Int) :: u10 :: u11 :: u12 :: u13 :: u14 :: u15 :: u16 :: u17 :: u18 :: u19 :: u20 :: u21 :: u22 :: u23 :: u24 :: u25 :: u26 :: u27 :: u28 :: u29 :: u30 :: u31 :: u32 :: u33 :: u34 :: u35 :: u36 :: []).toArray, defers := [] } ∧ ExpAt w key info n i Av Lv cv Ab Lb cb w') (fun a' _ => n - sliceLen (a'.tmps.getD 7 undef)) rfl ?_ ?_
  · intro Qj hQr hJ
    go_wp2_with (at_make; refine wpList_make_own _ rfl _ _ 22 rfl w.heap.size 5 i0 (.int .u8 0) 1 Tryz.underlying22 hi0 hz0 hz1 _ _ _ n rfl rfl ?c1 ?c2 ?c3 (Nat.le_refl _) ?_)
    case c1 => simp
    case c2 => first | omega | (rw [hz2]; omega) | (simp [hz2]; omega)
    case c3 => unfold maxLen; omega
    intro w1 hown hg
    have hB1 : Below w.heap.size w w1 := (Below.refl _ _).grown hg (Nat.le_refl _) (fun _ h => by cases h)
    have HOWN := hid hown; have HB1 := hid hB1
    clear hown hg hB1
    go_wp2
    refine wp_label ?_
    rename_i K hK
    refine hK _ _ (hJ _ _ ⟨0, _, 0, _, none, 0, 0, _, _, _, _, _, _, _, _, _, _, _, _, _, _, _, _, _, _, _, _, _, _, _, _, _, _, _, rfl, ?_⟩)
    exact ⟨by simp, by simpa [OwnB, kAll, bvs] using HOWN.out, rfl, Sq.nil, by omega, HB1.out⟩
  · rintro a' w' ⟨i, Av, Lv, cv, Ab, Lb, cb, u10, u11, u12, u13, u14, u15, u16, u17, u18, u19, u20, u21, u22, u23, u24, u25, u26, u27, u28, u29, u30, u31, u32, u33, u34, u35, u36, rfl, hE⟩
    obtain ⟨hL, ho, hLb, hS, hi255, hb⟩ := hE
    have HO := hid ho; have HS := hid hS; have HB := hid hb; have HL := hid hL; have HLB := hid hLb
    clear hL ho hLb hS hb
    by_cases hlt : Lv < n
    · have hx : (Lv : Int) < (n : Int) := by omega
      have hLv : Lv = 32 * i := by have := HL.out; omega
      obtain ⟨m, hm⟩ : ∃ m, m = min 32 (n - 32 * i) := ⟨_, rfl⟩
      have hm32 : m ≤ 32 := by omega
      obtain ⟨cnt, hcnt⟩ : ∃ x : UInt8, x = UInt8.ofNat (i + 1) := ⟨_, rfl⟩
      have hcv : (((i + 1) % 256 : Nat) : Int) = (cnt.toNat : Int) := by rw [hcnt, UInt8.toNat_ofNat']
      rw [hcv]
      obtain ⟨w1, hw1⟩ : ∃ w1, w1 = w'.alloc (.cells #[.int .u8 (cnt.toNat : Int)] 5) := ⟨_, rfl⟩
      have hb1 : Below w'.heap.size w' w1 := by rw [hw1]; exact (Below.refl _ _).alloc (Nat.le_refl _) _
      have hl1 : Lie w1 w1.heap.size (some ⟨w'.heap.size, 0, none⟩) (bvs [cnt]) := by rw [hw1]; exact (Lie.new1 _ _ _).more (by simp)
      have hz1 : w1.heap.size = w'.heap.size + 1 := by rw [hw1]; simp
      have hB1 : Below w.heap.size w w1 := HB.out.trans (hb1.mono HB.out.size)
      have hkb : macB key (kBlk key info i ++ (info ++ [cnt])) = kBlk key info (i + 1) := by rw [hcnt]; rfl
      have HT := hid (tag3_any A key c Ab (kBlk key info i) cb Lb A' info c' info.length (some ⟨w'.heap.size, 0, none⟩) [cnt] 1 1 (w'.heap.size + 1) w1 ((HA.out.below hB1).more hB1.size) ((HS.out.below hb1).more hb1.size) ((HA'.out.below hB1).more hB1.size)
        (hl1.sq (show 1 ≤ 1 by omega) (show 1 ≤ 9223372036854775807 by omega)) (HG.out.below hB1 (Nat.le_refl _)) hk HLB.out.symm rfl rfl hz1 (by
          have := kBlk_le key info i
          have := HLB.out
          omega))
      rw [hkb, hw1] at HT
      have hlm : (Lv : Int) = ((32 * i : Nat) : Int) := by rw [hLv]
      have hsubw : IntKind.i64.wrap ((n : Int) - (Lv : Int)) = ((n - 32 * i : Nat) : Int) := by rw [IntWalk.i64_in _ (by omega)]; omega
      have hsub : (n : Int) - (Lv : Int) = ((n - 32 * i : Nat) : Int) := by omega
      have hmin : (if ((n - 32 * i : Nat) : Int) < (32 : Int) then ((n - 32 * i : Nat) : Int) else (32 : Int)) = (m : Int) := by split <;> omega
      have hmi : (m : Int) ≤ 32 := by omega
      have HLV := hid hLv
      obtain ⟨d, hd⟩ : ∃ d, d = n - 32 * i := ⟨_, rfl⟩
      rw [← hd] at hm hsubw hsub hmin
      have HD := hid hd
      clear hd
      clear hlm hLv
      have HB1 := hid hB1; have HM := hid hm; have HC := hid hcnt
      clear hb1 hl1 hB1 hcnt hcv hm hkb hw1
      go_wp2_with fail
      refine HT.out.mono ?_
      rintro e w2 ⟨b, rfl, hbk, hbz, hb2⟩
      have hL2 : Lie w2 w2.heap.size (some ⟨b, 0, none⟩) (bvs ((kBlk key info (i + 1)).take m)) := by
        have := (lie_block hbk).take m
        simpa [bvs, List.map_take] using this
      have hB2 : Below w.heap.size w w2 := HB.out.trans ((((Below.refl _ _).alloc (Nat.le_refl _) _).trans (hb2.mono (by simp))).mono HB.out.size)
      have hb02 : Below w'.heap.size w' w2 := ((Below.refl _ _).alloc (Nat.le_refl _) _).trans (hb2.mono (by simp))
      have hO2 : OwnB w2 w.heap.size (.slice Av Lv cv) ((kAll key info i).take n) := World.ownsRow.kept HO.out (grown_of_below hb02) (Classical.em _)
      have HL2 := hid hL2; have HB2 := hid hB2; have HO2 := hid hO2; have HBK := hid hbk
      clear hL2 hB2 hb02 hO2 hbk hb2 HT
      have hbt : b < w2.heap.size := block_lt HBK.out
      have hsz2 : w.heap.size ≤ w2.heap.size := HB2.out.size
      have hL := HL.out
      have HTL : Hid (((kAll key info i).take n).length = Lv) := hid (by rw [List.length_take, kAll_length]; omega)
      have HOW : Hid (w2.ownsRow w.heap.size 5 1 (.slice Av Lv cv) Lv (bvs ((kAll key info i).take n))) := hid (by have h := HO2.out; unfold OwnB at h; rwa [HTL.out] at h)
      have HML : Hid ((bvs ((kBlk key info (i + 1)).take m)).length = m) := hid (by rw [bvs_length, List.length_take, kBlk_length]; omega)
      clear hL hsubw
      go_wp2_with (at_builtin; refine wpList_append_lie rfl (.tmp 23) (.tmp 32) 22 rfl w.heap.size 5 (.int .u8 0) 1 Tryz.underlying22 infoU8 rfl rfl HOW.out HML.out rfl HL2.out (bvs_one _) ?e1 ?e2 ?e3 ?_)
      case e1 => unfold maxLen; omega
      case e2 => omega
      case e3 => exact hsz2
      intro v3 w3 hown3 hg3 hat3
      have hr := kAll_round key info i n (by have := HLV.out; omega)
      have hO3 : OwnB w3 w.heap.size v3 ((kAll key info (i + 1)).take n) := by
        have hl : ((kAll key info (i + 1)).take n).length = Lv + m := by rw [← hr, List.length_append, HTL.out, List.length_take, kBlk_length]; have := HM.out; have := HLV.out; omega
        unfold OwnB
        rw [hl, ← hr, show min 32 (n - 32 * i) = m by rw [HM.out, HD.out], bvs_append]
        exact hown3
      obtain ⟨A3, c3, hv3, _⟩ := own_sl hown3
      subst hv3
      have hB3 : Below w.heap.size w w3 := HB2.out.grown hg3 HB2.out.size (fun q h => own_lt HOW.out q h)
      have hS3 : Sq w3 w3.heap.size (some ⟨b, 0, none⟩) 32 (bvs (kBlk key info (i + 1))) := by
        have h1 : w3.heap[b]? = some (.cells (byA (kBlk key info (i + 1))) A32 (0, 0)) := (hg3.block b hbt (fun e => by
          have := (World.ownsRow.lt HO.out b e.symm).2
          rw [World.size_alloc] at hbz
          omega)).trans HBK.out
        exact (lie_block h1).sq (by rw [bvs_length, kBlk_length]; omega) (by omega)
      have hc8 : ((cnt.toNat : Int) + 1) % 256 = (((i + 1 + 1) % 256 : Nat) : Int) := by rw [HC.out, UInt8.toNat_ofNat']; omega
      have hw8 : IntKind.u8.wrap ((cnt.toNat : Int) + 1) = (((i + 1 + 1) % 256 : Nat) : Int) := by rw [IntKind.wrap_u8, hc8]
      have HO3 := hid hO3; have HB3 := hid hB3; have HS3 := hid hS3
      clear hr hO3 hown3 hg3 hat3 hB3 hS3
      go_wp2
      go_step3
      exact ⟨rfl, ⟨i + 1, A3, Lv + m, c3, some ⟨b, 0, none⟩, 32, 32, _, _, _, _, _, _, _, _, _, _, _, _, _, _, _, _, _, _, _, _, _, _, _, _, _, _, _, rfl, ⟨by have := HM.out; have := HLV.out; have := HD.out; omega, HO3.out, (kBlk_length _ _ _).symm, HS3.out, by have := HLV.out; omega, HB3.out⟩⟩, by simp [sliceLen, Act.put]; have := HM.out; have := HLV.out; have := HD.out; omega⟩
    · have hx : ¬ (Lv : Int) < (n : Int) := by omega
      go_wp2
      simp only [Exit.jump]
      go_ret
      have hL := HL.out
      refine ⟨_, rfl, ?_, HB.out⟩
      rw [← kAll_cut key info i n (by omega)]
      exact HO.out
end Go.Proofs.YtpkmidaflnbobaaGreatDoor
end
section
namespace Go.Proofs.YtpkmidaflnbobaaGreatDoor
open Go.RowKit
set_option linter.unusedVariables false
set_option linter.unusedSimpArgs false
/-- The bytes of a string. -/
def sby (s : ByteArray) : List UInt8 := s.data.toList
theorem sby_length (s : ByteArray) : (sby s).length = s.size := by unfold sby; rw [Array.length_toList]; rfl
/-- The world behind '[]byte(s)'. -/
def strW (W : World) (s : ByteArray) : World := W.drew.alloc (.cells (bytesRow s (grownCap W s.size 0 U8)) U8 ((bytesRow s (grownCap W s.size 0 U8)).size, (bytesRow s (grownCap W s.size 0 U8)).size + 1))
theorem strW_size (W : World) (s : ByteArray) : (strW W s).heap.size = W.heap.size + 1 := by simp [strW]
theorem strW_below (W : World) (s : ByteArray) : Below W.heap.size W (strW W s) := (Below.refl _ _).drew.alloc (by simp) _
theorem strW_lie (W : World) (s : ByteArray) : Lie (strW W s) (strW W s).heap.size (some ⟨W.heap.size, 0, none⟩) (bvs (sby s)) := fun _ =>
  ⟨W.heap.size, 0, rfl, by rw [strW_size]; omega, fun j u hu => by
    unfold strW
    rw [Nat.zero_add, cell_of_row _ W.heap.size j _ _ _ (heap_alloc_new W.drew _)]
    have hj : j < s.data.size := by
      have := (List.getElem?_eq_some_iff.1 hu).1
      simpa [sby] using this
    rw [bytesRow, Array.getElem?_append_left (by simpa using hj)]
    simp only [bvs, sby, List.getElem?_map, Array.getElem?_toList] at hu
    simpa using hu⟩
theorem run_bytes (W : World) (s : ByteArray) : (convert 9 22 (.string s)).run Tryz.prog W = .ok (.slice (some ⟨W.heap.size, 0, none⟩) s.size (grownCap W s.size 0 U8)) (strW W s) :=
  run_bytes_of_string W 9 22 5 s Tryz.underlying9 Tryz.underlying22 Tryz.underlying5
/-- The text ahead of a label. -/
def mlsS (s : ByteArray) : ByteArray := ⟨#[77, 76, 83, 32, 49, 46, 48, 32]⟩ ++ s
theorem mlsS_size (s : ByteArray) : (mlsS s).size = s.size + 8 := by rw [mlsS, ByteArray.size_append, Nat.add_comm]; rfl
theorem mlsS_sby (s : ByteArray) : sby (mlsS s) = mlsB ++ sby s := by
  simp [sby, mlsS, mlsB, ByteArray.data_append]
theorem run_mls (W : World) (s : ByteArray) (h : s.size ≤ 1048576) : (Op.stringOp .add ⟨#[77, 76, 83, 32, 49, 46, 48, 32]⟩ s).run Tryz.prog W = .ok (.string (mlsS s)) W :=
  run_string_add_sum W _ _ (by have : (ByteArray.mk #[77, 76, 83, 32, 49, 46, 48, 32]).size = 8 := rfl; omega)
theorem Extract_any (A : Option Addr) (salt : List UInt8) (c : Nat) (A' : Option Addr) (secret : List UInt8) (c' : Nat) (w : World) (hA : Sq w w.heap.size A c (bvs salt)) (hA' : Sq w w.heap.size A' c' (bvs secret)) (hG : Glob w)
    (hn : salt.length ≤ 1152921504606846976) (hn2 : secret.length ≤ 1152921504606840000) :
    Calls Tryz.prog 46 #[.slice A salt.length c, .slice A' secret.length c'] w fun e w' => ∃ b, e = .returned (.slice (some ⟨b, 0, none⟩) 32 32) ∧ w'.heap[b]? = some (.cells (byA (macB salt secret)) A32 (0, 0)) ∧ w.heap.size ≤ b ∧ Below w.heap.size w w' := by
  have h := tags_any A salt c [(A', secret, c')] w hA (by intro p hp; rw [List.mem_singleton] at hp; subst hp; exact hA') hG hn (by simpa using hn2) (by simp)
  simp only [List.map_cons, List.map_nil, List.flatten_cons, List.flatten_nil, List.append_nil, List.length_cons, List.length_nil] at h
  have H := hid h
  clear h hA hA' hG
  go_enter Tryz.func46, Tryz.ntmps46
  go_wp2_with fail
  refine H.out.mono ?_
  rintro e w1 ⟨b, rfl, hbk, hbz, hb⟩
  go_wp2
  go_ret
  exact ⟨b, rfl, hbk, by omega, hb⟩
theorem Expand_ok (A : Option Addr) (key : List UInt8) (c : Nat) (A' : Option Addr) (info : List UInt8) (c' n : Nat) (w : World) (hA : Sq w w.heap.size A c (bvs key)) (hA' : Sq w w.heap.size A' c' (bvs info)) (hG : Glob w)
    (hn : n ≤ 8160) (hk : key.length ≤ 1152921504606846976) (hi : info.length ≤ 1000000000000) :
    Calls Tryz.prog 50 #[.slice A key.length c, .slice A' info.length c', .int .i64 (n : Int)] w fun e w' => ∃ v, e = .returned (.tuple #[v, .int .u8 0]) ∧ OwnB w' w.heap.size v (kdfB key info n) ∧ Below w.heap.size w w' := by
  have hc : canB (n : Int) = true := by unfold canB; simp; omega
  have H := hid (expanded_any A key c A' info c' n w hA hA' hG hn hk hi)
  clear hA hA' hG
  go_enter Tryz.func50, Tryz.ntmps50
  go_wp2_with fail
  refine (canExpand_any _ _).mono ?_
  rintro e w1 ⟨rfl, rfl⟩
  rw [hc]
  go_wp2_with fail
  refine H.out.mono ?_
  rintro e w2 ⟨v, rfl, ho, hb⟩
  go_wp2
  exact bodyPost_ret (v := .tuple #[v, .int .u8 0]) (by simp [results, Tryz.results50]) rfl ⟨v, rfl, ho, hb⟩
/-- PutVec with the lengths as they are spelled. -/
theorem PutVec_n (A : Option Addr) (xs : List UInt8) (n c : Nat) (A' : Option Addr) (ys : List UInt8) (m c' : Nat) (w : World) (hx : xs.length = n) (hy : ys.length = m) (hm : m < 1073741824) (hA : Lie w w.heap.size A (bvs xs)) (hA' : Lie w w.heap.size A' (bvs ys)) (hb : n + 1073741840 ≤ 140737488355328) :
    Calls Tryz.prog 67 #[.slice A n c, .slice A' m c'] w fun e w' => ∃ v, e = .returned v ∧ OwnB w' w.heap.size v (xs ++ vecBytes ys) ∧ Below w.heap.size w w' := by
  subst hx; subst hy
  exact PutVec_ok A xs c A' ys c' w hm hA hA' hb
end Go.Proofs.YtpkmidaflnbobaaGreatDoor
end
