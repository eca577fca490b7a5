/-
  The document's own digest: of any bytes, by any beginnings and constants.
-/
import Derived.Test.YtokggppfobbblaaDoorRef02h
namespace Go.Proofs.YtokggppfobbblaaDoor
open Go.RowKit
set_option linter.unusedVariables false
set_option linter.unusedSimpArgs false

/-- The digest by any beginnings and constants. -/
def shaBy (K : List Nat) (s : St) (all : List UInt8) : List UInt8 := (blocksN K ((padN all all.length (beBytes 8 (8 * all.length))).length / 64) s (padN all all.length (beBytes 8 (8 * all.length)))).bytes
theorem shaBy_std (all : List UInt8) : shaBy kTab iv all = shaB all := (shaB_whole all).symm
theorem shaBy_length (K : List Nat) (s : St) (all : List UInt8) : (shaBy K s all).length = 32 := rfl

set_option maxRecDepth 100000 in
set_option maxHeartbeats 4000000 in
theorem sum_any (A : Option Addr) (all : List UInt8) (c : Nat) (A1 A2 : Option Addr) (c1 c2 : Nat) (K : List Nat) (s : St) (w : World) (hs : s.ok) (hK : K.length = 64) (hKl : ∀ k, K.getD k 0 < 4294967296) (hn : all.length ≤ 1099511627776) (hA : Sq w w.heap.size A c (bvs all)) (h1 : Sq w w.heap.size A1 c1 (uvs s.list)) (h2 : Sq w w.heap.size A2 c2 (uvs K)) :
    Calls Tryd.prog 27 #[.slice A all.length c, .slice A1 8 c1, .slice A2 64 c2] w fun e w' => ∃ v, e = .returned v ∧ OwnB w' w.heap.size v (shaBy K s all) ∧ Below w.heap.size w w' := by
  have HA := hid hA; have H1 := hid h1; have H2 := hid h2
  have hl1 : Lie (w.alloc (.cells #[] 52)) w.heap.size A1 (uvs s.list) := h1.lie.alloc (Nat.le_refl _) _
  have HL1 := hid hl1
  clear hA h1 h2 hl1
  go_enter Tryd.func27, Tryd.ntmps27
  go_wp2_with (at_builtin; refine wpList_append_lie rfl (.tmp 31) (.tmp 32) 43 rfl w.heap.size 52 (.int .u64 0) 8 Tryd.underlying43 infoU64 rfl rfl (emptyR_row _ _ (k := w.heap.size) rfl (Nat.le_refl _)) (uvs_length s.list) rfl HL1.out (uvs_one _) ?d1 ?d2 ?d3 ?_)
  case d1 => unfold maxLen; rw [St.list_length]; omega
  case d2 => rw [St.list_length]; omega
  case d3 => simp
  intro v1 w1 hown1 hg1 _
  obtain ⟨gh, ch, rfl, hgh, hghl, hch, hch2⟩ := ownU_form hown1 (by omega)
  have hb1 : Below w.heap.size w w1 := ((Below.refl _ _).alloc (Nat.le_refl _) _).grown hg1 (by simp) (fun q h => by simp [Value.ownBlock] at h; omega)
  have hru1 := RowU.of_own hown1
  have hAl1 : Lie (w1.alloc (.cells #[] 5)) w.heap.size A (bvs all) := (HA.out.lie.below hb1).alloc hb1.size _
  have HB1 := hid hb1; have HRU1 := hid hru1; have HAL1 := hid hAl1
  have hsz1 := hb1.size
  clear hown1 hg1 hb1 hru1 hAl1
  go_wp2_with (at_builtin; refine wpList_append_lie rfl (.tmp 34) (.tmp 35) 22 rfl w1.heap.size 5 (.int .u8 0) 1 Tryd.underlying22 infoU8 rfl rfl (emptyR_row _ _ (k := w1.heap.size) rfl (Nat.le_refl _)) (bvs_length all) rfl HAL1.out (bvs_one all) ?d4 ?d5 ?d6 ?_)
  case d4 => unfold maxLen; omega
  case d5 => omega
  case d6 => simp
  intro v2 w2 hown2 hg2 _
  have hO2 : OwnB w2 w1.heap.size v2 all := by simpa [OwnB] using hown2
  have hB12 : Below w1.heap.size w1 w2 := ((Below.refl _ _).alloc (Nat.le_refl _) _).grown hg2 (by simp) (fun q h => by simp [Value.ownBlock] at h; omega)
  have hsz2 := hB12.size
  have HO2 := hid hO2; have HB12 := hid hB12
  obtain ⟨A2', c2', rfl, _⟩ := own_sl hO2
  have HO2' := hid (World.ownsRow.alloc hO2 (.cells #[.int .u8 128] 5))
  clear hown2 hg2 hO2 hB12 HAL1
  go_wp2_with (at_builtin; refine wpList_append_lie rfl (.tmp 36) (.tmp 37) 22 rfl w1.heap.size 5 (.int .u8 0) 1 Tryd.underlying22 infoU8 rfl rfl HO2'.out rfl rfl (Lie.new1 _ _ _) ?d7 ?d8 ?d9 ?d10 ?_)
  case d7 => intro u hu; simp at hu; subst hu; rfl
  case d8 => rw [List.length_singleton]; unfold maxLen; omega
  case d9 => rw [List.length_singleton]; omega
  case d10 => simp; omega
  intro v3 w3 hown3 hg3 _
  have hO3 : OwnB w3 w1.heap.size v3 (all ++ [128]) := own_snoc hown3 (by simp) rfl
  have hB13 : Below w1.heap.size w1 w3 := (HB12.out.alloc HB12.out.size _).grown hg3 (by simp; omega) (fun q h => own_lt HO2'.out q h)
  have HO3 := hid hO3; have HB13 := hid hB13
  clear hown3 hg3 hO3 hB13 HO2' HO2 HB12
  go_wp2
  go_loopg [8] (padZ all.length) (fun g u wr => ∃ j : Nat, j + g = padZ all.length ∧ OwnB wr w1.heap.size u (all ++ [128] ++ List.replicate j 0) ∧ Below w1.heap.size w1 wr)
  case atStart => exact ⟨0, by omega, by simpa using HO3.out, HB13.out⟩
  case round =>
    clear HO3 HB13
    obtain ⟨j, hj, ho, hb⟩ := hrel
    have hzb : padZ all.length < 64 := by unfold padZ; omega
    obtain ⟨ys, hys⟩ : ∃ ys : List UInt8, ys = all ++ [128] ++ List.replicate j 0 := ⟨_, rfl⟩
    rw [← hys] at ho
    have hyl : ys.length = all.length + 1 + j := by rw [hys]; simp; omega
    have hyb : ys.length ≤ 1099511627776 + 65 := by omega
    have hL0 : (0 : Int) ≤ (ys.length : Int) := by omega
    have HYL := hid hyl; have HYS := hid hys; have HJ := hid hj; have HB := hid hb
    obtain ⟨A3, c3, rfl, _⟩ := own_sl ho
    have HO := hid ho
    have hszr := hb.size
    clear hb
    by_cases hlt : j < padZ all.length
    · have ht : (((ys.length : Int) % 64) != 56) = true := by
        rw [bne_iff_ne]
        unfold padZ at hlt
        omega
      clear hj hyl hys
      have HO2' := hid (World.ownsRow.alloc ho (.cells #[.int .u8 0] 5))
      clear ho
      go_wp2_with (at_builtin; refine wpList_append_lie rfl (.tmp 43) (.tmp 44) 22 rfl w1.heap.size 5 (.int .u8 0) 1 Tryd.underlying22 infoU8 rfl rfl HO2'.out rfl rfl (Lie.new1 _ _ _) ?f0 ?f1 ?f2 ?f3 ?_)
      case f0 => intro u hu; simp at hu; subst hu; rfl
      case f1 => rw [List.length_singleton]; unfold maxLen; omega
      case f2 => rw [List.length_singleton]; omega
      case f3 => simp; omega
      intro v5 w5 hown5 hg5 _
      have hO5 : OwnB w5 w1.heap.size v5 (all ++ [128] ++ List.replicate (j + 1) 0) := by
        rw [List.replicate_succ', ← List.append_assoc, ← HYS.out]
        exact own_snoc hown5 (by simp) rfl
      have hB5 : Below w1.heap.size w1 w5 := (HB.out.alloc HB.out.size _).grown hg5 (by simp; omega) (fun q h => own_lt HO2'.out q h)
      have HO5 := hid hO5; have HB5 := hid hB5
      clear hown5 hg5 hO5 hB5 HO2'
      go_wp2
      have hj := HJ.out
      go_roundg (padZ all.length - j - 1)
      case measure => omega
      case rel => exact ⟨j + 1, by omega, HO5.out, HB5.out⟩
    · obtain rfl : j = padZ all.length := by omega
      have ht : (((ys.length : Int) % 64) != 56) = false := by
        rw [bne_eq_false_iff_eq]
        unfold padZ at hyl
        omega
      have hn8 : 8 * all.length < 18446744073709551616 := by omega
      have hsum : (ys.length + 8) % 64 = 0 := by
        unfold padZ at hyl
        omega
      have HSUM := hid hsum
      clear hj hyl hys hsum
      go_wp2
      go_loopg [8, 10] 8 (fun g u i wr => ∃ (k : Nat) (pre : List UInt8), k + g = 8 ∧ i = .int .i64 (k : Int) ∧ pre ++ beBytes (8 - k) (8 * all.length) = beBytes 8 (8 * all.length) ∧ pre.length = k ∧ OwnB wr w1.heap.size u (ys ++ pre) ∧ Below w1.heap.size w1 wr)
      case atStart => exact ⟨0, [], rfl, rfl, rfl, rfl, by simpa using HO.out, HB.out⟩
      case round =>
        clear HO HB ho
        obtain ⟨k, pre, hk, rfl, hpre, hpl, ho, hb⟩ := hrel
        obtain ⟨wo, rfl⟩ : ∃ wo : World, wo = wr := ⟨_, rfl⟩
        have hk8 : k ≤ 8 := by omega
        obtain ⟨zs, hzs⟩ : ∃ zs : List UInt8, zs = ys ++ pre := ⟨_, rfl⟩
        rw [← hzs] at ho
        have hzl : zs.length = ys.length + k := by rw [hzs, List.length_append, hpl]
        have hzb2 : zs.length ≤ 1099511627776 + 80 := by omega
        have HP := hid hpre; have HK := hid hk; have HB := hid hb; have HZS := hid hzs; have HZL := hid hzl; have HPL := hid hpl
        obtain ⟨A5, c5, rfl, hS5⟩ := own_sl ho
        have HO := hid ho; have HS5 := hid hS5.sq
        have hszr2 := hb.size
        clear hpre hk hb hzs hzl hpl hS5 ho
        by_cases hlt8 : k < 8
        · have hki : (k : Int) < 8 := by omega
          have hk0 : (0 : Int) ≤ (k : Int) := by omega
          go_wp2
          go_loopg [11, 12] 8 (fun g u q wr => ∃ i : Nat, i + g = 8 ∧ i ≤ 7 - k ∧ u = .int .u64 ((256 ^ i : Nat) : Int) ∧ q = .int .i64 (i : Int) ∧ wr = wo)
          case atStart => exact ⟨0, rfl, by omega, rfl, rfl, rfl⟩
          case round =>
            obtain ⟨i, hi, hi7, rfl, rfl, rfl⟩ := hrel
            have HI := hid hi
            clear hi
            have hp8 : 256 ^ (i + 1) ≤ 256 ^ 7 ∨ i = 7 - k := by
              by_cases h : i < 7 - k
              · exact .inl (Nat.pow_le_pow_right (by omega) (by omega))
              · exact .inr (by omega)
            have hpow : 256 ^ (i + 1) = 256 ^ i * 256 := Nat.pow_succ ..
            have hpos : 0 < 256 ^ i := Nat.pow_pos (by omega)
            obtain ⟨z, hz⟩ : ∃ z, z = 256 ^ i := ⟨_, rfl⟩
            rw [← hz] at hpow hpos ⊢
            rw [hpow] at hp8
            have HZ := hid hz; have HPOW := hid hpow
            clear hz hpow
            by_cases hlt7 : i < 7 - k
            · have hii : (i : Int) < 7 - (k : Int) := by omega
              have hi0 : (0 : Int) ≤ (i : Int) := by omega
              have hzm : (z : Int) * 256 < 18446744073709551616 := by omega
              clear hp8
              go_wp2
              have hi := HI.out
              go_roundg (8 - i - 1)
              case measure => omega
              case rel => exact ⟨i + 1, by omega, by omega, by rw [HPOW.out]; go_num, by go_num, rfl⟩
            · obtain rfl : i = 7 - k := by omega
              have hii : ¬ (((7 - k : Nat) : Nat) : Int) < 7 - (k : Int) := by omega
              have hzi : (1 : Int) ≤ (z : Int) := by omega
              have hwl : IntKind.u64.wrap (all.length : Int) = (all.length : Int) := by rw [IntKind.wrap_u64]; omega
              have hw8 : IntKind.u64.wrap ((all.length : Int) * 8) = (all.length : Int) * 8 := by rw [IntKind.wrap_u64]; omega
              obtain ⟨Q, hQ⟩ : ∃ Q : Nat, Q = 8 * all.length / z := ⟨_, rfl⟩
              have hQb : Q < 18446744073709551616 := by
                have := Nat.div_le_self (8 * all.length) z
                omega
              have hq : IntKind.u64.wrap (((all.length : Int) * 8).tdiv (z : Int)) = (Q : Int) := by
                rw [show (all.length : Int) * 8 = ((8 * all.length : Nat) : Int) by omega, ← Int.ofNat_tdiv, ← hQ, IntKind.wrap_u64]
                omega
              obtain ⟨r, hr⟩ : ∃ r : Nat, r = Q % 256 := ⟨_, rfl⟩
              have htm : Int.tmod (Q : Int) 256 = (r : Int) := by
                rw [hr]; exact (Int.ofNat_tmod Q 256).symm
              have hr8 : (r : Int) % 256 = (r : Int) := by omega
              have HQ := hid hQ; have HR := hid hr
              clear hp8 hn8 hyb hn hQb hQ hr
              have HO2' := hid (World.ownsRow.alloc HO.out (.cells #[.int .u8 (r : Int)] 5))
              go_wp2_with (at_builtin; refine wpList_append_lie rfl (.tmp 62) (.tmp 68) 22 rfl w1.heap.size 5 (.int .u8 0) 1 Tryd.underlying22 infoU8 rfl rfl HO2'.out rfl rfl (Lie.new1 _ _ _) ?h0 ?h1 ?h2 ?h3 ?_)
              case h0 => intros; first | rfl | (rename_i hu; simp at hu; subst hu; rfl)
              case h1 => try rw [List.length_singleton]
                         unfold maxLen; omega
              case h2 => try rw [List.length_singleton]
                         omega
              case h3 => first | (simp; omega) | (simp; done) | omega
              intro v5 w5 hown5 hg5 _
              have hbyte : (r : Int) = (((UInt8.ofNat (8 * all.length / 256 ^ (7 - k))).toNat : Nat) : Int) := by
                rw [ofNat_val, ← HZ.out, ← HQ.out]; have := HR.out; omega
              have hO5 : OwnB w5 w1.heap.size v5 (ys ++ (pre ++ [UInt8.ofNat (8 * all.length / 256 ^ (7 - k))])) := by
                rw [← List.append_assoc, ← HZS.out]
                exact own_snoc hown5 (by simp) hbyte
              have hB5 : Below w1.heap.size w1 w5 := (HB.out.alloc HB.out.size _).grown hg5 (by simp; omega) (fun q h => own_lt HO2'.out q h)
              have hpn : (pre ++ [UInt8.ofNat (8 * all.length / 256 ^ (7 - k))]) ++ beBytes (8 - (k + 1)) (8 * all.length) = beBytes 8 (8 * all.length) := by
                rw [← HP.out, show 8 - k = (7 - k) + 1 by omega, beBytes, show 8 - (k + 1) = 7 - k by omega]; simp
              have HO5 := hid hO5; have HB5 := hid hB5; have HPN := hid hpn
              clear hown5 hg5 hO5 hB5 HO2' hpn hbyte
              go_wp2
              have hk := HK.out
              go_roundg (8 - k - 1)
              case measure => omega
              case rel => exact ⟨k + 1, _, by omega, by go_num, HPN.out, by rw [List.length_append, HPL.out]; rfl, HO5.out, HB5.out⟩
        · obtain rfl : k = 8 := by omega
          have hpe : pre = beBytes 8 (8 * all.length) := by have := HP.out; simpa [beBytes] using this
          have hki : ¬ ((8 : Nat) : Int) < 8 := by omega
          have hpos : 0 < zs.length := by have := HZL.out; omega
          obtain ⟨gm, cm, hvm, hgm1, hgm2, hcm1, hcm2⟩ := ownU_form HO.out hpos
          simp only [Value.slice.injEq, true_and] at hvm
          obtain ⟨rfl, rfl⟩ := hvm
          have hLt : Lie wo wo.heap.size (some ⟨gm, 0, none⟩) (bvs zs) := HS5.out.lie
          have hRUo : RowU wo gh s.list := HRU1.out.keep (HB.out.block gh hghl)
          have hBo : Below w.heap.size w wo := HB1.out.trans (HB.out.mono hsz1)
          have hKo : Sq wo w.heap.size A2 c2 (uvs K) := H2.out.below hBo
          have hzM : zs = padN all all.length (beBytes 8 (8 * all.length)) := by rw [HZS.out, hpe, HYS.out]; rfl
          obtain ⟨nb, hnb⟩ : ∃ nb, zs.length = 64 * nb := ⟨zs.length / 64, by have := HZL.out; have := HSUM.out; omega⟩
          have hzs40 : zs.length < 1099511627900 := by have := HZL.out; omega
          have HLT := hid hLt; have HRUO := hid hRUo; have HBO := hid hBo; have HKO := hid hKo; have HZM := hid hzM; have HNB := hid hnb
          clear hLt hRUo hBo hKo hzM hnb HO HS5 HB HZS HZL HPL hlt8 HP HK hpe HSUM HYS HYL HJ hlt ht hL0 hzb hyb hn hn8
          clear hzb2
          go_wp2
          have hks' : Sq wo wo.heap.size A2 c2 (uvs K) := HKO.out.more HBO.out.size
          have hnk : NotIn A2 (uvs K) gh := HKO.out.notIn (by omega)
          have HKS' := hid hks'; have HNK := hid hnk
          clear hks' hnk
          refine blocks_loop A2 c2 gh ch _ _ nb K s zs wo _ _ _ _ _ _ _ _ _ _ _ _ _ _ _ _ _ _ _ _ _ _ _ _ _ _ _ _ _ _ _ _ _ _ _ _ _ _ _ _ _ _ _ _ _ _ _ _ _ _ _ _ _ _ _ _ _ _ _ _ _ _ _ _ _ _ _ _ _ _ _ _ _ _ _ _ _ _ _ _ _ _ _ _ _ _ _ _ _ _ _ _ _ _ _ _ _ _ _ _ _ _ _ _ _ _ _ _ _ _ _ _ _ _ _ _ _ _ _ _ _ _ _ _ _ _ _ _ _ _ _ _ _ _ _ _ _ _ _ _ _ _ _ _ _ _ _ _ _ _ _ _ _ _ _ _ _ _ _ _ _ _ _ _ _ _ _ _ _ _ _ _ _ _ _ _ _ _ _ _ _ _ _ _ _ _ _ _ _ _ _ _ _ _ _ _ _ _ _ _ _ _ _ _ _ _ _ _ _ _ _ _ _ _ _ _ _ _ _ _ _ _ _ _ _ _ _ _ _ _ _ _ _ _ _ _ _ _ _ _ _ _ _ _ _ _ _ _ _ _ _ _ _ _ _ _ _ _ _ _ _ _ _ _ _ _ _ _ _ _ _ _ _ _ _ _ _ _ _ _ _ _ _ _ _ _ _ _ _ _ _ _ _ _ _ _ _ _ _ _ _ _ _ _ _ _ _ _ _ _ _ _ _ _ _ _ _ _ _ _ _ _ _ _ _ _ _ _ _ _ _ _ _ _ _ _ _ _ _ _ _ _ _ _ _ _ _ _ ?hpan1 hs hK hKl HNB.out hzs40 hcm1 hch (by omega) HLT.out HKS'.out HNK.out HRUO.out ?_
          case hpan1 => exact fun _ _ _ _ _ h => h
          intro w5 u13 u14 u15 u16 u17 u18 u19 u20 u21 u22 u23 u24 u25 u26 u27 u28 u70 u71 u72 u73 u74 u75 u76 u77 u78 u79 u80 u81 u82 u83 u84 u85 u86 u87 u88 u89 u90 u91 u92 u93 u94 u95 u96 u97 u98 u99 u100 u101 u102 u103 u104 u105 u106 u107 u108 u109 u110 u111 u112 u113 u114 u115 u116 u117 u118 u119 u120 u121 u122 u123 u124 u125 u126 u127 u128 u129 u130 u131 u132 u133 u134 u135 u136 u137 u138 u139 u140 u141 u142 u143 u144 u145 u146 u147 u148 u149 u150 u151 u152 u153 u154 u155 u156 u157 u158 u159 u160 u161 u162 u163 u164 u165 u166 u167 u168 u169 u170 u171 u172 u173 u174 u175 u176 u177 u178 u179 u180 u181 u182 u183 u184 u185 u186 u187 u188 u189 u190 u191 u192 u193 u194 u195 u196 u197 u198 u199 u200 u201 u202 u203 u204 u205 u206 u207 u208 u209 u210 u211 u212 u213 u214 u215 u216 u217 u218 u219 u220 u221 u222 u223 u224 u225 u226 u227 u228 u229 u230 u231 u232 u233 u234 u235 u236 u237 u238 u239 u240 u241 u242 u243 u244 u245 u246 u247 u248 u249 u250 u251 u252 u253 u254 u255 u256 u257 u258 u259 u260 u261 u262 u263 u264 u265 u266 u267 u268 u269 u270 u271 u272 u273 u274 u275 u276 u277 u278 u279 u280 u281 u282 u283 u284 u285 u286 u287 u288 u289 u290 u291 u292 u293 u294 u295 u296 u297 u298 u299 u300 u301 u302 u303 u304 u305 u306 u307 u308 u309 u310 u311 u312 u313 u314 u315 u316 u317 hru5 hg5
          have hB5 : Below w.heap.size w w5 := HBO.out.grown hg5 HBO.out.size (fun q h => by injection h with h; omega)
          have HRU5 := hid hru5; have HB5 := hid hB5
          clear hru5 hg5 hB5 HLT HRUO HBO HKO HKS' HNK
          go_wp2
          refine out_loop gh ch (blocksN K nb s zs) w5 _ _ _ _ _ _ _ _ _ _ _ _ _ _ _ _ _ _ _ _ _ _ _ _ _ _ _ _ _ _ _ _ _ _ _ _ _ _ _ _ _ _ _ _ _ _ _ _ _ _ _ _ _ _ _ _ _ _ _ _ _ _ _ _ _ _ _ _ _ _ _ _ _ _ _ _ _ _ _ _ _ _ _ _ _ _ _ _ _ _ _ _ _ _ _ _ _ _ _ _ _ _ _ _ _ _ _ _ _ _ _ _ _ _ _ _ _ _ _ _ _ _ _ _ _ _ _ _ _ _ _ _ _ _ _ _ _ _ _ _ _ _ _ _ _ _ _ _ _ _ _ _ _ _ _ _ _ _ _ _ _ _ _ _ _ _ _ _ _ _ _ _ _ _ _ _ _ _ _ _ _ _ _ _ _ _ _ _ _ _ _ _ _ _ _ _ _ _ _ _ _ _ _ _ _ _ _ _ _ _ _ _ _ _ _ _ _ _ _ _ _ _ _ _ _ _ _ _ _ _ _ _ _ _ _ _ _ _ _ _ _ _ _ _ _ _ _ _ _ _ _ _ _ _ _ _ _ _ _ _ _ _ _ _ _ _ _ _ _ _ _ _ _ _ _ _ _ _ _ _ _ _ _ _ _ _ _ _ _ _ _ _ _ _ _ _ _ _ _ _ _ _ _ _ _ _ _ _ _ _ _ _ _ _ _ _ _ _ _ _ _ _ _ _ _ _ _ _ _ _ _ _ _ _ _ _ _ _ _ _ _ _ _ _ _ _ _ _ _ ?hpan2 (blocksN_okay _ _ _ _ hs) hch HRU5.out ?_
          case hpan2 => exact fun _ _ _ _ _ h => h
          intro v6 w6 u30 u318 u319 u320 u321 u322 u323 u324 u325 u326 u327 u328 u329 u330 u331 u332 u333 u334 u335 u336 u337 u338 u339 u340 u341 u342 u343 u344 u345 u346 u347 u348 u349 u350 ho6 hb6
          have hfin : OwnB w6 w.heap.size v6 (shaBy K s all) := by
            have h : shaBy K s all = (blocksN K nb s zs).bytes := by
              rw [shaBy, ← HZM.out, HNB.out, Nat.mul_div_cancel_left _ (by omega)]
            rw [h]
            exact own_base ho6 HB5.out.size
          have HFIN := hid hfin; have HBF := hid (HB5.out.trans (hb6.mono HB5.out.size))
          clear ho6 hb6 hfin
          go_wp2
          go_ret
          exact ⟨_, rfl, HFIN.out, HBF.out⟩
end Go.Proofs.YtokggppfobbblaaDoor
