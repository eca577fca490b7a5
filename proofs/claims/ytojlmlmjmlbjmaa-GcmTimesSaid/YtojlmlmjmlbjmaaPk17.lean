/-
  Texts of this claim in one file: Ref12j.
-/
import Derived.Test.YtojlmlmjmlbjmaaPk12
section
namespace Go.Proofs.Ytojlmlmjmlbjmaa
open Go.RowKit
set_option linter.unusedVariables false
set_option linter.unusedSimpArgs false
theorem maskedL_length (key nonce text : List UInt8) : (maskedL key nonce text).length = text.length := mskN_length _ _ _ _
def seal12L (key nonce text more : List UInt8) : List UInt8 := maskedL key nonce text ++ tagL key nonce (maskedL key nonce text) more
theorem seal12L_length (key nonce text more : List UInt8) : (seal12L key nonce text more).length = text.length + 16 := by
  unfold seal12L; rw [List.length_append, maskedL_length, tagL_length]
set_option maxRecDepth 100000 in
set_option maxHeartbeats 4000000 in
theorem Seal12_any (A A' A2 A3 : Option Addr) (key nonce text more : List UInt8) (m m' n2 n3 c c' c2 c3 : Nat) (w : World) (hA : Sq w w.heap.size A c (bvs key)) (hA' : Sq w w.heap.size A' c' (bvs nonce)) (h2 : Lie w w.heap.size A2 (bvs text)) (h3 : Lie w w.heap.size A3 (bvs more)) (hkey : key.length = 16) (hnonce : nonce.length = 12) (hm : m = 16) (hm' : m' = 12) (hn2 : text.length = n2) (hn3 : more.length = n3) (hs : n2 ≤ 1000) (hmo : n3 ≤ 1000) :
    Calls Try.prog 11 #[.slice A m c, .slice A' m' c', .slice A2 n2 c2, .slice A3 n3 c3] w fun e w' => ∃ v, e = .returned v ∧ OwnB w' w.heap.size v (seal12L key nonce text more) ∧ Below w.heap.size w w' := by
  subst hm; subst hm'
  obtain ⟨s, hsd⟩ : ∃ s, s = maskedL key nonce text := ⟨_, rfl⟩
  have hsl : s.length = n2 := by rw [hsd, maskedL_length, hn2]
  have KM : Hid (∀ (W : World) (Ab : Option Addr) (cb : Nat), Sq W W.heap.size A c (bvs key) → Sq W W.heap.size A' c' (bvs nonce) → Lie W W.heap.size A2 (bvs text) → Ints W W.heap.size Ab cb boxN 256 → Calls Try.prog 14 #[.slice A (16 : Nat) c, .slice A' (12 : Nat) c', .slice A2 n2 c2, .slice Ab (256 : Nat) cb] W fun e w' => ∃ v, e = .returned v ∧ OwnB w' W.heap.size v s ∧ Below W.heap.size W w') := hid fun W Ab cb h1 h2 h3 h4 => by
    rw [hsd]; exact Masked12_any A A' A2 Ab key nonce text 16 12 n2 256 c c' c2 cb W h1 h2 h3 hkey hnonce hn2 rfl rfl rfl h4 (by omega)
  have KT : Hid (∀ (W : World) (As Ab : Option Addr) (cs cb : Nat), Sq W W.heap.size A c (bvs key) → Sq W W.heap.size A' c' (bvs nonce) → Lie W W.heap.size As (bvs s) → Lie W W.heap.size A3 (bvs more) → Ints W W.heap.size Ab cb boxN 256 → Calls Try.prog 13 #[.slice A (16 : Nat) c, .slice A' (12 : Nat) c', .slice As n2 cs, .slice A3 n3 c3, .slice Ab (256 : Nat) cb] W fun e w' => ∃ v, e = .returned v ∧ OwnB w' W.heap.size v (tagL key nonce s more) ∧ Below W.heap.size W w') := hid fun W As Ab cs cb h1 h2 h3 h4 h5 =>
    Tag12_any A A' As A3 Ab key nonce s more 16 12 n2 n3 256 c c' cs c3 cb W h1 h2 h3 h4 hkey hnonce rfl rfl rfl h5 hsl hn3 hs hmo
  have KX := hid (Boxes11_any w)
  have HDEF : Hid (seal12L key nonce text more = s ++ tagL key nonce s more) := hid (by rw [hsd]; rfl)
  have HA := hid hA; have HA' := hid hA'; have H2 := hid h2; have H3 := hid h3
  have HSL := hid hsl; have HS := hid hs
  clear hA hA' h2 h3 hkey hnonce hn2 hn3 hs hmo hsl hsd
  go_enter Try.func11, Try.ntmps11
  go_wp2_with fail
  refine KX.out.mono ?_
  rintro e w1 ⟨Ab, cb, rfl, hB, hb1⟩
  have HBX := hid hB; have HB1 := hid hb1
  have HA1 := hid ((HA.out.below hb1).more hb1.size); have HA1' := hid ((HA'.out.below hb1).more hb1.size); have H21 := hid (lie_on H2.out hb1); have H31 := hid (lie_on H3.out hb1)
  clear hB hb1 KX HA HA' H2 H3
  go_wp2_with fail
  refine (KM.out _ _ _ HA1.out HA1'.out H21.out HBX.out).mono ?_
  rintro e w2 ⟨v2, rfl, ho2, hb2⟩
  obtain ⟨As, cs, rfl, hSs⟩ := own_n ho2 HSL.out
  have HLs : Hid (Lie (w2.alloc (.cells #[] 5)) w2.heap.size As (bvs s)) := hid (hSs.lie.alloc (Nat.le_refl _) _)
  have HLs0 := hid hSs.lie
  have HB2 := hid hb2
  clear ho2 hb2 hSs KM
  go_wp2_with (at_builtin; refine wpList_append_lie rfl _ _ 22 rfl w2.heap.size 5 (.int .u8 0) 1 Try.underlying22 infoU8 rfl rfl (row_noneA _ _ (k := w2.heap.size) rfl (Nat.le_refl _)) ((bvs_length s).trans HSL.out) rfl HLs.out (bvs_one s) ?d1 ?d2 ?d3 ?_)
  case d1 => have := HS.out; unfold maxLen; omega
  case d2 => have := HS.out; omega
  case d3 => simp
  intro v3 w3 hown3 hg3 _
  have HO3 : Hid (w3.ownsRow w2.heap.size 5 1 v3 n2 (bvs s)) := hid (by simpa using hown3)
  have hB3 : Below w2.heap.size w2 w3 := ((Below.refl _ _).alloc (Nat.le_refl _) _).grown hg3 (by simp) (fun q h => by simp [Value.ownBlock] at h; omega)
  have HB3 := hid hB3
  have HB13 : Hid (Below w1.heap.size w1 w3) := hid (HB2.out.trans (hB3.mono HB2.out.size))
  clear hown3 hg3 hB3 HLs
  go_wp2_with fail
  refine (KT.out w3 As Ab cs cb ((HA1.out.below HB13.out).more HB13.out.size) ((HA1'.out.below HB13.out).more HB13.out.size) (lie_on HLs0.out HB3.out) (lie_on H31.out HB13.out) ((HBX.out.below HB13.out).more HB13.out.size)).mono ?_
  rintro e w4 ⟨v4, rfl, ho4, hb4⟩
  obtain ⟨A4, c4, rfl, hS4⟩ := own_n ho4 (tagL_length _ _ _ _)
  have HO4 : Hid (w4.ownsRow w2.heap.size 5 1 v3 n2 (bvs s)) := hid (World.ownsRow.kept HO3.out (grown12 hb4) (by cases v3.ownBlock <;> simp))
  have HL4 := hid hS4.lie
  have HB4 := hid (HB3.out.trans (hb4.mono HB3.out.size))
  clear ho4 hb4 hS4 KT HO3 HB3 HB13
  go_wp2_with (at_builtin; refine wpList_append_lie rfl _ _ 22 rfl w2.heap.size 5 (.int .u8 0) 1 Try.underlying22 infoU8 rfl rfl HO4.out ((bvs_length _).trans (tagL_length key nonce s more)) rfl HL4.out (bvs_one _) ?a1 ?a2 ?a3 ?_)
  case a1 => have := HS.out; unfold maxLen; omega
  case a2 => have := HS.out; omega
  case a3 => exact HB4.out.size
  intro v5 w5 ho5 hg5 _
  have HO5 : Hid (OwnB w5 w2.heap.size v5 (seal12L key nonce text more)) := hid (by
    rw [HDEF.out]; unfold OwnB; rw [bvs_append, List.length_append, tagL_length, HSL.out]; exact ho5)
  have HB5 : Hid (Below w2.heap.size w2 w5) := hid (HB4.out.grown hg5 HB4.out.size (own_lt HO4.out))
  have hbase : w.heap.size ≤ w2.heap.size := Nat.le_trans HB1.out.size HB2.out.size
  have HOf : Hid (OwnB w5 w.heap.size v5 (seal12L key nonce text more)) := hid (own_base HO5.out hbase)
  have HBf : Hid (Below w.heap.size w w5) := hid (HB1.out.trans ((HB2.out.trans (HB5.out.mono HB2.out.size)).mono HB1.out.size))
  clear ho5 hg5 HO4 HL4 HB4 hbase
  go_wp2_with fail
  go_ret
  exact ⟨_, rfl, HOf.out, HBf.out⟩
end Go.Proofs.Ytojlmlmjmlbjmaa
end
