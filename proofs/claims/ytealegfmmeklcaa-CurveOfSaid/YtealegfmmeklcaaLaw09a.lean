/-
  The statements of layer 9: what they share.
-/
import Derived.Test.YtealegfmmeklcaaCvI
import Derived.Test.YtealegfmmeklcaaLoops
import Derived.Test.YtealegfmmeklcaaBigB
import Derived.Deep.LoopGhost
import Derived.Deep.Cut
namespace Go.Proofs.Ytealegfmmeklcaa
open Go Go.RowKit
set_option linter.unusedVariables false
set_option linter.unusedSimpArgs false

theorem len_cap {w : World} {B c : Nat} {A : Option Addr} {xs : List UInt8} (h : Sq w B A c (bvs xs)) : xs.length ≤ 9223372036854775807 := by
  have := h.cap
  rw [bvs_length] at this
  omega
def gB : List UInt8 := 88 :: List.replicate 31 102
theorem gB_length : gB.length = 32 := rfl
theorem gB_at (k : Nat) (h : k < 31) : gB[k + 1]? = some 102 := by
  show (List.replicate 31 (102 : UInt8))[k]? = some 102
  rw [List.getElem?_replicate, if_pos h]
set_option maxHeartbeats 1000000 in
theorem alive9_any (w : World) : Calls Try.prog 7 #[] w fun e w' => e = .returned (.bool true) ∧ Below w.heap.size w w' := by
  obtain ⟨g, hg, KG⟩ := CvBase
  have KB := CvBytes hg
  rw [Gb_bytes, show (88 :: List.replicate 31 102 : List UInt8) = gB from rfl] at KB
  obtain ⟨v, hv, KO⟩ := CvOf [] (by decide)
  have hz : ptO [] = Pt.zero := by unfold ptO; rw [ptOf_len (by decide)]; rfl
  rw [hz] at hv
  have KO' : Hid (∀ W : World, Calls Try.prog 8 #[.slice none 0 0] W fun e w' => e = .returned (.tuple #[.agg v, .bool false]) ∧ Below W.heap.size W w') := hid fun W => by
    have := KO.out none 0 W Sq.nil
    rw [ptOf_len (by decide)] at this
    exact this
  obtain ⟨n, hn, KN⟩ := CvNothing
  have KS := CvSameT zP_is hn rfl
  have HV := hid hv; have HN := hid hn
  clear hv hn hg KO hz
  go_enter Try.func7, Try.ntmps7
  go_wp2_with fail
  refine (KG.out _).mono ?_
  rintro e w1 ⟨rfl, hb1⟩
  have HB1 := hid hb1
  clear hb1
  go_wp2_with fail
  refine (KB.out _).mono ?_
  rintro e w2 ⟨x, rfl, hown, hb2⟩
  have HB2 := hid (HB1.out.trans (hb2.mono HB1.out.size))
  obtain ⟨A, c, hx, hsl⟩ := own_sl hown
  rw [gB_length] at hx
  subst hx
  obtain ⟨b, o, rfl, hbl⟩ := hsl.sq.form (by rw [bvs_length, gB_length]; decide)
  have hcell : ∀ (k : Nat) (y : UInt8), gB[k]? = some y → w2.cell? ⟨b, o + k, none⟩ = some (.int .u8 (y.toNat : Int)) := fun k y hy => by
    have hk : k < gB.length := by rcases Nat.lt_or_ge k gB.length with h | h; exact h; rw [List.getElem?_eq_none h] at hy; cases hy
    obtain ⟨b', o', hA, _, h⟩ := hsl.lie.byte hk
    simp only [Option.some.injEq, Addr.mk.injEq] at hA
    obtain ⟨rfl, rfl, _⟩ := hA
    rw [List.getElem?_eq_getElem hk] at hy
    injection hy with hy
    rw [hy] at h
    exact h
  have h0 : w2.cell? ⟨b, o, none⟩ = some (.int .u8 88) := hcell 0 88 rfl
  have HC := hid hcell
  clear hown hb2 hsl hbl hcell HB1
  go_wp2
  clear h0
  go_loopg [2] 31 (fun g i wr => ∃ k : Nat, k + g = 32 ∧ 1 ≤ k ∧ i = .int .i64 (k : Int) ∧ wr = w2)
  case atStart => exact ⟨1, rfl, by omega, rfl, rfl⟩
  case round =>
    obtain ⟨k, hk, hk1, rfl, hwr⟩ := hrel
    subst hwr
    by_cases hlt : k < 32
    · have hc := HC.out k 102 (by have := gB_at (k - 1) (by omega); rwa [show k - 1 + 1 = k by omega] at this)
      have h1 : (k : Int) < 32 := by omega
      have h2 : (0 : Int) ≤ (k : Int) := by omega
      have h3 : IntKind.i64.wrap ((k : Int) + 1) = (k : Int) + 1 := IntWalk.i64_in _ (by omega)
      have hc' : wr.cell? ⟨b, o + k, none⟩ = some (.int .u8 102) := hc
      clear hc hlt
      go_wp2
      clear hc'
      go_roundg (31 - k)
      case measure => omega
      case rel => exact ⟨k + 1, by omega, by omega, rfl, rfl⟩
    · have h1 : ¬ (k : Int) < 32 := by omega
      clear HC hlt hk hk1
      have S0 : Hid (St w wr [] []) := hid ((St.start w).on HB2.out)
      go_upto_region 9 with fail
      refine wpLA_start ?_
      refine wpLA_take (.tuple #[(.agg (v)), (.bool false)]) (yG_call (by rfl) (fun w' => by go_simp) (fun w' hb => KO'.out w')) ?_
      (try simp only [Act.put, List.getElem_toArray, List.getElem_cons_succ, List.getElem_cons_zero, List.setIfInBounds_toArray, List.set_cons_zero, List.set_cons_succ])
      refine wpLA_take (.tuple #[(.agg (v)), (.bool false)]) (yG_val _ (by rfl) (fun w' _ => by (go_simp; try rfl))) ?_
      (try simp only [Act.put, List.getElem_toArray, List.getElem_cons_succ, List.getElem_cons_zero, List.setIfInBounds_toArray, List.set_cons_zero, List.set_cons_succ])
      refine wpLA_take (.agg (v)) (yG_val _ (by rfl) (fun w' _ => by (go_simp; try rfl))) ?_
      (try simp only [Act.put, List.getElem_toArray, List.getElem_cons_succ, List.getElem_cons_zero, List.setIfInBounds_toArray, List.set_cons_zero, List.set_cons_succ])
      refine wpLA_take (.bool false) (yG_val _ (by rfl) (fun w' _ => by (go_simp; try rfl))) ?_
      (try simp only [Act.put, List.getElem_toArray, List.getElem_cons_succ, List.getElem_cons_zero, List.setIfInBounds_toArray, List.set_cons_zero, List.set_cons_succ])
      refine wpLA_alloc (by rfl) rfl zeroP ?_
      intro p1 w1 hp hz hb
      have S1 : Hid (St w w1 [(p1, zP, PT)] []) := hid (S0.out.alloc hb hp hz)
      clear hp hz hb S0
      (try simp only [Act.put, List.getElem_toArray, List.getElem_cons_succ, List.getElem_cons_zero, List.setIfInBounds_toArray, List.set_cons_zero, List.set_cons_succ])
      refine wpLA_store rfl PT (.tmp 3) (.tmp 27) rfl p1 (v) rfl rfl PT (zP) S1.out.cl.1 HV.out.info (zP_is.size2 HV.out) HV.out.one ?_
      intro wx hb
      have S2 : Hid (St w (wx.setRow p1 (v)) [(p1, v, PT)] []) := hid ((S1.out.on hb).put0 0 rfl)
      clear hb S1
      generalize wx.setRow p1 (v) = w2 at S2 ⊢
      (try simp only [Act.put, List.getElem_toArray, List.getElem_cons_succ, List.getElem_cons_zero, List.setIfInBounds_toArray, List.set_cons_zero, List.set_cons_succ])
      refine wpLA_take (.bool false) (yG_val _ (by rfl) (fun w' _ => by (go_simp; try rfl))) ?_
      (try simp only [Act.put, List.getElem_toArray, List.getElem_cons_succ, List.getElem_cons_zero, List.setIfInBounds_toArray, List.set_cons_zero, List.set_cons_succ])
      refine wpLA_end ?_
      intro w3 hb
      have S3 := hid (S2.out.on hb)
      clear hb S2
      go_upto_region 10 with fail
      refine wpLA_start ?_
      refine wpLA_take (.bool false) (yG_val _ (by rfl) (fun w' _ => by (go_simp; try rfl))) ?_
      (try simp only [Act.put, List.getElem_toArray, List.getElem_cons_succ, List.getElem_cons_zero, List.setIfInBounds_toArray, List.set_cons_zero, List.set_cons_succ])
      refine wpLA_take (.bool true) (yG_val _ (by rfl) (fun w' _ => by (go_simp; try rfl))) ?_
      (try simp only [Act.put, List.getElem_toArray, List.getElem_cons_succ, List.getElem_cons_zero, List.setIfInBounds_toArray, List.set_cons_zero, List.set_cons_succ])
      refine wpLA_take (.bool true) (yG_val _ (by rfl) (fun w' _ => by (go_simp; try rfl))) ?_
      (try simp only [Act.put, List.getElem_toArray, List.getElem_cons_succ, List.getElem_cons_zero, List.setIfInBounds_toArray, List.set_cons_zero, List.set_cons_succ])
      refine wpLA_take (.agg (zP)) (yG_build (by rfl) PT _ rfl [] rfl _ builtP) ?_
      (try simp only [Act.put, List.getElem_toArray, List.getElem_cons_succ, List.getElem_cons_zero, List.setIfInBounds_toArray, List.set_cons_zero, List.set_cons_succ])
      refine wpLA_take (.agg (n)) (yG_call (by rfl) (fun w' => by go_simp) (fun w' hb => KN.out w')) ?_
      (try simp only [Act.put, List.getElem_toArray, List.getElem_cons_succ, List.getElem_cons_zero, List.setIfInBounds_toArray, List.set_cons_zero, List.set_cons_succ])
      refine wpLA_take (.bool true) (yG_call (by rfl) (fun w' => by go_simp) (fun w' hb => KS.out w')) ?_
      (try simp only [Act.put, List.getElem_toArray, List.getElem_cons_succ, List.getElem_cons_zero, List.setIfInBounds_toArray, List.set_cons_zero, List.set_cons_succ])
      refine wpLA_take (.bool true) (yG_val _ (by rfl) (fun w' _ => by (go_simp; try rfl))) ?_
      (try simp only [Act.put, List.getElem_toArray, List.getElem_cons_succ, List.getElem_cons_zero, List.setIfInBounds_toArray, List.set_cons_zero, List.set_cons_succ])
      refine wpLA_take (.bool true) (yG_val _ (by rfl) (fun w' _ => by (go_simp; try rfl))) ?_
      (try simp only [Act.put, List.getElem_toArray, List.getElem_cons_succ, List.getElem_cons_zero, List.setIfInBounds_toArray, List.set_cons_zero, List.set_cons_succ])
      refine wpLA_end ?_
      intro w4 hb
      have S4 := hid (S3.out.on hb)
      clear hb S3
      go_wp2_with fail
      go_ret
      exact ⟨rfl, S4.out.below⟩
end Go.Proofs.Ytealegfmmeklcaa
