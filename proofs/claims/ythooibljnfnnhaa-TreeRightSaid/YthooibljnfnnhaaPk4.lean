/-
  Texts of this claim in one file: Same.
-/
import Derived.Test.YthooibljnfnnhaaPk25
section
namespace Go.Proofs.Ythooibljnfnnhaa
open Go.RowKit
set_option linter.unusedVariables false
set_option linter.unusedSimpArgs false
/-- The same for as many as k. -/
theorem take_eq_step {α : Type} [DecidableEq α] (xs ys : List α) (k : Nat) (hx : k < xs.length) (hy : k < ys.length) (h : xs.take k = ys.take k) : xs.take (k + 1) = ys.take (k + 1) ↔ xs[k] = ys[k] := by
  rw [List.take_succ_eq_append_getElem hx, h, List.take_succ_eq_append_getElem hy]
  exact ⟨fun h => List.singleton_inj.1 (List.append_cancel_left h), fun h => by rw [h]⟩
theorem toNat_inj {a b : UInt8} : (a.toNat : Int) = (b.toNat : Int) ↔ a = b := by
  constructor
  · intro h; exact UInt8.toNat_inj.1 (by omega)
  · rintro rfl; rfl
set_option maxHeartbeats 800000 in
theorem Same_any (A : Option Addr) (xs : List UInt8) (c : Nat) (A' : Option Addr) (ys : List UInt8) (c' : Nat) (w : World) (B B' : Nat) (hA : Lie w B A (bvs xs)) (hA' : Lie w B' A' (bvs ys)) (hm : xs.length ≤ 140737488355328) :
    Calls Try.prog 45 #[.slice A xs.length c, .slice A' ys.length c'] w fun e w' => e = .returned (.bool (xs == ys)) ∧ ∃ n, w' = w.drewN n := by
  by_cases hl : xs.length = ys.length
  · have hl2 : ((xs.length : Int) != (ys.length : Int)) = false := by simp [hl]
    have HL := hid hl
    clear hl
    go_enter Try.func45, Try.ntmps45
    go_wp2
    go_loopg [5] xs.length (fun g i wr => ∃ k n : Nat, k + g = xs.length ∧ i = .int .i64 (k : Int) ∧ xs.take k = ys.take k ∧ wr = w.drewN n)
    case atStart => exact ⟨0, 0, by omega, rfl, rfl, rfl⟩
    case round =>
      obtain ⟨k, n, hk, rfl, ht, rfl⟩ := hrel
      have HT := hid ht
      have HK := hid hk
      clear ht hk
      by_cases hlt : k < xs.length
      · have hlt2 : k < ys.length := by rw [← HL.out]; exact hlt
        obtain ⟨b, o, rfl, hb, hc⟩ := hA.byte hlt
        obtain ⟨b', o', rfl, hb', hc'⟩ := hA'.byte hlt2
        have hx : (k : Int) < (xs.length : Int) := by omega
        have hy : (k : Int) < (ys.length : Int) := by omega
        have h0 : (0 : Int) ≤ (k : Int) := by omega
        have hstep := hid (take_eq_step xs ys k hlt hlt2 HT.out)
        by_cases he : xs[k] = ys[k]
        · have he2 : ((xs[k].toNat : Int) != (ys[k].toNat : Int)) = false := by simp [he]
          have HE := hid he
          clear he
          go_wp2
          go_quiet (fail)
          go_wp2
          have hk := HK.out
          go_roundg (gk - 1)
          case measure => omega
          case rel => exact ⟨k + 1, _, by omega, by go_num, hstep.out.2 HE.out, rfl⟩
        · have he2 : ((xs[k].toNat : Int) != (ys[k].toNat : Int)) = true := by rw [bne_iff_ne]; exact fun h => he (toNat_inj.1 h)
          have HE := hid he
          have HF : Hid ((xs == ys) = false) := hid (by
            rw [beq_eq_false_iff_ne]
            intro e
            subst e
            exact he rfl)
          clear he
          go_wp2
          go_quiet (fail)
          go_wp2
          go_ret
          exact ⟨by rw [HF.out]; rfl, _, World.drewN_drewN _ _ _⟩
      · have hk := HK.out
        obtain rfl : k = xs.length := by omega
        have HF : Hid ((xs == ys) = true) := hid (by
          have h := HT.out
          rw [List.take_length, HL.out, List.take_length] at h
          rw [beq_iff_eq]; exact h)
        clear hk
        go_wp2
        go_ret
        exact ⟨by rw [HF.out]; rfl, _, rfl⟩
  · have hl2 : ((xs.length : Int) != (ys.length : Int)) = true := by rw [bne_iff_ne]; omega
    have HF : Hid ((xs == ys) = false) := hid (by
      rw [beq_eq_false_iff_ne]
      intro e
      subst e
      exact hl rfl)
    clear hl
    go_enter Try.func45, Try.ntmps45
    go_wp2
    go_ret
    exact ⟨by rw [HF.out]; rfl, 0, rfl⟩
end Go.Proofs.Ythooibljnfnnhaa
end
