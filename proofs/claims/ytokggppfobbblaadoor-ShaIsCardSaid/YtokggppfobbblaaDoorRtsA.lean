/-
  The document's own primes.
-/
import Derived.Test.YtokggppfobbblaaDoorRef02b
import Derived.Test.YtokggppfobbblaaDoorShaRt
namespace Go.Proofs.YtokggppfobbblaaDoor
open Go.RowKit
set_option linter.unusedVariables false
set_option linter.unusedSimpArgs false

set_option maxRecDepth 100000 in
set_option maxHeartbeats 3200000 in
theorem Primes_any (n : Nat) (w : World) (hn : n ≤ 80) :
    Calls Tryd.prog 33 #[.int .i64 (n : Int)] w fun e w' => ∃ v, e = .returned v ∧ OwnU w' w.heap.size v ((prs 410).take n) ∧ Below w.heap.size w w' := by
  go_enter Tryd.func33, Tryd.ntmps33
  go_wp2
  go_loopg [3, 4] 408 (fun g v i wr => ∃ p : Nat, p + g = 410 ∧ 2 ≤ p ∧ i = .int .u64 (p : Int) ∧ OwnU wr w.heap.size v (prs p) ∧ (prs p).length ≤ n ∧ Below w.heap.size w wr)
  case atStart => exact ⟨2, rfl, by omega, rfl, by rw [show prs 2 = [] by decide]; exact ownu_nil _ _, by rw [show prs 2 = [] by decide]; exact Nat.zero_le _, Below.refl _ _⟩
  case round =>
    obtain ⟨p, hp, hp2, rfl, ho, hl, hb⟩ := hrel
    obtain ⟨wq, rfl⟩ : ∃ wq : World, wq = wr := ⟨_, rfl⟩
    have hp410 : p ≤ 410 := by omega
    obtain ⟨xs, hxs⟩ : ∃ xs, xs = prs p := ⟨_, rfl⟩
    rw [← hxs] at ho hl
    have hx2 : ∀ x ∈ xs, 2 ≤ x ∧ x < p := by rw [hxs]; exact prs_lt p
    have h80 : xs.length ≤ 80 := by rw [hxs]; exact prs_le p hp410
    have htk : xs.length = n → xs = (prs 410).take n := fun h => by rw [hxs] at h ⊢; exact prs_take p n h hp410
    have hlast : xs.length < n → p < 410 := fun h => by
      rcases Nat.lt_or_ge p 410 with h2 | h2
      · exact h2
      · obtain rfl : p = 410 := by omega
        rw [hxs, prs_410] at h; omega
    have hnext : prs (p + 1) = if xs.all (fun q => p % q != 0) = true then xs ++ [p] else xs := by
      rw [prs, ← hxs]
      by_cases hall : xs.all (fun q => p % q != 0) = true
      · rw [if_pos ⟨hp2, hall⟩, if_pos hall]
      · rw [if_neg (fun h => hall h.2), if_neg hall]
    obtain ⟨A3, c3, rfl, hS3⟩ := own_sl ho
    have HP := hid hp; have HXS := hid hxs; have HX2 := hid hx2; have HTK := hid htk; have HLAST := hid hlast; have HNEXT := hid hnext; have HO := hid ho; have HL := hid hl; have HB := hid hb; have HS3 := hid hS3.sq
    clear hp hxs hx2 htk hlast hnext ho hl hb hS3
    by_cases hlt : xs.length < n
    · have hli : (xs.length : Int) < (n : Int) := by omega
      go_wp2
      go_loopg [5, 6] xs.length (fun g b i wr => ∃ j : Nat, j + g = xs.length ∧ i = .int .i64 (j : Int) ∧ b = .bool ((xs.take j).all (fun q => p % q != 0)) ∧ wr = wq)
      case atStart => exact ⟨0, by omega, rfl, rfl, rfl⟩
      case round =>
        obtain ⟨j, hj, rfl, rfl, rfl⟩ := hrel
        have HJ := hid hj
        clear hj
        obtain ⟨bb, hbb⟩ : ∃ bb, bb = (xs.take j).all (fun q => p % q != 0) := ⟨_, rfl⟩
        rw [← hbb]
        by_cases hjl : j < xs.length
        · have hji : (j : Int) < (xs.length : Int) := by omega
          have hj0 : (0 : Int) ≤ (j : Int) := by omega
          obtain ⟨b3, o3, rfl, hb3, hc3⟩ := uvs_get HS3.out hjl
          obtain ⟨x, hx⟩ : ∃ x, x = xs.getD j 0 := ⟨_, rfl⟩
          rw [← hx] at hc3
          have hxm : xs[j] = x := by rw [hx, List.getD_eq_getElem?_getD, List.getElem?_eq_getElem hjl]; rfl
          have hx2 := HX2.out x (by rw [← hxm]; exact List.getElem_mem hjl)
          have hnx : (xs.take (j + 1)).all (fun q => p % q != 0) = (bb && (p % x != 0)) := by
            rw [List.take_succ_eq_append_getElem hjl, List.all_append, ← hbb, hxm]; simp
          have HNX := hid hnx
          obtain ⟨r, hr⟩ : ∃ r, r = p % x := ⟨_, rfl⟩
          rw [← hr] at hnx
          have hrt : Int.tmod (p : Int) (x : Int) = (r : Int) := by rw [hr]; exact (Int.ofNat_tmod p x).symm
          have hx0 : ¬ (x : Int) = 0 := by omega
          have hx1 : (1 : Int) ≤ (x : Int) := by omega
          have HNX2 := hid hnx
          clear hx hxm hbb hnx HNX hr hx2
          rcases bb with _ | _
          · go_wp2
            have hj := HJ.out
            go_roundg (xs.length - j - 1)
            case measure => omega
            case rel => exact ⟨j + 1, by omega, by go_num, by rw [HNX2.out]; rfl, rfl⟩
          · by_cases hr0 : r = 0
            · have hne : ((r : Int) != 0) = false := by rw [bne_eq_false_iff_eq]; omega
              have HR0 := hid hr0
              clear hr0
              go_wp2
              have hj := HJ.out
              go_roundg (xs.length - j - 1)
              case measure => omega
              case rel => exact ⟨j + 1, by omega, by go_num, by rw [HNX2.out, HR0.out]; rfl, rfl⟩
            · have hne : ((r : Int) != 0) = true := by rw [bne_iff_ne]; omega
              have hne2 : (r != 0) = true := by rw [bne_iff_ne]; exact hr0
              have HR0 := hid hne2
              clear hr0 hne2
              go_wp2
              have hj := HJ.out
              go_roundg (xs.length - j - 1)
              case measure => omega
              case rel => exact ⟨j + 1, by omega, by go_num, by rw [HNX2.out, HR0.out]; rfl, rfl⟩
        · obtain rfl : j = xs.length := by have := HJ.out; omega
          have hji : ¬ (xs.length : Int) < (xs.length : Int) := by omega
          rw [List.take_length] at hbb
          have HBB := hid hbb
          have hnx := HNEXT.out
          rw [← hbb] at hnx
          have HNX := hid hnx
          have hpw : IntKind.u64.wrap ((p : Int) + 1) = (p : Int) + 1 := by rw [IntKind.wrap_u64]; omega
          clear hbb hnx HJ
          rcases bb with _ | _
          · have hn1 := HNX.out
            rw [if_neg (by decide)] at hn1
            have HN1 := hid hn1
            clear hn1
            go_wp2
            have hp := HP.out
            have hl2 := HLAST.out hlt
            go_roundg (410 - p - 1)
            case measure => omega
            case rel => exact ⟨p + 1, by omega, by omega, by go_num, by rw [HN1.out]; exact HO.out, by rw [HN1.out]; omega, HB.out⟩
          · have hn1 := HNX.out
            rw [if_pos rfl] at hn1
            have HN1 := hid hn1
            clear hn1
            have HO2 := hid (World.ownsRow.alloc HO.out (.cells #[.int .u64 (p : Int)] 52))
            go_wp2_with (at_builtin; refine wpList_append_lie rfl (.tmp 30) (.tmp 32) 43 rfl w.heap.size 52 (.int .u64 0) 8 Tryd.underlying43 infoU64 rfl rfl HO2.out rfl rfl (Lie.new1 _ _ _) (by intro u hu; simp at hu; subst hu; rfl) (by rw [List.length_singleton]; unfold maxLen; omega) (by rw [List.length_singleton]; omega) (by have := HB.out.size; simp; omega) ?_)
            intro v5 w5 hown5 hg5 _
            have hO5 : OwnU w5 w.heap.size v5 (prs (p + 1)) := by rw [HN1.out]; exact ownu_snoc hown5 rfl rfl
            have hB5 : Below w.heap.size w w5 := (HB.out.alloc HB.out.size _).grown hg5 (by have := HB.out.size; simp; omega) (fun q h => own_lt HO2.out q h)
            have HO5 := hid hO5; have HB5 := hid hB5
            clear hown5 hg5 hO5 hB5 HO2
            go_wp2
            have hp := HP.out
            have hl2 := HLAST.out hlt
            go_roundg (410 - p - 1)
            case measure => omega
            case rel => exact ⟨p + 1, by omega, by omega, by go_num, HO5.out, by rw [HN1.out, List.length_append, List.length_singleton]; omega, HB5.out⟩
    · have hln : xs.length = n := by have := HL.out; omega
      have hli : ¬ (xs.length : Int) < (n : Int) := by omega
      have HF := hid (HTK.out hln)
      clear hln
      go_wp2
      go_ret
      exact ⟨_, rfl, by rw [← HF.out]; exact HO.out, HB.out⟩
end Go.Proofs.YtokggppfobbblaaDoor
