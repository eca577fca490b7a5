/-
  The document's own beginnings and constants, by their roots.
-/
import Derived.Test.YtokggppfobbblaaDoorRtsA
import Derived.Test.YtokggppfobbblaaDoorBig6
namespace Go.Proofs.YtokggppfobbblaaDoor
open Go.RowKit
set_option linter.unusedVariables false
set_option linter.unusedSimpArgs false

set_option maxRecDepth 100000 in
set_option maxHeartbeats 3200000 in
theorem Roots_any (w : World) :
    Calls Tryd.prog 26 #[] w fun e w' => ∃ A1 c1 A2 c2, e = .returned (.tuple #[.slice A1 8 c1, .slice A2 64 c2]) ∧ Sq w' w'.heap.size A1 c1 (uvs iv.list) ∧ Sq w' w'.heap.size A2 c2 (uvs kTab) ∧ Below w.heap.size w w' := by
  have HPR := hid (Primes_any 64 w (by omega))
  go_enter Tryd.func26, Tryd.ntmps26
  go_wp2_with fail
  refine HPR.out.mono ?_
  rintro e w2 ⟨v2, rfl, ho2, hb2⟩
  obtain ⟨PR, hPR⟩ : ∃ P, P = (prs 410).take 64 := ⟨_, rfl⟩
  rw [← hPR] at ho2
  have hpl : PR.length = 64 := by rw [hPR, List.length_take, prs_410]; rfl
  have hpb : ∀ j, PR.getD j 0 ≤ 1048576 := fun j => by
    by_cases hj : j < PR.length
    · rw [List.getD_eq_getElem?_getD, List.getElem?_eq_getElem hj]
      have h : ∀ x ∈ PR, x ≤ 1048576 := fun x hx => by
        rw [hPR] at hx
        have := prs_lt 410 x (List.mem_of_mem_take hx)
        omega
      exact h _ (List.getElem_mem hj)
    · rw [List.getD_eq_getElem?_getD, List.getElem?_eq_none (by omega)]; exact Nat.zero_le _
  obtain ⟨AP, cP, rfl, hSP⟩ := own_sl ho2
  rw [hpl]
  have HPS2 := hid hSP.sq; have HPL := hid hpl; have HPB := hid hpb; have HPRE := hid hPR; have HB2 := hid hb2
  clear ho2 hb2 hPR hpl hpb hSP HPR
  go_wp2
  go_loopg [3, 5] 8 (fun g v i wr => ∃ j : Nat, j + g = 8 ∧ i = .int .i64 (j : Int) ∧ OwnU wr w2.heap.size v ((PR.map (rt32 2)).take j) ∧ Below w2.heap.size w2 wr)
  case atStart => exact ⟨0, rfl, rfl, ownu_nil _ _, Below.refl _ _⟩
  case round =>
    obtain ⟨j, hj, rfl, ho, hb⟩ := hrel
    obtain ⟨wq, rfl⟩ : ∃ wq : World, wq = wr := ⟨_, rfl⟩
    have hj2 : j ≤ 8 := by omega
    obtain ⟨xs, hxs⟩ : ∃ xs, xs = (PR.map (rt32 2)).take j := ⟨_, rfl⟩
    rw [← hxs] at ho
    have hxl : xs.length = j := by rw [hxs, List.length_take, List.length_map, HPL.out]; omega
    obtain ⟨A3, c3, rfl, _⟩ := own_sl ho
    have HJ := hid hj; have HXS := hid hxs; have HXL := hid hxl; have HO := hid ho; have HB := hid hb
    clear hj hxs hxl ho hb
    by_cases hlt : j < 8
    · have hji : (j : Int) < 8 := by omega
      have hj0 : (0 : Int) ≤ (j : Int) := by omega
      have hjp : (j : Int) < 64 := by omega
      obtain ⟨p, hp⟩ : ∃ p, p = PR.getD j 0 := ⟨_, rfl⟩
      have hpb : p ≤ 1048576 := by rw [hp]; exact HPB.out j
      obtain ⟨bP, oP, hAP, hbP, hcP⟩ := uvs_get (HPS2.out.below HB.out) (k := j) (by rw [HPL.out]; omega)
      rw [← hp] at hcP
      have hpg : PR[j]? = some p := by rw [hp, List.getD_eq_getElem?_getD, List.getElem?_eq_getElem (by rw [HPL.out]; omega)]; rfl
      have hsn : (PR.map (rt32 2)).take (j + 1) = xs ++ [rt32 2 p] := by rw [List.take_add_one, ← HXS.out, List.getElem?_map, hpg]; rfl
      subst hAP
      obtain ⟨f, hf⟩ : ∃ f, f = rbits (p * 2 ^ (64 * 2)) 2 0 70 % 18446744073709551616 := ⟨_, rfl⟩
      have hfl : f < 18446744073709551616 := by rw [hf]; exact Nat.mod_lt _ (by decide)
      have HR := Root2_any p wq hpb
      rw [← hf] at HR
      obtain ⟨r, hr⟩ : ∃ r, r = f / 4294967296 := ⟨_, rfl⟩
      have hrr : rt32 2 p = r := by rw [hr, hf]; rfl
      rw [hrr] at hsn
      have f1 : IntKind.u64.wrap ((f : Int) / 4294967296) = (r : Int) := by rw [IntKind.wrap_u64]; omega
      have HR := hid HR; have HSN := hid hsn
      clear hp hpg hsn hf hr hrr hfl
      go_wp2_with fail
      refine HR.out.mono ?_
      rintro e w5 ⟨rfl, hb5⟩
      have hO5 : OwnU w5 w2.heap.size (.slice A3 xs.length c3) xs := World.ownsRow.kept HO.out (⟨hb5.os, hb5.tape, hb5.output, hb5.size, fun k hk _ => hb5.block k hk⟩ : wq.grownBy w5 none) (Classical.em _)
      have HB5 := hid (HB.out.trans (hb5.mono HB.out.size))
      have HO5 := hid (World.ownsRow.alloc hO5 (.cells #[.int .u64 (r : Int)] 52))
      clear hb5 hO5 HR hcP
      go_wp2_with (at_builtin; refine wpList_append_lie rfl (.tmp 12) (.tmp 19) 43 rfl w2.heap.size 52 (.int .u64 0) 8 Tryd.underlying43 infoU64 rfl rfl HO5.out rfl rfl (Lie.new1 _ _ _) (by intro u hu; simp at hu; subst hu; rfl) (by rw [List.length_singleton, HXL.out]; unfold maxLen; omega) (by rw [List.length_singleton, HXL.out]; omega) (by have := HB5.out.size; simp; omega) ?_)
      intro v6 w6 hown6 hg6 _
      have hO6 : OwnU w6 w2.heap.size v6 ((PR.map (rt32 2)).take (j + 1)) := by rw [HSN.out]; exact ownu_snoc hown6 rfl rfl
      have hB6 : Below w2.heap.size w2 w6 := (HB5.out.alloc HB5.out.size _).grown hg6 (by have := HB5.out.size; simp; omega) (fun q h => own_lt HO5.out q h)
      have HO6 := hid hO6; have HB6 := hid hB6
      clear hown6 hg6 hO6 hB6 HO5
      go_wp2
      have hj := HJ.out
      go_roundg (8 - j - 1)
      case measure => omega
      case rel => exact ⟨j + 1, by omega, by go_num, HO6.out, HB6.out⟩
    · obtain rfl : j = 8 := by omega
      have hji : ¬ ((8 : Nat) : Int) < 8 := by omega
      have hiv : xs = iv.list := by
        rw [HXS.out, ← List.map_take, HPRE.out, List.take_take]
        exact roots_iv
      have HIV := hid hiv
      have HPS3 := hid ((HPS2.out.below HB.out).more HB.out.size)
      have HOH := hid HO.out
      obtain ⟨w3, hw3⟩ : ∃ w3 : World, w3 = wq := ⟨_, rfl⟩
      subst hw3
      have HBH := hid HB.out
      have hx8 : xs.length = 8 := HXL.out
      obtain ⟨hs, hhs⟩ : ∃ hs, hs = xs := ⟨_, rfl⟩
      subst hhs
      rw [hx8]
      have HX8 := hid hx8
      obtain ⟨AH, hAH⟩ : ∃ A, A = A3 := ⟨_, rfl⟩
      obtain ⟨cH, hcH⟩ : ∃ c, c = c3 := ⟨_, rfl⟩
      subst hAH; subst hcH
      clear hiv hx8 HXS HXL HO HB HJ hji hlt hj2
      go_wp2
      go_loopg [4, 6] 64 (fun g v i wr => ∃ j : Nat, j + g = 64 ∧ i = .int .i64 (j : Int) ∧ OwnU wr w3.heap.size v ((PR.map (rt32 3)).take j) ∧ Below w3.heap.size w3 wr)
      case atStart => exact ⟨0, rfl, rfl, ownu_nil _ _, Below.refl _ _⟩
      case round =>
        obtain ⟨j, hj, rfl, ho, hb⟩ := hrel
        obtain ⟨wq, rfl⟩ : ∃ wq : World, wq = wr := ⟨_, rfl⟩
        have hj2 : j ≤ 64 := by omega
        obtain ⟨xs, hxs⟩ : ∃ xs, xs = (PR.map (rt32 3)).take j := ⟨_, rfl⟩
        rw [← hxs] at ho
        have hxl : xs.length = j := by rw [hxs, List.length_take, List.length_map, HPL.out]; omega
        obtain ⟨A3, c3, rfl, _⟩ := own_sl ho
        have HJ := hid hj; have HXS := hid hxs; have HXL := hid hxl; have HO := hid ho; have HB := hid hb
        clear hj hxs hxl ho hb
        by_cases hlt : j < 64
        · have hji : (j : Int) < 64 := by omega
          have hj0 : (0 : Int) ≤ (j : Int) := by omega
          have hjp : (j : Int) < 64 := by omega
          obtain ⟨p, hp⟩ : ∃ p, p = PR.getD j 0 := ⟨_, rfl⟩
          have hpb : p ≤ 1048576 := by rw [hp]; exact HPB.out j
          obtain ⟨bP, oP, hAP, hbP, hcP⟩ := uvs_get (HPS3.out.below HB.out) (k := j) (by rw [HPL.out]; omega)
          rw [← hp] at hcP
          have hpg : PR[j]? = some p := by rw [hp, List.getD_eq_getElem?_getD, List.getElem?_eq_getElem (by rw [HPL.out]; omega)]; rfl
          have hsn : (PR.map (rt32 3)).take (j + 1) = xs ++ [rt32 3 p] := by rw [List.take_add_one, ← HXS.out, List.getElem?_map, hpg]; rfl
          subst hAP
          obtain ⟨f, hf⟩ : ∃ f, f = rbits (p * 2 ^ (64 * 3)) 3 0 70 % 18446744073709551616 := ⟨_, rfl⟩
          have hfl : f < 18446744073709551616 := by rw [hf]; exact Nat.mod_lt _ (by decide)
          have HR := Root3_any p wq hpb
          rw [← hf] at HR
          obtain ⟨r, hr⟩ : ∃ r, r = f / 4294967296 := ⟨_, rfl⟩
          have hrr : rt32 3 p = r := by rw [hr, hf]; rfl
          rw [hrr] at hsn
          have f1 : IntKind.u64.wrap ((f : Int) / 4294967296) = (r : Int) := by rw [IntKind.wrap_u64]; omega
          have HR := hid HR; have HSN := hid hsn
          clear hp hpg hsn hf hr hrr hfl
          go_wp2_with fail
          refine HR.out.mono ?_
          rintro e w5 ⟨rfl, hb5⟩
          have hO5 : OwnU w5 w3.heap.size (.slice A3 xs.length c3) xs := World.ownsRow.kept HO.out (⟨hb5.os, hb5.tape, hb5.output, hb5.size, fun k hk _ => hb5.block k hk⟩ : wq.grownBy w5 none) (Classical.em _)
          have HB5 := hid (HB.out.trans (hb5.mono HB.out.size))
          have HO5 := hid (World.ownsRow.alloc hO5 (.cells #[.int .u64 (r : Int)] 52))
          clear hb5 hO5 HR hcP
          go_wp2_with (at_builtin; refine wpList_append_lie rfl (.tmp 25) (.tmp 32) 43 rfl w3.heap.size 52 (.int .u64 0) 8 Tryd.underlying43 infoU64 rfl rfl HO5.out rfl rfl (Lie.new1 _ _ _) (by intro u hu; simp at hu; subst hu; rfl) (by rw [List.length_singleton, HXL.out]; unfold maxLen; omega) (by rw [List.length_singleton, HXL.out]; omega) (by have := HB5.out.size; simp; omega) ?_)
          intro v6 w6 hown6 hg6 _
          have hO6 : OwnU w6 w3.heap.size v6 ((PR.map (rt32 3)).take (j + 1)) := by rw [HSN.out]; exact ownu_snoc hown6 rfl rfl
          have hB6 : Below w3.heap.size w3 w6 := (HB5.out.alloc HB5.out.size _).grown hg6 (by have := HB5.out.size; simp; omega) (fun q h => own_lt HO5.out q h)
          have HO6 := hid hO6; have HB6 := hid hB6
          clear hown6 hg6 hO6 hB6 HO5
          go_wp2
          have hj := HJ.out
          go_roundg (64 - j - 1)
          case measure => omega
          case rel => exact ⟨j + 1, by omega, by go_num, HO6.out, HB6.out⟩
        · obtain rfl : j = 64 := by omega
          have hji : ¬ ((64 : Nat) : Int) < 64 := by omega
          have hk : xs = kTab := by
            rw [HXS.out, List.take_of_length_le (by rw [List.length_map, HPL.out]; exact Nat.le_refl _), HPRE.out]
            exact roots_k
          have hx64 : xs.length = 64 := HXL.out
          obtain ⟨_, _, e1, hS1⟩ := own_sl HO.out
          have hO8 : OwnU wq w2.heap.size (.slice AH hs.length cH) hs := World.ownsRow.kept HOH.out (⟨HB.out.os, HB.out.tape, HB.out.output, HB.out.size, fun k hk _ => HB.out.block k hk⟩ : w3.grownBy wq none) (Classical.em _)
          obtain ⟨_, _, e2, hS2⟩ := own_sl hO8
          simp only [Value.slice.injEq] at e1 e2
          obtain ⟨rfl, _, rfl⟩ := e1
          obtain ⟨rfl, _, rfl⟩ := e2
          have HSA := hid hS1.sq; have HSB := hid hS2.sq
          rw [hk] at HSA
          rw [HIV.out] at HSB
          rw [hx64]
          have HBF := hid (HB2.out.trans ((HBH.out.trans (HB.out.mono HBH.out.size)).mono HB2.out.size))
          clear hk hx64 hS1 hO8 hS2 HO HOH HXS HXL
          go_wp2
          exact bodyPost_ret (by simp [results, Tryd.results26]) rfl ⟨_, _, _, _, rfl, HSB.out, HSA.out, HBF.out⟩
end Go.Proofs.YtokggppfobbblaaDoor
