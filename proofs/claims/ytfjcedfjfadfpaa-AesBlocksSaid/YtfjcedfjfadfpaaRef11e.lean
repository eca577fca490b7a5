/-
  The document's layer 11: all words of a key.
-/
import Derived.Test.YtfjcedfjfadfpaaRef11d
import Derived.Test.YtfjcedfjfadfpaaAesH
namespace Go.Proofs.Ytfjcedfjfadfpaa
open Go.RowKit
set_option linter.unusedVariables false
set_option linter.unusedSimpArgs false

theorem infoSI : (Try.prog.info? 32).map (fun i => (i.zero, i.size, i.bytes)) = some (some (.slice none 0 0), 1, 24) := by kernel_rfl
theorem own_neE {w : World} {B B' : Nat} {e e' : TypeId} {s s' n n' : Nat} {v v' : Value} {xs ys : List Value} (h : w.ownsRow B e s v n xs) (h' : w.ownsRow B' e' s' v' n' ys) (hne : e ≠ e') : v.ownBlock = none ∨ v.ownBlock ≠ v'.ownBlock := by
  rcases h.2 with ⟨rfl, _⟩ | ⟨g, cap, cur, rfl, _, hg, _⟩
  · exact .inl rfl
  rcases h'.2 with ⟨rfl, _⟩ | ⟨g', cap', cur', rfl, _, hg', _⟩
  · exact .inr (by simp [Value.ownBlock])
  · refine .inr fun e0 => ?_
    have : g = g' := by simpa [Value.ownBlock] using e0
    subst this
    rw [hg] at hg'
    injection hg' with hg'
    injection hg' with _ ht
    exact hne ht
theorem own_less {w : World} {B B' n : Nat} {e : TypeId} {v : Value} {xs : List Value} (h : w.ownsRow B' e 1 v n xs) (hB : B ≤ B') : w.ownsRow B e 1 v n xs := by
  obtain ⟨hl, h⟩ := h
  rcases h with h | ⟨g, cap, cur, hv, hb, rest⟩
  · exact ⟨hl, .inl h⟩
  · exact ⟨hl, .inr ⟨g, cap, cur, hv, by omega, rest⟩⟩
/-- Rows of four whole numbers, as a row. -/
def WRows (w : World) (B : Nat) (K : Nat → Nat) (v : Value) (i : Nat) : Prop :=
  ∃ vs : List Value, vs.length = i ∧ w.ownsRow B 32 1 v i vs ∧ ∀ j x, vs[j]? = some x → w.ownsRow B 3 1 x 4 (iR (dwW K j) 4)
theorem WRows.nil (w : World) (B : Nat) (K : Nat → Nat) : WRows w B K (.slice none 0 0) 0 := ⟨[], rfl, World.ownsRow_nil _ _ _ _, fun j x h => by simp at h⟩
theorem WRows.kept {w w' : World} {B : Nat} {K : Nat → Nat} {v : Value} {i : Nat} (h : WRows w B K v i) (hb : Below w.heap.size w w') : WRows w' B K v i := by
  obtain ⟨vs, hl, ho, he⟩ := h
  exact ⟨vs, hl, own_grow ho hb, fun j x hx => own_grow (he j x hx) hb⟩
theorem WRows.at_ {w : World} {B : Nat} {K : Nat → Nat} {A : Option Addr} {c i : Nat} (h : WRows w B K (.slice A i c) i) (j : Nat) (hj : j < i) : RowAt w A i c K j := by
  obtain ⟨vs, hl, ho, he⟩ := h
  obtain ⟨g, cap, cur, hv, _, hg, h1, h2, _, _⟩ := ho.2.resolve_left (fun h => by have := h.2; omega)
  simp only [Value.slice.injEq] at hv
  obtain ⟨hA, _, hc⟩ := hv
  subst hA; subst hc
  have hx : vs[j]? = some vs[j] := List.getElem?_eq_getElem (by omega)
  obtain ⟨A', c', hv', hI⟩ := ints_own (he j _ hx) (by omega)
  refine ⟨g, A', c', rfl, h1, by simpa [maxLen] using h2, block_lt hg, ?_, hI⟩
  have := ho.cells (g := g) rfl j _ hx
  rw [← hv']
  simpa [Addr.add_lit] using this
theorem WRows.snoc {w2 w3 : World} {B : Nat} {K : Nat → Nat} {v v2 x : Value} {i : Nat} {vs : List Value} {o : Obj} (hl : vs.length = i) (ho : w2.ownsRow B 32 1 v i vs) (he : ∀ j y, vs[j]? = some y → w2.ownsRow B 3 1 y 4 (iR (dwW K j) 4)) (hx : w2.ownsRow B 3 1 x 4 (iR (dwW K i) 4))
    (hn : w3.ownsRow B 32 1 v2 (i + 1) (vs ++ [x])) (hg : (w2.alloc o).grownBy w3 v.ownBlock) : WRows w3 B K v2 (i + 1) := by
  refine ⟨vs ++ [x], by simp [hl], hn, fun j y hy => ?_⟩
  have hk : w2.ownsRow B 3 1 y 4 (iR (dwW K j) 4) := by
    by_cases hj : j < vs.length
    · rw [List.getElem?_append_left hj] at hy; exact he j y hy
    · rw [List.getElem?_append_right (by omega)] at hy
      have : j - vs.length = 0 := by
        have := (List.getElem?_eq_some_iff.1 hy).1
        simp at this; omega
      rw [this] at hy
      have hji : j = i := by omega
      subst hji
      simp at hy
      subst hy
      exact hx
  exact World.ownsRow.kept (World.ownsRow.alloc hk o) hg (own_neE hk ho (by decide))
set_option maxRecDepth 100000 in
set_option maxHeartbeats 4000000 in
theorem Words11_any (A Ab : Option Addr) (n nb c cb : Nat) (key : List UInt8) (w : World) (hA : Sq w w.heap.size A c (bvs key)) (hkey : key.length = 16) (hn : n = 16) (hnb : nb = 256) (hBox : Ints w w.heap.size Ab cb boxN 256) :
    Calls Try.prog 14 #[.slice A n c, .slice Ab nb cb] w fun e w' => ∃ Aw cw, e = .returned (.slice Aw 44 cw) ∧ (∀ j, j < 44 → RowAt w' Aw 44 cw (bf key) j) ∧ Below w.heap.size w w' := by
  subst hn; subst hnb
  have hcap := hA.cap
  rw [bvs_length, hkey] at hcap
  have HA := hid hA; have HBX := hid hBox; have HKEY := hid hkey; have HCAP := hid hcap
  clear hA hBox hkey hcap
  go_enter Try.func14, Try.ntmps14
  go_wp2
  go_loopg [5, 6] 44 (fun g v ii wr => ∃ i : Nat, i + g = 44 ∧ ii = .int .i64 (i : Int) ∧ WRows wr w.heap.size (bf key) v i ∧ Below w.heap.size w wr)
  case atStart => exact ⟨0, rfl, rfl, WRows.nil _ _ _, Below.refl _ _⟩
  case round =>
    obtain ⟨i, hi, rfl, hw, hb⟩ := hrel
    have HI := hid hi; have HW := hid hw; have HB := hid hb
    have hi44 : i ≤ 44 := by omega
    obtain ⟨Aw, cw, rfl⟩ : ∃ Aw cw, u5 = .slice Aw i cw := by
      obtain ⟨vs, hl, ho, _⟩ := hw
      obtain ⟨A', c', hv, _⟩ := own_sl ho
      exact ⟨A', c', hv⟩
    clear hi hw hb
    by_cases hlt : i < 44
    · have hx : (i : Int) < 44 := by omega
      have hwi : IntKind.i64.wrap ((i : Int) + 1) = ((i + 1 : Nat) : Int) := (IntWalk.i64_in _ (by omega)).trans (by omega)
      go_wp2
      refine word11_loop i A Ab Aw c cb cw key wr _ _ _ _ _ _ _ _ _ _ _ _ _ _ _ _ _ _ _ _ _ _ _ _ _ _ _ _ _ _ _ _ _ _ _ _ _ _ _ _ _ _ _ _ _ _ _ _ _ _ _ _ _ _ _ _ _ _ _ _ _ _ _ _ _ _ _ _ _ _ _ _ _ _ _ _ _ _ _ _ _ _ _ _ _ _ _ hlt HKEY.out (((HA.out.below HB.out).more HB.out.size).lie) HCAP.out ((HBX.out.below HB.out).more HB.out.size) (fun j hj => HW.out.at_ j hj) ?_
      intro v w2 u9 u10 u11 u16 u17 u18 u19 u20 u21 u22 u23 u24 u25 u26 u27 u28 u29 u30 u31 u32 u33 u34 u35 u36 u37 u38 u39 u40 u41 u42 u43 u44 u45 u46 u47 u48 u49 u50 u51 u52 u53 u54 u55 u56 u57 u58 u59 u60 u61 u62 u63 u64 u65 u66 u67 u68 u69 u70 u71 u72 u73 u74 u75 u76 u77 u78 u79 u80 u81 u82 u83 u84 u85 u86 u87 hown hb2
      obtain ⟨Av, cv, rfl, _⟩ := ints_own hown (by omega)
      have HB2 : Hid (Below w.heap.size w w2) := hid (HB.out.trans (hb2.mono HB.out.size))
      obtain ⟨vs, hl, ho, he⟩ := HW.out.kept hb2
      have HL := hid hl; have HO := hid ho; have HE := hid he
      have HX : Hid (w2.ownsRow w.heap.size 3 1 (.slice Av 4 cv) 4 (iR (dwW (bf key) i) 4)) := hid (own_less hown HB.out.size)
      have HO1 := hid (World.ownsRow.alloc ho (.cells #[.slice Av 4 cv] 32))
      have hsz := HB2.out.size
      clear hl ho he hown hb2 HW HB
      go_wp2_with (at_builtin; refine wpList_append_lie rfl _ _ 34 rfl w.heap.size 32 (.slice none 0 0) 24 Try.underlying34 infoSI rfl rfl HO1.out rfl rfl (Lie.new1 _ _ _) (by intro u hu; simp at hu; subst hu; rfl) ?e1 ?e2 ?e3 ?_)
      case e1 => first | (rw [List.length_singleton]; unfold maxLen; omega) | (unfold maxLen; omega)
      case e2 => first | (rw [List.length_singleton]; omega) | omega
      case e3 => first | (simp; omega) | omega
      intro v3 w3 hown3 hg3 _
      have hb3 : Below w.heap.size w w3 := (HB2.out.alloc hsz _).grown hg3 (by simp; omega) (fun q h => own_lt HO1.out q h)
      have HW3 : Hid (WRows w3 w.heap.size (bf key) v3 (i + 1)) := hid (WRows.snoc HL.out HO.out HE.out HX.out hown3 hg3)
      have HB3 := hid hb3
      clear hown3 hg3 hb3 HO1 HB2 hsz HL HO HE HX
      go_wp2
      have hi := HI.out
      go_roundg (44 - i - 1)
      case measure => omega
      case rel => exact ⟨i + 1, by omega, rfl, HW3.out, HB3.out⟩
    · have hie : i = 44 := by omega
      subst hie
      have hx : ¬ ((44 : Nat) : Int) < 44 := by omega
      clear hx
      go_wp2
      go_ret
      exact ⟨Aw, cw, rfl, fun j hj => HW.out.at_ j hj, HB.out⟩
end Go.Proofs.Ytfjcedfjfadfpaa
