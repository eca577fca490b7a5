/-
  The statements of layer 1: items in memory; which are more than are looked at.
-/
import Derived.Test.YtkdpaaaleicopaaLaw01a
namespace Go.Proofs.Ytkdpaaaleicopaa
open Go.RowKit
set_option linter.unusedVariables false
set_option linter.unusedSimpArgs false

/-- An item. -/
structure It where
  kind : Int
  size : Int
  n : Nat
  v : List UInt8
  l : List (List UInt8)

/-- An item lies at a place: five cells, and what they lead to. -/
def ItAt (w : World) (B b o : Nat) (x : It) : Prop :=
  w.cell? ⟨b, o, none⟩ = some (.int .i64 x.kind) ∧ w.cell? ⟨b, o + 1, none⟩ = some (.int .i64 x.size) ∧ w.cell? ⟨b, o + 2, none⟩ = some (.int .u64 (x.n : Int)) ∧
  (∃ A c, w.cell? ⟨b, o + 3, none⟩ = some (.slice A x.v.length c) ∧ Lie w B A (bvs x.v)) ∧ (∃ A c, w.cell? ⟨b, o + 4, none⟩ = some (.slice A x.l.length c) ∧ Rows2 w B A x.l)
/-- A slice of items. -/
def Its (w : World) (B : Nat) (A : Option Addr) (l : List It) : Prop :=
  l ≠ [] → ∃ b o, A = some ⟨b, o, none⟩ ∧ b < B ∧ ∀ (k : Nat) (x : It), l[k]? = some x → ItAt w B b (o + k * 5) x

section
variable {w w' : World} {B b o : Nat} {A : Option Addr} {l : List It} {x : It}
theorem ItAt.keep (h : ItAt w B b o x) (hb : b < B) (hk : ∀ b o, b < B → w'.cell? ⟨b, o, none⟩ = w.cell? ⟨b, o, none⟩) : ItAt w' B b o x := by
  obtain ⟨h1, h2, h3, ⟨A1, c1, h4, h5⟩, A2, c2, h6, h7⟩ := h
  exact ⟨(hk _ _ hb).trans h1, (hk _ _ hb).trans h2, (hk _ _ hb).trans h3, ⟨A1, c1, (hk _ _ hb).trans h4, h5.keep hk⟩, A2, c2, (hk _ _ hb).trans h6, h7.keep hk⟩
theorem Its.keep (h : Its w B A l) (hk : ∀ b o, b < B → w'.cell? ⟨b, o, none⟩ = w.cell? ⟨b, o, none⟩) : Its w' B A l := fun hn => by
  obtain ⟨b, o, hA, hb, hx⟩ := h hn
  exact ⟨b, o, hA, hb, fun k x hkx => (hx k x hkx).keep hb hk⟩
theorem Its.below (h : Its w B A l) (hb : Below B w w') : Its w' B A l := h.keep fun b o hlt => hb.cell (p := ⟨b, o, none⟩) hlt
theorem Its.drewN (h : Its w B A l) (n : Nat) : Its (w.drewN n) B A l := h
theorem Its.at_ (h : Its w B A l) {k : Nat} (hk : k < l.length) : ∃ b o, A = some ⟨b, o, none⟩ ∧ b < B ∧ ItAt w B b (o + k * 5) l[k] := by
  obtain ⟨b, o, hA, hb, hx⟩ := h (fun e => by subst e; simp at hk)
  exact ⟨b, o, hA, hb, hx k _ (List.getElem?_eq_getElem hk)⟩
end

/-- More than is looked at. -/
def farLists (l : List (List UInt8)) : Bool := l.any fun x => decide (200 < x.length)
def farHead (x : It) : Bool := decide (x.kind < 0) || decide (4 < x.kind) || decide (300 < x.v.length) || decide (20 < x.l.length)
def farIt (x : It) : Bool := farHead x || farLists x.l
def farB (l : List It) : Bool := l.any farIt || decide (30 < l.length)

theorem farB_of {l : List It} {k : Nat} (h : k < l.length) (hf : farIt l[k] = true) : farB l = true := by
  unfold farB
  rw [Bool.or_eq_true]
  exact .inl (List.any_eq_true.2 ⟨_, List.getElem_mem h, hf⟩)
theorem any_take_snoc {α : Type} (p : α → Bool) (l : List α) (k : Nat) (h : k < l.length) (h1 : (l.take k).any p = false) (h2 : p l[k] = false) : (l.take (k + 1)).any p = false := by
  rw [List.take_succ_eq_append_getElem h, List.any_append, h1]
  simp [h2]

set_option maxHeartbeats 3200000 in
theorem far_any (A : Option Addr) (l : List It) (c : Nat) (w : World) (B : Nat) (hA : Its w B A l) (hm : l.length ≤ 9223372036854775807) (hm2 : ∀ x ∈ l, x.l.length ≤ 9223372036854775807) :
    Calls Try.prog 7 #[.slice A l.length c] w fun e w' => e = .returned (.bool (farB l)) ∧ w = w' := by
  go_enter Try.func7, Try.ntmps7
  go_wp2
  go_loopg [3] l.length (fun g i wr => ∃ k : Nat, k + g = l.length ∧ i = .int .i64 (k : Int) ∧ (l.take k).any farIt = false ∧ wr = w)
  case atStart => exact ⟨0, by omega, rfl, rfl, rfl⟩
  case round =>
    obtain ⟨k, hk, rfl, ht, rfl⟩ := hrel
    have HT := hid ht
    have HK := hid hk
    clear ht hk
    by_cases hlt : k < l.length
    · obtain ⟨b, o, rfl, hb, h1, h2, h3, ⟨A1, c1, h4, h5⟩, A2, c2, h6, h7⟩ := hA.at_ hlt
      have hl2 := hm2 _ (List.getElem_mem hlt)
      have HB := hid (fun h => farB_of hlt h)
      have HX := hid (fun h => any_take_snoc farIt l k hlt HT.out h)
      generalize hx : l[k] = x at h1 h2 h3 h4 h5 h6 h7 hl2 HB HX
      clear hx h5 hm2 h2 h3 hA
      obtain ⟨kind, size, n, v, ls⟩ := x
      simp only at h1 h4 h6 h7 hl2
      have HR := hid h7
      clear h7
      by_cases p1 : kind < 0
      · have HF := hid (HB.out (by simp [farIt, farHead, p1]))
        go_wp2
        go_ret
        exact ⟨by rw [HF.out]; rfl, rfl⟩
      by_cases p2 : 4 < kind
      · have HF := hid (HB.out (by simp [farIt, farHead, p2]))
        go_wp2
        go_ret
        exact ⟨by rw [HF.out]; rfl, rfl⟩
      by_cases p3 : 300 < v.length
      · have HF := hid (HB.out (by simp [farIt, farHead, p3]))
        go_wp2
        go_ret
        exact ⟨by rw [HF.out]; rfl, rfl⟩
      by_cases p4 : 20 < ls.length
      · have HF := hid (HB.out (by simp [farIt, farHead, p4]))
        go_wp2
        go_ret
        exact ⟨by rw [HF.out]; rfl, rfl⟩
      have q1 : ¬ (300 : Int) < (v.length : Int) := by omega
      have q2 : ¬ (20 : Int) < (ls.length : Int) := by omega
      have HH : Hid (farHead ⟨kind, size, n, v, ls⟩ = false) := hid (by simp [farHead]; omega)
      clear p3 p4
      go_wp2
      go_loopg [4] ls.length (fun g i wr' => ∃ m : Nat, m + g = ls.length ∧ i = .int .i64 (m : Int) ∧ farLists (ls.take m) = false ∧ wr' = wr)
      case atStart => exact ⟨0, by omega, rfl, rfl, rfl⟩
      case round =>
        obtain ⟨m, hm1, rfl, hm3, rfl⟩ := hrel
        have HM := hid hm1
        have HM3 := hid hm3
        clear hm1 hm3
        by_cases hml : m < ls.length
        · obtain ⟨b', o', A3, c3, rfl, hb', hc', _⟩ := HR.out.at_ hml
          by_cases hl : 200 < ls[m].length
          · have HF := hid (HB.out (by
              have : farLists ls = true := List.any_eq_true.2 ⟨_, List.getElem_mem hml, by simpa using hl⟩
              simp [farIt, this]))
            go_wp2
            go_ret
            exact ⟨by rw [HF.out]; rfl, rfl⟩
          · have HN := hid (any_take_snoc (fun x : List UInt8 => decide (200 < x.length)) ls m hml HM3.out (by simpa using hl))
            go_wp2
            have hm1 := HM.out
            go_roundg (ls.length - m - 1)
            case measure => omega
            case rel => exact ⟨m + 1, by omega, by go_num, HN.out, rfl⟩
        · have hm1 := HM.out
          obtain rfl : m = ls.length := by omega
          have HL : Hid (farLists ls = false) := hid (by have := HM3.out; rwa [List.take_length] at this)
          have HY := hid (HX.out (by simp [farIt, HL.out, HH.out]))
          clear hm1
          go_wp2
          have hk := HK.out
          go_roundg (l.length - k - 1)
          case measure => omega
          case rel => exact ⟨k + 1, by omega, by go_num, HY.out, rfl⟩
    · have hk := HK.out
      obtain rfl : k = l.length := by omega
      have HL : Hid (l.any farIt = false) := hid (by have := HT.out; rwa [List.take_length] at this)
      have HF : Hid (farB l = decide ((30 : Int) < (l.length : Int))) := hid (by
        unfold farB
        rw [HL.out, Bool.false_or, decide_eq_decide]
        omega)
      clear hk
      go_wp2
      go_ret
      exact ⟨by rw [HF.out]; rfl, rfl⟩
end Go.Proofs.Ytkdpaaaleicopaa
