/-
  Items that come in, opened.
-/
import Derived.Test.YtkdpaaaleicopaaOpen
import Derived.Test.YtkdpaaaleicopaaLaw01b
namespace Go.Proofs.Ytkdpaaaleicopaa
open Go.RowKit Go.ChangeShapes Go.WideShapes
set_option linter.unusedVariables false
set_option linter.unusedSimpArgs false

section
variable {H : Type} {enc : TypeId × Value → H} {w : World} {base : Nat} {spare : Nat → Bool} {held : Bool}

/-- A struct of one-cell fields: each field's cell, and its own reading. -/
theorem open_fields {P : Program} {t : TypeId} {fs : Array Field} {fuel : Nat} {cs : List Value} {x : DataW H × List MemPlace} (hs : P.underlying t = some (.struct fs)) (hone : Go.Deep.oneCellFields P fs = true) (hC : P.cellsOf t = fs.size)
    (h : DataW.trod enc P w base spare held fuel t cs = some x) : ∃ n, ∀ (j : Nat) (f : Field), fs[j]? = some f → ∃ v y, cs[j]? = some v ∧ DataW.trod enc P w base spare held n f.type [v] = some y := by
  obtain ⟨ys, n, _, _, hlen, hyl, hg⟩ := DataW.trod_struct hs h
  refine ⟨n, fun j f hj => ?_⟩
  have hlt : j < fs.size := (Array.getElem?_eq_some_iff.1 hj).1
  have hcl : j < cs.length := by rw [hlen, hC]; exact hlt
  obtain ⟨ho, hk⟩ := Go.Deep.hone_of hone j f hj
  have h1 := hg j f hj
  have hd : (cs.drop j).take 1 = [cs[j]] := by rw [List.drop_eq_getElem_cons hcl]; rfl
  rw [ho, hk, hd] at h1
  exact ⟨cs[j], ys[j]'(by omega), List.getElem?_eq_getElem hcl, h1.trans (List.getElem?_eq_getElem (by omega))⟩

theorem open_item {fuel : Nat} {cs : List Value} {x : DataW H × List MemPlace} {b o : Nat} (hc : ∀ j, j < 5 → w.cell? ⟨b, o + j, none⟩ = cs[j]?) (h : DataW.trod enc Try.prog w base spare held fuel 29 cs = some x) :
    ∃ it : It, ItAt w w.heap.size b o it ∧ it.n < 18446744073709551616 ∧ it.l.length ≤ 9223372036854775807 := by
  obtain ⟨n, hf⟩ := open_fields Try.underlying29 (by kernel_rfl) (by kernel_rfl) h
  obtain ⟨v0, y0, c0, t0⟩ := hf 0 _ rfl
  obtain ⟨v1, y1, c1, t1⟩ := hf 1 _ rfl
  obtain ⟨v2, y2, c2, t2⟩ := hf 2 _ rfl
  obtain ⟨v3, y3, c3, t3⟩ := hf 3 _ rfl
  obtain ⟨v4, y4, c4, t4⟩ := hf 4 _ rfl
  obtain ⟨k0, e0, _, _⟩ := DataW.trod_int Try.underlying3 t0
  obtain ⟨k1, e1, _, _⟩ := DataW.trod_int Try.underlying3 t1
  obtain ⟨k2, e2, _, hw⟩ := DataW.trod_int Try.underlying26 t2
  obtain ⟨A3, q3, xs, e3, L3, _⟩ := open_bytes t3
  obtain ⟨A4, q4, ls, e4, R4, hl4⟩ := open_rows2 t4
  simp only [List.cons.injEq, and_true] at e0 e1 e2 e3 e4
  subst e0 e1 e2 e3 e4
  have hb2 := bounds_u64 hw
  have d0 := hc 0 (by omega)
  have d1 := hc 1 (by omega)
  have d2 := hc 2 (by omega)
  have d3 := hc 3 (by omega)
  have d4 := hc 4 (by omega)
  rw [c0] at d0; rw [c1] at d1; rw [c2] at d2; rw [c3] at d3; rw [c4] at d4
  refine ⟨⟨k0, k1, k2.toNat, xs, ls⟩, ⟨d0, d1, ?_, ⟨A3, q3, d3, L3⟩, A4, q4, d4, R4⟩, by simp only; omega, hl4⟩
  rw [d2, show ((k2.toNat : Nat) : Int) = k2 from by omega]

theorem open_items {fuel : Nat} {cs : List Value} {x : DataW H × List MemPlace} (h : DataW.trod enc Try.prog w base spare held fuel 23 cs = some x) :
    ∃ A c l, cs = [.slice A l.length c] ∧ Its w w.heap.size A l ∧ l.length ≤ 9223372036854775807 ∧ (∀ x ∈ l, x.l.length ≤ 9223372036854775807) ∧ ∀ x ∈ l, x.n < 18446744073709551616 := by
  rcases Go.Deep.open_slice Try.underlying23 h with ⟨rfl, _⟩ | ⟨a, len, cap, m, n, D, Pl, rfl, _, hl, hm, hmm, _, hi⟩
  · exact ⟨none, 0, [], rfl, fun h => absurd rfl h, by simp, by simp, by simp⟩
  · have hlen : len ≤ m := by rw [hmm]; split <;> omega
    rw [show Try.prog.cellsOf 29 = 5 from by kernel_rfl] at hi
    obtain ⟨b, o, sp⟩ := a
    by_cases h0 : len = 0
    · subst h0
      exact ⟨_, cap, [], rfl, fun h => absurd rfl h, by simp, by simp, by simp⟩
    · obtain ⟨cs0, hc0, _⟩ := hi 0 (by omega)
      obtain ⟨_, _, hat0⟩ := World.cells?_some hc0
      have hsp : sp = none := by
        obtain ⟨_, hl0, _⟩ := World.cells?_some hc0
        have h1 := hat0 0 (by omega)
        rw [List.getElem?_eq_getElem (by omega)] at h1
        simpa [Addr.add] using spot_none h1
      subst hsp
      have hblt : b < w.heap.size := by
        obtain ⟨_, hl0, _⟩ := World.cells?_some hc0
        have h1 := hat0 0 (by omega)
        rw [List.getElem?_eq_getElem (by omega)] at h1
        have := World.block_lt_of_cell? w _ h1
        rwa [add_none, add_none] at this
      have hinh : Inhabited It := ⟨⟨0, 0, 0, [], []⟩⟩
      obtain ⟨f, hf⟩ := Go.Deep.choose_lt (α := It) (n := len) (p := fun i it => ItAt w w.heap.size b (o + i * 5) it ∧ it.n < 18446744073709551616 ∧ it.l.length ≤ 9223372036854775807) (fun i hil => by
        obtain ⟨cs', hc', ht⟩ := hi i (by omega)
        obtain ⟨_, _, hat⟩ := World.cells?_some hc'
        exact open_item (b := b) (o := o + i * 5) (fun j hj => by have := hat j hj; rwa [add_none, add_none] at this) ht)
      have hall : ∀ x ∈ (List.range len).map f, x.n < 18446744073709551616 ∧ x.l.length ≤ 9223372036854775807 := by
        intro x hx
        obtain ⟨i, hi1, rfl⟩ := List.mem_map.1 hx
        exact (hf i (List.mem_range.1 hi1)).2
      refine ⟨some ⟨b, o, none⟩, cap, (List.range len).map f, by simp, fun _ => ⟨b, o, rfl, hblt, fun k x hk => ?_⟩, by simp [maxLen] at hm ⊢; omega, fun x hx => (hall x hx).2, fun x hx => (hall x hx).1⟩
      have hkl : k < len := by simpa using (List.getElem?_eq_some_iff.1 hk).1
      have hx : f k = x := by simpa [hkl] using hk
      subst hx
      exact (hf k hkl).1
end
end Go.Proofs.Ytkdpaaaleicopaa
