/-
  Texts of this claim in one file: OpenB, OpenF, OpenN, OpenLs.
-/
import Derived.Test.YthooibljnfnnhaaRows
import Derived.Test.YthooibljnfnnhaaPk24
import Derived.Test.YthooibljnfnnhaaPk25
import Derived.ProofKit
import Derived.OpenShut
import Derived.ShutString
import Derived.ChangeOld
import Derived.Deep.Slices
import Derived.Deep.Fields
import Derived.Test.YthooibljnfnnhaaPk10
import Derived.Test.YthooibljnfnnhaaPk21
section
namespace Go.Proofs.Ythooibljnfnnhaa
open Go.RowKit Go.ChangeShapes Go.WideShapes
set_option linter.unusedVariables false
set_option linter.unusedSimpArgs false
section
variable {H : Type} {enc : TypeId × Value → H} {w : World} {base : Nat} {spare : Nat → Bool} {held : Bool}
theorem spot_none {w : World} {a : Addr} {v : Value} (h : w.cell? a = some v) : a.spot = none := World.cell?_spot h
/-- An address at which a cell is read has no spot, where it is the j-th from a. -/
theorem lie_of_cells {cs : List Value} {a : Addr} (h : ∀ j u, cs[j]? = some u → w.cell? (a.add j) = some u) : Lie w w.heap.size (some a) cs := fun hn => by
  obtain ⟨b, o, sp⟩ := a
  have h0 := h 0 (cs[0]'(List.length_pos_iff.2 hn)) (List.getElem?_eq_getElem _)
  have hs : sp = none := by simpa [Addr.add] using spot_none h0
  subst hs
  have hlt := World.block_lt_of_cell? w _ h0
  rw [add_none] at hlt
  exact ⟨b, o, rfl, hlt, fun j u hu => by have := h j u hu; rwa [add_none] at this⟩
theorem open_bytes {fuel : Nat} {cs : List Value} {x : DataW H × List MemPlace} (h : DataW.trod enc Try.prog w base spare held fuel 25 cs = some x) :
    ∃ A c xs, cs = [.slice A xs.length c] ∧ Lie w w.heap.size A (bvs xs) ∧ xs.length ≤ c ∧ c ≤ 9223372036854775807 := by
  rcases open_ints Try.underlying25 Try.underlying5 (by kernel_rfl) h with ⟨rfl, _⟩ | ⟨a, len, cap, zs, rfl, _, hl, hm, hz, _, hcell, hwf⟩
  · exact ⟨none, 0, [], rfl, Lie.nil, by simp, by omega⟩
  · have hlen : len ≤ zs.length := by rw [hz]; split <;> omega
    have hx : ((zs.take len).map fun z => UInt8.ofNat z.toNat).length = len := by simp; omega
    refine ⟨some a, cap, (zs.take len).map fun z => UInt8.ofNat z.toNat, by rw [hx], lie_of_cells ?_, by rw [hx]; exact hl, by simpa [maxLen] using hm⟩
    intro j u hu
    have hj : j < len := by
      have := (List.getElem?_eq_some_iff.1 hu).1
      rw [bvs_length, hx] at this
      exact this
    have hjz : j < zs.length := by omega
    rw [hcell j hjz]
    have hw := bounds_u8 (hwf zs[j] (List.getElem_mem hjz))
    have hb : (((UInt8.ofNat zs[j].toNat).toNat : Nat) : Int) = zs[j] := by
      simp only [UInt8.toNat_ofNat']
      omega
    simp only [bvs, List.getElem?_map, List.getElem?_take, if_pos hj, List.getElem?_eq_getElem hjz, Option.map_some, Option.some.injEq] at hu
    rw [← hu, hb]
    simp [hjz]
end
end Go.Proofs.Ythooibljnfnnhaa
end
section
namespace Go.Proofs.Ythooibljnfnnhaa
open Go.RowKit Go.ChangeShapes Go.WideShapes
set_option linter.unusedVariables false
set_option linter.unusedSimpArgs false
section
variable {H : Type} {enc : TypeId × Value → H} {w : World} {base : Nat} {spare : Nat → Bool} {held : Bool}
/-- A struct of one-cell fields: each field's cell, and its own reading. -/
theorem open_fields {P : Program} {t : TypeId} {fs : Array Field} {fuel : Nat} {cs : List Value} {x : DataW H × List MemPlace} (hs : P.underlying t = some (.struct fs)) (hone : Go.Deep.oneCellFields P fs = true) (hC : P.cellsOf t = fs.size)
    (h : DataW.trod enc P w base spare held fuel t cs = some x) : ∃ n, ∀ (j : Nat) (f : Field), fs[j]? = some f → ∃ v y, cs[j]? = some v ∧ DataW.trod enc P w base spare held n f.type [v] = some y := by
  obtain ⟨ys, n, _, _, hlen, hyl, hg⟩ := DataW.trod_struct hs h
  refine ⟨n, fun j f hj => ?_⟩
  have hlt : j < fs.size := (Array.getElem?_eq_some_iff.1 hj).1
  have hcl : j < cs.length := by rw [hlen, hC]; exact hlt
  obtain ⟨ho, hk⟩ := Go.Deep.hone_of hone j f hj
  have h1 := hg j f hj
  have hd : (cs.drop j).take 1 = [cs[j]] := by rw [List.drop_eq_getElem_cons hcl]; rfl
  rw [ho, hk, hd] at h1
  exact ⟨cs[j], ys[j]'(by omega), List.getElem?_eq_getElem hcl, h1.trans (List.getElem?_eq_getElem (by omega))⟩
end
end Go.Proofs.Ythooibljnfnnhaa
end
section
namespace Go.Proofs.Ythooibljnfnnhaa
open Go Go.RowKit Go.ChangeShapes Go.WideShapes
set_option linter.unusedVariables false
set_option linter.unusedSimpArgs false
section
variable {H : Type} {enc : TypeId × Value → H} {w : World} {base : Nat} {spare : Nat → Bool} {held : Bool}
theorem six {α : Type} {l : List α} {a b c d e f : α} (h : l.length = 6) (h0 : l[0]? = some a) (h1 : l[1]? = some b) (h2 : l[2]? = some c) (h3 : l[3]? = some d) (h4 : l[4]? = some e) (h5 : l[5]? = some f) : l = [a, b, c, d, e, f] := by
  rcases l with _ | ⟨x0, _ | ⟨x1, _ | ⟨x2, _ | ⟨x3, _ | ⟨x4, _ | ⟨x5, _ | ⟨x6, l⟩⟩⟩⟩⟩⟩⟩ <;> simp_all
theorem open_leaf {fuel : Nat} {cs : List Value} {x : DataW H × List MemPlace} (h : DataW.trod enc Try.prog w base spare held fuel 27 cs = some x) :
    ∃ y a, cs = (lfV y a).toList ∧ LfIn w y a ∧ y.src < 256 := by
  have hl : cs.length = 6 := by
    obtain ⟨ys, n, _, _, hlen, _, _⟩ := DataW.trod_struct Try.underlying27 h
    rw [hlen]; kernel_rfl
  obtain ⟨n, hf⟩ := open_fields Try.underlying27 (by kernel_rfl) (by kernel_rfl) h
  obtain ⟨v0, y0, c0, t0⟩ := hf 0 _ rfl
  obtain ⟨v1, y1, c1, t1⟩ := hf 1 _ rfl
  obtain ⟨v2, y2, c2, t2⟩ := hf 2 _ rfl
  obtain ⟨v3, y3, c3, t3⟩ := hf 3 _ rfl
  obtain ⟨v4, y4, c4, t4⟩ := hf 4 _ rfl
  obtain ⟨v5, y5, c5, t5⟩ := hf 5 _ rfl
  obtain ⟨A0, q0, x0, e0, L0, _⟩ := open_bytes t0
  obtain ⟨A1, q1, x1, e1, L1, _⟩ := open_bytes t1
  obtain ⟨A2, q2, x2, e2, L2, _⟩ := open_bytes t2
  obtain ⟨k3, e3, _, hw⟩ := DataW.trod_int Try.underlying5 t3
  obtain ⟨A4, q4, x4, e4, L4, _⟩ := open_bytes t4
  obtain ⟨A5, q5, x5, e5, L5, _⟩ := open_bytes t5
  simp only [List.cons.injEq, and_true] at e0 e1 e2 e3 e4 e5
  subst e0 e1 e2 e3 e4 e5
  have hb := bounds_u8 hw
  refine ⟨⟨x0, x1, x2, k3.toNat, x4, x5⟩, ⟨A0, A1, A2, A4, A5, q0, q1, q2, q4, q5⟩, ?_, ⟨L0, L1, L2, L4, L5⟩, ?_⟩
  · rw [six hl c0 c1 c2 c3 c4 c5]
    show _ = [_, _, _, Value.int .u8 ((k3.toNat : Nat) : Int), _, _]
    rw [Int.toNat_of_nonneg hb.1]
  · show k3.toNat < 256
    omega
end
end Go.Proofs.Ythooibljnfnnhaa
end
section
namespace Go.Proofs.Ythooibljnfnnhaa
open Go Go.RowKit Go.ChangeShapes Go.WideShapes
set_option linter.unusedVariables false
set_option linter.unusedSimpArgs false
/-- A row of leaves in memory. -/
structure LsQ (w : World) (B : Nat) (A : Option Addr) (c : Nat) (t : List Lf) (ad : List LA) : Prop where
  len : ad.length = t.length
  row : t ≠ [] → ∃ b o, A = some ⟨b, o, none⟩ ∧ b < B ∧ ∀ (j : Nat) (x : Lf) (a : LA), t[j]? = some x → ad[j]? = some a → w.rangeAt b (o + j * 6) (lfLL x a)
  leaves : ∀ (j : Nat) (x : Lf) (a : LA), t[j]? = some x → ad[j]? = some a → LfB w B x a
theorem LsQ.up {w w' : World} {A : Option Addr} {c : Nat} {t : List Lf} {ad : List LA} (h : LsQ w w.heap.size A c t ad) (hb : Below w.heap.size w w') : LsQ w' w'.heap.size A c t ad :=
  ⟨h.len, fun hn => by
    obtain ⟨b, o, h1, h2, h3⟩ := h.row hn
    exact ⟨b, o, h1, Nat.lt_of_lt_of_le h2 hb.size, fun j x a hx ha c u hu => (hb.cell (p := ⟨b, o + j * 6 + c, none⟩) h2).trans (h3 j x a hx ha c u hu)⟩,
   fun j x a hx ha => ((h.leaves j x a hx ha).on hb).more hb.size⟩
theorem LsQ.at_ {w : World} {B : Nat} {A : Option Addr} {c : Nat} {t : List Lf} {ad : List LA} (h : LsQ w B A c t ad) {j : Nat} (hj : j < t.length) :
    ∃ b o a, A = some ⟨b, o, none⟩ ∧ b < B ∧ LfB w B t[j] a ∧ w.rangeAt b (o + j * 6) (lfLL t[j] a) := by
  obtain ⟨b, o, h1, h2, h3⟩ := h.row (fun e => by subst e; cases hj)
  have ha : ad[j]? = some (ad[j]'(by rw [h.len]; exact hj)) := List.getElem?_eq_getElem _
  exact ⟨b, o, _, h1, h2, h.leaves j _ _ (List.getElem?_eq_getElem hj) ha, h3 j _ _ (List.getElem?_eq_getElem hj) ha⟩
section
variable {H : Type} {enc : TypeId × Value → H} {w : World} {base : Nat} {spare : Nat → Bool} {held : Bool}
theorem open_leaves {fuel : Nat} {cs : List Value} {x : DataW H × List MemPlace} (h : DataW.trod enc Try.prog w base spare held fuel 54 cs = some x) :
    ∃ A c t ad, cs = [.slice A t.length c] ∧ LsQ w w.heap.size A c t ad ∧ ∀ x ∈ t, x.src < 256 := by
  rcases Go.Deep.open_slice Try.underlying54 h with ⟨rfl, _⟩ | ⟨a, len, cap, m, n, D, Pl, rfl, _, hl, hm, hmm, _, hi⟩
  · exact ⟨none, 0, [], [], rfl, ⟨rfl, fun h => absurd rfl h, fun j n a h => by cases h⟩, fun x h => by cases h⟩
  · have hlen : len ≤ m := by rw [hmm]; split <;> omega
    rw [show Try.prog.cellsOf 27 = 6 from by kernel_rfl] at hi
    obtain ⟨b, o, sp⟩ := a
    by_cases h0 : len = 0
    · subst h0
      exact ⟨_, cap, [], [], rfl, ⟨rfl, fun h => absurd rfl h, fun j n a h => by cases h⟩, fun x h => by cases h⟩
    · obtain ⟨cs0, hc0, _⟩ := hi 0 (by omega)
      obtain ⟨_, _, hat0⟩ := World.cells?_some hc0
      have hsp : sp = none := by
        obtain ⟨_, hl0, _⟩ := World.cells?_some hc0
        have h1 := hat0 0 (by omega)
        rw [List.getElem?_eq_getElem (by omega)] at h1
        simpa [Addr.add] using spot_none h1
      subst hsp
      have hblt : b < w.heap.size := by
        obtain ⟨_, hl0, _⟩ := World.cells?_some hc0
        have h1 := hat0 0 (by omega)
        rw [List.getElem?_eq_getElem (by omega)] at h1
        have := World.block_lt_of_cell? w _ h1
        rwa [add_none, add_none] at this
      have hex : ∀ i, i < len → ∃ q : Lf × LA, (∀ j, j < 6 → w.cell? ⟨b, o + i * 6 + j, none⟩ = (lfLL q.1 q.2)[j]?) ∧ LfB w w.heap.size q.1 q.2 ∧ q.1.src < 256 := fun i hil => by
        obtain ⟨cs', hc', ht⟩ := hi i (by omega)
        obtain ⟨_, _, hat⟩ := World.cells?_some hc'
        obtain ⟨y, na, hcs, h1, h2⟩ := open_leaf ht
        refine ⟨(y, na), fun j hj => ?_, h1, h2⟩
        have h := hat j hj
        rw [add_none, add_none, hcs] at h
        exact h
      obtain ⟨q0, -⟩ := hex 0 (by omega)
      have hinh : Inhabited (Lf × LA) := ⟨q0⟩
      obtain ⟨f, hf⟩ := Go.Deep.choose_lt hex
      have hT : ∀ (j : Nat) (x : Lf), ((List.range len).map fun i => (f i).1)[j]? = some x → j < len ∧ (f j).1 = x := by
        intro j x hx
        have hj : j < len := by simpa using (List.getElem?_eq_some_iff.1 hx).1
        exact ⟨hj, by simpa [hj] using hx⟩
      have hA : ∀ (j : Nat) (x : LA), ((List.range len).map fun i => (f i).2)[j]? = some x → j < len ∧ (f j).2 = x := by
        intro j x hx
        have hj : j < len := by simpa using (List.getElem?_eq_some_iff.1 hx).1
        exact ⟨hj, by simpa [hj] using hx⟩
      refine ⟨some ⟨b, o, none⟩, cap, (List.range len).map fun i => (f i).1, (List.range len).map fun i => (f i).2, by simp, ⟨by simp, fun _ => ⟨b, o, rfl, hblt, fun j x a h1 h2 c u hu => ?_⟩, fun j x a h1 h2 => ?_⟩, fun x hx => ?_⟩
      · obtain ⟨hj, rfl⟩ := hT j x h1
        obtain ⟨-, rfl⟩ := hA j a h2
        have hc : c < 6 := (List.getElem?_eq_some_iff.1 hu).1
        exact ((hf j hj).1 c hc).trans hu
      · obtain ⟨hj, rfl⟩ := hT j x h1
        obtain ⟨-, rfl⟩ := hA j a h2
        exact (hf j hj).2.1
      · obtain ⟨i, hi1, rfl⟩ := List.mem_map.1 hx
        exact (hf i (List.mem_range.1 hi1)).2.2
end
end Go.Proofs.Ythooibljnfnnhaa
end
