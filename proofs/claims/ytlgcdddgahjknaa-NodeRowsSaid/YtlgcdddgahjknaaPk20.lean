/-
  Texts of this claim in one file: OpenB, OpenF, OpenN.
-/
import Derived.Test.YtlgcdddgahjknaaRows
import Derived.Test.YtlgcdddgahjknaaPk21
import Derived.Test.YtlgcdddgahjknaaPk22
import Derived.ProofKit
import Derived.OpenShut
import Derived.ShutString
import Derived.ChangeOld
import Derived.Deep.Slices
import Derived.Deep.Fields
import Derived.Test.YtlgcdddgahjknaaPk15
section
namespace Go.Proofs.Ytlgcdddgahjknaa
open Go.RowKit Go.ChangeShapes Go.WideShapes
set_option linter.unusedVariables false
set_option linter.unusedSimpArgs false
section
variable {H : Type} {enc : TypeId × Value → H} {w : World} {base : Nat} {spare : Nat → Bool} {held : Bool}
theorem spot_none {w : World} {a : Addr} {v : Value} (h : w.cell? a = some v) : a.spot = none := World.cell?_spot h
/-- An address at which a cell is read has no spot, where it is the j-th from a. -/
theorem lie_of_cells {cs : List Value} {a : Addr} (h : ∀ j u, cs[j]? = some u → w.cell? (a.add j) = some u) : Lie w w.heap.size (some a) cs := fun hn => by
  obtain ⟨b, o, sp⟩ := a
  have h0 := h 0 (cs[0]'(List.length_pos_iff.2 hn)) (List.getElem?_eq_getElem _)
  have hs : sp = none := by simpa [Addr.add] using spot_none h0
  subst hs
  have hlt := World.block_lt_of_cell? w _ h0
  rw [add_none] at hlt
  exact ⟨b, o, rfl, hlt, fun j u hu => by have := h j u hu; rwa [add_none] at this⟩
theorem open_bytes {fuel : Nat} {cs : List Value} {x : DataW H × List MemPlace} (h : DataW.trod enc Try.prog w base spare held fuel 22 cs = some x) :
    ∃ A c xs, cs = [.slice A xs.length c] ∧ Lie w w.heap.size A (bvs xs) ∧ xs.length ≤ c ∧ c ≤ 9223372036854775807 := by
  rcases open_ints Try.underlying22 Try.underlying5 (by kernel_rfl) h with ⟨rfl, _⟩ | ⟨a, len, cap, zs, rfl, _, hl, hm, hz, _, hcell, hwf⟩
  · exact ⟨none, 0, [], rfl, Lie.nil, by simp, by omega⟩
  · have hlen : len ≤ zs.length := by rw [hz]; split <;> omega
    have hx : ((zs.take len).map fun z => UInt8.ofNat z.toNat).length = len := by simp; omega
    refine ⟨some a, cap, (zs.take len).map fun z => UInt8.ofNat z.toNat, by rw [hx], lie_of_cells ?_, by rw [hx]; exact hl, by simpa [maxLen] using hm⟩
    intro j u hu
    have hj : j < len := by
      have := (List.getElem?_eq_some_iff.1 hu).1
      rw [bvs_length, hx] at this
      exact this
    have hjz : j < zs.length := by omega
    rw [hcell j hjz]
    have hw := bounds_u8 (hwf zs[j] (List.getElem_mem hjz))
    have hb : (((UInt8.ofNat zs[j].toNat).toNat : Nat) : Int) = zs[j] := by
      simp only [UInt8.toNat_ofNat']
      omega
    simp only [bvs, List.getElem?_map, List.getElem?_take, if_pos hj, List.getElem?_eq_getElem hjz, Option.map_some, Option.some.injEq] at hu
    rw [← hu, hb]
    simp [hjz]
theorem open_bytes_q {fuel : Nat} {cs : List Value} {x : DataW H × List MemPlace} (h : DataW.trod enc Try.prog w base spare held fuel 22 cs = some x) :
    ∃ A c xs, cs = [.slice A xs.length c] ∧ Sq w w.heap.size A c (bvs xs) := by
  obtain ⟨A, c, xs, h1, h2, h3, h4⟩ := open_bytes h
  exact ⟨A, c, xs, h1, h2.sq (by rw [bvs_length]; exact h3) h4⟩
end
end Go.Proofs.Ytlgcdddgahjknaa
end
section
namespace Go.Proofs.Ytlgcdddgahjknaa
open Go.RowKit Go.ChangeShapes Go.WideShapes
set_option linter.unusedVariables false
set_option linter.unusedSimpArgs false
section
variable {H : Type} {enc : TypeId × Value → H} {w : World} {base : Nat} {spare : Nat → Bool} {held : Bool}
/-- A struct of one-cell fields: each field's cell, and its own reading. -/
theorem open_fields {P : Program} {t : TypeId} {fs : Array Field} {fuel : Nat} {cs : List Value} {x : DataW H × List MemPlace} (hs : P.underlying t = some (.struct fs)) (hone : Go.Deep.oneCellFields P fs = true) (hC : P.cellsOf t = fs.size)
    (h : DataW.trod enc P w base spare held fuel t cs = some x) : ∃ n, ∀ (j : Nat) (f : Field), fs[j]? = some f → ∃ v y, cs[j]? = some v ∧ DataW.trod enc P w base spare held n f.type [v] = some y := by
  obtain ⟨ys, n, _, _, hlen, hyl, hg⟩ := DataW.trod_struct hs h
  refine ⟨n, fun j f hj => ?_⟩
  have hlt : j < fs.size := (Array.getElem?_eq_some_iff.1 hj).1
  have hcl : j < cs.length := by rw [hlen, hC]; exact hlt
  obtain ⟨ho, hk⟩ := Go.Deep.hone_of hone j f hj
  have h1 := hg j f hj
  have hd : (cs.drop j).take 1 = [cs[j]] := by rw [List.drop_eq_getElem_cons hcl]; rfl
  rw [ho, hk, hd] at h1
  exact ⟨cs[j], ys[j]'(by omega), List.getElem?_eq_getElem hcl, h1.trans (List.getElem?_eq_getElem (by omega))⟩
end
end Go.Proofs.Ytlgcdddgahjknaa
end
section
namespace Go.Proofs.Ytlgcdddgahjknaa
open Go Go.RowKit Go.ChangeShapes Go.WideShapes
set_option linter.unusedVariables false
set_option linter.unusedSimpArgs false
theorem okWide_row16 {P : Program} {w : World} {r : Reach} {base : Nat} {t : TypeId} {v : Value} {fs : Array Field} (ht : P.underlying t = some (.struct fs)) (h : Value.okWide P w r base t v) : ∃ cs, v = .agg cs := by
  unfold Value.okWide at h
  rw [ht] at h
  obtain ⟨cs, h1, -⟩ := h
  exact ⟨cs, h1⟩
section
variable {H : Type} {enc : TypeId × Value → H} {w : World} {base : Nat} {spare : Nat → Bool} {held : Bool}
theorem open_nums16 {fuel : Nat} {cs : List Value} {x : DataW H × List MemPlace} (h : DataW.trod enc Try.prog w base spare held fuel 25 cs = some x) :
    ∃ A c xs, cs = [.slice A xs.length c] ∧ Sq w w.heap.size A c (izs xs) ∧ (∀ y ∈ xs, -9223372036854775808 ≤ y ∧ y ≤ 9223372036854775807) := by
  rcases open_ints Try.underlying25 Try.underlying3 (by kernel_rfl) h with ⟨rfl, _⟩ | ⟨a, len, cap, zs, rfl, _, hl, hm, hz, _, hcell, hwf⟩
  · exact ⟨none, 0, [], rfl, Sq.nil, fun y hy => by simp at hy⟩
  · have hlen : len ≤ zs.length := by rw [hz]; split <;> omega
    have hx : (zs.take len).length = len := by rw [List.length_take]; omega
    have hm2 : cap ≤ 9223372036854775807 := by unfold maxLen at hm; omega
    have hlie : Lie w w.heap.size (some a) (izs (zs.take len)) := lie_of_cells (by
      intro j u hu
      have hj : j < len := by
        have := (List.getElem?_eq_some_iff.1 hu).1
        rw [izs_length, hx] at this
        exact this
      have hjz : j < zs.length := by omega
      rw [hcell j hjz]
      simp only [izs, List.getElem?_map, List.getElem?_take, if_pos hj, List.getElem?_eq_getElem hjz, Option.map_some, Option.some.injEq] at hu
      rw [← hu]
      simp [hjz])
    refine ⟨some a, cap, zs.take len, by rw [hx], hlie.sq (by rw [izs_length, hx]; exact hl) (by omega), fun y hy => bounds_i64 (hwf y (List.mem_of_mem_take hy))⟩
theorem six {α : Type} {l : List α} {a b c d e f : α} (h : l.length = 6) (h0 : l[0]? = some a) (h1 : l[1]? = some b) (h2 : l[2]? = some c) (h3 : l[3]? = some d) (h4 : l[4]? = some e) (h5 : l[5]? = some f) : l = [a, b, c, d, e, f] := by
  rcases l with _ | ⟨x0, _ | ⟨x1, _ | ⟨x2, _ | ⟨x3, _ | ⟨x4, _ | ⟨x5, _ | ⟨x6, l⟩⟩⟩⟩⟩⟩⟩ <;> simp_all
theorem open_leaf {fuel : Nat} {cs : List Value} {x : DataW H × List MemPlace} (h : DataW.trod enc Try.prog w base spare held fuel 24 cs = some x) :
    ∃ y a, cs = (lfV y a).toList ∧ LfIn w y a ∧ y.src < 256 := by
  have hl : cs.length = 6 := by
    obtain ⟨ys, n, _, _, hlen, _, _⟩ := DataW.trod_struct Try.underlying24 h
    rw [hlen]; kernel_rfl
  obtain ⟨n, hf⟩ := open_fields Try.underlying24 (by kernel_rfl) (by kernel_rfl) h
  obtain ⟨v0, y0, c0, t0⟩ := hf 0 _ rfl
  obtain ⟨v1, y1, c1, t1⟩ := hf 1 _ rfl
  obtain ⟨v2, y2, c2, t2⟩ := hf 2 _ rfl
  obtain ⟨v3, y3, c3, t3⟩ := hf 3 _ rfl
  obtain ⟨v4, y4, c4, t4⟩ := hf 4 _ rfl
  obtain ⟨v5, y5, c5, t5⟩ := hf 5 _ rfl
  obtain ⟨A0, q0, x0, e0, L0, _⟩ := open_bytes t0
  obtain ⟨A1, q1, x1, e1, L1, _⟩ := open_bytes t1
  obtain ⟨A2, q2, x2, e2, L2, _⟩ := open_bytes t2
  obtain ⟨k3, e3, _, hw⟩ := DataW.trod_int Try.underlying5 t3
  obtain ⟨A4, q4, x4, e4, L4, _⟩ := open_bytes t4
  obtain ⟨A5, q5, x5, e5, L5, _⟩ := open_bytes t5
  simp only [List.cons.injEq, and_true] at e0 e1 e2 e3 e4 e5
  subst e0 e1 e2 e3 e4 e5
  have hb := bounds_u8 hw
  refine ⟨⟨x0, x1, x2, k3.toNat, x4, x5⟩, ⟨A0, A1, A2, A4, A5, q0, q1, q2, q4, q5⟩, ?_, ⟨L0, L1, L2, L4, L5⟩, ?_⟩
  · rw [six hl c0 c1 c2 c3 c4 c5]
    show _ = [_, _, _, Value.int .u8 ((k3.toNat : Nat) : Int), _, _]
    rw [Int.toNat_of_nonneg hb.1]
  · show k3.toNat < 256
    omega
theorem three16 {α : Type} {l : List α} {a b c : α} (h : l.length = 3) (h0 : l[0]? = some a) (h1 : l[1]? = some b) (h2 : l[2]? = some c) : l = [a, b, c] := by
  rcases l with _ | ⟨x0, _ | ⟨x1, _ | ⟨x2, _ | ⟨x3, l⟩⟩⟩⟩ <;> simp_all
theorem open_par {fuel : Nat} {cs : List Value} {x : DataW H × List MemPlace} (h : DataW.trod enc Try.prog w base spare held fuel 27 cs = some x) :
    ∃ y b, cs = (prV y b).toList ∧ PrIn w y b ∧ Late64 y := by
  have hl : cs.length = 3 := by
    obtain ⟨ys, n, _, _, hlen, _, _⟩ := DataW.trod_struct Try.underlying27 h
    rw [hlen]; kernel_rfl
  obtain ⟨n, hf⟩ := open_fields Try.underlying27 (by kernel_rfl) (by kernel_rfl) h
  obtain ⟨v0, y0, c0, t0⟩ := hf 0 _ rfl
  obtain ⟨v1, y1, c1, t1⟩ := hf 1 _ rfl
  obtain ⟨v2, y2, c2, t2⟩ := hf 2 _ rfl
  obtain ⟨A0, q0, x0, e0, L0, _⟩ := open_bytes t0
  obtain ⟨A1, q1, x1, e1, L1, _⟩ := open_bytes t1
  obtain ⟨A2, q2, x2, e2, L2, hN⟩ := open_nums16 t2
  simp only [List.cons.injEq, and_true] at e0 e1 e2
  subst e0 e1 e2
  exact ⟨⟨x0, x1, x2⟩, ⟨A0, A1, A2, q0, q1, q2⟩, three16 hl c0 c1 c2, ⟨L0, L1, L2.lie⟩, hN⟩
theorem open_node {fuel : Nat} {cs : List Value} {x : DataW H × List MemPlace} (h : DataW.trod enc Try.prog w base spare held fuel 29 cs = some x) :
    ∃ k y a u b, cs = (ndV k y a u b).toList ∧ LfIn w y a ∧ PrIn w u b ∧ y.src < 256 ∧ k < 256 ∧ Late64 u := by
  obtain ⟨ys, n, _, _, hlen, hyl, hg⟩ := DataW.trod_struct Try.underlying29 h
  have hl : cs.length = 10 := by rw [hlen]; kernel_rfl
  have g0 : DataW.trod enc Try.prog w base spare held n 5 ((cs.drop 0).take (Try.prog.cellsOf 5)) = ys[0]? := hg 0 _ rfl
  have g1 : DataW.trod enc Try.prog w base spare held n 24 ((cs.drop 1).take (Try.prog.cellsOf 24)) = ys[1]? := hg 1 _ rfl
  have g2 : DataW.trod enc Try.prog w base spare held n 27 ((cs.drop 7).take (Try.prog.cellsOf 27)) = ys[2]? := hg 2 _ rfl
  have hy : ys.length = 3 := hyl
  rw [show Try.prog.cellsOf 5 = 1 from by kernel_rfl, List.getElem?_eq_getElem (by omega)] at g0
  rw [show Try.prog.cellsOf 24 = 6 from by kernel_rfl, List.getElem?_eq_getElem (by omega)] at g1
  rw [show Try.prog.cellsOf 27 = 3 from by kernel_rfl, List.getElem?_eq_getElem (by omega)] at g2
  obtain ⟨k, e0, _, hw⟩ := DataW.trod_int Try.underlying5 g0
  obtain ⟨y, a, e1, hL, hs⟩ := open_leaf g1
  obtain ⟨u, b, e2, hP, hN⟩ := open_par g2
  have hb := bounds_u8 hw
  refine ⟨k.toNat, y, a, u, b, ?_, hL, hP, hs, by omega, hN⟩
  have hcs : cs = (cs.drop 0).take 1 ++ ((cs.drop 1).take 6 ++ (cs.drop 7).take 3) := by
    have h3 : (cs.drop 7).take 3 = cs.drop 7 := List.take_of_length_le (by rw [List.length_drop]; omega)
    rw [h3, show cs.drop 7 = (cs.drop 1).drop 6 by rw [List.drop_drop], List.take_append_drop, List.drop_zero, List.take_append_drop]
  rw [hcs, e0, e1, e2]
  show _ = [Value.int .u8 ((k.toNat : Nat) : Int), _, _, _, _, _, _, _, _, _]
  rw [Int.toNat_of_nonneg hb.1]
  rfl
end
end Go.Proofs.Ytlgcdddgahjknaa
end
