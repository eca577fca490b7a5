/-
  Texts of this claim in one file: OpenB, OpenF, OpenN, OpenT.
-/
import Derived.Test.YthooibljnfnnhaaRows
import Derived.Test.YthooibljnfnnhaaPk25
import Derived.Test.YthooibljnfnnhaaPk26
import Derived.ProofKit
import Derived.OpenShut
import Derived.ShutString
import Derived.ChangeOld
import Derived.Deep.Slices
import Derived.Deep.Fields
import Derived.Test.YthooibljnfnnhaaPk10
import Derived.Test.YthooibljnfnnhaaPk22
section
namespace Go.Proofs.Ythooibljnfnnhaa
open Go.RowKit Go.ChangeShapes Go.WideShapes
set_option linter.unusedVariables false
set_option linter.unusedSimpArgs false
section
variable {H : Type} {enc : TypeId × Value → H} {w : World} {base : Nat} {spare : Nat → Bool} {held : Bool}
theorem spot_none {w : World} {a : Addr} {v : Value} (h : w.cell? a = some v) : a.spot = none := World.cell?_spot h
/-- An address at which a cell is read has no spot, where it is the j-th from a. -/
theorem lie_of_cells {cs : List Value} {a : Addr} (h : ∀ j u, cs[j]? = some u → w.cell? (a.add j) = some u) : Lie w w.heap.size (some a) cs := fun hn => by
  obtain ⟨b, o, sp⟩ := a
  have h0 := h 0 (cs[0]'(List.length_pos_iff.2 hn)) (List.getElem?_eq_getElem _)
  have hs : sp = none := by simpa [Addr.add] using spot_none h0
  subst hs
  have hlt := World.block_lt_of_cell? w _ h0
  rw [add_none] at hlt
  exact ⟨b, o, rfl, hlt, fun j u hu => by have := h j u hu; rwa [add_none] at this⟩
theorem open_bytes {fuel : Nat} {cs : List Value} {x : DataW H × List MemPlace} (h : DataW.trod enc Try.prog w base spare held fuel 25 cs = some x) :
    ∃ A c xs, cs = [.slice A xs.length c] ∧ Lie w w.heap.size A (bvs xs) ∧ xs.length ≤ c ∧ c ≤ 9223372036854775807 := by
  rcases open_ints Try.underlying25 Try.underlying5 (by kernel_rfl) h with ⟨rfl, _⟩ | ⟨a, len, cap, zs, rfl, _, hl, hm, hz, _, hcell, hwf⟩
  · exact ⟨none, 0, [], rfl, Lie.nil, by simp, by omega⟩
  · have hlen : len ≤ zs.length := by rw [hz]; split <;> omega
    have hx : ((zs.take len).map fun z => UInt8.ofNat z.toNat).length = len := by simp; omega
    refine ⟨some a, cap, (zs.take len).map fun z => UInt8.ofNat z.toNat, by rw [hx], lie_of_cells ?_, by rw [hx]; exact hl, by simpa [maxLen] using hm⟩
    intro j u hu
    have hj : j < len := by
      have := (List.getElem?_eq_some_iff.1 hu).1
      rw [bvs_length, hx] at this
      exact this
    have hjz : j < zs.length := by omega
    rw [hcell j hjz]
    have hw := bounds_u8 (hwf zs[j] (List.getElem_mem hjz))
    have hb : (((UInt8.ofNat zs[j].toNat).toNat : Nat) : Int) = zs[j] := by
      simp only [UInt8.toNat_ofNat']
      omega
    simp only [bvs, List.getElem?_map, List.getElem?_take, if_pos hj, List.getElem?_eq_getElem hjz, Option.map_some, Option.some.injEq] at hu
    rw [← hu, hb]
    simp [hjz]
end
end Go.Proofs.Ythooibljnfnnhaa
end
section
namespace Go.Proofs.Ythooibljnfnnhaa
open Go.RowKit Go.ChangeShapes Go.WideShapes
set_option linter.unusedVariables false
set_option linter.unusedSimpArgs false
section
variable {H : Type} {enc : TypeId × Value → H} {w : World} {base : Nat} {spare : Nat → Bool} {held : Bool}
/-- A struct of one-cell fields: each field's cell, and its own reading. -/
theorem open_fields {P : Program} {t : TypeId} {fs : Array Field} {fuel : Nat} {cs : List Value} {x : DataW H × List MemPlace} (hs : P.underlying t = some (.struct fs)) (hone : Go.Deep.oneCellFields P fs = true) (hC : P.cellsOf t = fs.size)
    (h : DataW.trod enc P w base spare held fuel t cs = some x) : ∃ n, ∀ (j : Nat) (f : Field), fs[j]? = some f → ∃ v y, cs[j]? = some v ∧ DataW.trod enc P w base spare held n f.type [v] = some y := by
  obtain ⟨ys, n, _, _, hlen, hyl, hg⟩ := DataW.trod_struct hs h
  refine ⟨n, fun j f hj => ?_⟩
  have hlt : j < fs.size := (Array.getElem?_eq_some_iff.1 hj).1
  have hcl : j < cs.length := by rw [hlen, hC]; exact hlt
  obtain ⟨ho, hk⟩ := Go.Deep.hone_of hone j f hj
  have h1 := hg j f hj
  have hd : (cs.drop j).take 1 = [cs[j]] := by rw [List.drop_eq_getElem_cons hcl]; rfl
  rw [ho, hk, hd] at h1
  exact ⟨cs[j], ys[j]'(by omega), List.getElem?_eq_getElem hcl, h1.trans (List.getElem?_eq_getElem (by omega))⟩
end
end Go.Proofs.Ythooibljnfnnhaa
end
section
namespace Go.Proofs.Ythooibljnfnnhaa
open Go Go.RowKit Go.ChangeShapes Go.WideShapes
set_option linter.unusedVariables false
set_option linter.unusedSimpArgs false
section
variable {H : Type} {enc : TypeId × Value → H} {w : World} {base : Nat} {spare : Nat → Bool} {held : Bool}
theorem open_nums16 {fuel : Nat} {cs : List Value} {x : DataW H × List MemPlace} (h : DataW.trod enc Try.prog w base spare held fuel 30 cs = some x) :
    ∃ A c xs, cs = [.slice A xs.length c] ∧ Sq w w.heap.size A c (izs xs) ∧ (∀ y ∈ xs, -9223372036854775808 ≤ y ∧ y ≤ 9223372036854775807) := by
  rcases open_ints Try.underlying30 Try.underlying3 (by kernel_rfl) h with ⟨rfl, _⟩ | ⟨a, len, cap, zs, rfl, _, hl, hm, hz, _, hcell, hwf⟩
  · exact ⟨none, 0, [], rfl, Sq.nil, fun y hy => by simp at hy⟩
  · have hlen : len ≤ zs.length := by rw [hz]; split <;> omega
    have hx : (zs.take len).length = len := by rw [List.length_take]; omega
    have hm2 : cap ≤ 9223372036854775807 := by unfold maxLen at hm; omega
    have hlie : Lie w w.heap.size (some a) (izs (zs.take len)) := lie_of_cells (by
      intro j u hu
      have hj : j < len := by
        have := (List.getElem?_eq_some_iff.1 hu).1
        rw [izs_length, hx] at this
        exact this
      have hjz : j < zs.length := by omega
      rw [hcell j hjz]
      simp only [izs, List.getElem?_map, List.getElem?_take, if_pos hj, List.getElem?_eq_getElem hjz, Option.map_some, Option.some.injEq] at hu
      rw [← hu]
      simp [hjz])
    refine ⟨some a, cap, zs.take len, by rw [hx], hlie.sq (by rw [izs_length, hx]; exact hl) (by omega), fun y hy => bounds_i64 (hwf y (List.mem_of_mem_take hy))⟩
theorem six {α : Type} {l : List α} {a b c d e f : α} (h : l.length = 6) (h0 : l[0]? = some a) (h1 : l[1]? = some b) (h2 : l[2]? = some c) (h3 : l[3]? = some d) (h4 : l[4]? = some e) (h5 : l[5]? = some f) : l = [a, b, c, d, e, f] := by
  rcases l with _ | ⟨x0, _ | ⟨x1, _ | ⟨x2, _ | ⟨x3, _ | ⟨x4, _ | ⟨x5, _ | ⟨x6, l⟩⟩⟩⟩⟩⟩⟩ <;> simp_all
theorem open_leaf {fuel : Nat} {cs : List Value} {x : DataW H × List MemPlace} (h : DataW.trod enc Try.prog w base spare held fuel 27 cs = some x) :
    ∃ y a, cs = (lfV y a).toList ∧ LfIn w y a ∧ y.src < 256 := by
  have hl : cs.length = 6 := by
    obtain ⟨ys, n, _, _, hlen, _, _⟩ := DataW.trod_struct Try.underlying27 h
    rw [hlen]; kernel_rfl
  obtain ⟨n, hf⟩ := open_fields Try.underlying27 (by kernel_rfl) (by kernel_rfl) h
  obtain ⟨v0, y0, c0, t0⟩ := hf 0 _ rfl
  obtain ⟨v1, y1, c1, t1⟩ := hf 1 _ rfl
  obtain ⟨v2, y2, c2, t2⟩ := hf 2 _ rfl
  obtain ⟨v3, y3, c3, t3⟩ := hf 3 _ rfl
  obtain ⟨v4, y4, c4, t4⟩ := hf 4 _ rfl
  obtain ⟨v5, y5, c5, t5⟩ := hf 5 _ rfl
  obtain ⟨A0, q0, x0, e0, L0, _⟩ := open_bytes t0
  obtain ⟨A1, q1, x1, e1, L1, _⟩ := open_bytes t1
  obtain ⟨A2, q2, x2, e2, L2, _⟩ := open_bytes t2
  obtain ⟨k3, e3, _, hw⟩ := DataW.trod_int Try.underlying5 t3
  obtain ⟨A4, q4, x4, e4, L4, _⟩ := open_bytes t4
  obtain ⟨A5, q5, x5, e5, L5, _⟩ := open_bytes t5
  simp only [List.cons.injEq, and_true] at e0 e1 e2 e3 e4 e5
  subst e0 e1 e2 e3 e4 e5
  have hb := bounds_u8 hw
  refine ⟨⟨x0, x1, x2, k3.toNat, x4, x5⟩, ⟨A0, A1, A2, A4, A5, q0, q1, q2, q4, q5⟩, ?_, ⟨L0, L1, L2, L4, L5⟩, ?_⟩
  · rw [six hl c0 c1 c2 c3 c4 c5]
    show _ = [_, _, _, Value.int .u8 ((k3.toNat : Nat) : Int), _, _]
    rw [Int.toNat_of_nonneg hb.1]
  · show k3.toNat < 256
    omega
theorem three16 {α : Type} {l : List α} {a b c : α} (h : l.length = 3) (h0 : l[0]? = some a) (h1 : l[1]? = some b) (h2 : l[2]? = some c) : l = [a, b, c] := by
  rcases l with _ | ⟨x0, _ | ⟨x1, _ | ⟨x2, _ | ⟨x3, l⟩⟩⟩⟩ <;> simp_all
end
end Go.Proofs.Ythooibljnfnnhaa
end
section
namespace Go.Proofs.Ythooibljnfnnhaa
open Go Go.RowKit Go.ChangeShapes Go.WideShapes
set_option linter.unusedVariables false
set_option linter.unusedSimpArgs false
theorem sq_cap {w : World} {B : Nat} {A : Option Addr} {c : Nat} {xs : List Value} (h : Sq w B A c xs) : xs.length ≤ c ∧ c ≤ 9223372036854775807 := by
  rcases h with ⟨rfl, h⟩ | ⟨b, o, -, -, h1, h2, -⟩
  · exact ⟨by simp, h⟩
  · exact ⟨h1, h2⟩
section
variable {H : Type} {enc : TypeId × Value → H} {w : World} {base : Nat} {spare : Nat → Bool} {held : Bool}
theorem open_par_c {fuel : Nat} {cs : List Value} {x : DataW H × List MemPlace} (h : DataW.trod enc Try.prog w base spare held fuel 36 cs = some x) :
    ∃ y b, cs = (prV y b).toList ∧ PrIn w y b ∧ Late64 y ∧ y.late.length ≤ b.c2 ∧ b.c2 ≤ 9223372036854775807 := by
  have hl : cs.length = 3 := by
    obtain ⟨ys, n, _, _, hlen, _, _⟩ := DataW.trod_struct Try.underlying36 h
    rw [hlen]; kernel_rfl
  obtain ⟨n, hf⟩ := open_fields Try.underlying36 (by kernel_rfl) (by kernel_rfl) h
  obtain ⟨v0, y0, c0, t0⟩ := hf 0 _ rfl
  obtain ⟨v1, y1, c1, t1⟩ := hf 1 _ rfl
  obtain ⟨v2, y2, c2, t2⟩ := hf 2 _ rfl
  obtain ⟨A0, q0, x0, e0, L0, _⟩ := open_bytes t0
  obtain ⟨A1, q1, x1, e1, L1, _⟩ := open_bytes t1
  obtain ⟨A2, q2, x2, e2, L2, hN⟩ := open_nums16 t2
  simp only [List.cons.injEq, and_true] at e0 e1 e2
  subst e0 e1 e2
  have hc := sq_cap L2
  rw [izs_length] at hc
  exact ⟨⟨x0, x1, x2⟩, ⟨A0, A1, A2, q0, q1, q2⟩, three16 hl c0 c1 c2, ⟨L0, L1, L2.lie⟩, hN, hc⟩
theorem open_node_c {fuel : Nat} {cs : List Value} {x : DataW H × List MemPlace} (h : DataW.trod enc Try.prog w base spare held fuel 38 cs = some x) :
    ∃ (n : Nd) (a : NA), cs = ndL n a ∧ NdIn w w.heap.size n a ∧ (n.k < 256 ∧ n.x.src < 256 ∧ Late64 n.u) ∧ n.u.late.length ≤ a.p.c2 ∧ a.p.c2 ≤ 9223372036854775807 := by
  obtain ⟨ys, n, _, _, hlen, hyl, hg⟩ := DataW.trod_struct Try.underlying38 h
  have hl : cs.length = 10 := by rw [hlen]; kernel_rfl
  have g0 : DataW.trod enc Try.prog w base spare held n 5 ((cs.drop 0).take (Try.prog.cellsOf 5)) = ys[0]? := hg 0 _ rfl
  have g1 : DataW.trod enc Try.prog w base spare held n 27 ((cs.drop 1).take (Try.prog.cellsOf 27)) = ys[1]? := hg 1 _ rfl
  have g2 : DataW.trod enc Try.prog w base spare held n 36 ((cs.drop 7).take (Try.prog.cellsOf 36)) = ys[2]? := hg 2 _ rfl
  have hy : ys.length = 3 := hyl
  rw [show Try.prog.cellsOf 5 = 1 from by kernel_rfl, List.getElem?_eq_getElem (by omega)] at g0
  rw [show Try.prog.cellsOf 27 = 6 from by kernel_rfl, List.getElem?_eq_getElem (by omega)] at g1
  rw [show Try.prog.cellsOf 36 = 3 from by kernel_rfl, List.getElem?_eq_getElem (by omega)] at g2
  obtain ⟨k, e0, _, hw⟩ := DataW.trod_int Try.underlying5 g0
  obtain ⟨y, a, e1, hL, hs⟩ := open_leaf g1
  obtain ⟨u, b, e2, hP, hN, hc⟩ := open_par_c g2
  have hb := bounds_u8 hw
  refine ⟨⟨k.toNat, y, u⟩, ⟨a, b⟩, ?_, ⟨hL, hP⟩, ⟨by show k.toNat < 256; omega, hs, hN⟩, hc⟩
  have hcs : cs = (cs.drop 0).take 1 ++ ((cs.drop 1).take 6 ++ (cs.drop 7).take 3) := by
    have h3 : (cs.drop 7).take 3 = cs.drop 7 := List.take_of_length_le (by rw [List.length_drop]; omega)
    rw [h3, show cs.drop 7 = (cs.drop 1).drop 6 by rw [List.drop_drop], List.take_append_drop, List.drop_zero, List.take_append_drop]
  rw [hcs, e0, e1, e2]
  show _ = [Value.int .u8 ((k.toNat : Nat) : Int), _, _, _, _, _, _, _, _, _]
  rw [Int.toNat_of_nonneg hb.1]
  rfl
theorem open_tree {fuel : Nat} {cs : List Value} {x : DataW H × List MemPlace} (h : DataW.trod enc Try.prog w base spare held fuel 22 cs = some x) :
    ∃ A c t ad, cs = [.slice A t.length c] ∧ TrQ w w.heap.size A c t ad ∧ Rng t := by
  rcases Go.Deep.open_slice Try.underlying22 h with ⟨rfl, _⟩ | ⟨a, len, cap, m, n, D, Pl, rfl, _, hl, hm, hmm, _, hi⟩
  · exact ⟨none, 0, [], [], rfl, ⟨TrIn.nil _ _ _, by simp, fun j n a h => by cases h⟩, fun j n h => by cases h⟩
  · have hlen : len ≤ m := by rw [hmm]; split <;> omega
    have hm2 : cap ≤ 9223372036854775807 := by unfold maxLen at hm; omega
    rw [show Try.prog.cellsOf 38 = 10 from by kernel_rfl] at hi
    obtain ⟨b, o, sp⟩ := a
    by_cases h0 : len = 0
    · subst h0
      exact ⟨_, cap, [], [], rfl, ⟨TrIn.nil _ _ _, ⟨by simp, hm2⟩, fun j n a h => by cases h⟩, fun j n h => by cases h⟩
    · obtain ⟨cs0, hc0, _⟩ := hi 0 (by omega)
      obtain ⟨_, _, hat0⟩ := World.cells?_some hc0
      have hsp : sp = none := by
        obtain ⟨_, hl0, _⟩ := World.cells?_some hc0
        have h1 := hat0 0 (by omega)
        rw [List.getElem?_eq_getElem (by omega)] at h1
        simpa [Addr.add] using spot_none h1
      subst hsp
      have hblt : b < w.heap.size := by
        obtain ⟨_, hl0, _⟩ := World.cells?_some hc0
        have h1 := hat0 0 (by omega)
        rw [List.getElem?_eq_getElem (by omega)] at h1
        have := World.block_lt_of_cell? w _ h1
        rwa [add_none, add_none] at this
      have hex : ∀ i, i < len → ∃ q : Nd × NA, (∀ j, j < 10 → w.cell? ⟨b, o + i * 10 + j, none⟩ = (ndL q.1 q.2)[j]?) ∧ NdIn w w.heap.size q.1 q.2 ∧ (q.1.k < 256 ∧ q.1.x.src < 256 ∧ Late64 q.1.u) ∧ q.1.u.late.length ≤ q.2.p.c2 ∧ q.2.p.c2 ≤ 9223372036854775807 := fun i hil => by
        obtain ⟨cs', hc', ht⟩ := hi i (by omega)
        obtain ⟨_, _, hat⟩ := World.cells?_some hc'
        obtain ⟨nn, na, hcs, h1, h2, h3⟩ := open_node_c ht
        refine ⟨(nn, na), fun j hj => ?_, h1, h2, h3⟩
        have h := hat j hj
        rw [add_none, add_none, hcs] at h
        exact h
      obtain ⟨q0, -⟩ := hex 0 (by omega)
      have hinh : Inhabited (Nd × NA) := ⟨q0⟩
      obtain ⟨f, hf⟩ := Go.Deep.choose_lt hex
      have hT : ∀ (j : Nat) (x : Nd), ((List.range len).map fun i => (f i).1)[j]? = some x → j < len ∧ (f j).1 = x := by
        intro j x hx
        have hj : j < len := by simpa using (List.getElem?_eq_some_iff.1 hx).1
        exact ⟨hj, by simpa [hj] using hx⟩
      have hA : ∀ (j : Nat) (x : NA), ((List.range len).map fun i => (f i).2)[j]? = some x → j < len ∧ (f j).2 = x := by
        intro j x hx
        have hj : j < len := by simpa using (List.getElem?_eq_some_iff.1 hx).1
        exact ⟨hj, by simpa [hj] using hx⟩
      refine ⟨some ⟨b, o, none⟩, cap, (List.range len).map fun i => (f i).1, (List.range len).map fun i => (f i).2, by simp, ⟨⟨by simp, fun _ => ⟨b, o, rfl, hblt, fun k u hk => ?_⟩, fun j n a h1 h2 => ?_⟩, ⟨by simpa using hl, hm2⟩, fun j n a h1 h2 => ?_⟩, fun j n h1 => ?_⟩
      · have hk2 := (List.getElem?_eq_some_iff.1 hk).1
        rw [trL_length _ _ (by simp)] at hk2
        simp only [List.length_map, List.length_range] at hk2
        have hjl : k / 10 < len := by omega
        have hc10 : k % 10 < 10 := Nat.mod_lt _ (by decide)
        have hu : (ndL (f (k / 10)).1 (f (k / 10)).2)[k % 10]? = some ((ndL (f (k / 10)).1 (f (k / 10)).2)[k % 10]'(by rw [ndL_length]; exact hc10)) := List.getElem?_eq_getElem _
        have h1 := trL_get (t := (List.range len).map fun i => (f i).1) (ad := (List.range len).map fun i => (f i).2) (j := k / 10) (by simp [hjl]) (by simp [hjl]) hu
        rw [show k / 10 * 10 + k % 10 = k by omega, hk] at h1
        have h2 := (hf (k / 10) hjl).1 (k % 10) hc10
        rw [hu, ← h1, show o + k / 10 * 10 + k % 10 = o + k by omega] at h2
        exact h2
      · obtain ⟨hj, rfl⟩ := hT j n h1
        obtain ⟨-, rfl⟩ := hA j a h2
        exact (hf j hj).2.1
      · obtain ⟨hj, rfl⟩ := hT j n h1
        obtain ⟨-, rfl⟩ := hA j a h2
        exact (hf j hj).2.2.2
      · obtain ⟨hj, rfl⟩ := hT j n h1
        exact (hf j hj).2.2.1
end
end Go.Proofs.Ythooibljnfnnhaa
end
