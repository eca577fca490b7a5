/-
  Texts of this claim in one file: SgF, SgG, SgA, SgB, SgD.
-/
import Derived.Test.YtpkmidaflnbobaaGreatDoorPk11
import Derived.Test.YtpkmidaflnbobaaGreatDoorPk10
import Derived.Test.YtpkmidaflnbobaaGreatDoorPk1
import Derived.Test.YtpkmidaflnbobaaGreatDoorPk38
import Derived.Test.YtpkmidaflnbobaaGreatDoorPk0
import Derived.Test.YtpkmidaflnbobaaGreatDoorPk5
import Derived.Lib.AppendZeros
import Derived.Test.YtpkmidaflnbobaaGreatDoorPk46
import Derived.Test.YtpkmidaflnbobaaGreatDoorPk41
import Derived.Test.YtpkmidaflnbobaaGreatDoorPk39
import Derived.Shelf.Bytes.SlEqualAll
import Derived.Test.YtpkmidaflnbobaaGreatDoorPk15
import Derived.Test.YtpkmidaflnbobaaGreatDoorPk44
import Derived.Test.YtpkmidaflnbobaaGreatDoorPk3
import Derived.Test.YtpkmidaflnbobaaGreatDoorPk2
import Derived.Test.YtpkmidaflnbobaaGreatDoorPk9
import Derived.Test.YtpkmidaflnbobaaGreatDoorPk8
import Derived.Test.YtpkmidaflnbobaaGreatDoorPk20
import Derived.Test.YtpkmidaflnbobaaGreatDoorPk19
import Derived.Test.YtpkmidaflnbobaaGreatDoorPk17
section
namespace Go.Proofs.YtpkmidaflnbobaaGreatDoor
open Go Go.RowKit
set_option linter.unusedVariables false
set_option linter.unusedSimpArgs false
theorem ownB_on {w w' : World} {B : Nat} {v : Value} {xs : List UInt8} (h : OwnB w B v xs) (hb : Below w.heap.size w w') : OwnB w' B v xs :=
  World.ownsRow.kept (row := none) h ⟨hb.os, hb.tape, hb.output, hb.size, fun k hk _ => hb.block k hk⟩ (by cases hv : v.ownBlock <;> simp)
theorem ownB_sq {w : World} {B n c : Nat} {A : Option Addr} {xs : List UInt8} (h : OwnB w B (.slice A n c) xs) : Sq w w.heap.size A c (bvs xs) := by
  obtain ⟨A', c', he, hs⟩ := own_sl h
  simp only [Value.slice.injEq] at he
  obtain ⟨rfl, _, rfl⟩ := he
  exact hs.sq
section
variable {P : Program} {ops : Array Oper} {Q : Exit → Act → World → Prop} {o : Oper} {rest : List Oper} {a : Act} {w0 : World}
/-- Bytes made, all 0. -/
theorem wpLA_make (n : Nat) (hw : Region.wanted o (yielded ops a.tmps) = true) (t : TypeId) (x y : Operand) (ho : o.op = .makeSlice t x y) (hx : a.eval x = .int .i64 (n : Int)) (hy : a.eval y = .int .i64 (n : Int)) (ht : P.underlying t = some (.slice 5))
    (hi : (P.info? 5).map (fun i => (i.zero, i.size, i.bytes)) = some (some (.int .u8 0), 1, 1)) (hn : n ≤ 1000000)
    (h : ∀ p w', Below w0.heap.size w0 w' → Sq w' w'.heap.size (some ⟨p, 0, none⟩) n (bvs (List.replicate n 0)) → wpLA P ops Q w' rest (a.put o.dst (.slice (some ⟨p, 0, none⟩) n n))) : wpLA P ops Q w0 (o :: rest) a := .mk fun w hb =>
  BigFrame.wpList_want hw fun K' hK => by
    obtain ⟨i, hi1, hz, hs, hbt⟩ := info_parts hi
    obtain ⟨w', hr, hown, hg⟩ := run_make_full (P := P) w w.heap.size t 5 i (.int .u8 0) 1 ht hi1 hz hs .i64 .i64 n (by rw [hbt]; omega) (by unfold maxLen; omega) (Nat.le_refl _)
    have hc : (madeCells (Value.int .u8 0).cells (n * 1)).toList = bvs (List.replicate n 0) := by
      rw [Nat.mul_one]
      show (madeCells #[Value.int .u8 0] n).toList = _
      rw [toList_madeCells_one]
      unfold bvs
      rw [List.map_replicate]
      rfl
    rw [hc] at hown
    have hb2 : Below w0.heap.size w0 w' := hb.grown hg hb.size (fun _ h => by cases h)
    have hsq : Sq w' w'.heap.size (some ⟨w.heap.size, 0, none⟩) n (bvs (List.replicate n 0)) := by
      have h1 : OwnB w' w.heap.size (.slice (some ⟨w.heap.size, 0, none⟩) n n) (List.replicate n 0) := by unfold OwnB; rw [List.length_replicate]; exact hown
      exact ownB_sq h1
    unfold Oper.wp
    have he : (execOp a.eval o).run P w = .ok (.value (.slice (some ⟨w.heap.size, 0, none⟩) n n)) w' := by
      simp only [execOp, ho, hx, hy, Sem.run_bind, hr, Result.andThen_ok]
      rfl
    rw [he]
    exact hK _ _ ((h w.heap.size w' hb2 hsq).out _ (Below.refl _ _))
/-- No bytes, to have some put behind. -/
theorem wpLA_empty (hw : Region.wanted o (yielded ops a.tmps) = true) (hr : ∀ w', (execOp a.eval o).run P w' = .ok (.value (.slice (some ⟨w'.heap.size, 0, none⟩) 0 0)) (w'.alloc (.cells #[] 5)))
    (h : ∀ p w', Below w0.heap.size w0 w' → OwnB w' w0.heap.size (.slice (some ⟨p, 0, none⟩) 0 0) [] → wpLA P ops Q w' rest (a.put o.dst (.slice (some ⟨p, 0, none⟩) 0 0))) : wpLA P ops Q w0 (o :: rest) a := .mk fun w hb =>
  BigFrame.wpList_want hw fun K' hK => by
    unfold Oper.wp
    rw [hr w]
    refine hK _ _ ((h w.heap.size _ (hb.alloc hb.size _) ?_).out _ (Below.refl _ _))
    exact World.ownsRow_lit w #[] 0 hb.size (by simp) rfl
/-- Bytes behind bytes that the walk owns from block B on. -/
theorem wpLA_append {B : Nat} {v : Value} {xs ys zs : List UInt8} (hz : zs = xs ++ ys) {A : Option Addr} {c m : Nat} (hw : Region.wanted o (yielded ops a.tmps) = true) (s x : Operand) (t : TypeId) (ho : o.op = .call { callee := .builtin .append, args := #[s, x], argTypes := #[t, t] })
    (ht : P.underlying t = some (.slice 5)) (hi : (P.info? 5).map (fun i => (i.zero, i.size, i.bytes)) = some (some (.int .u8 0), 1, 1)) (hs : a.eval s = v) (hown : OwnB w0 B v xs) (hm : ys.length = m) (hx : a.eval x = .slice A m c) (hq : Sq w0 w0.heap.size A c (bvs ys))
    (hn : xs.length + m ≤ 1000000) (hB : B ≤ w0.heap.size)
    (h : ∀ A' c' w', OwnB w' B (.slice A' zs.length c') zs → Below B w0 w' → wpLA P ops Q w' rest (a.put o.dst (.slice A' zs.length c'))) : wpLA P ops Q w0 (o :: rest) a := .mk fun w hb =>
  BigFrame.wpList_want hw fun K' hK => by
    have ho1 := ownB_on hown hb
    have hq1 := hq.on6 hb
    refine wp_append_lie s x t ho B 5 (.int .u8 0) 1 ht hi rfl hs ho1 (by rw [bvs_length]; exact hm) hx hq1.lie (bvs_one ys) (by unfold maxLen; omega) (by omega) (Nat.le_trans hB hb.size) fun v' w' h2 h3 h4 => hK _ _ ?_
    have h5 : OwnB w' B v' zs := by
      unfold OwnB
      rw [hz, List.length_append, hm]
      simpa [bvs] using h2
    obtain ⟨A', c', rfl, -⟩ := own_sl h5
    exact (h A' c' w' h5 ((hb.mono hB).grown h3 (Nat.le_trans hB hb.size) (own_lt ho1))).out _ (Below.refl _ _)
variable {md : Region.Mode} {n : Nat}
end
end Go.Proofs.YtpkmidaflnbobaaGreatDoor
end
section
namespace Go.Proofs.YtpkmidaflnbobaaGreatDoor
open Go Go.RowKit
set_option linter.unusedVariables false
set_option linter.unusedSimpArgs false
/-- A new row of byte slices. -/
theorem rows_new10 (w : World) (l : List (Option Addr × List UInt8 × Nat)) (h : ∀ p ∈ l, Sq w w.heap.size p.1 p.2.2 (bvs p.2.1)) (t : TypeId) :
    Rows2' (w.alloc (.cells (l.map fun p => Value.slice p.1 p.2.1.length p.2.2).toArray t)) (w.heap.size + 1) (some ⟨w.heap.size, 0, none⟩) (l.map fun p => p.2.1) := by
  refine ⟨l.map fun p => Value.slice p.1 p.2.1.length p.2.2, by simp, ?_, fun j x hx => ?_⟩
  · have := Lie.newA w (l.map fun p => Value.slice p.1 p.2.1.length p.2.2).toArray t
    simpa using this
  · rw [List.getElem?_map] at hx
    obtain ⟨p, hp, rfl⟩ := Option.map_eq_some_iff.1 hx
    refine ⟨p.1, p.2.2, by simp [hp], ((h p (List.mem_of_getElem? hp)).alloc (Nat.le_refl _) _).more (by omega)⟩
section
variable {P : Program} {ops : Array Oper} {Q : Exit → Act → World → Prop} {o : Oper} {rest : List Oper} {a : Act} {w0 : World}
/-- A row of slices. -/
theorem wpLA_rows (l : List (Option Addr × List UInt8 × Nat)) {n : Nat} (hn : l.length = n) (h0 : ∀ p ∈ l, Sq w0 w0.heap.size p.1 p.2.2 (bvs p.2.1)) (hw : Region.wanted o (yielded ops a.tmps) = true) (t : TypeId)
    (hr : ∀ w', (execOp a.eval o).run P w' = .ok (.value (.slice (some ⟨w'.heap.size, 0, none⟩) n n)) (w'.alloc (.cells (l.map fun p => Value.slice p.1 p.2.1.length p.2.2).toArray t)))
    (h : ∀ g w', Below w0.heap.size w0 w' → Rows2' w' w'.heap.size (some ⟨g, 0, none⟩) (l.map fun p => p.2.1) → wpLA P ops Q w' rest (a.put o.dst (.slice (some ⟨g, 0, none⟩) n n))) : wpLA P ops Q w0 (o :: rest) a := .mk fun w hb =>
  BigFrame.wpList_want hw fun K' hK => by
    unfold Oper.wp
    rw [hr w]
    have hR := rows_new10 w l (fun p hp => (h0 p hp).on6 hb) t
    refine hK _ _ ((h w.heap.size _ (hb.alloc hb.size _) ?_).out _ (Below.refl _ _))
    simpa using hR
end
end Go.Proofs.YtpkmidaflnbobaaGreatDoor
end
section
namespace Go.Proofs.YtpkmidaflnbobaaGreatDoor
open Go Go.RowKit
set_option linter.unusedVariables false
set_option linter.unusedSimpArgs false
/-- A row of rows of bytes. -/
def Rows3 (w : World) (B : Nat) (A : Option Addr) (gs : List (List (List UInt8))) : Prop :=
  ∃ vs : List Value, vs.length = gs.length ∧ Lie w B A vs ∧ ∀ (j : Nat) (x : List (List UInt8)), gs[j]? = some x → ∃ A' c, vs[j]? = some (.slice A' x.length c) ∧ Rows2' w B A' x
theorem Rows3.at_ {w : World} {B : Nat} {A : Option Addr} {gs : List (List (List UInt8))} (h : Rows3 w B A gs) {k : Nat} (hk : k < gs.length) : ∃ b o A' c, A = some ⟨b, o, none⟩ ∧ b < B ∧ w.cell? ⟨b, o + k, none⟩ = some (.slice A' gs[k].length c) ∧ Rows2' w B A' gs[k] := by
  obtain ⟨vs, hl, hv, he⟩ := h
  obtain ⟨A', c, h1, h2⟩ := he k gs[k] (List.getElem?_eq_getElem hk)
  obtain ⟨b, o, hA, hb, hc⟩ := hv.at_ (k := k) (by omega)
  rw [List.getElem?_eq_getElem (by omega)] at h1
  injection h1 with h1
  exact ⟨b, o, A', c, hA, hb, by rw [hc, h1], h2⟩
theorem Rows3.below {w w' : World} {B : Nat} {A : Option Addr} {gs : List (List (List UInt8))} (h : Rows3 w B A gs) (hb : Below B w w') : Rows3 w' B A gs := by
  obtain ⟨vs, hl, hv, he⟩ := h
  refine ⟨vs, hl, hv.below hb, fun j x hx => ?_⟩
  obtain ⟨A', c, h1, h2⟩ := he j x hx
  exact ⟨A', c, h1, h2.below hb⟩
end Go.Proofs.YtpkmidaflnbobaaGreatDoor
end
section
namespace Go.Proofs.YtpkmidaflnbobaaGreatDoor
open Go Go.RowKit
set_option linter.unusedVariables false
set_option linter.unusedSimpArgs false
theorem rows_on {w w' : World} {A : Option Addr} {ls : List (List UInt8)} (h : Rows2' w w.heap.size A ls) (hb : Below w.heap.size w w') : Rows2' w' w'.heap.size A ls := by
  obtain ⟨vs, h1, h2, h3⟩ := h
  exact ⟨vs, h1, (h2.below hb).more hb.size, fun j x hx => by obtain ⟨A', c, h4, h5⟩ := h3 j x hx; exact ⟨A', c, h4, h5.on6 hb⟩⟩
section
variable {P : Program} {ops : Array Oper} {Q : Exit → Act → World → Prop} {o : Oper} {rest : List Oper} {a : Act} {w0 : World}
variable {md : Region.Mode} {fuel : Nat} {listed : Array Bool} {i : Nat} {oi : Oper} {w : World}
end
end Go.Proofs.YtpkmidaflnbobaaGreatDoor
end
section
namespace Go.Proofs.YtpkmidaflnbobaaGreatDoor
open Go Go.RowKit
set_option linter.unusedVariables false
set_option linter.unusedSimpArgs false
section
variable {P : Program} {ops : Array Oper} {Q : Exit → Act → World → Prop} {o : Oper} {rest : List Oper} {a : Act} {w0 : World}
/-- A text's bytes, in memory of their own. -/
theorem wpLA_str (s : ByteArray) (hs : s.size ≤ 1000000) (hw : Region.wanted o (yielded ops a.tmps) = true)
    (hr : ∀ w', (execOp a.eval o).run P w' = .ok (.value (.slice (some ⟨w'.heap.size, 0, none⟩) s.size (grownCap w' s.size 0 U8))) (strW w' s))
    (h : ∀ p c w', Below w0.heap.size w0 w' → Sq w' w'.heap.size (some ⟨p, 0, none⟩) c (bvs (sby s)) → wpLA P ops Q w' rest (a.put o.dst (.slice (some ⟨p, 0, none⟩) s.size c))) : wpLA P ops Q w0 (o :: rest) a := .mk fun w hb =>
  BigFrame.wpList_want hw fun K' hK => by
    unfold Oper.wp
    rw [hr w]
    refine hK _ _ ((h w.heap.size _ _ (hb.trans ((strW_below w s).mono hb.size)) ((strW_lie w s).sq ?_ ?_)).out _ (Below.refl _ _))
    · have := grownCap_ge w s.size 0 U8
      rw [bvs_length]
      have h2 := sby_length s
      omega
    · have := grownCap_le_maxLen w s.size 0 U8 (by unfold maxLen; omega)
      unfold maxLen at this
      omega
end
end Go.Proofs.YtpkmidaflnbobaaGreatDoor
end
