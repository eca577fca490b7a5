/-
  The document's numbers modulo the prime, over the field; numbers that lie.
-/
import Derived.Test.YtealegfmmeklcaaRef06g
import Derived.Test.YtealegfmmeklcaaLad
namespace Go.Proofs.Ytealegfmmeklcaa
open Go.RowKit
set_option linter.unusedVariables false
set_option linter.unusedSimpArgs false

/-- No whole numbers. -/
def NoInt (cs : Array Value) : Prop := ∀ (i : Nat) (v : Value), cs[i]? = some v → ∀ k n, v ≠ .int k n
theorem NoInt.two {A A' : Option Addr} {n n' c c' : Nat} : NoInt #[.slice A n c, .slice A' n' c'] := fun i v h k m => by
  rcases i with _ | _ | i
  · simp at h; subst h; simp
  · simp at h; subst h; simp
  · simp at h
/-- Numbers lie elsewhere than rows of slices. -/
theorem Sq.far {w : World} {B c g : Nat} {A : Option Addr} {xs : List Value} {cs : Array Value} {t : TypeId} (h : Sq w B A c xs) (hx : ∀ u ∈ xs, ∃ k n, u = .int k n) (hg : w.heap[g]? = some (.cells cs t (0, 0))) (hn : NoInt cs) (i : Nat) (v : Value) : Sq (w.setCell ⟨g, i, none⟩ v) B A c xs := by
  rcases h with h | ⟨b, o, hA, hb, h1, h2, hc⟩
  · exact .inl h
  · by_cases h0 : xs = []
    · exact .inl ⟨h0, h2⟩
    refine .inr ⟨b, o, hA, hb, h1, h2, fun j u hu => ?_⟩
    have hbg : b ≠ g := fun e => by
      subst e
      have hl : j < xs.length := (List.getElem?_eq_some_iff.1 hu).1
      have h3 := hc j u hu
      rw [cell_of_row w b (o + j) cs t (0, 0) hg] at h3
      obtain ⟨k, n, hkn⟩ := hx u (List.mem_of_getElem? hu)
      exact hn _ _ h3 k n hkn
    exact (World.cell?_setCell_other w ⟨g, i, none⟩ ⟨b, o + j, none⟩ v (fun e => hbg (by injection e with e _ _; exact e.symm))).trans (hc j u hu)
theorem ivs_int (xs : List Nat) : ∀ u ∈ ivs xs, ∃ k n, u = .int k n := by
  intro u hu
  simp only [ivs, List.mem_map] at hu
  obtain ⟨x, _, rfl⟩ := hu
  exact ⟨_, _, rfl⟩
theorem bvs_int (xs : List UInt8) : ∀ u ∈ bvs xs, ∃ k n, u = .int k n := by
  intro u hu
  simp only [bvs, List.mem_map] at hu
  obtain ⟨x, _, rfl⟩ := hu
  exact ⟨_, _, rfl⟩

/-- Numbers that lie somewhere. -/
def Bgs (w : World) : List (Option Addr × Nat × Nat) → Prop
  | [] => True
  | p :: l => Sq w w.heap.size p.1 p.2.1 (ivs (dg p.2.2)) ∧ Bgs w l
theorem Bgs.on {w w' : World} (hb : Below w.heap.size w w') : ∀ {l}, Bgs w l → Bgs w' l
  | [], _ => trivial
  | p :: l, h => ⟨h.1.on6 hb, Bgs.on hb h.2⟩
theorem size_setC (w : World) (a : Addr) (v : Value) : (w.setCell a v).heap.size = w.heap.size := by simp [World.setCell]
theorem Bgs.set {w : World} {g : Nat} {cs : Array Value} {t : TypeId} (hg : w.heap[g]? = some (.cells cs t (0, 0))) (hn : NoInt cs) (i : Nat) (v : Value) : ∀ {l}, Bgs w l → Bgs (w.setCell ⟨g, i, none⟩ v) l
  | [], _ => trivial
  | p :: l, h => ⟨by rw [size_setC]; exact h.1.far (ivs_int _) hg hn i v, Bgs.set hg hn i v h.2⟩

/-- The calls, over the field. -/
theorem mulF {a b r : FF} (hr : r = a * b) : Hid (∀ W A c A' c', Sq W W.heap.size A c (ivs (dg a.val)) → Sq W W.heap.size A' c' (ivs (dg b.val)) → Calls Try.prog 47 #[.slice A (dg a.val).length c, .slice A' (dg b.val).length c'] W (BigR W r.val)) := hid fun W A c A' c' h h' => by
  have e : r.val = a.val * b.val % pp := by rw [hr, Fin.val_mul]; rfl
  rw [e]
  exact Mul6_any a.val b.val A A' c c' W h h' a.isLt b.isLt
theorem addF {a b r : FF} (hr : r = a + b) : Hid (∀ W A c A' c', Sq W W.heap.size A c (ivs (dg a.val)) → Sq W W.heap.size A' c' (ivs (dg b.val)) → Calls Try.prog 49 #[.slice A (dg a.val).length c, .slice A' (dg b.val).length c'] W (BigR W r.val)) := hid fun W A c A' c' h h' => by
  have e : r.val = (a.val + b.val) % pp := by rw [hr, Fin.val_add]; rfl
  rw [e]
  exact Add6_any a.val b.val A A' c c' W h h' a.isLt b.isLt
theorem subF_val (a b : FF) : (a - b).val = (a.val + (pp - b.val)) % pp := by
  have h : (a - b).val = (pp - b.val + a.val) % pp := by rw [Fin.sub_def]; rfl
  rw [h, Nat.add_comm]
theorem subF {a b r : FF} (hr : r = a - b) : Hid (∀ W A c A' c', Sq W W.heap.size A c (ivs (dg a.val)) → Sq W W.heap.size A' c' (ivs (dg b.val)) → Calls Try.prog 25 #[.slice A (dg a.val).length c, .slice A' (dg b.val).length c'] W (BigR W r.val)) := hid fun W A c A' c' h h' => by
  rw [hr, subF_val]
  exact Sub6_any a.val b.val A A' c c' W h h' a.isLt b.isLt
theorem invF {a r : FF} (hr : r = FI a) : Hid (∀ W A c, Sq W W.heap.size A c (ivs (dg a.val)) → Calls Try.prog 48 #[.slice A (dg a.val).length c] W (BigR W r.val)) := hid fun W A c h => by
  rw [hr, FI_val]
  exact Inv6_any a.val A c W h a.isLt
/-- A number that the walk makes of a literal. -/
theorem numF (n : Nat) {r : FF} (hn : n < 18446744073709551616) (hr : r.val = n) : Hid (∀ W, Calls Try.prog 15 #[.int .u64 (n : Int)] W (BigR W r.val)) := hid fun W => by
  rw [hr]
  exact Num_any n W hn
theorem FF_comm (a b : FF) : a * b = b * a := by grobner
/-- What a walk over numbers holds. -/
def Ns (w0 w : World) (l : List (Option Addr × Nat × Nat)) : Prop := Bgs w l ∧ Below w0.heap.size w0 w
section
variable {w0 w w' : World} {l : List (Option Addr × Nat × Nat)}
theorem Ns.call (h : Ns w0 w l) (hb : Below w.heap.size w w') : Ns w0 w' l := ⟨h.1.on hb, h.2.trans (hb.mono h.2.size)⟩
theorem Ns.made (h : Ns w0 w l) (hb : Below w.heap.size w w') {A : Option Addr} {c n : Nat} (hs : Sq w' w'.heap.size A c (ivs (dg n))) : Ns w0 w' ((A, c, n) :: l) := ⟨⟨hs, h.1.on hb⟩, h.2.trans (hb.mono h.2.size)⟩
theorem Ns.start {A : Option Addr} {c n : Nat} (hs : Sq w w.heap.size A c (ivs (dg n))) : Ns w w [(A, c, n)] := ⟨⟨hs, trivial⟩, Below.refl _ _⟩
end
end Go.Proofs.Ytealegfmmeklcaa
