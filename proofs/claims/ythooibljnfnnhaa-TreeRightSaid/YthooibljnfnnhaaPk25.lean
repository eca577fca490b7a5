/-
  Texts of this claim in one file: Base.
-/
import Derived.WalkKit
import Derived.Below
import Derived.Laws.OwnMore
import Derived.Maps.AppendAt
import Derived.Deep.AppendLies
import Derived.Deep.Draws
import Derived.Test.YthooibljnfnnhaaProg
import Derived.Deep.LoopGhost
import Derived.Deep.QuietTactic
import Derived.BigQuiet
import Derived.ScopeJumps
import Derived.Deep.RegionHeld3
section
namespace Go.Proofs.Ythooibljnfnnhaa
section
open Go.RowKit
theorem hid {p : Prop} (h : p) : Hid p := h
/-- The cells cs lie one behind the other from A on, in a block below B. Of an empty list nothing is said. -/
def Lie (w : World) (B : Nat) (A : Option Addr) (cs : List Value) : Prop :=
  cs ≠ [] → ∃ b o, A = some ⟨b, o, none⟩ ∧ b < B ∧ ∀ j u, cs[j]? = some u → w.cell? ⟨b, o + j, none⟩ = some u
section
variable {w w' : World} {B B' : Nat} {A : Option Addr} {cs : List Value}
theorem Lie.nil : Lie w B A [] := fun h => absurd rfl h
theorem Lie.keep (h : Lie w B A cs) (hk : ∀ b o, b < B → w'.cell? ⟨b, o, none⟩ = w.cell? ⟨b, o, none⟩) : Lie w' B A cs := fun hn => by
  obtain ⟨b, o, hA, hb, hc⟩ := h hn
  exact ⟨b, o, hA, hb, fun j u hu => (hk b _ hb).trans (hc j u hu)⟩
theorem Lie.more (h : Lie w B A cs) (hB : B ≤ B') : Lie w B' A cs := fun hn => by
  obtain ⟨b, o, hA, hb, hc⟩ := h hn
  exact ⟨b, o, hA, Nat.lt_of_lt_of_le hb hB, hc⟩
theorem Lie.below (h : Lie w B A cs) (hb : Below B w w') : Lie w' B A cs := h.keep fun b o hlt => hb.cell (p := ⟨b, o, none⟩) hlt
theorem Lie.drew (h : Lie w B A cs) : Lie w.drew B A cs := h
theorem Lie.drewN (h : Lie w B A cs) (n : Nat) : Lie (w.drewN n) B A cs := h
theorem Lie.alloc (h : Lie w B A cs) (hB : B ≤ w.heap.size) (o : Obj) : Lie (w.alloc o) B A cs :=
  h.keep fun b i hlt => World.cell?_alloc_lt w o ⟨b, i, none⟩ (Nat.lt_of_lt_of_le hlt hB)
theorem Lie.setCell (h : Lie w B A cs) {p : Addr} (hB : B ≤ p.block) (u : Value) : Lie (w.setCell p u) B A cs :=
  h.keep fun b i hlt => World.cell?_setCell_other w p ⟨b, i, none⟩ u (fun e => by subst e; exact absurd hB (Nat.not_le_of_lt hlt))
theorem Lie.grown (h : Lie w B A cs) {row : Option Nat} (hg : w.grownBy w' row) (hB : B ≤ w.heap.size) (hr : ∀ g, row = some g → B ≤ g) : Lie w' B A cs :=
  h.keep fun b i hlt => World.cell?_of_block (a := ⟨b, i, none⟩) (hg.block b (Nat.lt_of_lt_of_le hlt hB) (fun e => absurd (hr b e.symm) (Nat.not_le_of_lt hlt)))
/-- The cell at place k, where there is one. -/
theorem Lie.at_ (h : Lie w B A cs) {k : Nat} (hk : k < cs.length) : ∃ b o, A = some ⟨b, o, none⟩ ∧ b < B ∧ w.cell? ⟨b, o + k, none⟩ = some cs[k] := by
  obtain ⟨b, o, hA, hb, hc⟩ := h (fun e => by subst e; simp at hk)
  exact ⟨b, o, hA, hb, hc k _ (List.getElem?_eq_getElem hk)⟩
theorem Lie.take (h : Lie w B A cs) (n : Nat) : Lie w B A (cs.take n) := fun hn => by
  obtain ⟨b, o, hA, hb, hc⟩ := h (fun e => hn (by rw [e]; simp))
  refine ⟨b, o, hA, hb, fun j u hu => hc j u ?_⟩
  rw [List.getElem?_take] at hu
  split at hu
  · exact hu
  · cases hu
/-- The cells behind the first k: where a cut s[k:] of one-cell elements points, as the walk spells it. -/
theorem Lie.drop {b o : Nat} {sp : Option Nat} (h : Lie w B (some ⟨b, o, sp⟩) cs) (k : Nat) : Lie w B (some ⟨b, o + k, sp⟩) (cs.drop k) := fun hn => by
  obtain ⟨b', o', hA, hb, hc⟩ := h (fun e => hn (by rw [e]; simp))
  simp only [Option.some.injEq, Addr.mk.injEq] at hA
  obtain ⟨rfl, rfl, rfl⟩ := hA
  exact ⟨b, o + k, rfl, hb, fun j u hu => by rw [List.getElem?_drop] at hu; rw [Nat.add_assoc]; exact hc _ u hu⟩
theorem Lie.of_own {base : Nat} {e : TypeId} {n c : Nat} (h : w.ownsRow base e 1 (.slice A n c) n cs) : Lie w w.heap.size A cs := fun hn => by
  have hl := h.1
  have hpos : 0 < n := by
    rcases Nat.eq_zero_or_pos n with h0 | h0
    · exact absurd (List.eq_nil_of_length_eq_zero (by rw [hl, h0])) hn
    · exact h0
  obtain ⟨g, cap, hv, _, hlt⟩ := h.form hpos
  have hA : A = some ⟨g, 0, none⟩ := by injection hv
  subst hA
  refine ⟨g, 0, rfl, hlt, fun j u hu => ?_⟩
  have := h.cells (g := g) rfl j u hu
  rw [Nat.zero_add]
  simpa [Addr.add_lit] using this
theorem own_lt {base : Nat} {e : TypeId} {size n : Nat} {v : Value} (h : w.ownsRow base e size v n cs) : ∀ k, v.ownBlock = some k → base ≤ k := fun k hk => (h.lt k hk).1
end
/-- A slice with its capacity: nil, or the cells xs from A on, in a block below B. -/
def Sl (w : World) (B : Nat) (A : Option Addr) (c : Nat) (xs : List Value) : Prop :=
  (A = none ∧ c = 0 ∧ xs = []) ∨ ∃ b o, A = some ⟨b, o, none⟩ ∧ b < B ∧ xs.length ≤ c ∧ c ≤ 9223372036854775807 ∧ ∀ j u, xs[j]? = some u → w.cell? ⟨b, o + j, none⟩ = some u
section
variable {w w' : World} {B B' : Nat} {A : Option Addr} {c : Nat} {xs : List Value}
theorem Sl.lie (h : Sl w B A c xs) : Lie w B A xs := by
  rcases h with ⟨_, _, rfl⟩ | ⟨b, o, hA, hb, _, _, hc⟩
  · exact Lie.nil
  · exact fun _ => ⟨b, o, hA, hb, hc⟩
theorem Sl.cap (h : Sl w B A c xs) : xs.length ≤ c ∧ c ≤ 9223372036854775807 := by
  rcases h with ⟨_, rfl, rfl⟩ | ⟨b, o, _, _, h1, h2, _⟩
  · exact ⟨Nat.le_refl _, by omega⟩
  · exact ⟨h1, h2⟩
theorem Sl.nil : Sl w B none 0 [] := .inl ⟨rfl, rfl, rfl⟩
theorem Sl.keep (h : Sl w B A c xs) (hk : ∀ b o, b < B → w'.cell? ⟨b, o, none⟩ = w.cell? ⟨b, o, none⟩) : Sl w' B A c xs := by
  rcases h with h | ⟨b, o, hA, hb, h1, h2, hc⟩
  · exact .inl h
  · exact .inr ⟨b, o, hA, hb, h1, h2, fun j u hu => (hk b _ hb).trans (hc j u hu)⟩
theorem Sl.more (h : Sl w B A c xs) (hB : B ≤ B') : Sl w B' A c xs := by
  rcases h with h | ⟨b, o, hA, hb, h1, h2, hc⟩
  · exact .inl h
  · exact .inr ⟨b, o, hA, Nat.lt_of_lt_of_le hb hB, h1, h2, hc⟩
theorem Sl.below (h : Sl w B A c xs) (hb : Below B w w') : Sl w' B A c xs := h.keep fun b o hlt => hb.cell (p := ⟨b, o, none⟩) hlt
theorem Sl.drewN (h : Sl w B A c xs) (n : Nat) : Sl (w.drewN n) B A c xs := h
theorem Sl.alloc (h : Sl w B A c xs) (hB : B ≤ w.heap.size) (o : Obj) : Sl (w.alloc o) B A c xs :=
  h.keep fun b i hlt => World.cell?_alloc_lt w o ⟨b, i, none⟩ (Nat.lt_of_lt_of_le hlt hB)
theorem Sl.setCell (h : Sl w B A c xs) {p : Addr} (hB : B ≤ p.block) (u : Value) : Sl (w.setCell p u) B A c xs :=
  h.keep fun b i hlt => World.cell?_setCell_other w p ⟨b, i, none⟩ u (fun e => by subst e; exact absurd hB (Nat.not_le_of_lt hlt))
theorem Sl.grown (h : Sl w B A c xs) {row : Option Nat} (hg : w.grownBy w' row) (hB : B ≤ w.heap.size) (hr : ∀ g, row = some g → B ≤ g) : Sl w' B A c xs :=
  h.keep fun b i hlt => World.cell?_of_block (a := ⟨b, i, none⟩) (hg.block b (Nat.lt_of_lt_of_le hlt hB) (fun e => absurd (hr b e.symm) (Nat.not_le_of_lt hlt)))
/-- The first n cells, with the same capacity. -/
theorem Sl.take (h : Sl w B A c xs) (n : Nat) : Sl w B A c (xs.take n) := by
  rcases h with ⟨h1, h2, rfl⟩ | ⟨b, o, hA, hb, h1, h2, hc⟩
  · exact .inl ⟨h1, h2, by simp⟩
  · refine .inr ⟨b, o, hA, hb, by rw [List.length_take]; omega, h2, fun j u hu => hc j u ?_⟩
    rw [List.getElem?_take] at hu
    split at hu
    · exact hu
    · cases hu
/-- What is behind the first k, where it doesn't stand at the capacity's end. -/
theorem Sl.drop {b o : Nat} {sp : Option Nat} (h : Sl w B (some ⟨b, o, sp⟩) c xs) (k : Nat) (hk : k < c) : Sl w B (some ⟨b, o + k, sp⟩) (c - k) (xs.drop k) := by
  rcases h with ⟨h, _⟩ | ⟨b', o', hA, hb, h1, h2, hc⟩
  · cases h
  · simp only [Option.some.injEq, Addr.mk.injEq] at hA
    obtain ⟨rfl, rfl, rfl⟩ := hA
    exact .inr ⟨b, o + k, rfl, hb, by rw [List.length_drop]; omega, by omega, fun j u hu => by rw [List.getElem?_drop] at hu; rw [Nat.add_assoc]; exact hc _ u hu⟩
/-- An owned slice of one-cell elements as a slice with its capacity. -/
theorem own_sl {base : Nat} {e : TypeId} {n : Nat} {v : Value} (h : w.ownsRow base e 1 v n xs) : ∃ A c, v = .slice A n c ∧ Sl w w.heap.size A c xs := by
  have hl := h.1
  rcases h.2 with ⟨rfl, rfl⟩ | ⟨g, cap, cur, rfl, hb, hg, h1, h2, h3, h4⟩
  · exact ⟨none, 0, rfl, .inl ⟨rfl, rfl, List.eq_nil_of_length_eq_zero (by omega)⟩⟩
  · refine ⟨_, _, rfl, .inr ⟨g, 0, rfl, (Array.getElem?_eq_some_iff.1 hg).1, by omega, by simpa [maxLen] using h2, fun j u hu => ?_⟩⟩
    have := h.cells (g := g) rfl j u hu
    rw [Nat.zero_add]
    simpa [Addr.add_lit] using this
end
/-- Of two rows the second is the first, or a new one since w. -/
def Since (w : World) (row row' : Option Nat) : Prop := row' = row ∨ ∃ g, row' = some g ∧ w.heap.size ≤ g
theorem Since.refl (w : World) (row : Option Nat) : Since w row row := .inl rfl
/-- One step more of a world that grew by one row. -/
theorem grown_step {w a b : World} {row row' : Option Nat} (h : w.grownBy a row) (hs : Since w row row') (k : a.grownBy b row') : w.grownBy b row :=
  ⟨k.os.trans h.os, k.tape.trans h.tape, k.output.trans h.output, Nat.le_trans h.size k.size, fun i hi hne => (k.block i (Nat.lt_of_lt_of_le hi h.size) (fun e => by
    rcases hs with hs | ⟨g, hs, hg⟩
    · exact hne (e.trans hs)
    · rw [hs] at e; injection e with e; omega)).trans (h.block i hi hne)⟩
theorem since_step {w a : World} {row row' row'' : Option Nat} (hs : Since w row row') (hsz : w.heap.size ≤ a.heap.size) (h : Since a row' row'') : Since w row row'' := by
  rcases h with h | ⟨g, h, hg⟩
  · rw [h]; exact hs
  · exact .inr ⟨g, h, Nat.le_trans hsz hg⟩
theorem grown_alloc {w a : World} {row : Option Nat} (h : w.grownBy a row) (o : Obj) : w.grownBy (a.alloc o) row := grown_step h (.inl rfl) (World.grownBy_alloc a o row)
theorem since_of_at {w : World} {row row' : Option Nat} {g : Nat} (h : row' = row ∨ row' = some g) (hg : w.heap.size ≤ g) : Since w row row' := by
  rcases h with h | h
  · exact .inl h
  · exact .inr ⟨g, h, hg⟩
theorem grown_setCell (w : World) (g i : Nat) (sp : Option Nat) (u : Value) : w.grownBy (w.setCell ⟨g, i, sp⟩ u) (some g) :=
  ⟨rfl, rfl, rfl, by simp [World.setCell], fun k _ hne => Below.heap_setCell w ⟨g, i, sp⟩ u k (fun e => hne (by rw [e]))⟩
theorem add_none (b o n : Nat) : (⟨b, o, none⟩ : Addr).add n = ⟨b, o + n, none⟩ := by unfold Addr.add; split <;> simp_all
/-- A block of cells after a store into one of them. -/
theorem block_set {w : World} {g : Nat} {cs : Array Value} {t : TypeId} (h : w.heap[g]? = some (.cells cs t (0, 0))) (i : Nat) (u : Value) : (w.setCell ⟨g, i, none⟩ u).heap[g]? = some (.cells (cs.setIfInBounds i u) t (0, 0)) := heap_setCell_same w g i cs t u h
theorem cell_of {w : World} {g : Nat} {cs : Array Value} {t : TypeId} (h : w.heap[g]? = some (.cells cs t (0, 0))) (i : Nat) (v : Value) (hv : cs[i]? = some v) : w.cell? ⟨g, i, none⟩ = some v := by
  rw [cell_of_row w g i cs t (0, 0) h, hv]
theorem block_lt {w : World} {g : Nat} {o : Obj} (h : w.heap[g]? = some o) : g < w.heap.size := (Array.getElem?_eq_some_iff.1 h).1
theorem block_grown {w w' : World} {g : Nat} {o : Obj} {row : Option Nat} (h : w.heap[g]? = some o) (hg : w.grownBy w' row) (hne : some g ≠ row) : w'.heap[g]? = some o := (hg.block g (block_lt h) hne).trans h
theorem grown_none {w w' : World} (h : w.grownBy w' none) (row : Option Nat) : w.grownBy w' row := ⟨h.os, h.tape, h.output, h.size, fun k hk _ => h.block k hk (by simp)⟩
/-- A step that writes to a row new since w, or to none. -/
theorem grown_fresh {w a b : World} {row row' : Option Nat} (h : w.grownBy a row) (k : a.grownBy b row') (hr : ∀ g, row' = some g → w.heap.size ≤ g) : w.grownBy b row := by
  rcases hb : row' with _ | g
  · exact grown_step h (.inl rfl) (grown_none (hb ▸ k) row)
  · exact grown_step h (.inr ⟨g, hb, hr g hb⟩) k
/-- What grew by a row from B on is as it was below B. -/
theorem below_of_grown {w a : World} {row : Option Nat} {B : Nat} (h : w.grownBy a row) (hB : B ≤ w.heap.size) (hr : ∀ k, row = some k → B ≤ k) : Below B w a := (Below.refl B w).grown h hB hr
/-- A new block of one cell. -/
theorem Lie.new1 (w : World) (x : Value) (t : TypeId) : Lie (w.alloc (.cells #[x] t)) (w.heap.size + 1) (some ⟨w.heap.size, 0, none⟩) [x] := fun _ =>
  ⟨w.heap.size, 0, rfl, Nat.lt_succ_self _, fun j u hu => by
    have := cell_one_new w x t j u hu
    rw [Nat.zero_add]
    simpa [Addr.add_lit] using this⟩
/-- A new block. -/
theorem Lie.newA (w : World) (cs : Array Value) (t : TypeId) : Lie (w.alloc (.cells cs t)) (w.heap.size + 1) (some ⟨w.heap.size, 0, none⟩) cs.toList := fun _ =>
  ⟨w.heap.size, 0, rfl, Nat.lt_succ_self _, fun j u hu => by
    rw [Nat.zero_add, cell_of_row _ w.heap.size j cs t (0, 0) (heap_alloc_new w _)]
    simpa using hu⟩
section
variable {P : Program} {w : World}
/-- append onto a row of the call's own of what lies somewhere (nil and empty let in). -/
theorem run_append_lie (base : Nat) (t ty e : TypeId) (z : Value) (bytes : Nat) (ht : P.underlying t = some (.slice e))
    (hinfo : (P.info? e).map (fun i => (i.zero, i.size, i.bytes)) = some (some z, 1, bytes)) (hzs : z.cells.size = 1)
    {v : Value} {n : Nat} {xs : List Value} (hown : w.ownsRow base e 1 v n xs) {B : Nat} {A : Option Addr} {news : List Value} (c m : Nat) (hm : news.length = m) (hr : Lie w B A news)
    (h1 : ∀ u ∈ news, u.oneCell' = true) (h63 : n + m ≤ maxLen) (hbytes : (n + m) * bytes ≤ 140737488355328) (hbase : base ≤ w.heap.size) :
    ∃ v' w', (Builtin.append_ #[t, t] ty #[v, .slice A m c]).run P w = .ok v' w' ∧ w'.ownsRow base e 1 v' (n + m) (xs ++ news) ∧ w.grownBy w' v.ownBlock ∧
      (v'.ownBlock = v.ownBlock ∨ v'.ownBlock = some w.heap.size) := by
  obtain ⟨i, hi, hz, hsize, hby⟩ := info_parts hinfo
  subst hm
  rcases A with _ | ad
  · skip
    have hn : news = [] := by
      rcases news with _ | ⟨x, l⟩
      · rfl
      · obtain ⟨b, o, h, _⟩ := hr (by simp)
        cases h
    subst hn
    refine ⟨v, w, ?_, by simpa using hown, World.grownBy.refl w _, .inl rfl⟩
    rcases hown.2 with ⟨rfl, rfl⟩ | ⟨g, cap, cur, rfl, _, _, hnc, _⟩
    · simp [Builtin.append_, run_underlying ht, sizeOf, typeInfo, hi, Builtin.lenOf, Builtin.firstCells]
    · simp [Builtin.append_, run_underlying ht, sizeOf, typeInfo, hi, Builtin.lenOf, Builtin.firstCells, hnc, storeCells]
  · have hcells : ∀ j u, news[j]? = some u → w.cell? (ad.add j) = some u := by
      intro j u hu
      obtain ⟨b, o, h, _, hc⟩ := hr (fun e => by subst e; simp at hu)
      injection h with h
      subst h
      have hadd : (⟨b, o, none⟩ : Addr).add j = ⟨b, o + j, none⟩ := by unfold Addr.add; split <;> simp_all
      rw [hadd]
      exact hc j u hu
    obtain ⟨v', w', hrun, h2, h3, _, h5⟩ := run_append_own_at (P := P) w base t ty e i z 1 bytes ht hi hz hsize hby hzs (by decide) v n xs hown ad news.length c news (by omega) hcells h1 h63 hbytes hbase
    exact ⟨v', w', hrun, h2, h3, h5⟩
theorem wp_append_lie {o : Oper} {a : Act} {K : Act → World → Prop} {Q : Exit → Act → World → Prop} (s x : Operand) (t : TypeId)
    (ho : o.op = .call { callee := .builtin .append, args := #[s, x], argTypes := #[t, t] })
    (base : Nat) (e : TypeId) (z : Value) (bytes : Nat) (ht : P.underlying t = some (.slice e))
    (hinfo : (P.info? e).map (fun i => (i.zero, i.size, i.bytes)) = some (some z, 1, bytes)) (hzs : z.cells.size = 1)
    {v : Value} {n : Nat} {xs : List Value} (hs : a.eval s = v) (hown : w.ownsRow base e 1 v n xs) {B : Nat} {A : Option Addr} {news : List Value} {c m : Nat} (hm : news.length = m) (hx : a.eval x = .slice A m c) (hr : Lie w B A news)
    (h1 : ∀ u ∈ news, u.oneCell' = true) (h63 : n + m ≤ maxLen) (hbytes : (n + m) * bytes ≤ 140737488355328) (hbase : base ≤ w.heap.size)
    (h : ∀ v' w', w'.ownsRow base e 1 v' (n + m) (xs ++ news) → w.grownBy w' v.ownBlock → (v'.ownBlock = v.ownBlock ∨ v'.ownBlock = some w.heap.size) → K (a.put o.dst v') w') : o.wp P a w K Q := by
  obtain ⟨v', w', hrun, h2, h3, h4⟩ := run_append_lie (P := P) base t o.type e z bytes ht hinfo hzs hown c m hm hr h1 h63 hbytes hbase
  unfold Oper.wp execOp
  simp only [ho, resolve, invoke, builtin, Sem.run_bind, Sem.run_pure, Result.andThen_ok, List.map_toArray, List.map_cons, List.map_nil, hs, hx, hrun]
  exact h v' w' h2 h3 h4
theorem wpList_append_lie {ops : Array Oper} {rest : List Oper} {o : Oper} {a : Act} {Q : Exit → Act → World → Prop} (hgd : o.guard = none) (s x : Operand) (t : TypeId)
    (ho : o.op = .call { callee := .builtin .append, args := #[s, x], argTypes := #[t, t] })
    (base : Nat) (e : TypeId) (z : Value) (bytes : Nat) (ht : P.underlying t = some (.slice e))
    (hinfo : (P.info? e).map (fun i => (i.zero, i.size, i.bytes)) = some (some z, 1, bytes)) (hzs : z.cells.size = 1)
    {v : Value} {n : Nat} {xs : List Value} (hs : a.eval s = v) (hown : w.ownsRow base e 1 v n xs) {B : Nat} {A : Option Addr} {news : List Value} {c m : Nat} (hm : news.length = m) (hx : a.eval x = .slice A m c) (hr : Lie w B A news)
    (h1 : ∀ u ∈ news, u.oneCell' = true) (h63 : n + m ≤ maxLen) (hbytes : (n + m) * bytes ≤ 140737488355328) (hbase : base ≤ w.heap.size)
    (h : ∀ v' w', w'.ownsRow base e 1 v' (n + m) (xs ++ news) → w.grownBy w' v.ownBlock → (v'.ownBlock = v.ownBlock ∨ v'.ownBlock = some w.heap.size) → wpList P ops Q rest (a.put o.dst v') w') :
    wpList P ops Q (o :: rest) a w :=
  wpList_plain hgd fun _ hK => wp_append_lie s x t ho base e z bytes ht hinfo hzs hs hown hm hx hr h1 h63 hbytes hbase fun v' w' h2 h3 h4 => hK _ _ (h v' w' h2 h3 h4)
end
end
section
open Go.RowKit
set_option linter.unusedVariables false
set_option linter.unusedSimpArgs false
theorem infoU8 : (Try.prog.info? 5).map (fun i => (i.zero, i.size, i.bytes)) = some (some (.int .u8 0), 1, 1) := by kernel_rfl
/-- Bytes as cells. -/
def bvs (xs : List UInt8) : List Value := xs.map fun x => .int .u8 (x.toNat : Int)
@[simp] theorem bvs_length (xs : List UInt8) : (bvs xs).length = xs.length := by simp [bvs]
theorem bvs_one (xs : List UInt8) : ∀ u ∈ bvs xs, u.oneCell' = true := by
  intro u hu
  simp only [bvs, List.mem_map] at hu
  obtain ⟨x, _, rfl⟩ := hu
  rfl
theorem bvs_append (xs ys : List UInt8) : bvs (xs ++ ys) = bvs xs ++ bvs ys := by simp [bvs]
/-- The call owns the bytes xs as the slice v, in blocks from B on. -/
def OwnB (w : World) (B : Nat) (v : Value) (xs : List UInt8) : Prop := w.ownsRow B 5 1 v xs.length (bvs xs)
/-- The lowest k bytes of n, the highest first. -/
def beBytes : Nat → Nat → List UInt8
  | 0, _ => []
  | k + 1, n => UInt8.ofNat (n / 256 ^ k) :: beBytes k n
@[simp] theorem beBytes_length (k n : Nat) : (beBytes k n).length = k := by induction k with | zero => rfl | succ k ih => simp [beBytes, ih]
theorem ofNat_val (m : Nat) : (((UInt8.ofNat m).toNat : Nat) : Int) = (m : Int) % 256 := by
  simp [UInt8.toNat_ofNat']
theorem shr_val (n j : Nat) : (n : Int) / 2 ^ (8 * j) % 256 = (((UInt8.ofNat (n / 256 ^ j)).toNat : Nat) : Int) := by
  rw [ofNat_val]
  have : (2 : Nat) ^ (8 * j) = 256 ^ j := by rw [Nat.pow_mul]
  have h2 : ((2 : Int) ^ (8 * j)) = ((2 ^ (8 * j) : Nat) : Int) := by simp
  rw [h2, this]
  simp
theorem own_snoc {w : World} {B : Nat} {v : Value} {xs : List UInt8} {n : Nat} {y : UInt8} {z : Int} (h : w.ownsRow B 5 1 v n (bvs xs ++ [.int .u8 z])) (hn : n = xs.length + 1) (hz : z = (y.toNat : Int)) : OwnB w B v (xs ++ [y]) := by
  subst hn
  subst hz
  simpa [OwnB, bvs] using h
theorem or_join (i a n : Nat) (ha : a % 2 ^ i = 0) (hn : n < 2 ^ i) (h1 : a < 18446744073709551616) (h2 : n < 18446744073709551616) : bits .or .u64 (a : Int) (n : Int) = ((a + n : Nat) : Int) := by
  rw [u64_or_nat a n h1 h2, nat_join i a n ha hn]
/-- A slice of byte slices lies below B and reads as ls. -/
def Rows2 (w : World) (B : Nat) (A : Option Addr) (ls : List (List UInt8)) : Prop :=
  ∃ vs : List Value, vs.length = ls.length ∧ Lie w B A vs ∧ ∀ (j : Nat) (x : List UInt8), ls[j]? = some x → ∃ A' c, vs[j]? = some (.slice A' x.length c) ∧ Lie w B A' (bvs x)
section
variable {w w' : World} {B B' : Nat} {A : Option Addr} {ls : List (List UInt8)}
theorem Rows2.nil : Rows2 w B A [] := ⟨[], rfl, Lie.nil, fun j x h => by simp at h⟩
theorem Rows2.keep (h : Rows2 w B A ls) (hk : ∀ b o, b < B → w'.cell? ⟨b, o, none⟩ = w.cell? ⟨b, o, none⟩) : Rows2 w' B A ls := by
  obtain ⟨vs, hl, hv, he⟩ := h
  refine ⟨vs, hl, hv.keep hk, fun j x hx => ?_⟩
  obtain ⟨A', c, h1, h2⟩ := he j x hx
  exact ⟨A', c, h1, h2.keep hk⟩
theorem Rows2.more (h : Rows2 w B A ls) (hB : B ≤ B') : Rows2 w B' A ls := by
  obtain ⟨vs, hl, hv, he⟩ := h
  refine ⟨vs, hl, hv.more hB, fun j x hx => ?_⟩
  obtain ⟨A', c, h1, h2⟩ := he j x hx
  exact ⟨A', c, h1, h2.more hB⟩
theorem Rows2.below (h : Rows2 w B A ls) (hb : Below B w w') : Rows2 w' B A ls := h.keep fun b o hlt => hb.cell (p := ⟨b, o, none⟩) hlt
theorem Rows2.drewN (h : Rows2 w B A ls) (n : Nat) : Rows2 (w.drewN n) B A ls := h
theorem Rows2.at_ (h : Rows2 w B A ls) {k : Nat} (hk : k < ls.length) : ∃ b o A' c, A = some ⟨b, o, none⟩ ∧ b < B ∧ w.cell? ⟨b, o + k, none⟩ = some (.slice A' ls[k].length c) ∧ Lie w B A' (bvs ls[k]) := by
  obtain ⟨vs, hl, hv, he⟩ := h
  obtain ⟨A', c, h1, h2⟩ := he k ls[k] (List.getElem?_eq_getElem hk)
  obtain ⟨b, o, hA, hb, hc⟩ := hv.at_ (k := k) (by omega)
  rw [List.getElem?_eq_getElem (by omega)] at h1
  injection h1 with h1
  exact ⟨b, o, A', c, hA, hb, by rw [hc, h1], h2⟩
end
/-- The number that n's bytes and those of xs make. -/
def beNum (n : Nat) (xs : List UInt8) : Nat := xs.foldl (fun a x => a * 256 + x.toNat) n
theorem bvs_get (xs : List UInt8) (k : Nat) (h : k < (bvs xs).length) : (bvs xs)[k] = .int .u8 ((xs[k]'(by simpa using h)).toNat : Int) := by simp [bvs]
theorem Lie.byte {w : World} {B : Nat} {A : Option Addr} {xs : List UInt8} (h : Lie w B A (bvs xs)) {k : Nat} (hk : k < xs.length) :
    ∃ b o, A = some ⟨b, o, none⟩ ∧ b < B ∧ w.cell? ⟨b, o + k, none⟩ = some (.int .u8 (xs[k].toNat : Int)) := by
  obtain ⟨b, o, hA, hb, hc⟩ := h.at_ (k := k) (by simpa using hk)
  exact ⟨b, o, hA, hb, by rw [hc, bvs_get]⟩
end
end Go.Proofs.Ythooibljnfnnhaa
end
