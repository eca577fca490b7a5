/-
  Texts of this claim in one file: SgF, SgP, SgG, SgA, SgB, SgC, SgD.
-/
import Derived.Test.YtgehfbcagaaggaaGreatDoorPk7
import Derived.Test.YtgehfbcagaaggaaGreatDoorPk0
import Derived.Test.YtgehfbcagaaggaaGreatDoorPk11
import Derived.Test.YtgehfbcagaaggaaGreatDoorPk1
import Derived.Test.YtgehfbcagaaggaaGreatDoorPk47
import Derived.Test.YtgehfbcagaaggaaGreatDoorPk14
import Derived.Test.YtgehfbcagaaggaaGreatDoorPk6
import Derived.Test.YtgehfbcagaaggaaGreatDoorPk15
import Derived.Lib.AppendZeros
import Derived.Test.YtgehfbcagaaggaaGreatDoorPk45
import Derived.Test.YtgehfbcagaaggaaGreatDoorPk20
section
namespace Go.Proofs.YtgehfbcagaaggaaGreatDoor
open Go Go.RowKit
set_option linter.unusedVariables false
set_option linter.unusedSimpArgs false
theorem ownB_on {w w' : World} {B : Nat} {v : Value} {xs : List UInt8} (h : OwnB w B v xs) (hb : Below w.heap.size w w') : OwnB w' B v xs :=
  World.ownsRow.kept (row := none) h ⟨hb.os, hb.tape, hb.output, hb.size, fun k hk _ => hb.block k hk⟩ (by cases hv : v.ownBlock <;> simp)
theorem ownB_sq {w : World} {B n c : Nat} {A : Option Addr} {xs : List UInt8} (h : OwnB w B (.slice A n c) xs) : Sq w w.heap.size A c (bvs xs) := by
  obtain ⟨A', c', he, hs⟩ := own_sl h
  simp only [Value.slice.injEq] at he
  obtain ⟨rfl, _, rfl⟩ := he
  exact hs.sq
theorem sq_drop {w : World} {B c b o : Nat} {xs : List UInt8} (h : Sq w B (some ⟨b, o, none⟩) c (bvs xs)) (k : Nat) (hk : k < xs.length) : Sq w B (some ⟨b, o + k, none⟩) (c - k) (bvs (xs.drop k)) := by
  rcases h with ⟨h, _⟩ | ⟨b', o', hA, hb, h1, h2, hc⟩
  · have : xs = [] := by unfold bvs at h; simpa using h
    rw [this] at hk; simp at hk
  · simp only [Option.some.injEq, Addr.mk.injEq] at hA
    obtain ⟨rfl, rfl, _⟩ := hA
    rw [bvs_length] at h1
    refine .inr ⟨b, o + k, rfl, hb, by rw [bvs_length, List.length_drop]; omega, by omega, fun j u hu => ?_⟩
    have := hc (k + j) u (by unfold bvs at hu ⊢; rw [List.map_drop, List.getElem?_drop] at hu; exact hu)
    rw [Nat.add_assoc]
    exact this
theorem sq_take {w : World} {B c : Nat} {A : Option Addr} {xs : List UInt8} (h : Sq w B A c (bvs xs)) (k : Nat) : Sq w B A c (bvs (xs.take k)) := by
  have h2 := h.take k
  unfold bvs at h2 ⊢
  rw [List.map_take]
  exact h2
section
variable {P : Program} {ops : Array Oper} {Q : Exit → Act → World → Prop} {o : Oper} {rest : List Oper} {a : Act} {w0 : World}
/-- Bytes behind bytes that the walk owns from block B on. -/
theorem wpLA_append {B : Nat} {v : Value} {xs ys zs : List UInt8} (hz : zs = xs ++ ys) {A : Option Addr} {c m : Nat} (hw : Region.wanted o (yielded ops a.tmps) = true) (s x : Operand) (t : TypeId) (ho : o.op = .call { callee := .builtin .append, args := #[s, x], argTypes := #[t, t] })
    (ht : P.underlying t = some (.slice 5)) (hi : (P.info? 5).map (fun i => (i.zero, i.size, i.bytes)) = some (some (.int .u8 0), 1, 1)) (hs : a.eval s = v) (hown : OwnB w0 B v xs) (hm : ys.length = m) (hx : a.eval x = .slice A m c) (hq : Sq w0 w0.heap.size A c (bvs ys))
    (hn : xs.length + m ≤ 1000000) (hB : B ≤ w0.heap.size)
    (h : ∀ A' c' w', OwnB w' B (.slice A' zs.length c') zs → Below B w0 w' → wpLA P ops Q w' rest (a.put o.dst (.slice A' zs.length c'))) : wpLA P ops Q w0 (o :: rest) a := .mk fun w hb =>
  BigFrame.wpList_want hw fun K' hK => by
    have ho1 := ownB_on hown hb
    have hq1 := hq.on6 hb
    refine wp_append_lie s x t ho B 5 (.int .u8 0) 1 ht hi rfl hs ho1 (by rw [bvs_length]; exact hm) hx hq1.lie (bvs_one ys) (by unfold maxLen; omega) (by omega) (Nat.le_trans hB hb.size) fun v' w' h2 h3 h4 => hK _ _ ?_
    have h5 : OwnB w' B v' zs := by
      unfold OwnB
      rw [hz, List.length_append, hm]
      simpa [bvs] using h2
    obtain ⟨A', c', rfl, -⟩ := own_sl h5
    exact (h A' c' w' h5 ((hb.mono hB).grown h3 (Nat.le_trans hB hb.size) (own_lt ho1))).out _ (Below.refl _ _)
variable {md : Region.Mode} {n : Nat}
end
end Go.Proofs.YtgehfbcagaaggaaGreatDoor
end
section
namespace Go.Proofs.YtgehfbcagaaggaaGreatDoor
set_option linter.unusedVariables false
set_option linter.unusedSimpArgs false
set_option exponentiation.threshold 600
def secS (seed : List UInt8) : SF := ofS (clampS (longB seed))
def pubP (seed : List UInt8) : Pt := Pt.times (secS seed).val Gb
def pubB (seed : List UInt8) : List UInt8 := pB (pubP seed)
def rS (seed text : List UInt8) : SF := ofS (longB ((longB seed).drop 32 ++ text))
def ptR (seed text : List UInt8) : Pt := Pt.times (rS seed text).val Gb
def kS (R pub text : List UInt8) : SF := ofS (longB (R ++ pub ++ text))
def sumS (seed text : List UInt8) : SF := rS seed text + kS (pB (ptR seed text)) (pubB seed) text * secS seed
def sigB (seed text : List UInt8) : List UInt8 := pB (ptR seed text) ++ leB 32 (sumS seed text).val
open Classical in
noncomputable def holdsB (pub text sig : List UInt8) : Bool :=
  decide (sig.length = 64) && (ptOf (sig.take 32)).isSome && exB (sig.drop 32) && (ptOf pub).isSome && decide (Pt.times (exN (sig.drop 32)) Gb = (ptO (sig.take 32)).add (Pt.times (kS (sig.take 32) pub text).val (ptO pub)))
/-- The text with a label. -/
def textB (label text : List UInt8) : List UInt8 := vecBytes (mlsB ++ label) ++ vecBytes text
theorem pubB_length (seed : List UInt8) : (pubB seed).length = 32 := pB_length _
theorem sigB_length (seed text : List UInt8) : (sigB seed text).length = 64 := by unfold sigB; rw [List.length_append, pB_length, leB_length]
theorem sigB_take (seed text : List UInt8) : (sigB seed text).take 32 = pB (ptR seed text) := by unfold sigB; rw [List.take_left' (pB_length _)]
theorem sigB_drop (seed text : List UInt8) : (sigB seed text).drop 32 = leB 32 (sumS seed text).val := by unfold sigB; rw [List.drop_left' (pB_length _)]
theorem ptO_bytes {p : Pt} (h : p.on) : ptO (pB p) = p := by unfold ptO; rw [ptOf_bytes h]; rfl
theorem leN_32 {n : Nat} (h : n < ordL) : leN (leB 32 n) = n := by rw [leN_leB, Nat.mod_eq_of_lt (Nat.lt_trans h (by decide +kernel))]
theorem ex_leB {n : Nat} (h : n < ordL) : exB (leB 32 n) = true ∧ exN (leB 32 n) = n := by
  have h1 : exB (leB 32 n) = true := by unfold exB; rw [leB_length, leN_32 h]; exact decide_eq_true ⟨rfl, h⟩
  refine ⟨h1, ?_⟩
  unfold exN
  rw [if_pos h1, leN_32 h]
theorem ptR_on (seed text : List UInt8) : (ptR seed text).on := Pt.times_on Gb_on _
theorem pubP_on (seed : List UInt8) : (pubP seed).on := Pt.times_on Gb_on _
theorem sign_sum (seed text : List UInt8) : Pt.times (sumS seed text).val Gb = (ptR seed text).add (Pt.times (kS (pB (ptR seed text)) (pubB seed) text).val (pubP seed)) := by
  unfold sumS pubP
  rw [mul_add_s, show kS (pB (ptR seed text)) (pubB seed) text * secS seed = secS seed * kS (pB (ptR seed text)) (pubB seed) text by grobner, mul_mul_s]
  rfl
/-- What is signed holds. -/
theorem holds_sig (seed text : List UInt8) : holdsB (pubB seed) text (sigB seed text) = true := by
  have hx := ex_leB (SF_lt (sumS seed text))
  unfold holdsB
  rw [sigB_length, sigB_take, sigB_drop, ptOf_bytes (ptR_on _ _), ptO_bytes (ptR_on _ _), hx.1, hx.2]
  unfold pubB
  rw [ptOf_bytes (pubP_on _), ptO_bytes (pubP_on _)]
  have h := sign_sum seed text
  unfold pubB at h
  simp [h]
theorem holds_len {pub text sig : List UInt8} (h : sig.length ≠ 64) : holdsB pub text sig = false := by
  unfold holdsB
  rw [decide_eq_false h]
  simp
end Go.Proofs.YtgehfbcagaaggaaGreatDoor
end
section
namespace Go.Proofs.YtgehfbcagaaggaaGreatDoor
open Go Go.RowKit
set_option linter.unusedVariables false
set_option linter.unusedSimpArgs false
/-- A new row of byte slices. -/
theorem rows_new10 (w : World) (l : List (Option Addr × List UInt8 × Nat)) (h : ∀ p ∈ l, Sq w w.heap.size p.1 p.2.2 (bvs p.2.1)) (t : TypeId) :
    Rows2' (w.alloc (.cells (l.map fun p => Value.slice p.1 p.2.1.length p.2.2).toArray t)) (w.heap.size + 1) (some ⟨w.heap.size, 0, none⟩) (l.map fun p => p.2.1) := by
  refine ⟨l.map fun p => Value.slice p.1 p.2.1.length p.2.2, by simp, ?_, fun j x hx => ?_⟩
  · have := Lie.newA w (l.map fun p => Value.slice p.1 p.2.1.length p.2.2).toArray t
    simpa using this
  · rw [List.getElem?_map] at hx
    obtain ⟨p, hp, rfl⟩ := Option.map_eq_some_iff.1 hx
    refine ⟨p.1, p.2.2, by simp [hp], ((h p (List.mem_of_getElem? hp)).alloc (Nat.le_refl _) _).more (by omega)⟩
section
variable {P : Program} {ops : Array Oper} {Q : Exit → Act → World → Prop} {o : Oper} {rest : List Oper} {a : Act} {w0 : World}
/-- A row of slices. -/
theorem wpLA_rows (l : List (Option Addr × List UInt8 × Nat)) {n : Nat} (hn : l.length = n) (h0 : ∀ p ∈ l, Sq w0 w0.heap.size p.1 p.2.2 (bvs p.2.1)) (hw : Region.wanted o (yielded ops a.tmps) = true) (t : TypeId)
    (hr : ∀ w', (execOp a.eval o).run P w' = .ok (.value (.slice (some ⟨w'.heap.size, 0, none⟩) n n)) (w'.alloc (.cells (l.map fun p => Value.slice p.1 p.2.1.length p.2.2).toArray t)))
    (h : ∀ g w', Below w0.heap.size w0 w' → Rows2' w' w'.heap.size (some ⟨g, 0, none⟩) (l.map fun p => p.2.1) → wpLA P ops Q w' rest (a.put o.dst (.slice (some ⟨g, 0, none⟩) n n))) : wpLA P ops Q w0 (o :: rest) a := .mk fun w hb =>
  BigFrame.wpList_want hw fun K' hK => by
    unfold Oper.wp
    rw [hr w]
    have hR := rows_new10 w l (fun p hp => (h0 p hp).on6 hb) t
    refine hK _ _ ((h w.heap.size _ (hb.alloc hb.size _) ?_).out _ (Below.refl _ _))
    simpa using hR
/-- A digest: 64 bytes, in a block of their own. -/
theorem wpLA_dig {f : FuncId} {args : Array Value} (xs : List UInt8) (hw : Region.wanted o (yielded ops a.tmps) = true) (hr : ∀ w', (execOp a.eval o).run P w' = .ok (.enter f args) w')
    (hc : ∀ w', Below w0.heap.size w0 w' → Calls P f args w' (fun e w'' => ∃ v, e = .returned v ∧ DigestL w' w'' v xs ∧ Below w'.heap.size w' w''))
    (h : ∀ b w2, Below w0.heap.size w0 w2 → w0.heap.size ≤ b → w2.heap[b]? = some (.cells (byA xs) A64B (0, 0)) → Sq w2 w2.heap.size (some ⟨b, 0, none⟩) 64 (bvs xs) → wpLA P ops Q w2 rest (a.put o.dst (.slice (some ⟨b, 0, none⟩) 64 64))) : wpLA P ops Q w0 (o :: rest) a :=
  wpLA_call (fun w' v w'' => DigestL w' w'' v xs ∧ Below w'.heap.size w' w'') hw hr (fun w' hb => (hc w' hb).mono fun e w'' ⟨v, he, h1, h2⟩ => ⟨v, he, h1, h2⟩)
    fun w' v w'' hb ⟨⟨b, hv, hg, hB, hl⟩, hb2⟩ => by
      subst hv
      refine h b w'' (hb.trans (hb2.mono hb.size)) (Nat.le_trans hb.size hB) hg ?_
      refine .inr ⟨b, 0, rfl, block_lt hg, by rw [bvs_length]; omega, by decide, fun j u hu => ?_⟩
      rw [Nat.zero_add]
      exact cell_of hg j u (by unfold byA; simpa using hu)
end
end Go.Proofs.YtgehfbcagaaggaaGreatDoor
end
section
namespace Go.Proofs.YtgehfbcagaaggaaGreatDoor
open Go Go.RowKit
set_option linter.unusedVariables false
set_option linter.unusedSimpArgs false
theorem infoS8 : (Tryz.prog.info? 22).map (fun i => (i.zero, i.size, i.bytes)) = some (some (.slice none 0 0), 1, 24) := by kernel_rfl
/-- A row of rows of bytes. -/
def Rows3 (w : World) (B : Nat) (A : Option Addr) (gs : List (List (List UInt8))) : Prop :=
  ∃ vs : List Value, vs.length = gs.length ∧ Lie w B A vs ∧ ∀ (j : Nat) (x : List (List UInt8)), gs[j]? = some x → ∃ A' c, vs[j]? = some (.slice A' x.length c) ∧ Rows2' w B A' x
theorem Rows3.at_ {w : World} {B : Nat} {A : Option Addr} {gs : List (List (List UInt8))} (h : Rows3 w B A gs) {k : Nat} (hk : k < gs.length) : ∃ b o A' c, A = some ⟨b, o, none⟩ ∧ b < B ∧ w.cell? ⟨b, o + k, none⟩ = some (.slice A' gs[k].length c) ∧ Rows2' w B A' gs[k] := by
  obtain ⟨vs, hl, hv, he⟩ := h
  obtain ⟨A', c, h1, h2⟩ := he k gs[k] (List.getElem?_eq_getElem hk)
  obtain ⟨b, o, hA, hb, hc⟩ := hv.at_ (k := k) (by omega)
  rw [List.getElem?_eq_getElem (by omega)] at h1
  injection h1 with h1
  exact ⟨b, o, A', c, hA, hb, by rw [hc, h1], h2⟩
theorem Rows3.below {w w' : World} {B : Nat} {A : Option Addr} {gs : List (List (List UInt8))} (h : Rows3 w B A gs) (hb : Below B w w') : Rows3 w' B A gs := by
  obtain ⟨vs, hl, hv, he⟩ := h
  refine ⟨vs, hl, hv.below hb, fun j x hx => ?_⟩
  obtain ⟨A', c, h1, h2⟩ := he j x hx
  exact ⟨A', c, h1, h2.below hb⟩
/-- The rows that have been put behind one another so far: v is the call's own, what its slices point to lay there before. -/
def Rw (w0 wr : World) (v : Value) (ls : List (List UInt8)) : Prop :=
  ∃ vs : List Value, wr.ownsRow w0.heap.size 22 1 v ls.length vs ∧ vs.length = ls.length ∧ ∀ (j : Nat) (x : List UInt8), ls[j]? = some x → ∃ A c, vs[j]? = some (.slice A x.length c) ∧ Sq w0 w0.heap.size A c (bvs x)
theorem Rw.row {w0 wr : World} {v : Value} {ls : List (List UInt8)} (h : Rw w0 wr v ls) (hb : Below w0.heap.size w0 wr) : ∃ A c, v = .slice A ls.length c ∧ Rows2' wr wr.heap.size A ls := by
  obtain ⟨vs, h1, h2, h3⟩ := h
  obtain ⟨A, c, rfl, hs⟩ := own_sl h1
  exact ⟨A, c, rfl, vs, h2, hs.lie, fun j x hx => by
    obtain ⟨A', c', h4, h5⟩ := h3 j x hx
    exact ⟨A', c', h4, (h5.below hb).more hb.size⟩⟩
theorem slices_one {ls : List (List UInt8)} {vs : List Value} (hl : vs.length = ls.length) (h : ∀ (j : Nat) (x : List UInt8), ls[j]? = some x → ∃ A c, vs[j]? = some (Value.slice A x.length c)) : ∀ u ∈ vs, u.oneCell' = true := fun u hu => by
  obtain ⟨j, hj, rfl⟩ := List.getElem_of_mem hu
  obtain ⟨A, c, h1⟩ := h j ls[j] (List.getElem?_eq_getElem (by omega))
  rw [List.getElem?_eq_getElem hj] at h1
  injection h1 with h1
  rw [h1]
  rfl
set_option maxHeartbeats 1000000 in
theorem Grow_e (n : Nat) (w : World) (h0 : 0 < n) (hn : n ≤ 1000) : Calls Tryz.prog 97 #[.slice none 0 0, .int .i64 (n : Int)] w fun e w' => ∃ v, e = .returned v ∧ w'.ownsRow w.heap.size 22 1 v 0 [] ∧ Below w.heap.size w w' := by
  obtain ⟨i, hi, hz, hsize, hby⟩ := info_parts infoS8
  have hrz : ∀ ty, (Builtin.append_ #[53, 3] ty #[.slice none 0 0, .int .i64 (n : Int)]).run Tryz.prog w =
      .ok (.slice (some ⟨w.heap.size, 0, none⟩) n (grownCap w n 0 22)) (w.drew.alloc (.cells (Builtin.zeroCells (Value.slice none 0 0).cells n ++ Builtin.zeroCells (Value.slice none 0 0).cells (grownCap w n 0 22 - n)) 22)) := fun ty =>
    Lib.run_append_nil_zeros w 53 3 ty 22 i _ .i64 .i64 Tryz.underlying53 Tryz.underlying3 hi hz n h0 (by omega) (by omega) (by rw [hby]; omega)
  have hGn : n ≤ grownCap w n 0 22 := grownCap_ge w _ _ _
  have hGm : grownCap w n 0 22 ≤ maxLen := grownCap_le_maxLen w n 0 22 (by unfold maxLen; omega)
  obtain ⟨G, hG⟩ : ∃ G, G = grownCap w n 0 22 := ⟨_, rfl⟩
  rw [← hG] at hrz hGn hGm
  have hG63 : G ≤ 9223372036854775807 := by unfold maxLen at hGm; omega
  have h1 : ¬ ((n : Int) < 0) := by omega
  have h2 : wrap64 ((n : Int) - 0) = (n : Int) := by unfold wrap64; omega
  have h3 : (n : Int) > 0 := by omega
  have h4 : wrap64 (n : Int) = (n : Int) := by unfold wrap64; omega
  have HG := hid hGm
  clear hi hz hsize hby hG hGm
  go_enter Tryz.func97, Tryz.ntmps97
  go_wp2_with (at_builtin; refine Lib.wpList_append_run _ rfl _ _ _ _ rfl _ _ rfl rfl _ _ (hrz _) ?_)
  go_ret
  refine ⟨_, rfl, ⟨rfl, .inr ⟨w.heap.size, G, _, rfl, Nat.le_refl _, heap_alloc_new _ _, Nat.zero_le _, HG.out, ?_, rfl⟩⟩, (Below.refl _ _).drew.alloc (Nat.le_refl _) _⟩
  rw [Array.size_append, size_zeroCells, size_zeroCells]
  show n * 1 + (G - n) * 1 = G * 1
  omega
theorem wrap64_at {x : Int} (h : 0 ≤ x) (h2 : x ≤ 1000000) : wrap64 x = x := by unfold wrap64; omega
theorem wrap64_sum {n m q : Nat} (h : q = n + m) (hq : q ≤ 1000) : wrap64 ((n : Int) + (m : Int)) = (q : Int) := by rw [wrap64_at (by omega) (by omega)]; omega
theorem flat_take {α : Type} (gs : List (List α)) (k : Nat) (h : k < gs.length) : (gs.take (k + 1)).flatten = (gs.take k).flatten ++ gs[k] := by
  rw [List.take_succ_eq_append_getElem h, List.flatten_append]; simp
theorem flat_le {α : Type} (gs : List (List α)) (k : Nat) : (gs.take k).flatten.length ≤ gs.flatten.length := by
  have h : gs.flatten = (gs.take k).flatten ++ (gs.drop k).flatten := by rw [← List.flatten_append, List.take_append_drop]
  rw [h, List.length_append]; omega
theorem Rw.snoc {w0 w4 : World} {v4 : Value} {ls ms : List (List UInt8)} {vs ws : List Value} (hv : vs.length = ls.length) (he : ∀ (j : Nat) (x : List UInt8), ls[j]? = some x → ∃ A c, vs[j]? = some (.slice A x.length c) ∧ Sq w0 w0.heap.size A c (bvs x))
    (hw : ws.length = ms.length) (hf : ∀ (j : Nat) (x : List UInt8), ms[j]? = some x → ∃ A c, ws[j]? = some (.slice A x.length c) ∧ Sq w0 w0.heap.size A c (bvs x)) (h : w4.ownsRow w0.heap.size 22 1 v4 (ls.length + ms.length) (vs ++ ws)) : Rw w0 w4 v4 (ls ++ ms) := by
  refine ⟨vs ++ ws, by rw [List.length_append]; exact h, by simp [hv, hw], fun j x hx => ?_⟩
  by_cases hj : j < ls.length
  · rw [List.getElem?_append_left hj] at hx
    obtain ⟨A, c, h1, h2⟩ := he j x hx
    exact ⟨A, c, by rw [List.getElem?_append_left (by omega)]; exact h1, h2⟩
  · rw [List.getElem?_append_right (by omega)] at hx
    obtain ⟨A, c, h1, h2⟩ := hf _ x hx
    exact ⟨A, c, by rw [List.getElem?_append_right (by omega), hv]; exact h1, h2⟩
set_option maxRecDepth 100000 in
set_option maxHeartbeats 1000000 in
theorem Concat_e (A : Option Addr) (gs : List (List (List UInt8))) (c : Nat) (w : World) (hA : Rows3 w w.heap.size A gs) (hl : gs.flatten.length ≤ 1000) (h0 : 0 < gs.flatten.length) (hg : gs.length ≤ 1000) :
    Calls Tryz.prog 70 #[.slice A gs.length c] w fun e w' => ∃ A' c', e = .returned (.slice A' gs.flatten.length c') ∧ Rows2' w' w'.heap.size A' gs.flatten ∧ Below w.heap.size w w' := by
  have HA := hid hA; have HL := hid hl; have H0 := hid h0
  clear hA hl h0
  go_enter Tryz.func70, Tryz.ntmps70
  go_wp2
  go_loopg [3, 11] gs.length (fun r s i wr => ∃ k : Nat, k + r = gs.length ∧ i = .int .i64 (k : Int) ∧ s = .int .i64 ((gs.take k).flatten.length : Int) ∧ w = wr)
  case atStart => exact ⟨0, by omega, rfl, by simp, rfl⟩
  case round =>
    obtain ⟨k, hk, rfl, rfl, rfl⟩ := hrel
    have HK := hid hk
    clear hk
    by_cases hlt : k < gs.length
    · obtain ⟨b, o, A1, c1, rfl, hb1, hc, hS⟩ := HA.out.at_ hlt
      have hx : (k : Int) < (gs.length : Int) := by omega
      have hk0 : (0 : Int) ≤ (k : Int) := by omega
      obtain ⟨m, hm⟩ : ∃ m, m = gs[k].length := ⟨_, rfl⟩
      obtain ⟨n, hn⟩ : ∃ n, n = (gs.take k).flatten.length := ⟨_, rfl⟩
      obtain ⟨q, hq⟩ : ∃ q, q = (gs.take (k + 1)).flatten.length := ⟨_, rfl⟩
      have hs : q = n + m := by rw [hq, flat_take gs k hlt, List.length_append, hn, hm]
      have hql : q ≤ 1000 := by have := flat_le gs (k + 1); have := HL.out; omega
      have hwr : wrap64 ((n : Int) + (m : Int)) = (q : Int) := wrap64_sum hs hql
      have hq0 : ¬ ((q : Int) < 0) := Int.not_lt.2 (Int.natCast_nonneg q)
      rw [← hm] at hc
      rw [← hn]
      have HQ := hid hq
      clear hs hm hn hq hql hS
      go_wp2
      have hk := HK.out
      go_roundg (gs.length - k - 1)
      case measure => omega
      case rel => exact ⟨k + 1, by omega, by go_num, by rw [HQ.out], rfl⟩
    · obtain rfl : k = gs.length := by have := HK.out; omega
      rw [List.take_length]
      obtain ⟨n, hn⟩ : ∃ n, n = gs.flatten.length := ⟨_, rfl⟩
      have HC := hid (Grow_e n w (by rw [hn]; exact H0.out) (by rw [hn]; exact HL.out))
      rw [← hn]
      have HN := hid hn
      clear hn
      go_wp2_with fail
      refine HC.out.mono ?_
      rintro e w2 ⟨v, rfl, ho, hb⟩
      have HO : Hid (Rw w w2 v []) := hid ⟨[], ho, rfl, fun j x h => by simp at h⟩
      have HB := hid hb
      clear ho hb HC
      go_wp2
      go_loopg [6, 27] gs.length (fun r u i wr => ∃ k : Nat, k + r = gs.length ∧ i = .int .i64 (k : Int) ∧ Rw w wr u (gs.take k).flatten ∧ Below w.heap.size w wr)
      case atStart => exact ⟨0, by omega, rfl, HO.out, HB.out⟩
      case round =>
        clear HO HB
        obtain ⟨k, hk, rfl, hR, hB⟩ := hrel
        have HK2 := hid hk
        by_cases hlt : k < gs.length
        · obtain ⟨b, o, A1, c1, rfl, hb1, hc, hS⟩ := HA.out.at_ hlt
          have hc' : wr.cell? ⟨b, o + k, none⟩ = some (.slice A1 gs[k].length c1) := by rw [← hc]; exact hB.cell (p := ⟨b, o + k, none⟩) hb1
          have hx : (k : Int) < (gs.length : Int) := by omega
          have hk0 : (0 : Int) ≤ (k : Int) := by omega
          obtain ⟨vs, ho, hvl, he⟩ := hR
          obtain ⟨ws, hwl, hlie, hf⟩ := hS
          have hft := flat_take gs k hlt
          have hle := flat_le gs (k + 1)
          rw [hft, List.length_append] at hle
          obtain ⟨x, hxd⟩ : ∃ x, x = gs[k] := ⟨_, rfl⟩
          rw [← hxd] at hc' hwl hf hft hle
          have HE := hid he; have HF := hid hf; have HFT := hid hft; have HB := hid hB; have HWL := hid hwl; have HVL := hid hvl
          have hsum : (gs.take k).flatten.length + x.length ≤ 1000 := by have := HL.out; omega
          have hlie' := hid (hlie.below hB)
          have HO := hid ho
          have hone := slices_one hwl fun j x h => by obtain ⟨A, c, h1, _⟩ := hf j x h; exact ⟨A, c, h1⟩
          have hone' := hid hone
          have hsz := hB.size
          generalize hq : (gs.take k).flatten.length = q at *
          clear hc hk he hf hft hxd hle hwl hvl hB hlie hone
          have ho' := HO.out
          go_wp2_with (at_builtin; refine wpList_append_lie rfl _ _ 53 rfl w.heap.size 22 (.slice none 0 0) 24 Tryz.underlying53 infoS8 rfl rfl HO.out HWL.out rfl hlie'.out hone'.out ?d1 ?d2 hsz ?_)
          case d1 => unfold maxLen; omega
          case d2 => omega
          intro v4 w4 hown4 hg4 hat4
          have hB4 := hid (HB.out.grown hg4 hsz (own_lt HO.out))
          have hR4 : Hid (Rw w w4 v4 (gs.take (k + 1)).flatten) := hid (by
            rw [HFT.out]
            refine Rw.snoc (HVL.out.trans hq.symm) HE.out HWL.out (fun j y h => ?_) (by rw [hq]; exact hown4)
            obtain ⟨A, c, h1, h2⟩ := HF.out j y h
            exact ⟨A, c, h1, h2⟩)
          clear hown4 hg4 hat4
          go_wp2
          have hk := HK2.out
          go_roundg (gs.length - k - 1)
          case measure => omega
          case rel => exact ⟨k + 1, by omega, by go_num, hR4.out, hB4.out⟩
        · obtain rfl : k = gs.length := by have := HK2.out; omega
          rw [List.take_length] at hR
          obtain ⟨A, c, rfl, hr⟩ := hR.row hB
          have HR := hid hr; have HB := hid hB
          clear hr hB hR
          go_wp2
          go_ret
          exact ⟨A, c, rfl, HR.out, HB.out⟩
end Go.Proofs.YtgehfbcagaaggaaGreatDoor
end
section
namespace Go.Proofs.YtgehfbcagaaggaaGreatDoor
open Go Go.RowKit
set_option linter.unusedVariables false
set_option linter.unusedSimpArgs false
theorem rows_on {w w' : World} {A : Option Addr} {ls : List (List UInt8)} (h : Rows2' w w.heap.size A ls) (hb : Below w.heap.size w w') : Rows2' w' w'.heap.size A ls := by
  obtain ⟨vs, h1, h2, h3⟩ := h
  exact ⟨vs, h1, (h2.below hb).more hb.size, fun j x hx => by obtain ⟨A', c, h4, h5⟩ := h3 j x hx; exact ⟨A', c, h4, h5.on6 hb⟩⟩
theorem rows3_on {w w' : World} {A : Option Addr} {gs : List (List (List UInt8))} (h : Rows3 w w.heap.size A gs) (hb : Below w.heap.size w w') : Rows3 w' w'.heap.size A gs := by
  obtain ⟨vs, h1, h2, h3⟩ := h
  exact ⟨vs, h1, (h2.below hb).more hb.size, fun j x hx => by obtain ⟨A', c, h4, h5⟩ := h3 j x hx; exact ⟨A', c, h4, rows_on h5 hb⟩⟩
theorem rows3_new (w : World) (l : List (Option Addr × List (List UInt8) × Nat)) (h : ∀ p ∈ l, Rows2' w w.heap.size p.1 p.2.1) (t : TypeId) :
    Rows3 (w.alloc (.cells (l.map fun p => Value.slice p.1 p.2.1.length p.2.2).toArray t)) (w.heap.size + 1) (some ⟨w.heap.size, 0, none⟩) (l.map fun p => p.2.1) := by
  refine ⟨l.map fun p => Value.slice p.1 p.2.1.length p.2.2, by simp, ?_, fun j x hx => ?_⟩
  · have := Lie.newA w (l.map fun p => Value.slice p.1 p.2.1.length p.2.2).toArray t
    simpa using this
  · rw [List.getElem?_map] at hx
    obtain ⟨p, hp, rfl⟩ := Option.map_eq_some_iff.1 hx
    refine ⟨p.1, p.2.2, by simp [hp], ?_⟩
    have := rows_on (h p (List.mem_of_getElem? hp)) ((Below.refl w.heap.size w).alloc (Nat.le_refl _) (.cells (l.map fun p => Value.slice p.1 p.2.1.length p.2.2).toArray t))
    simpa using this
section
variable {P : Program} {ops : Array Oper} {Q : Exit → Act → World → Prop} {o : Oper} {rest : List Oper} {a : Act} {w0 : World}
/-- A row of rows. -/
theorem wpLA_rows3 (l : List (Option Addr × List (List UInt8) × Nat)) {n : Nat} (hn : l.length = n) (h0 : ∀ p ∈ l, Rows2' w0 w0.heap.size p.1 p.2.1) (hw : Region.wanted o (yielded ops a.tmps) = true) (t : TypeId)
    (hr : ∀ w', (execOp a.eval o).run P w' = .ok (.value (.slice (some ⟨w'.heap.size, 0, none⟩) n n)) (w'.alloc (.cells (l.map fun p => Value.slice p.1 p.2.1.length p.2.2).toArray t)))
    (h : ∀ g w', Below w0.heap.size w0 w' → Rows3 w' w'.heap.size (some ⟨g, 0, none⟩) (l.map fun p => p.2.1) → wpLA P ops Q w' rest (a.put o.dst (.slice (some ⟨g, 0, none⟩) n n))) : wpLA P ops Q w0 (o :: rest) a := .mk fun w hb =>
  BigFrame.wpList_want hw fun K' hK => by
    unfold Oper.wp
    rw [hr w]
    have hR := rows3_new w l (fun p hp => rows_on (h0 p hp) hb) t
    refine hK _ _ ((h w.heap.size _ (hb.alloc hb.size _) ?_).out _ (Below.refl _ _))
    simpa using hR
/-- A call that answers a row of bytes. -/
theorem wpLA_rowsC {f : FuncId} {args : Array Value} (ls : List (List UInt8)) {n : Nat} (hw : Region.wanted o (yielded ops a.tmps) = true) (hr : ∀ w', (execOp a.eval o).run P w' = .ok (.enter f args) w')
    (hc : ∀ w', Below w0.heap.size w0 w' → Calls P f args w' (fun e w'' => ∃ A c, e = .returned (.slice A n c) ∧ Rows2' w'' w''.heap.size A ls ∧ Below w'.heap.size w' w''))
    (h : ∀ A c w2, Below w0.heap.size w0 w2 → Rows2' w2 w2.heap.size A ls → wpLA P ops Q w2 rest (a.put o.dst (.slice A n c))) : wpLA P ops Q w0 (o :: rest) a :=
  wpLA_call (fun w' v w'' => ∃ A c, v = .slice A n c ∧ Rows2' w'' w''.heap.size A ls ∧ Below w'.heap.size w' w'') hw hr (fun w' hb => (hc w' hb).mono fun e w'' ⟨A, c, he, h1, h2⟩ => ⟨_, he, A, c, rfl, h1, h2⟩)
    fun w' v w'' hb ⟨A, c, hv, h1, h2⟩ => by subst hv; exact h A c w'' (hb.trans (h2.mono hb.size)) h1
/-- A call that answers bytes: they stay owned. -/
theorem wpLA_own {f : FuncId} {args : Array Value} (xs : List UInt8) (hw : Region.wanted o (yielded ops a.tmps) = true) (hr : ∀ w', (execOp a.eval o).run P w' = .ok (.enter f args) w')
    (hc : ∀ w', Below w0.heap.size w0 w' → Calls P f args w' (fun e w'' => ∃ v, e = .returned v ∧ OwnB w'' w'.heap.size v xs ∧ Below w'.heap.size w' w''))
    (h : ∀ A c w2, Below w0.heap.size w0 w2 → OwnB w2 w0.heap.size (.slice A xs.length c) xs → wpLA P ops Q w2 rest (a.put o.dst (.slice A xs.length c))) : wpLA P ops Q w0 (o :: rest) a :=
  wpLA_call (fun w' v w'' => OwnB w'' w0.heap.size v xs ∧ Below w'.heap.size w' w'') hw hr (fun w' hb => (hc w' hb).mono fun e w'' ⟨v, he, h1, h2⟩ => ⟨v, he, own_base h1 hb.size, h2⟩)
    fun w' v w'' hb ⟨h1, h2⟩ => by
      obtain ⟨A, c, rfl, -⟩ := own_sl h1
      exact h A c w'' (hb.trans (h2.mono hb.size)) h1
/-- A call that answers bytes, with the block that holds them. -/
theorem wpLA_ownL {f : FuncId} {args : Array Value} (xs : List UInt8) {n : Nat} (hn : xs.length = n) (h0 : 0 < n) (hw : Region.wanted o (yielded ops a.tmps) = true) (hr : ∀ w', (execOp a.eval o).run P w' = .ok (.enter f args) w')
    (hc : ∀ w', Below w0.heap.size w0 w' → Calls P f args w' (fun e w'' => ∃ v, e = .returned v ∧ OwnB w'' w'.heap.size v xs ∧ Below w'.heap.size w' w''))
    (h : ∀ g c (cur : Array Value) w2, w0.heap.size ≤ g → w2.heap[g]? = some (.cells cur 5 (0, 0)) → Below w0.heap.size w0 w2 → (n ≤ c ∧ c ≤ maxLen ∧ cur.size = c * 1 ∧ cur.toList.take (n * 1) = bvs xs) → wpLA P ops Q w2 rest (a.put o.dst (.slice (some ⟨g, 0, none⟩) n c))) : wpLA P ops Q w0 (o :: rest) a :=
  wpLA_own xs hw hr hc fun A c w2 hb ho => by
    unfold OwnB at ho
    rw [hn] at ho ⊢
    obtain ⟨hl, hv⟩ := ho
    rcases hv with ⟨-, hv⟩ | ⟨g, cap, cur, hv, hg, hcur, h1, h2, h3, h4⟩
    · omega
    · simp only [Value.slice.injEq] at hv
      obtain ⟨rfl, -, rfl⟩ := hv
      exact h g c cur w2 hg hcur hb ⟨h1, h2, h3, h4⟩
/-- One cell of a row put. -/
theorem wpLA_store1 (hw : Region.wanted o (yielded ops a.tmps) = true) (g i : Nat) (old : Array Value) (t : TypeId) (u : Value) (hg : w0.heap[g]? = some (.cells old t (0, 0)))
    (hr : ∀ w', w'.heap[g]? = some (.cells old t (0, 0)) → (execOp a.eval o).run P w' = .ok .skip (w'.setCell ⟨g, i, none⟩ u))
    (h : ∀ w', Below w0.heap.size w0 w' → wpLA P ops Q (w'.setRow g (old.setIfInBounds i u)) rest (a.put o.dst undef)) : wpLA P ops Q w0 (o :: rest) a := .mk fun w hb =>
  BigFrame.wpList_want hw fun K' hK => by
    have hg' : w.heap[g]? = some (.cells old t (0, 0)) := by rw [hb.block g (block_lt hg)]; exact hg
    unfold Oper.wp
    rw [hr w hg', setCell_eq_setRow w g i old t (0, 0) u hg']
    exact hK _ _ ((h w hb).out _ (Below.refl _ _))
/-- Cells of an array, as bytes that lie. -/
theorem row_bytes {w : World} {g n : Nat} {D : List UInt8} {t : TypeId} (h : w.heap[g]? = some (.cells (byA D) t (0, 0))) (hn : D.length = n) (hm : n ≤ 9223372036854775807) : Sq w w.heap.size (some ⟨g, 0, none⟩) n (bvs D) := by
  refine .inr ⟨g, 0, rfl, block_lt h, by rw [bvs_length]; omega, hm, fun j u hu => ?_⟩
  rw [Nat.zero_add]
  exact cell_of h j u (by unfold byA; simpa using hu)
theorem byA_cell {w : World} {g : Nat} {D : List UInt8} {t : TypeId} (h : w.heap[g]? = some (.cells (byA D) t (0, 0))) {j : Nat} {y : UInt8} (hy : D[j]? = some y) : w.cell? ⟨g, j, none⟩ = some (.int .u8 (y.toNat : Int)) :=
  cell_of h j _ (by simp [byA, bvs, hy])
theorem byA_set (D : List UInt8) (j : Nat) (z : UInt8) : (byA D).setIfInBounds j (.int .u8 (z.toNat : Int)) = byA (D.set j z) := by
  simp [byA, bvs, List.map_set]
theorem byA_size (D : List UInt8) : (byA D).size = D.length := by simp [byA, bvs]
variable {md : Region.Mode} {fuel : Nat} {listed : Array Bool} {i : Nat} {oi : Oper} {w : World}
/-- A call that alone may come up. -/
theorem wpAny_call {fn : FuncId} {args : Array Value} (K : Value → World → Prop) (hi : ops[i]? = some oi) (hrd : (Region.ready md ops listed == [i]) = true) (hw : Region.wanted oi (yielded ops a.tmps) = true)
    (hr : (execOp a.eval oi).run P w = .ok (.enter fn args) w) (hc : Calls P fn args w (fun e w' => ∃ v, e = .returned v ∧ K v w'))
    (h : ∀ v w', K v w' → wpAny P md ops Q fuel (listed.setIfInBounds i true) (a.put oi.dst v) w') : wpAny P md ops Q (fuel + 1) listed a w := by
  refine wpAny_all (rs := [i]) (by simpa using hrd) (by simp) fun j hj => ?_
  simp only [List.mem_singleton] at hj
  subst hj
  unfold wpOp
  simp only [hi]
  rw [if_pos hw]
  refine .inl ?_
  unfold Oper.wp
  rw [hr]
  exact hc.mono fun e w' ⟨v, he, hk⟩ => by subst he; exact h v w' hk
/-- Two operations in the text's order behind all others. -/
theorem wpAny_tail2 {o1 o2 : Oper} (h1 : ops[3]? = some o1) (h2 : ops[4]? = some o2) (hB : (Region.seqB md ops 2 3 listed && decide (ops.size = 5)) = true) (h : wpList P ops Q [o1, o2] a w) : wpAny P md ops Q 2 listed a w := by
  simp only [Bool.and_eq_true, decide_eq_true_eq] at hB
  refine wpAny_of_seq [o1, o2] 3 listed a w (fun j => ?_) hB.1 h
  match j with
  | 0 => exact h1.symm
  | 1 => exact h2.symm
  | j + 2 => rw [show ([o1, o2] : List Oper)[j + 2]? = none by simp, Array.getElem?_eq_none (by omega)]
end
theorem St.none {w w1 : World} {L : List (Nat × Array Value × TypeId)} {M : List (Option Addr × Nat × List Value)} (h : St w w1 L M) : St w w1 L [] := ⟨h.below, h.cl, h.nd, h.own, trivial⟩
theorem and248 : ∀ k : Fin 256, bits .and .u8 ((k.val : Nat) : Int) 248 = ((k.val / 8 * 8 : Nat) : Int) := by decide +kernel
theorem and127 : ∀ k : Fin 256, bits .or .u8 (bits .and .u8 ((k.val : Nat) : Int) 127) 64 = ((k.val % 64 + 64 : Nat) : Int) := by decide +kernel
theorem low_byte (y : UInt8) : bits .and .u8 (y.toNat : Int) 248 = ((UInt8.ofNat (y.toNat / 8 * 8)).toNat : Int) := by
  have h := and248 ⟨y.toNat, y.toNat_lt⟩
  have h2 := y.toNat_lt
  rw [h]
  simp [UInt8.toNat_ofNat']; omega
theorem high_byte (y : UInt8) : bits .or .u8 (bits .and .u8 (y.toNat : Int) 127) 64 = ((UInt8.ofNat (y.toNat % 64 + 64)).toNat : Int) := by
  have h := and127 ⟨y.toNat, y.toNat_lt⟩
  have h2 := y.toNat_lt
  rw [h]
  simp [UInt8.toNat_ofNat']; omega
def z64A : Array Value := (List.replicate 64 (Value.int .u8 0)).toArray
theorem zero64A : (Tryz.prog.info? 97).map (fun i => (i.zero, i.size)) = some (some (.agg z64A), 64) := by kernel_rfl
theorem zeroS0 : (Tryz.prog.info? ST).map (fun i => (i.zero, i.size)) = some (some (.agg (sF 0)), 4) := by kernel_rfl
end Go.Proofs.YtgehfbcagaaggaaGreatDoor
end
section
namespace Go.Proofs.YtgehfbcagaaggaaGreatDoor
open Go Go.RowKit
set_option linter.unusedVariables false
set_option linter.unusedSimpArgs false
set_option maxHeartbeats 1000000 in
theorem Number_e (A : Option Addr) (ls : List (List UInt8)) (c n : Nat) (A' : Option Addr) (ls' : List (List UInt8)) (c' m : Nat) (w : World) (hG : GlobL w) (hS : Rows2' w w.heap.size A ls) (hS' : Rows2' w w.heap.size A' ls') (hn : ls.length = n) (hm : ls'.length = m) (h0 : 0 < n) (hl : n + m ≤ 100) (hb : (ls ++ ls').flatten.length ≤ 100000) (k : SF) (hk : k = ofS (longB (ls ++ ls').flatten)) :
    Calls Tryz.prog 44 #[.slice A n c, .slice A' m c'] w fun e w' => e = .returned (.agg (sF k)) ∧ Below w.heap.size w w' := by
  have HS := hid hS; have HS' := hid hS'; have HG := hid hG; have HN := hid hn; have HM := hid hm
  obtain ⟨LS, hLS⟩ : ∃ l, l = ls ++ ls' := ⟨_, rfl⟩
  obtain ⟨q, hq⟩ : ∃ q, q = LS.length := ⟨_, rfl⟩
  have hqv : q = n + m := by rw [hq, hLS, List.length_append, hn, hm]
  have hfl : [ls, ls'].flatten = LS := by rw [hLS]; simp
  obtain ⟨D, hD⟩ : ∃ l, l = longB LS.flatten := ⟨_, rfl⟩
  rw [← hLS] at hb hk
  rw [← hD] at hk
  have KCC : Hid (∀ (A : Option Addr) (c : Nat) (W : World), Rows3 W W.heap.size A [ls, ls'] → Calls Tryz.prog 70 #[.slice A 2 c] W fun e w' => ∃ A' c', e = .returned (.slice A' q c') ∧ Rows2' w' w'.heap.size A' LS ∧ Below W.heap.size W w') := hid fun A c W h => by
    have := Concat_e A [ls, ls'] c W h (by rw [hfl, ← hq]; omega) (by rw [hfl, ← hq]; omega) (by simp)
    rw [hfl, ← hq] at this
    exact this
  have KD : Hid (∀ (A : Option Addr) (c : Nat) (W : World), GlobL W → Rows2' W W.heap.size A LS → Calls Tryz.prog 69 #[.slice A q c] W fun e w' => ∃ v, e = .returned v ∧ DigestL W w' v D ∧ Below W.heap.size W w') := hid fun A c W hG h => by
    have := OfL_any A LS c W h hG (by rw [← hq]; omega) (by omega)
    rw [← hD, ← hq] at this
    exact this
  have KO : Hid (∀ (A : Option Addr) (c : Nat) (W : World), Sq W W.heap.size A c (bvs D) → Calls Tryz.prog 68 #[.slice A 64 c] W fun e w' => e = .returned (.agg (sF k)) ∧ Below W.heap.size W w') := by
    have := scOf D (by rw [hD, longB_64]; decide)
    rw [show D.length = 64 by rw [hD, longB_64], ← hk] at this
    exact this
  clear hS hS' hG hn hm hLS hq hqv hfl hD hb hk hl h0
  go_enter Tryz.func44, Tryz.ntmps44
  have S0 : Hid (St w w [] []) := hid (St.start w)
  go_upto_region 0 with fail
  refine wpLA_start ?_
  refine wpLA_alloc (by rfl) rfl zeroS0 ?_
  intro p1 w1 hp hz hb
  have S1 : Hid (St w w1 [(p1, sF 0, ST)] []) := hid (S0.out.alloc hb hp hz)
  clear hp hz hb S0
  (try simp only [Act.put, List.getElem_toArray, List.getElem_cons_succ, List.getElem_cons_zero, List.setIfInBounds_toArray, List.set_cons_zero, List.set_cons_succ])
  refine wpLA_end ?_
  intro w2 hb
  have S2 := hid (S1.out.on hb)
  clear hb S1
  go_upto_region 1 with fail
  refine wpLA_start ?_
  refine wpLA_take (.slice A n c) (yG_val _ (by rfl) (fun w' _ => by (go_simp; try rfl))) ?_
  (try simp only [Act.put, List.getElem_toArray, List.getElem_cons_succ, List.getElem_cons_zero, List.setIfInBounds_toArray, List.set_cons_zero, List.set_cons_succ])
  refine wpLA_take (.slice A' m c') (yG_val _ (by rfl) (fun w' _ => by (go_simp; try rfl))) ?_
  (try simp only [Act.put, List.getElem_toArray, List.getElem_cons_succ, List.getElem_cons_zero, List.setIfInBounds_toArray, List.set_cons_zero, List.set_cons_succ])
  refine wpLA_rows3 [(A, ls, c), (A', ls', c')] (n := 2) rfl (by (intro p hp; simp only [List.mem_cons, List.not_mem_nil, or_false] at hp; rcases hp with rfl | rfl <;> first | exact rows_on HS.out S2.out.below | exact rows_on HS'.out S2.out.below)) (by rfl) 53 (fun w' => by (simp only [List.map_cons, List.map_nil, HN.out, HM.out]; go_simp; try rfl)) ?_
  intro g3 w3 hb hr
  have S3 : Hid (St w w3 [(p1, sF 0, ST)] []) := hid (S2.out.on hb)
  have R3 := hid hr
  clear hb hr S2
  (try simp only [Act.put, List.getElem_toArray, List.getElem_cons_succ, List.getElem_cons_zero, List.setIfInBounds_toArray, List.set_cons_zero, List.set_cons_succ])
  refine wpLA_rowsC LS (n := q) (by rfl) (fun w' => by go_simp) (fun w' hb => KCC.out (some ⟨g3, 0, none⟩) 2 w' (rows3_on R3.out hb)) ?_
  intro A4 c4 w4 hb hr
  have S4 : Hid (St w w4 [(p1, sF 0, ST)] []) := hid (S3.out.on hb)
  have R4 := hid hr
  clear hb hr S3
  (try simp only [Act.put, List.getElem_toArray, List.getElem_cons_succ, List.getElem_cons_zero, List.setIfInBounds_toArray, List.set_cons_zero, List.set_cons_succ])
  refine wpLA_dig D (by rfl) (fun w' => by go_simp) (fun w' hb => KD.out A4 c4 w' (HG.out.below (S4.out.on hb).below (Nat.le_refl _)) (rows_on R4.out hb)) ?_
  intro b5 w5 hb hB hg hs
  have S5 : Hid (St w w5 [(p1, sF 0, ST)] [((some ⟨b5, 0, none⟩), 64, bvs D)]) := hid ((S4.out.on hb).more hs)
  clear hb hB hg hs S4
  (try simp only [Act.put, List.getElem_toArray, List.getElem_cons_succ, List.getElem_cons_zero, List.setIfInBounds_toArray, List.set_cons_zero, List.set_cons_succ])
  refine wpLA_take (.agg (sF k)) (yG_call (by rfl) (fun w' => by go_simp) (fun w' hb => KO.out _ _ w' (S5.out.on hb).sq.1)) ?_
  (try simp only [Act.put, List.getElem_toArray, List.getElem_cons_succ, List.getElem_cons_zero, List.setIfInBounds_toArray, List.set_cons_zero, List.set_cons_succ])
  have S6 : Hid (St w w5 [(p1, sF 0, ST)] []) := hid S5.out.none
  clear S5
  refine wpLA_store rfl ST (.tmp 4) (.tmp 10) rfl p1 (sF k) rfl rfl ST (sF 0) S6.out.cl.1 (infoSF k) rfl (oneSF k) ?_
  intro wx hb
  have S7 : Hid (St w (wx.setRow p1 (sF k)) [(p1, sF k, ST)] []) := hid ((S6.out.on hb).put0 0 rfl)
  clear hb S6
  generalize wx.setRow p1 (sF k) = w7 at S7 ⊢
  (try simp only [Act.put, List.getElem_toArray, List.getElem_cons_succ, List.getElem_cons_zero, List.setIfInBounds_toArray, List.set_cons_zero, List.set_cons_succ])
  refine wpLA_end ?_
  intro w8 hb
  have S8 := hid (S7.out.on hb)
  clear hb S7
  go_wp2_with fail
  exact bodyPost_ret (v := .agg (sF k)) (results_cell_row rfl _ _ p1 ST _ (0, 0) _ rfl S8.out.cl.1 Tryz.underlying62 rfl (infoSF k)) rfl ⟨rfl, S8.out.below⟩
set_option maxHeartbeats 1000000 in
theorem Often_e (s : SF) (w : World) : Calls Tryz.prog 29 #[.agg (sF s)] w fun e w' => ∃ v, e = .returned v ∧ OwnB w' w.heap.size v (pB (Pt.times s.val Gb)) ∧ Below w.heap.size w w' := by
  obtain ⟨g, hg, KG⟩ := CvBase
  obtain ⟨g1, hg1, KU⟩ := CvMul hg s
  have KV := CvBytes hg1
  obtain ⟨PB, ePB⟩ : ∃ l, l = pB (Pt.times s.val Gb) := ⟨_, rfl⟩
  rw [← ePB] at KV ⊢
  clear hg hg1 ePB
  go_enter Tryz.func29, Tryz.ntmps29
  have S0 : Hid (St w w [] []) := hid (St.start w)
  go_upto_region 0 with fail
  refine wpLA_start ?_
  refine wpLA_box (sF s) (by rfl) rfl rfl ?_
  intro p1 w1 hp hz hb
  have S1 : Hid (St w w1 [(p1, sF s, ST)] []) := hid (S0.out.alloc hb hp hz)
  clear hp hz hb S0
  (try simp only [Act.put, List.getElem_toArray, List.getElem_cons_succ, List.getElem_cons_zero, List.setIfInBounds_toArray, List.set_cons_zero, List.set_cons_succ])
  refine wpLA_take (.slice none 0 0) (yG_val _ (by rfl) (fun w' _ => by (go_simp; try rfl))) ?_
  (try simp only [Act.put, List.getElem_toArray, List.getElem_cons_succ, List.getElem_cons_zero, List.setIfInBounds_toArray, List.set_cons_zero, List.set_cons_succ])
  refine wpLA_end ?_
  intro w2 hb
  have S2 := hid (S1.out.on hb)
  clear hb S1
  go_upto_region 1 with fail
  refine wp_region_grA 3 (by kernel_rfl) (by decide) ?_
  refine wpGrA_take (i := 0) (.agg (g)) rfl (by kernel_rfl) (by kernel_rfl) (fun _ _ _ h => h) (yG_call (by rfl) (fun w' => by go_simp) (fun w' hb => KG.out w')) ?_
  (try simp only [Act.put, List.getElem_toArray, List.getElem_cons_succ, List.getElem_cons_zero, List.setIfInBounds_toArray, List.set_cons_zero, List.set_cons_succ])
  refine wpGrA_take (i := 1) (.agg (sF s)) rfl (by kernel_rfl) (by kernel_rfl) (fun _ _ _ h => h) (yG_part (by rfl) ST (.tmp 1) rfl p1 0 rfl ST (sF s) (sF s) (0, 0) _ S2.out.cl.1 (sF_all s) Tryz.underlying62 rfl (infoSF s)) ?_
  (try simp only [Act.put, List.getElem_toArray, List.getElem_cons_succ, List.getElem_cons_zero, List.setIfInBounds_toArray, List.set_cons_zero, List.set_cons_succ])
  refine wpGrA_take (i := 2) (.agg (g1)) rfl (by kernel_rfl) (by kernel_rfl) (fun _ _ _ h => h) (yG_call (by rfl) (fun w' => by go_simp) (fun w' hb => KU.out w')) ?_
  (try simp only [Act.put, List.getElem_toArray, List.getElem_cons_succ, List.getElem_cons_zero, List.setIfInBounds_toArray, List.set_cons_zero, List.set_cons_succ])
  refine wpGrA_end (by kernel_rfl) ?_
  intro w3 hb
  have S3 := hid (S2.out.on hb)
  clear hb S2
  refine wpLA_here ?_
  refine wpLA_own PB (by rfl) (fun w' => by go_simp) (fun w' hb => KV.out w') ?_
  intro A4 c4 w4 hb ho
  have O4 := hid (own_base ho S3.out.below.size)
  have S4 : Hid (St w w4 [(p1, sF s, ST)] []) := hid (S3.out.on hb)
  clear hb ho S3
  (try simp only [Act.put, List.getElem_toArray, List.getElem_cons_succ, List.getElem_cons_zero, List.setIfInBounds_toArray, List.set_cons_zero, List.set_cons_succ])
  refine wpLA_take (.slice A4 (PB.length) c4) (yG_val _ (by rfl) (fun w' _ => by (go_simp; try rfl))) ?_
  (try simp only [Act.put, List.getElem_toArray, List.getElem_cons_succ, List.getElem_cons_zero, List.setIfInBounds_toArray, List.set_cons_zero, List.set_cons_succ])
  refine wpLA_end ?_
  intro w5 hb
  have OE := hid (ownB_on O4.out hb)
  have S5 := hid (S4.out.on hb)
  clear hb S4
  go_wp2_with fail
  exact bodyPost_ret (v := (.slice A4 (PB.length) c4)) (by simp [results, Tryz.results29]) rfl ⟨_, rfl, OE.out, S5.out.below⟩
set_option maxHeartbeats 1000000 in
theorem Secrets_e (A : Option Addr) (xs : List UInt8) (c : Nat) (w : World) (hG : GlobL w) (hS : Sq w w.heap.size A c (bvs xs)) (hl : xs.length = 32) :
    Calls Tryz.prog 43 #[.slice A 32 c] w fun e w' => ∃ A' c', e = .returned (.tuple #[.agg (sF (secS xs)), .slice A' 32 c']) ∧ Sq w' w'.heap.size A' c' (bvs ((longB xs).drop 32)) ∧ Below w.heap.size w w' := by
  have HS := hid hS; have HG := hid hG
  obtain ⟨D0, hD0⟩ : ∃ l, l = longB xs := ⟨_, rfl⟩
  have hl0 : D0.length = 64 := by rw [hD0]; exact longB_64 _
  obtain ⟨y0, hy0⟩ : ∃ y, y = D0.getD 0 0 := ⟨_, rfl⟩
  obtain ⟨y31, hy31⟩ : ∃ y, y = D0.getD 31 0 := ⟨_, rfl⟩
  obtain ⟨z0, hz0⟩ : ∃ z, z = UInt8.ofNat (y0.toNat / 8 * 8) := ⟨_, rfl⟩
  obtain ⟨z31, hz31⟩ : ∃ z, z = UInt8.ofNat (y31.toNat % 64 + 64) := ⟨_, rfl⟩
  obtain ⟨D1, hD1⟩ : ∃ l, l = D0.set 0 z0 := ⟨_, rfl⟩
  obtain ⟨D2, hD2⟩ : ∃ l, l = D1.set 31 z31 := ⟨_, rfl⟩
  have hl1 : D1.length = 64 := by rw [hD1, List.length_set, hl0]
  have hl2 : D2.length = 64 := by rw [hD2, List.length_set, hl1]
  have hcl : clampS D0 = D2.take 32 := by unfold clampS; rw [hD2, hD1, hz31, hz0, hy31, hy0]
  have LD0 := hid hl0; have LD1 := hid hl1; have LD2 := hid hl2
  have HY0 : Hid (D0[0]? = some y0) := hid (by rw [hy0, List.getD_eq_getElem?_getD, List.getElem?_eq_getElem (by omega)]; rfl)
  have HY31 : Hid (D1[31]? = some y31) := hid (by rw [hD1, List.getElem?_set_ne (by decide), hy31, List.getD_eq_getElem?_getD, List.getElem?_eq_getElem (by omega)]; rfl)
  have HD1 : Hid ((byA D0).setIfInBounds 0 (.int .u8 (z0.toNat : Int)) = byA D1) := hid (by rw [byA_set, hD1])
  have HD2 : Hid ((byA D1).setIfInBounds 31 (.int .u8 (z31.toNat : Int)) = byA D2) := hid (by rw [byA_set, hD2])
  obtain ⟨x31, hx31⟩ : ∃ x, x = bits .and .u8 (y31.toNat : Int) 127 := ⟨_, rfl⟩
  have HZ0 : Hid (bits .and .u8 (y0.toNat : Int) 248 = (z0.toNat : Int)) := hid (by rw [low_byte, hz0])
  have HX31 : Hid (bits .and .u8 (y31.toNat : Int) 127 = x31) := hid hx31.symm
  have HZ31 : Hid (bits .or .u8 x31 64 = (z31.toNat : Int)) := hid (by rw [hx31, high_byte, hz31])
  obtain ⟨TK, hTK⟩ : ∃ l, l = D2.take 32 := ⟨_, rfl⟩
  have HTK := hid hTK.symm
  have HDR : Hid (D2.drop 32 = (longB xs).drop 32) := hid (by rw [hD2, hD1, ← hD0, List.drop_set_of_lt (by decide), List.drop_set_of_lt (by decide)])
  obtain ⟨s, hs⟩ : ∃ s, s = secS xs := ⟨_, rfl⟩
  have KS : Hid (∀ (A : Option Addr) (c : Nat) (W : World), GlobL W → Sq W W.heap.size A c (bvs xs) → Calls Tryz.prog 67 #[.slice A 32 c] W fun e w' => e = .returned (.agg (byA D0)) ∧ Below W.heap.size W w') := hid fun A c W hG h => by
    have := SumL_any A xs c W (by omega) h hG
    rw [hl, ← hD0] at this
    exact this
  have KO : Hid (∀ (A : Option Addr) (c : Nat) (W : World), Sq W W.heap.size A c (bvs TK) → Calls Tryz.prog 68 #[.slice A 32 c] W fun e w' => e = .returned (.agg (sF s)) ∧ Below W.heap.size W w') := by
    have h32 : TK.length = 32 := by rw [hTK, List.length_take, hl2]; decide
    have := scOf TK (by rw [h32]; decide)
    rw [h32, show ofS TK = s by rw [hs, hTK, ← hcl, hD0]; rfl] at this
    exact this
  rw [← hs]
  clear hS hG hl hD0 hl0 hy0 hy31 hz0 hz31 hD1 hD2 hl1 hl2 hcl hx31 hTK hs
  go_enter Tryz.func43, Tryz.ntmps43
  have S0 : Hid (St w w [] []) := hid (St.start w)
  go_upto_region 0 with fail
  refine wpLA_start ?_
  refine wpLA_alloc (by rfl) rfl zeroS0 ?_
  intro p1 w1 hp hz hb
  have S1 : Hid (St w w1 [(p1, sF 0, ST)] []) := hid (S0.out.alloc hb hp hz)
  clear hp hz hb S0
  (try simp only [Act.put, List.getElem_toArray, List.getElem_cons_succ, List.getElem_cons_zero, List.setIfInBounds_toArray, List.set_cons_zero, List.set_cons_succ])
  refine wpLA_take (.slice none 0 0) (yG_val _ (by rfl) (fun w' _ => by (go_simp; try rfl))) ?_
  (try simp only [Act.put, List.getElem_toArray, List.getElem_cons_succ, List.getElem_cons_zero, List.setIfInBounds_toArray, List.set_cons_zero, List.set_cons_succ])
  refine wpLA_end ?_
  intro w2 hb
  have S2 := hid (S1.out.on hb)
  clear hb S1
  go_upto_region 1 with fail
  refine wpLA_start ?_
  refine wpLA_take (.slice A 32 c) (yG_val _ (by rfl) (fun w' _ => by (go_simp; try rfl))) ?_
  (try simp only [Act.put, List.getElem_toArray, List.getElem_cons_succ, List.getElem_cons_zero, List.setIfInBounds_toArray, List.set_cons_zero, List.set_cons_succ])
  refine wpLA_take (.agg (byA D0)) (yG_call (by rfl) (fun w' => by go_simp) (fun w' hb => KS.out _ _ w' (HG.out.below (S2.out.on hb).below (Nat.le_refl _)) (HS.out.on6 ((S2.out.on hb).below)))) ?_
  (try simp only [Act.put, List.getElem_toArray, List.getElem_cons_succ, List.getElem_cons_zero, List.setIfInBounds_toArray, List.set_cons_zero, List.set_cons_succ])
  refine wpLA_alloc (by rfl) rfl zero64A ?_
  intro p3 w3 hp hz hb
  have S3 : Hid (St w w3 [(p3, z64A, A64B), (p1, sF 0, ST)] []) := hid (S2.out.alloc hb hp hz)
  clear hp hz hb S2
  (try simp only [Act.put, List.getElem_toArray, List.getElem_cons_succ, List.getElem_cons_zero, List.setIfInBounds_toArray, List.set_cons_zero, List.set_cons_succ])
  refine wpLA_store rfl A64B (.tmp 4) (.tmp 6) rfl p3 (byA D0) rfl rfl A64B (z64A) S3.out.cl.1 (info64B.trans (congrArg some ((byA_size _).trans LD0.out).symm)) (((byA_size _).trans LD0.out).symm) (byA_one _) ?_
  intro wx hb
  have S4 : Hid (St w (wx.setRow p3 (byA D0)) [(p3, byA D0, A64B), (p1, sF 0, ST)] []) := hid ((S3.out.on hb).put0 0 rfl)
  clear hb S3
  generalize wx.setRow p3 (byA D0) = w4 at S4 ⊢
  (try simp only [Act.put, List.getElem_toArray, List.getElem_cons_succ, List.getElem_cons_zero, List.setIfInBounds_toArray, List.set_cons_zero, List.set_cons_succ])
  refine wpLA_end ?_
  intro w5 hb
  have S5 := hid (S4.out.on hb)
  clear hb S4
  go_upto_region 2 with fail
  refine wpLA_start ?_
  refine wpLA_take (.pointer (some ⟨p3, 0, none⟩)) (yG_val _ (by rfl) (fun w' _ => by (go_simp; try rfl))) ?_
  (try simp only [Act.put, List.getElem_toArray, List.getElem_cons_succ, List.getElem_cons_zero, List.setIfInBounds_toArray, List.set_cons_zero, List.set_cons_succ])
  refine wpLA_take (.int .u8 ((y0.toNat : Int))) (yG_val _ (by rfl) (fun w' hb => by (have hc := byA_cell ((S5.out.on hb).cl.1) HY0.out; go_simp; try rfl))) ?_
  (try simp only [Act.put, List.getElem_toArray, List.getElem_cons_succ, List.getElem_cons_zero, List.setIfInBounds_toArray, List.set_cons_zero, List.set_cons_succ])
  refine wpLA_take (.int .u8 ((z0.toNat : Int))) (yG_val _ (by rfl) (fun w' _ => by (have hz := HZ0.out; go_simp; try rfl))) ?_
  (try simp only [Act.put, List.getElem_toArray, List.getElem_cons_succ, List.getElem_cons_zero, List.setIfInBounds_toArray, List.set_cons_zero, List.set_cons_succ])
  refine wpLA_take (.pointer (some ⟨p3, 0, none⟩)) (yG_val _ (by rfl) (fun w' _ => by (go_simp; try rfl))) ?_
  (try simp only [Act.put, List.getElem_toArray, List.getElem_cons_succ, List.getElem_cons_zero, List.setIfInBounds_toArray, List.set_cons_zero, List.set_cons_succ])
  refine wpLA_store1 (by rfl) p3 0 (byA D0) A64B (.int .u8 ((z0.toNat : Int))) S5.out.cl.1 (fun w' hg => by (have hc := byA_cell hg HY0.out; have hf := frozen_of_row w' p3 0 _ _ hg; go_simp; try rfl)) ?_
  intro wx hb
  rw [HD1.out]
  have S6 : Hid (St w (wx.setRow p3 (byA D1)) [(p3, byA D1, A64B), (p1, sF 0, ST)] []) := hid ((S5.out.on hb).put0 0 rfl)
  clear hb S5
  generalize wx.setRow p3 (byA D1) = w6 at S6 ⊢
  (try simp only [Act.put, List.getElem_toArray, List.getElem_cons_succ, List.getElem_cons_zero, List.setIfInBounds_toArray, List.set_cons_zero, List.set_cons_succ])
  refine wpLA_end ?_
  intro w7 hb
  have S7 := hid (S6.out.on hb)
  clear hb S6
  go_upto_region 3 with fail
  refine wpLA_start ?_
  refine wpLA_take (.pointer (some ⟨p3, 31, none⟩)) (yG_val _ (by rfl) (fun w' _ => by (go_simp; try rfl))) ?_
  (try simp only [Act.put, List.getElem_toArray, List.getElem_cons_succ, List.getElem_cons_zero, List.setIfInBounds_toArray, List.set_cons_zero, List.set_cons_succ])
  refine wpLA_take (.int .u8 ((y31.toNat : Int))) (yG_val _ (by rfl) (fun w' hb => by (have hc := byA_cell ((S7.out.on hb).cl.1) HY31.out; go_simp; try rfl))) ?_
  (try simp only [Act.put, List.getElem_toArray, List.getElem_cons_succ, List.getElem_cons_zero, List.setIfInBounds_toArray, List.set_cons_zero, List.set_cons_succ])
  refine wpLA_take (.int .u8 (x31)) (yG_val _ (by rfl) (fun w' _ => by (have hz := HX31.out; go_simp; try rfl))) ?_
  (try simp only [Act.put, List.getElem_toArray, List.getElem_cons_succ, List.getElem_cons_zero, List.setIfInBounds_toArray, List.set_cons_zero, List.set_cons_succ])
  refine wpLA_take (.int .u8 ((z31.toNat : Int))) (yG_val _ (by rfl) (fun w' _ => by (have hz := HZ31.out; go_simp; try rfl))) ?_
  (try simp only [Act.put, List.getElem_toArray, List.getElem_cons_succ, List.getElem_cons_zero, List.setIfInBounds_toArray, List.set_cons_zero, List.set_cons_succ])
  refine wpLA_take (.pointer (some ⟨p3, 31, none⟩)) (yG_val _ (by rfl) (fun w' _ => by (go_simp; try rfl))) ?_
  (try simp only [Act.put, List.getElem_toArray, List.getElem_cons_succ, List.getElem_cons_zero, List.setIfInBounds_toArray, List.set_cons_zero, List.set_cons_succ])
  refine wpLA_store1 (by rfl) p3 31 (byA D1) A64B (.int .u8 ((z31.toNat : Int))) S7.out.cl.1 (fun w' hg => by (have hc := byA_cell hg HY31.out; have hf := frozen_of_row w' p3 31 _ _ hg; go_simp; try rfl)) ?_
  intro wx hb
  rw [HD2.out]
  have S8 : Hid (St w (wx.setRow p3 (byA D2)) [(p3, byA D2, A64B), (p1, sF 0, ST)] []) := hid ((S7.out.on hb).put0 0 rfl)
  clear hb S7
  generalize wx.setRow p3 (byA D2) = w8 at S8 ⊢
  (try simp only [Act.put, List.getElem_toArray, List.getElem_cons_succ, List.getElem_cons_zero, List.setIfInBounds_toArray, List.set_cons_zero, List.set_cons_succ])
  refine wpLA_end ?_
  intro w9 hb
  have S9 := hid (S8.out.on hb)
  clear hb S8
  go_upto_region 4 with fail
  refine wp_region_any (by kernel_rfl) ?_
  refine wpAny_take (i := 0) (v := (.slice (some ⟨p3, 0, none⟩) 32 64)) rfl (by kernel_rfl) (by kernel_rfl) (by kernel_rfl) (fun _ _ _ h => h) (.inl ⟨by rfl, fun w' => by (go_simp; try rfl)⟩) ?_
  (try simp only [Act.put, List.getElem_toArray, List.getElem_cons_succ, List.getElem_cons_zero, List.setIfInBounds_toArray, List.set_cons_zero, List.set_cons_succ])
  refine wpAny_take (i := 2) (v := (.slice (some ⟨p3, 32, none⟩) 32 32)) rfl (by kernel_rfl) (by kernel_rfl) (by kernel_rfl) (fun _ _ _ h => h) (.inl ⟨by rfl, fun w' => by (go_simp; try rfl)⟩) ?_
  (try simp only [Act.put, List.getElem_toArray, List.getElem_cons_succ, List.getElem_cons_zero, List.setIfInBounds_toArray, List.set_cons_zero, List.set_cons_succ])
  have SD := S9.out.on (Below.refl _ _).drew
  have SQ := row_bytes SD.cl.1 LD2.out (by decide)
  refine wpAny_call (i := 1) (fn := 68) (args := #[(.slice (some ⟨p3, 0, none⟩) 32 64)]) (fun v w' => v = .agg (sF s) ∧ Below _ _ w') rfl (by kernel_rfl) (by rfl) (by go_simp) ((KO.out _ _ _ (by rw [← HTK.out]; exact sq_take SQ 32)).mono fun e w' h => ⟨_, h.1, rfl, h.2⟩) ?_
  rintro v w10 ⟨rfl, hb⟩
  have S10 : Hid (St w w10 [(p3, byA D2, A64B), (p1, sF 0, ST)] []) := hid (SD.on hb)
  clear SD SQ hb S9
  (try simp only [Act.put, List.getElem_toArray, List.getElem_cons_succ, List.getElem_cons_zero, List.setIfInBounds_toArray, List.set_cons_zero, List.set_cons_succ])
  refine wpAny_tail2 rfl rfl (by kernel_rfl) ?_
  refine wpLA_here ?_
  refine wpLA_store rfl ST (.tmp 2) (.tmp 17) rfl p1 (sF s) rfl rfl ST (sF 0) S10.out.cl.2.1 (infoSF s) rfl (oneSF s) ?_
  intro wx hb
  have S11 : Hid (St w (wx.setRow p1 (sF s)) [(p3, byA D2, A64B), (p1, sF s, ST)] []) := hid ((S10.out.on hb).put0 1 rfl)
  clear hb S10
  generalize wx.setRow p1 (sF s) = w11 at S11 ⊢
  (try simp only [Act.put, List.getElem_toArray, List.getElem_cons_succ, List.getElem_cons_zero, List.setIfInBounds_toArray, List.set_cons_zero, List.set_cons_succ])
  refine wpLA_take (.slice (some ⟨p3, 32, none⟩) 32 32) (yG_val _ (by rfl) (fun w' _ => by (go_simp; try rfl))) ?_
  (try simp only [Act.put, List.getElem_toArray, List.getElem_cons_succ, List.getElem_cons_zero, List.setIfInBounds_toArray, List.set_cons_zero, List.set_cons_succ])
  refine wpLA_end ?_
  intro w12 hb
  have S12 := hid (S11.out.on hb)
  clear hb S11
  go_wp2_with fail
  exact bodyPost_ret (v := .tuple #[.agg (sF s), (.slice (some ⟨p3, 32, none⟩) 32 32)]) (results_cell_tmp rfl _ _ ⟨p1, 0, none⟩ _ _ rfl rfl (run_loadVar_row _ p1 ST ST _ (0, 0) _ S12.out.cl.2.1 Tryz.underlying62 rfl (infoSF s))) rfl ⟨_, _, rfl, by rw [← HDR.out]; exact sq_drop (row_bytes S12.out.cl.1 LD2.out (by decide)) 32 (by rw [LD2.out]; decide), S12.out.below⟩
end Go.Proofs.YtgehfbcagaaggaaGreatDoor
end
section
namespace Go.Proofs.YtgehfbcagaaggaaGreatDoor
open Go Go.RowKit
set_option linter.unusedVariables false
set_option linter.unusedSimpArgs false
section
variable {P : Program} {ops : Array Oper} {Q : Exit → Act → World → Prop} {o : Oper} {rest : List Oper} {a : Act} {w0 : World}
/-- A text's bytes, in memory of their own. -/
theorem wpLA_str (s : ByteArray) (hs : s.size ≤ 1000000) (hw : Region.wanted o (yielded ops a.tmps) = true)
    (hr : ∀ w', (execOp a.eval o).run P w' = .ok (.value (.slice (some ⟨w'.heap.size, 0, none⟩) s.size (grownCap w' s.size 0 U8))) (strW w' s))
    (h : ∀ p c w', Below w0.heap.size w0 w' → Sq w' w'.heap.size (some ⟨p, 0, none⟩) c (bvs (sby s)) → wpLA P ops Q w' rest (a.put o.dst (.slice (some ⟨p, 0, none⟩) s.size c))) : wpLA P ops Q w0 (o :: rest) a := .mk fun w hb =>
  BigFrame.wpList_want hw fun K' hK => by
    unfold Oper.wp
    rw [hr w]
    refine hK _ _ ((h w.heap.size _ _ (hb.trans ((strW_below w s).mono hb.size)) ((strW_lie w s).sq ?_ ?_)).out _ (Below.refl _ _))
    · have := grownCap_ge w s.size 0 U8
      rw [bvs_length]
      have h2 := sby_length s
      omega
    · have := grownCap_le_maxLen w s.size 0 U8 (by unfold maxLen; omega)
      unfold maxLen at this
      omega
/-- A call that answers a secret and a prefix. -/
theorem wpLA_secr {f : FuncId} {args : Array Value} (u : Value) (xs : List UInt8) (hw : Region.wanted o (yielded ops a.tmps) = true) (hr : ∀ w', (execOp a.eval o).run P w' = .ok (.enter f args) w')
    (hc : ∀ w', Below w0.heap.size w0 w' → Calls P f args w' (fun e w'' => ∃ A c, e = .returned (.tuple #[u, .slice A 32 c]) ∧ Sq w'' w''.heap.size A c (bvs xs) ∧ Below w'.heap.size w' w''))
    (h : ∀ A c w2, Below w0.heap.size w0 w2 → Sq w2 w2.heap.size A c (bvs xs) → wpLA P ops Q w2 rest (a.put o.dst (.tuple #[u, .slice A 32 c]))) : wpLA P ops Q w0 (o :: rest) a :=
  wpLA_call (fun w' v w'' => ∃ A c, v = .tuple #[u, .slice A 32 c] ∧ Sq w'' w''.heap.size A c (bvs xs) ∧ Below w'.heap.size w' w'') hw hr (fun w' hb => (hc w' hb).mono fun e w'' ⟨A, c, he, h1, h2⟩ => ⟨_, he, A, c, rfl, h1, h2⟩)
    fun w' v w'' hb ⟨A, c, hv, h1, h2⟩ => by subst hv; exact h A c w'' (hb.trans (h2.mono hb.size)) h1
end
theorem own_of_row {w : World} {B g n c : Nat} {cur : Array Value} {xs : List UInt8} (h : w.heap[g]? = some (.cells cur 5 (0, 0))) (hB : B ≤ g) (hn : xs.length = n) (hf : n ≤ c ∧ c ≤ maxLen ∧ cur.size = c * 1 ∧ cur.toList.take (n * 1) = bvs xs) : OwnB w B (.slice (some ⟨g, 0, none⟩) n c) xs := by
  unfold OwnB
  rw [hn]
  exact ⟨by rw [bvs_length]; omega, .inr ⟨g, c, cur, rfl, hB, h, hf.1, hf.2.1, hf.2.2.1, hf.2.2.2⟩⟩
theorem sq_of_row {w : World} {g n c : Nat} {cur : Array Value} {xs : List UInt8} (h : w.heap[g]? = some (.cells cur 5 (0, 0))) (hn : xs.length = n) (hf : n ≤ c ∧ c ≤ maxLen ∧ cur.size = c * 1 ∧ cur.toList.take (n * 1) = bvs xs) : Sq w w.heap.size (some ⟨g, 0, none⟩) c (bvs xs) :=
  ownB_sq (own_of_row h (Nat.zero_le _) hn hf)
/-- Bytes and no error, in memory somewhere; or an error alone. -/
def SgR (w : World) (r : Option (List UInt8)) (e : Ending) (w' : World) : Prop :=
  ∃ A c, e = .returned (.tuple #[.slice A (r.getD []).length c, .int .u8 (if r.isSome then 0 else 1)]) ∧ Sq w' w'.heap.size A c (bvs (r.getD [])) ∧ Below w.heap.size w w'
set_option maxHeartbeats 1000000 in
theorem Labelled_e (s : ByteArray) (A' : Option Addr) (ys : List UInt8) (c' m : Nat) (w : World) (hs : s.size ≤ 100000) (hS' : Sq w w.heap.size A' c' (bvs ys)) (hm : ys.length = m) (hy : m ≤ 100000) :
    Calls Tryz.prog 24 #[.string s, .slice A' m c'] w fun e w' => ∃ A c, e = .returned (.slice A 2 c) ∧ Rows2' w' w'.heap.size A [vecBytes (mlsB ++ sby s), vecBytes ys] ∧ Below w.heap.size w w' := by
  have HS' := hid hS'
  have KM : Hid (∀ W : World, (Op.stringOp .add ⟨#[77, 76, 83, 32, 49, 46, 48, 32]⟩ s).run Tryz.prog W = .ok (.string (mlsS s)) W) := hid fun W => run_mls W s (by omega)
  have hT := mlsS_sby s
  have hz := mlsS_size s
  generalize mlsS s = T at KM hT hz
  have LT : Hid (T.size ≤ 1000000) := hid (by omega)
  have hTl := sby_length T
  rw [← hT]
  obtain ⟨V0, hV0⟩ : ∃ l, l = vecBytes (sby T) := ⟨_, rfl⟩
  obtain ⟨V1, hV1⟩ : ∃ l, l = vecBytes ys := ⟨_, rfl⟩
  have KP0 : Hid (∀ (A : Option Addr) (c : Nat) (W : World), Sq W W.heap.size A c (bvs (sby T)) → Calls Tryz.prog 34 #[.slice none 0 0, .slice A T.size c] W fun e w' => ∃ v, e = .returned v ∧ OwnB w' W.heap.size v V0 ∧ Below W.heap.size W w') := hid fun A c W h => by
    have := PutVec_n none [] 0 0 A (sby T) T.size c W rfl hTl (by omega) Lie.nil h.lie (by decide)
    rw [List.nil_append, ← hV0] at this; exact this
  have KP1 : Hid (∀ (A : Option Addr) (c : Nat) (W : World), Sq W W.heap.size A c (bvs ys) → Calls Tryz.prog 34 #[.slice none 0 0, .slice A m c] W fun e w' => ∃ v, e = .returned v ∧ OwnB w' W.heap.size v V1 ∧ Below W.heap.size W w') := hid fun A c W h => by
    have := PutVec_n none [] 0 0 A ys m c W rfl hm (by omega) Lie.nil h.lie (by decide)
    rw [List.nil_append, ← hV1] at this; exact this
  rw [← hV0, ← hV1]
  clear hS' hT hz hTl hV0 hV1 hm hy hs
  go_enter Tryz.func24, Tryz.ntmps24
  have S0 : Hid (St w w [] []) := hid (St.start w)
  go_upto_region 0 with fail
  refine wpLA_start ?_
  refine wpLA_take (.slice none 0 0) (yG_val _ (by rfl) (fun w' _ => by (go_simp; try rfl))) ?_
  (try simp only [Act.put, List.getElem_toArray, List.getElem_cons_succ, List.getElem_cons_zero, List.setIfInBounds_toArray, List.set_cons_zero, List.set_cons_succ])
  refine wpLA_end ?_
  intro w1 hb
  have S1 := hid (S0.out.on hb)
  clear hb S0
  go_upto_region 1 with fail
  refine wpLA_start ?_
  refine wpLA_take (.string s) (yG_val _ (by rfl) (fun w' _ => by (go_simp; try rfl))) ?_
  (try simp only [Act.put, List.getElem_toArray, List.getElem_cons_succ, List.getElem_cons_zero, List.setIfInBounds_toArray, List.set_cons_zero, List.set_cons_succ])
  refine wpLA_take (.string T) (yG_val _ (by rfl) (fun w' _ => by (have hm := KM.out w'; go_simp; try rfl))) ?_
  (try simp only [Act.put, List.getElem_toArray, List.getElem_cons_succ, List.getElem_cons_zero, List.setIfInBounds_toArray, List.set_cons_zero, List.set_cons_succ])
  refine wpLA_str T LT.out (by rfl) (fun w' => by (have hm := run_bytes w' T; go_simp; try rfl)) ?_
  intro p2 c2 w2 hb hs
  have S2 : Hid (St w w2 [] [((some ⟨p2, 0, none⟩), c2, bvs (sby T))]) := hid ((S1.out.on hb).more hs)
  clear hb hs S1
  (try simp only [Act.put, List.getElem_toArray, List.getElem_cons_succ, List.getElem_cons_zero, List.setIfInBounds_toArray, List.set_cons_zero, List.set_cons_succ])
  refine wpLA_bytes (V0) (by rfl) (fun w' => by go_simp) (fun w' hb => KP0.out _ _ w' (S2.out.on hb).sq.1) ?_
  intro A3 c3 w3 hb hs
  have S3 : Hid (St w w3 [] [(A3, c3, bvs (V0)), ((some ⟨p2, 0, none⟩), c2, bvs (sby T))]) := hid ((S2.out.on hb).more hs)
  clear hb hs S2
  (try simp only [Act.put, List.getElem_toArray, List.getElem_cons_succ, List.getElem_cons_zero, List.setIfInBounds_toArray, List.set_cons_zero, List.set_cons_succ])
  refine wpLA_take (.slice A' m c') (yG_val _ (by rfl) (fun w' _ => by (go_simp; try rfl))) ?_
  (try simp only [Act.put, List.getElem_toArray, List.getElem_cons_succ, List.getElem_cons_zero, List.setIfInBounds_toArray, List.set_cons_zero, List.set_cons_succ])
  refine wpLA_bytes (V1) (by rfl) (fun w' => by go_simp) (fun w' hb => KP1.out _ _ w' (HS'.out.on6 ((S3.out.on hb).below))) ?_
  intro A4 c4 w4 hb hs
  have S4 : Hid (St w w4 [] [(A4, c4, bvs (V1)), (A3, c3, bvs (V0)), ((some ⟨p2, 0, none⟩), c2, bvs (sby T))]) := hid ((S3.out.on hb).more hs)
  clear hb hs S3
  (try simp only [Act.put, List.getElem_toArray, List.getElem_cons_succ, List.getElem_cons_zero, List.setIfInBounds_toArray, List.set_cons_zero, List.set_cons_succ])
  refine wpLA_rows [(A3, V0, c3), (A4, V1, c4)] (n := 2) rfl (by (intro p hp; simp only [List.mem_cons, List.not_mem_nil, or_false] at hp; rcases hp with rfl | rfl <;> first | exact (S4.out.sq.2.1) | exact (S4.out.sq.1))) (by rfl) 22 (fun w' => by (simp only [List.map_cons, List.map_nil, List.length_cons, List.length_nil]; go_simp; try rfl)) ?_
  intro g5 w5 hb hr
  have S5 : Hid (St w w5 [] [(A4, c4, bvs (V1)), (A3, c3, bvs (V0)), ((some ⟨p2, 0, none⟩), c2, bvs (sby T))]) := hid (S4.out.on hb)
  have R5 : Hid (Rows2' w5 w5.heap.size (some ⟨g5, 0, none⟩) [V0, V1]) := hid hr
  clear hb hr S4
  (try simp only [Act.put, List.getElem_toArray, List.getElem_cons_succ, List.getElem_cons_zero, List.setIfInBounds_toArray, List.set_cons_zero, List.set_cons_succ])
  refine wpLA_take (.slice (some ⟨g5, 0, none⟩) 2 2) (yG_val _ (by rfl) (fun w' _ => by (go_simp; try rfl))) ?_
  (try simp only [Act.put, List.getElem_toArray, List.getElem_cons_succ, List.getElem_cons_zero, List.setIfInBounds_toArray, List.set_cons_zero, List.set_cons_succ])
  refine wpLA_end ?_
  intro w6 hb
  have RB := hb
  have S6 := hid (S5.out.on hb)
  clear S5
  go_wp2_with fail
  exact bodyPost_ret (v := (.slice (some ⟨g5, 0, none⟩) 2 2)) (by simp [results, Tryz.results24]) rfl ⟨_, _, rfl, rows_on R5.out RB, S6.out.below⟩
set_option maxHeartbeats 1000000 in
theorem Signed_no (A : Option Addr) (n c : Nat) (A' : Option Addr) (m c' : Nat) (w : World) (hn : n ≠ 32) (hn2 : n ≤ 100000) : Calls Tryz.prog 23 #[.slice A n c, .slice A' m c'] w (SgR w none) := by
  have H32 := hid (show ¬ (n : Int) = 32 by omega)
  clear hn hn2
  go_enter Tryz.func23, Tryz.ntmps23
  have S0 : Hid (St w w [] []) := hid (St.start w)
  go_upto_region 0 with fail
  refine wpLA_start ?_
  refine wpLA_take (.slice none 0 0) (yG_val _ (by rfl) (fun w' _ => by (go_simp; try rfl))) ?_
  (try simp only [Act.put, List.getElem_toArray, List.getElem_cons_succ, List.getElem_cons_zero, List.setIfInBounds_toArray, List.set_cons_zero, List.set_cons_succ])
  refine wpLA_take (.int .u8 0) (yG_val _ (by rfl) (fun w' _ => by (go_simp; try rfl))) ?_
  (try simp only [Act.put, List.getElem_toArray, List.getElem_cons_succ, List.getElem_cons_zero, List.setIfInBounds_toArray, List.set_cons_zero, List.set_cons_succ])
  refine wpLA_end ?_
  intro w1 hb
  have S1 := hid (S0.out.on hb)
  clear hb S0
  go_upto_region 1 with fail
  refine wpLA_start ?_
  refine wpLA_take (.slice A n c) (yG_val _ (by rfl) (fun w' _ => by (go_simp; try rfl))) ?_
  (try simp only [Act.put, List.getElem_toArray, List.getElem_cons_succ, List.getElem_cons_zero, List.setIfInBounds_toArray, List.set_cons_zero, List.set_cons_succ])
  refine wpLA_take (.int .i64 ((n : Nat))) (yG_val _ (by rfl) (fun w' _ => by (go_simp; try rfl))) ?_
  (try simp only [Act.put, List.getElem_toArray, List.getElem_cons_succ, List.getElem_cons_zero, List.setIfInBounds_toArray, List.set_cons_zero, List.set_cons_succ])
  refine wpLA_take (.bool true) (yG_val _ (by rfl) (fun w' _ => by (have h := H32.out; go_simp; try omega))) ?_
  (try simp only [Act.put, List.getElem_toArray, List.getElem_cons_succ, List.getElem_cons_zero, List.setIfInBounds_toArray, List.set_cons_zero, List.set_cons_succ])
  refine wpLA_end ?_
  intro w2 hb
  have S2 := hid (S1.out.on hb)
  clear hb S1
  go_upto_region 2 with fail
  refine wpLA_start ?_
  refine wpLA_take (.slice none 0 0) (yG_val _ (by rfl) (fun w' _ => by (go_simp; try rfl))) ?_
  (try simp only [Act.put, List.getElem_toArray, List.getElem_cons_succ, List.getElem_cons_zero, List.setIfInBounds_toArray, List.set_cons_zero, List.set_cons_succ])
  refine wpLA_take (.int .u8 1) (yG_val _ (by rfl) (fun w' _ => by (go_simp; try rfl))) ?_
  (try simp only [Act.put, List.getElem_toArray, List.getElem_cons_succ, List.getElem_cons_zero, List.setIfInBounds_toArray, List.set_cons_zero, List.set_cons_succ])
  refine wpLA_end ?_
  intro w3 hb
  have S3 := hid (S2.out.on hb)
  clear hb S2
  go_wp2_with fail
  exact bodyPost_ret (v := .tuple #[.slice none 0 0, .int .u8 1]) (by simp [results, Tryz.results23]) rfl ⟨none, 0, rfl, Sq.nil, S3.out.below⟩
set_option maxHeartbeats 2000000 in
theorem Signed_e (A : Option Addr) (xs : List UInt8) (c : Nat) (A' : Option Addr) (ls : List (List UInt8)) (m c' : Nat) (w : World) (hG : GlobL w) (hS : Sq w w.heap.size A c (bvs xs)) (hR : Rows2' w w.heap.size A' ls) (h32 : xs.length = 32) (hm : ls.length = m) (hm2 : m ≤ 10) (hl : ls.flatten.length ≤ 10000) :
    Calls Tryz.prog 23 #[.slice A 32 c, .slice A' m c'] w (SgR w (some (sigB xs ls.flatten))) := by
  have HS := hid hS; have HR := hid hR; have HG := hid hG; have HM := hid hm
  obtain ⟨s1, hs1⟩ : ∃ s, s = secS xs := ⟨_, rfl⟩
  obtain ⟨PF, hPF⟩ : ∃ l, l = (longB xs).drop 32 := ⟨_, rfl⟩
  have lPF : PF.length = 32 := by rw [hPF, List.length_drop, longB_64]
  have LPF := hid lPF
  obtain ⟨s2, hs2⟩ : ∃ s, s = rS xs ls.flatten := ⟨_, rfl⟩
  obtain ⟨PT0, hPT⟩ : ∃ l, l = pB (Pt.times s2.val Gb) := ⟨_, rfl⟩
  obtain ⟨PB, hPB⟩ : ∃ l, l = pB (Pt.times s1.val Gb) := ⟨_, rfl⟩
  have lPT : PT0.length = 32 := by rw [hPT]; exact pB_length _
  have lPB : PB.length = 32 := by rw [hPB]; exact pB_length _
  have LPT := hid lPT; have LPB := hid lPB
  obtain ⟨s3, hs3⟩ : ∃ s, s = kS PT0 PB ls.flatten := ⟨_, rfl⟩
  obtain ⟨s4, hs4⟩ : ∃ s, s = s3 * s1 := ⟨_, rfl⟩
  obtain ⟨s5, hs5⟩ : ∃ s, s = s2 + s4 := ⟨_, rfl⟩
  obtain ⟨SB, hSB⟩ : ∃ l, l = leB 32 s5.val := ⟨_, rfl⟩
  have LSB : Hid (SB.length = 32) := hid (by rw [hSB]; exact leB_length _ _)
  obtain ⟨SIG, hSIG⟩ : ∃ l, l = PT0 ++ SB := ⟨_, rfl⟩
  have HSIG := hid hSIG
  have hsig : sigB xs ls.flatten = SIG := by
    rw [hSIG, hPT, hSB, hs5, hs4, hs3, hs2, hs1, hPT, hPB, hs2, hs1]
    rfl
  have KSE : Hid (∀ (A : Option Addr) (c : Nat) (W : World), GlobL W → Sq W W.heap.size A c (bvs xs) → Calls Tryz.prog 43 #[.slice A 32 c] W fun e w' => ∃ A' c', e = .returned (.tuple #[.agg (sF s1), .slice A' 32 c']) ∧ Sq w' w'.heap.size A' c' (bvs PF) ∧ Below W.heap.size W w') := hid fun A c W hG h => by
    rw [hs1, hPF]; exact Secrets_e A xs c W hG h h32
  have KN1 : Hid (∀ (A : Option Addr) (c : Nat) (A' : Option Addr) (c' : Nat) (W : World), GlobL W → Rows2' W W.heap.size A [PF] → Rows2' W W.heap.size A' ls → Calls Tryz.prog 44 #[.slice A 1 c, .slice A' m c'] W fun e w' => e = .returned (.agg (sF s2)) ∧ Below W.heap.size W w') := hid fun A c A' c' W hG h h' =>
    Number_e A [PF] c 1 A' ls c' m W hG h h' rfl hm (by decide) (by omega) (by simp only [List.cons_append, List.nil_append, List.flatten_cons, List.length_append]; omega) s2 (by rw [hs2]; unfold rS; rw [hPF]; simp)
  have KN2 : Hid (∀ (A : Option Addr) (c : Nat) (A' : Option Addr) (c' : Nat) (W : World), GlobL W → Rows2' W W.heap.size A [PT0, PB] → Rows2' W W.heap.size A' ls → Calls Tryz.prog 44 #[.slice A 2 c, .slice A' m c'] W fun e w' => e = .returned (.agg (sF s3)) ∧ Below W.heap.size W w') := hid fun A c A' c' W hG h h' =>
    Number_e A [PT0, PB] c 2 A' ls c' m W hG h h' rfl hm (by decide) (by omega) (by simp only [List.cons_append, List.nil_append, List.flatten_cons, List.length_append]; omega) s3 (by rw [hs3]; unfold kS; simp)
  have KF2 : Hid (∀ W : World, Calls Tryz.prog 29 #[.agg (sF s2)] W fun e w' => ∃ v, e = .returned v ∧ OwnB w' W.heap.size v PT0 ∧ Below W.heap.size W w') := hid fun W => by rw [hPT]; exact Often_e s2 W
  have KF1 : Hid (∀ W : World, Calls Tryz.prog 29 #[.agg (sF s1)] W fun e w' => ∃ v, e = .returned v ∧ OwnB w' W.heap.size v PB ∧ Below W.heap.size W w') := hid fun W => by rw [hPB]; exact Often_e s1 W
  have KMU := scMul hs4
  have KAD := scAdd hs5
  have KBY : Hid (∀ W : World, Calls Tryz.prog 47 #[.agg (sF s5)] W fun e w' => ∃ v, e = .returned v ∧ OwnB w' W.heap.size v SB ∧ Below W.heap.size W w') := hid fun W => by rw [hSB]; exact ScBytes_e s5.val W (SF_lt s5)
  rw [hsig]
  clear hS hR hG hm hs1 hPF lPF hs2 hPT hPB lPT lPB hs3 hs4 hs5 hSB hSIG hsig hl hm2 h32
  go_enter Tryz.func23, Tryz.ntmps23
  have S0 : Hid (St w w [] []) := hid (St.start w)
  go_upto_region 0 with fail
  refine wpLA_start ?_
  refine wpLA_take (.slice none 0 0) (yG_val _ (by rfl) (fun w' _ => by (go_simp; try rfl))) ?_
  (try simp only [Act.put, List.getElem_toArray, List.getElem_cons_succ, List.getElem_cons_zero, List.setIfInBounds_toArray, List.set_cons_zero, List.set_cons_succ])
  refine wpLA_take (.int .u8 0) (yG_val _ (by rfl) (fun w' _ => by (go_simp; try rfl))) ?_
  (try simp only [Act.put, List.getElem_toArray, List.getElem_cons_succ, List.getElem_cons_zero, List.setIfInBounds_toArray, List.set_cons_zero, List.set_cons_succ])
  refine wpLA_end ?_
  intro w1 hb
  have S1 := hid (S0.out.on hb)
  clear hb S0
  go_upto_region 1 with fail
  refine wpLA_start ?_
  refine wpLA_take (.slice A 32 c) (yG_val _ (by rfl) (fun w' _ => by (go_simp; try rfl))) ?_
  (try simp only [Act.put, List.getElem_toArray, List.getElem_cons_succ, List.getElem_cons_zero, List.setIfInBounds_toArray, List.set_cons_zero, List.set_cons_succ])
  refine wpLA_take (.int .i64 32) (yG_val _ (by rfl) (fun w' _ => by (go_simp; try rfl))) ?_
  (try simp only [Act.put, List.getElem_toArray, List.getElem_cons_succ, List.getElem_cons_zero, List.setIfInBounds_toArray, List.set_cons_zero, List.set_cons_succ])
  refine wpLA_take (.bool false) (yG_val _ (by rfl) (fun w' _ => by (go_simp; try rfl))) ?_
  (try simp only [Act.put, List.getElem_toArray, List.getElem_cons_succ, List.getElem_cons_zero, List.setIfInBounds_toArray, List.set_cons_zero, List.set_cons_succ])
  refine wpLA_end ?_
  intro w2 hb
  have S2 := hid (S1.out.on hb)
  clear hb S1
  go_upto_region 3 with fail
  refine wpLA_start ?_
  refine wpLA_take (.slice A 32 c) (yG_val _ (by rfl) (fun w' _ => by (go_simp; try rfl))) ?_
  (try simp only [Act.put, List.getElem_toArray, List.getElem_cons_succ, List.getElem_cons_zero, List.setIfInBounds_toArray, List.set_cons_zero, List.set_cons_succ])
  refine wpLA_secr (.agg (sF s1)) PF (by rfl) (fun w' => by go_simp) (fun w' hb => KSE.out _ _ w' (HG.out.below (S2.out.on hb).below (Nat.le_refl _)) (HS.out.on6 ((S2.out.on hb).below))) ?_
  intro A3 c3 w3 hb hs
  have S3 : Hid (St w w3 [] [(A3, c3, bvs PF)]) := hid ((S2.out.on hb).more hs)
  clear hb hs S2
  (try simp only [Act.put, List.getElem_toArray, List.getElem_cons_succ, List.getElem_cons_zero, List.setIfInBounds_toArray, List.set_cons_zero, List.set_cons_succ])
  refine wpLA_take (.tuple #[(.agg (sF s1)), (.slice A3 32 c3)]) (yG_val _ (by rfl) (fun w' _ => by (go_simp; try rfl))) ?_
  (try simp only [Act.put, List.getElem_toArray, List.getElem_cons_succ, List.getElem_cons_zero, List.setIfInBounds_toArray, List.set_cons_zero, List.set_cons_succ])
  refine wpLA_take (.agg (sF s1)) (yG_val _ (by rfl) (fun w' _ => by (go_simp; try rfl))) ?_
  (try simp only [Act.put, List.getElem_toArray, List.getElem_cons_succ, List.getElem_cons_zero, List.setIfInBounds_toArray, List.set_cons_zero, List.set_cons_succ])
  refine wpLA_take (.slice A3 32 c3) (yG_val _ (by rfl) (fun w' _ => by (go_simp; try rfl))) ?_
  (try simp only [Act.put, List.getElem_toArray, List.getElem_cons_succ, List.getElem_cons_zero, List.setIfInBounds_toArray, List.set_cons_zero, List.set_cons_succ])
  refine wpLA_alloc (by rfl) rfl zeroS0 ?_
  intro p4 w4 hp hz hb
  have N4 := hid (S3.out.sq.far hp)
  have S4 : Hid (St w w4 [(p4, sF 0, ST)] [(A3, c3, bvs PF)]) := hid (S3.out.alloc hb hp hz)
  clear hp hz hb S3
  (try simp only [Act.put, List.getElem_toArray, List.getElem_cons_succ, List.getElem_cons_zero, List.setIfInBounds_toArray, List.set_cons_zero, List.set_cons_succ])
  refine wpLA_store rfl ST (.tmp 6) (.tmp 17) rfl p4 (sF s1) rfl rfl ST (sF 0) S4.out.cl.1 (infoSF s1) rfl (oneSF s1) ?_
  intro wx hb
  have S5 : Hid (St w (wx.setRow p4 (sF s1)) [(p4, sF s1, ST)] [(A3, c3, bvs PF)]) := hid ((S4.out.on hb).put 0 rfl N4.out)
  clear hb S4
  generalize wx.setRow p4 (sF s1) = w5 at S5 ⊢
  (try simp only [Act.put, List.getElem_toArray, List.getElem_cons_succ, List.getElem_cons_zero, List.setIfInBounds_toArray, List.set_cons_zero, List.set_cons_succ])
  refine wpLA_take (.slice A3 32 c3) (yG_val _ (by rfl) (fun w' _ => by (go_simp; try rfl))) ?_
  (try simp only [Act.put, List.getElem_toArray, List.getElem_cons_succ, List.getElem_cons_zero, List.setIfInBounds_toArray, List.set_cons_zero, List.set_cons_succ])
  refine wpLA_end ?_
  intro w6 hb
  have S6 := hid (S5.out.on hb)
  clear hb S5
  go_upto_region 4 with fail
  refine wpLA_start ?_
  refine wpLA_take (.slice A3 32 c3) (yG_val _ (by rfl) (fun w' _ => by (go_simp; try rfl))) ?_
  (try simp only [Act.put, List.getElem_toArray, List.getElem_cons_succ, List.getElem_cons_zero, List.setIfInBounds_toArray, List.set_cons_zero, List.set_cons_succ])
  refine wpLA_rows [(A3, PF, c3)] (n := 1) rfl (by (intro p hp; simp only [List.mem_cons, List.not_mem_nil, or_false] at hp; subst hp; exact (S6.out.sq.1))) (by rfl) 22 (fun w' => by (simp only [List.map_cons, List.map_nil, List.length_cons, List.length_nil, LPF.out]; go_simp; try rfl)) ?_
  intro g7 w7 hb hr
  have S7 : Hid (St w w7 [(p4, sF s1, ST)] [(A3, c3, bvs PF)]) := hid (S6.out.on hb)
  have R7 : Hid (Rows2' w7 w7.heap.size (some ⟨g7, 0, none⟩) [PF]) := hid hr
  clear hb hr S6
  (try simp only [Act.put, List.getElem_toArray, List.getElem_cons_succ, List.getElem_cons_zero, List.setIfInBounds_toArray, List.set_cons_zero, List.set_cons_succ])
  refine wpLA_take (.slice A' m c') (yG_val _ (by rfl) (fun w' _ => by (go_simp; try rfl))) ?_
  (try simp only [Act.put, List.getElem_toArray, List.getElem_cons_succ, List.getElem_cons_zero, List.setIfInBounds_toArray, List.set_cons_zero, List.set_cons_succ])
  refine wpLA_take (.agg (sF s2)) (yG_call (by rfl) (fun w' => by go_simp) (fun w' hb => KN1.out (some ⟨g7, 0, none⟩) 1 A' c' w' (HG.out.below (S7.out.on hb).below (Nat.le_refl _)) (rows_on R7.out hb) (rows_on HR.out (S7.out.on hb).below))) ?_
  (try simp only [Act.put, List.getElem_toArray, List.getElem_cons_succ, List.getElem_cons_zero, List.setIfInBounds_toArray, List.set_cons_zero, List.set_cons_succ])
  refine wpLA_alloc (by rfl) rfl zeroS0 ?_
  intro p8 w8 hp hz hb
  have N8 := hid (S7.out.sq.far hp)
  have S8 : Hid (St w w8 [(p8, sF 0, ST), (p4, sF s1, ST)] [(A3, c3, bvs PF)]) := hid (S7.out.alloc hb hp hz)
  clear hp hz hb S7
  (try simp only [Act.put, List.getElem_toArray, List.getElem_cons_succ, List.getElem_cons_zero, List.setIfInBounds_toArray, List.set_cons_zero, List.set_cons_succ])
  refine wpLA_store rfl ST (.tmp 8) (.tmp 22) rfl p8 (sF s2) rfl rfl ST (sF 0) S8.out.cl.1 (infoSF s2) rfl (oneSF s2) ?_
  intro wx hb
  have S9 : Hid (St w (wx.setRow p8 (sF s2)) [(p8, sF s2, ST), (p4, sF s1, ST)] [(A3, c3, bvs PF)]) := hid ((S8.out.on hb).put 0 rfl N8.out)
  clear hb S8
  generalize wx.setRow p8 (sF s2) = w9 at S9 ⊢
  (try simp only [Act.put, List.getElem_toArray, List.getElem_cons_succ, List.getElem_cons_zero, List.setIfInBounds_toArray, List.set_cons_zero, List.set_cons_succ])
  refine wpLA_end ?_
  intro w10 hb
  have S10 := hid (S9.out.on hb)
  clear hb S9
  go_upto_region 5 with fail
  refine wpLA_start ?_
  refine wpLA_take (.agg (sF s2)) (yG_part (by rfl) ST (.tmp 8) rfl p8 0 rfl ST (sF s2) (sF s2) (0, 0) _ S10.out.cl.1 (sF_all s2) Tryz.underlying62 rfl (infoSF s2)) ?_
  (try simp only [Act.put, List.getElem_toArray, List.getElem_cons_succ, List.getElem_cons_zero, List.setIfInBounds_toArray, List.set_cons_zero, List.set_cons_succ])
  refine wpLA_ownL PT0 LPT.out (by decide) (by rfl) (fun w' => by go_simp) (fun w' hb => KF2.out w') ?_
  intro g11 c11 cur11 w11 hp hz hb hf
  have F11 := hid hf
  have P11 : Hid (St w w11 [(g11, cur11, U8), (p8, sF s2, ST), (p4, sF s1, ST)] [(A3, c3, bvs PF)]) := hid (S10.out.alloc hb hp hz)
  have S11 : Hid (St w w11 [(g11, cur11, U8), (p8, sF s2, ST), (p4, sF s1, ST)] [((some ⟨g11, 0, none⟩), c11, bvs PT0), (A3, c3, bvs PF)]) := hid (P11.out.more (sq_of_row hz LPT.out hf))
  clear hp hz hb hf P11 S10
  (try simp only [Act.put, List.getElem_toArray, List.getElem_cons_succ, List.getElem_cons_zero, List.setIfInBounds_toArray, List.set_cons_zero, List.set_cons_succ])
  refine wpLA_take (.slice (some ⟨g11, 0, none⟩) 32 c11) (yG_val _ (by rfl) (fun w' _ => by (go_simp; try rfl))) ?_
  (try simp only [Act.put, List.getElem_toArray, List.getElem_cons_succ, List.getElem_cons_zero, List.setIfInBounds_toArray, List.set_cons_zero, List.set_cons_succ])
  refine wpLA_end ?_
  intro w12 hb
  have S12 := hid (S11.out.on hb)
  clear hb S11
  go_upto_region 6 with fail
  refine wpLA_start ?_
  refine wpLA_take (.slice (some ⟨g11, 0, none⟩) 32 c11) (yG_val _ (by rfl) (fun w' _ => by (go_simp; try rfl))) ?_
  (try simp only [Act.put, List.getElem_toArray, List.getElem_cons_succ, List.getElem_cons_zero, List.setIfInBounds_toArray, List.set_cons_zero, List.set_cons_succ])
  refine wpLA_take (.agg (sF s1)) (yG_part (by rfl) ST (.tmp 6) rfl p4 0 rfl ST (sF s1) (sF s1) (0, 0) _ S12.out.cl.2.2.1 (sF_all s1) Tryz.underlying62 rfl (infoSF s1)) ?_
  (try simp only [Act.put, List.getElem_toArray, List.getElem_cons_succ, List.getElem_cons_zero, List.setIfInBounds_toArray, List.set_cons_zero, List.set_cons_succ])
  refine wpLA_bytes (PB) (by rfl) (fun w' => by go_simp) (fun w' hb => KF1.out w') ?_
  intro A13 c13 w13 hb hs
  have S13 : Hid (St w w13 [(g11, cur11, U8), (p8, sF s2, ST), (p4, sF s1, ST)] [(A13, c13, bvs (PB)), ((some ⟨g11, 0, none⟩), c11, bvs PT0), (A3, c3, bvs PF)]) := hid ((S12.out.on hb).more hs)
  clear hb hs S12
  (try simp only [Act.put, List.getElem_toArray, List.getElem_cons_succ, List.getElem_cons_zero, List.setIfInBounds_toArray, List.set_cons_zero, List.set_cons_succ])
  refine wpLA_rows [((some ⟨g11, 0, none⟩), PT0, c11), (A13, PB, c13)] (n := 2) rfl (by (intro p hp; simp only [List.mem_cons, List.not_mem_nil, or_false] at hp; rcases hp with rfl | rfl <;> first | exact (S13.out.sq.2.1) | exact (S13.out.sq.1))) (by rfl) 22 (fun w' => by (simp only [List.map_cons, List.map_nil, List.length_cons, List.length_nil, LPT.out, LPB.out]; go_simp; try rfl)) ?_
  intro g14 w14 hb hr
  have S14 : Hid (St w w14 [(g11, cur11, U8), (p8, sF s2, ST), (p4, sF s1, ST)] [(A13, c13, bvs (PB)), ((some ⟨g11, 0, none⟩), c11, bvs PT0), (A3, c3, bvs PF)]) := hid (S13.out.on hb)
  have R14 : Hid (Rows2' w14 w14.heap.size (some ⟨g14, 0, none⟩) [PT0, PB]) := hid hr
  clear hb hr S13
  (try simp only [Act.put, List.getElem_toArray, List.getElem_cons_succ, List.getElem_cons_zero, List.setIfInBounds_toArray, List.set_cons_zero, List.set_cons_succ])
  refine wpLA_take (.slice A' m c') (yG_val _ (by rfl) (fun w' _ => by (go_simp; try rfl))) ?_
  (try simp only [Act.put, List.getElem_toArray, List.getElem_cons_succ, List.getElem_cons_zero, List.setIfInBounds_toArray, List.set_cons_zero, List.set_cons_succ])
  refine wpLA_take (.agg (sF s3)) (yG_call (by rfl) (fun w' => by go_simp) (fun w' hb => KN2.out (some ⟨g14, 0, none⟩) 2 A' c' w' (HG.out.below (S14.out.on hb).below (Nat.le_refl _)) (rows_on R14.out hb) (rows_on HR.out (S14.out.on hb).below))) ?_
  (try simp only [Act.put, List.getElem_toArray, List.getElem_cons_succ, List.getElem_cons_zero, List.setIfInBounds_toArray, List.set_cons_zero, List.set_cons_succ])
  refine wpLA_alloc (by rfl) rfl zeroS0 ?_
  intro p15 w15 hp hz hb
  have N15 := hid (S14.out.sq.far hp)
  have S15 : Hid (St w w15 [(p15, sF 0, ST), (g11, cur11, U8), (p8, sF s2, ST), (p4, sF s1, ST)] [(A13, c13, bvs (PB)), ((some ⟨g11, 0, none⟩), c11, bvs PT0), (A3, c3, bvs PF)]) := hid (S14.out.alloc hb hp hz)
  clear hp hz hb S14
  (try simp only [Act.put, List.getElem_toArray, List.getElem_cons_succ, List.getElem_cons_zero, List.setIfInBounds_toArray, List.set_cons_zero, List.set_cons_succ])
  refine wpLA_store rfl ST (.tmp 10) (.tmp 30) rfl p15 (sF s3) rfl rfl ST (sF 0) S15.out.cl.1 (infoSF s3) rfl (oneSF s3) ?_
  intro wx hb
  have S16 : Hid (St w (wx.setRow p15 (sF s3)) [(p15, sF s3, ST), (g11, cur11, U8), (p8, sF s2, ST), (p4, sF s1, ST)] [(A13, c13, bvs (PB)), ((some ⟨g11, 0, none⟩), c11, bvs PT0), (A3, c3, bvs PF)]) := hid ((S15.out.on hb).put 0 rfl N15.out)
  clear hb S15
  generalize wx.setRow p15 (sF s3) = w16 at S16 ⊢
  (try simp only [Act.put, List.getElem_toArray, List.getElem_cons_succ, List.getElem_cons_zero, List.setIfInBounds_toArray, List.set_cons_zero, List.set_cons_succ])
  refine wpLA_end ?_
  intro w17 hb
  have S17 := hid (S16.out.on hb)
  clear hb S16
  go_upto_region 7 with fail
  refine wp_region_grA 7 (by kernel_rfl) (by decide) ?_
  refine wpGrA_take (i := 0) (.slice (some ⟨g11, 0, none⟩) 32 c11) rfl (by kernel_rfl) (by kernel_rfl) (fun _ _ _ h => h) (yG_val _ (by rfl) (fun w' _ => by (go_simp; try rfl))) ?_
  (try simp only [Act.put, List.getElem_toArray, List.getElem_cons_succ, List.getElem_cons_zero, List.setIfInBounds_toArray, List.set_cons_zero, List.set_cons_succ])
  refine wpGrA_take (i := 1) (.agg (sF s2)) rfl (by kernel_rfl) (by kernel_rfl) (fun _ _ _ h => h) (yG_part (by rfl) ST (.tmp 8) rfl p8 0 rfl ST (sF s2) (sF s2) (0, 0) _ S17.out.cl.2.2.1 (sF_all s2) Tryz.underlying62 rfl (infoSF s2)) ?_
  (try simp only [Act.put, List.getElem_toArray, List.getElem_cons_succ, List.getElem_cons_zero, List.setIfInBounds_toArray, List.set_cons_zero, List.set_cons_succ])
  refine wpGrA_take (i := 2) (.agg (sF s3)) rfl (by kernel_rfl) (by kernel_rfl) (fun _ _ _ h => h) (yG_part (by rfl) ST (.tmp 10) rfl p15 0 rfl ST (sF s3) (sF s3) (0, 0) _ S17.out.cl.1 (sF_all s3) Tryz.underlying62 rfl (infoSF s3)) ?_
  (try simp only [Act.put, List.getElem_toArray, List.getElem_cons_succ, List.getElem_cons_zero, List.setIfInBounds_toArray, List.set_cons_zero, List.set_cons_succ])
  refine wpGrA_take (i := 3) (.agg (sF s1)) rfl (by kernel_rfl) (by kernel_rfl) (fun _ _ _ h => h) (yG_part (by rfl) ST (.tmp 6) rfl p4 0 rfl ST (sF s1) (sF s1) (0, 0) _ S17.out.cl.2.2.2.1 (sF_all s1) Tryz.underlying62 rfl (infoSF s1)) ?_
  (try simp only [Act.put, List.getElem_toArray, List.getElem_cons_succ, List.getElem_cons_zero, List.setIfInBounds_toArray, List.set_cons_zero, List.set_cons_succ])
  refine wpGrA_take (i := 4) (.agg (sF s4)) rfl (by kernel_rfl) (by kernel_rfl) (fun _ _ _ h => h) (yG_call (by rfl) (fun w' => by go_simp) (fun w' hb => KMU.out w')) ?_
  (try simp only [Act.put, List.getElem_toArray, List.getElem_cons_succ, List.getElem_cons_zero, List.setIfInBounds_toArray, List.set_cons_zero, List.set_cons_succ])
  refine wpGrA_take (i := 5) (.agg (sF s5)) rfl (by kernel_rfl) (by kernel_rfl) (fun _ _ _ h => h) (yG_call (by rfl) (fun w' => by go_simp) (fun w' hb => KAD.out w')) ?_
  (try simp only [Act.put, List.getElem_toArray, List.getElem_cons_succ, List.getElem_cons_zero, List.setIfInBounds_toArray, List.set_cons_zero, List.set_cons_succ])
  refine wpGrA_bytes (i := 6) (SB) rfl (by kernel_rfl) (by rfl) (fun w' => by go_simp) (fun w' hb => KBY.out w') ?_
  intro A18 c18 w18 hb hs
  have S18 : Hid (St w w18 [(p15, sF s3, ST), (g11, cur11, U8), (p8, sF s2, ST), (p4, sF s1, ST)] [(A18, c18, bvs (SB)), (A13, c13, bvs (PB)), ((some ⟨g11, 0, none⟩), c11, bvs PT0), (A3, c3, bvs PF)]) := hid ((S17.out.on hb).more hs)
  clear hb hs S17
  (try simp only [Act.put, List.getElem_toArray, List.getElem_cons_succ, List.getElem_cons_zero, List.setIfInBounds_toArray, List.set_cons_zero, List.set_cons_succ])
  refine wpGrA_end (by kernel_rfl) ?_
  intro w19 hb
  have S19 := hid (S18.out.on hb)
  clear hb S18
  refine wpLA_here ?_
  have HO := own_of_row S19.out.cl.2.1 (S19.out.own _ (by simp)) LPT.out F11.out
  refine wpLA_append (B := w.heap.size) (v := (.slice (some ⟨g11, 0, none⟩) 32 c11)) (xs := PT0) (ys := SB) (zs := SIG) HSIG.out (by rfl) _ _ _ rfl Tryz.underlying22 infoU8 rfl HO (m := SB.length) rfl rfl S19.out.sq.1 (by rw [LPT.out, LSB.out]; decide) S19.out.below.size ?_
  intro A20 c20 w20 ho hb
  have HB1 := hid (S19.out.below.trans hb)
  have HO1 := hid ho
  clear ho hb HO S19
  (try simp only [Act.put, List.getElem_toArray, List.getElem_cons_succ, List.getElem_cons_zero, List.setIfInBounds_toArray, List.set_cons_zero, List.set_cons_succ])
  refine wpLA_take (.slice A20 (SIG.length) c20) (yG_val _ (by rfl) (fun w' _ => by (go_simp; try rfl))) ?_
  (try simp only [Act.put, List.getElem_toArray, List.getElem_cons_succ, List.getElem_cons_zero, List.setIfInBounds_toArray, List.set_cons_zero, List.set_cons_succ])
  refine wpLA_take (.int .u8 0) (yG_val _ (by rfl) (fun w' _ => by (go_simp; try rfl))) ?_
  (try simp only [Act.put, List.getElem_toArray, List.getElem_cons_succ, List.getElem_cons_zero, List.setIfInBounds_toArray, List.set_cons_zero, List.set_cons_succ])
  refine wpLA_end ?_
  intro wE hb
  have HBE := HB1.out.trans (hb.mono HB1.out.size)
  have HOE := ownB_on HO1.out hb
  go_wp2_with fail
  exact bodyPost_ret (v := .tuple #[(.slice A20 (SIG.length) c20), .int .u8 0]) (by simp [results, Tryz.results23]) rfl ⟨_, _, rfl, ownB_sq HOE, HBE⟩
end Go.Proofs.YtgehfbcagaaggaaGreatDoor
end
