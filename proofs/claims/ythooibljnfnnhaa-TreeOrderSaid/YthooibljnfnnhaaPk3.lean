/-
  Texts of this claim in one file: Ref14a, Ref14c.
-/
import Derived.Test.YthooibljnfnnhaaPk1
import Derived.Test.YthooibljnfnnhaaPk2
import Derived.Test.YthooibljnfnnhaaPk26
import Derived.Test.YthooibljnfnnhaaPk4
section
namespace Go.Proofs.Ythooibljnfnnhaa
open Go Go.RowKit
set_option linter.unusedVariables false
set_option linter.unusedSimpArgs false
/-- Numbers of leaves. -/
def fitB (n : Int) : Bool := (List.range 17).any fun h => n == ((2 ^ h : Nat) : Int)
theorem fitB_iff (n : Int) : fitB n = true ↔ ∃ h, h ≤ 16 ∧ n = ((2 ^ h : Nat) : Int) := by
  unfold fitB
  rw [List.any_eq_true]
  constructor
  · rintro ⟨h, h1, h2⟩
    exact ⟨h, by have := List.mem_range.1 h1; omega, by simpa using h2⟩
  · rintro ⟨h, h1, h2⟩
    exact ⟨h, List.mem_range.2 (by omega), by simpa using h2⟩
theorem fitB_pow {h : Nat} (hh : h ≤ 16) : fitB ((2 ^ h : Nat) : Int) = true := (fitB_iff _).2 ⟨h, hh, rfl⟩
theorem pow_le16 {h : Nat} (hh : h ≤ 16) : 2 ^ h ≤ 65536 := Nat.pow_le_pow_right (by decide) hh
theorem wrap64_in {x : Int} (h1 : -1000000000 ≤ x) (h2 : x ≤ 1000000000) : wrap64 x = x := by unfold wrap64; omega
/-- A node's three cells; those of many. -/
def tri (p : Nat × Nat) : List Value := [.int .i64 (nd p.1 p.2 : Int), .int .i64 (loN p.1 p.2 : Int), .int .i64 (hiN p.1 p.2 : Int)]
/-- Nodes that lie: a slice's address, and its cells. -/
def LieT (w : World) (b c : Nat) (L : List (Nat × Nat)) : Prop := b < w.heap.size ∧ L.length ≤ c ∧ c ≤ 9223372036854775807 ∧ ∀ i p, L[i]? = some p → ∀ j u, (tri p)[j]? = some u → w.cell? ⟨b, i * 3 + j, none⟩ = some u
theorem LieT.on {w w' : World} {b c : Nat} {L : List (Nat × Nat)} (h : LieT w b c L) (hb : Below w.heap.size w w') : LieT w' b c L :=
  ⟨Nat.lt_of_lt_of_le h.1 hb.size, h.2.1, h.2.2.1, fun i p hp j u hu => (hb.cell (p := ⟨b, i * 3 + j, none⟩) h.1).trans (h.2.2.2 i p hp j u hu)⟩
/-- A node of a tree of n leaves. -/
def inT (x n : Int) : Prop := ∃ q l k : Nat, q < 2 ^ k ∧ l + k ≤ 16 ∧ x = ((nd q l : Nat) : Int) ∧ n = ((2 ^ (l + k) : Nat) : Int)
theorem inT_of {x n : Int} (hn : fitB n = true) (h0 : 0 ≤ x) (h1 : x ≤ 2 * n - 2) : inT x n := by
  obtain ⟨h, hh, rfl⟩ := (fitB_iff n).1 hn
  obtain ⟨y, rfl⟩ := Int.eq_ofNat_of_zero_le h0
  have hp := Nat.one_le_two_pow (n := h)
  obtain ⟨h2, h3⟩ := in_tree (x := y) (h := h) |>.1 (by omega)
  refine ⟨qt y, lv y, h - lv y, h3, by omega, by rw [nd_of], ?_⟩
  rw [show lv y + (h - lv y) = h by omega]
theorem inT_fit {x n : Int} (h : inT x n) : fitB n = true ∧ 0 ≤ x ∧ x ≤ 2 * n - 2 := by
  obtain ⟨q, l, k, hq, hk, rfl, rfl⟩ := h
  have h1 := hi_bound (l := l) hq
  have h2 := le_hi q l
  exact ⟨fitB_pow hk, by omega, by omega⟩
theorem LieT.cells {w : World} {b c : Nat} {L : List (Nat × Nat)} (h : LieT w b c L) {i : Nat} {p : Nat × Nat} (hi : L[i]? = some p) :
    w.cell? ⟨b, i * 3, none⟩ = some (.int .i64 (nd p.1 p.2 : Int)) ∧ w.cell? ⟨b, i * 3 + 1, none⟩ = some (.int .i64 (loN p.1 p.2 : Int)) ∧ w.cell? ⟨b, i * 3 + 2, none⟩ = some (.int .i64 (hiN p.1 p.2 : Int)) :=
  ⟨h.2.2.2 i p hi 0 _ rfl, h.2.2.2 i p hi 1 _ rfl, h.2.2.2 i p hi 2 _ rfl⟩
abbrev z3 : Array Value := #[.int .i64 0, .int .i64 0, .int .i64 0]
theorem below_put (w : World) {B : Nat} (g : Nat) (cs : Array Value) (hg : B ≤ g) : Below B w (w.setRow g cs) := ⟨rfl, rfl, rfl, by simp, fun k hk => setRow_other _ _ _ _ (by omega)⟩
end Go.Proofs.Ythooibljnfnnhaa
end
section
namespace Go.Proofs.Ythooibljnfnnhaa
open Go Go.RowKit
set_option linter.unusedVariables false
set_option linter.unusedSimpArgs false
theorem take_snoc {L : List Nat} {j x : Nat} (h : L[j]? = some x) : L.take j ++ [x] = L.take (j + 1) := by
  obtain ⟨h1, h2⟩ := List.getElem?_eq_some_iff.1 h
  rw [List.take_succ_eq_append_getElem h1, h2]
theorem own_base0 {w : World} {B B' : Nat} {v : Value} {xs : List Nat} (h : OwnI w B' v xs) (hB : B ≤ B') : OwnI w B v xs := by
  obtain ⟨h1, h2⟩ := h
  refine ⟨h1, ?_⟩
  rcases h2 with h2 | ⟨g, cap, cur, hv, hb, r⟩
  · exact .inl h2
  · exact .inr ⟨g, cap, cur, hv, Nat.le_trans hB hb, r⟩
theorem own_onI {w w' : World} {B : Nat} {v : Value} {xs : List Nat} (h : OwnI w B v xs) (hb : Below w.heap.size w w') : OwnI w' B v xs :=
  World.ownsRow.kept (row := none) h ⟨hb.os, hb.tape, hb.output, hb.size, fun k hk _ => hb.block k hk⟩ (by cases hv : v.ownBlock <;> simp)
/-- Numbers, in memory of the call's own. -/
def OwnLn (w : World) (xs : List Nat) (e : Ending) (w' : World) : Prop := ∃ v, e = .returned v ∧ OwnI w' w.heap.size v xs ∧ Below w.heap.size w w'
theorem Lie.numI {w : World} {B : Nat} {A : Option Addr} {xs : List Nat} (h : Lie w B A (ivs xs)) {k : Nat} (hk : k < xs.length) : ∃ b o, A = some ⟨b, o, none⟩ ∧ b < B ∧ w.cell? ⟨b, o + k, none⟩ = some (.int .i64 (xs[k] : Int)) := by
  obtain ⟨b, o, hA, hb, hc⟩ := h.at_ (k := k) (by simpa using hk)
  exact ⟨b, o, hA, hb, by rw [hc]; simp [ivs]⟩
set_option maxHeartbeats 800000 in
theorem Same14_any (A : Option Addr) (xs : List Nat) (c : Nat) (A' : Option Addr) (ys : List Nat) (c' : Nat) (w : World) (B B' : Nat) (hA : Lie w B A (ivs xs)) (hA' : Lie w B' A' (ivs ys)) (hm : xs.length ≤ 140737488355328) :
    Calls Try.prog 15 #[.slice A xs.length c, .slice A' ys.length c'] w fun e w' => e = .returned (.bool (xs == ys)) ∧ ∃ n, w' = w.drewN n := by
  by_cases hl : xs.length = ys.length
  · have hl2 : ((xs.length : Int) != (ys.length : Int)) = false := by simp [hl]
    have HL := hid hl
    clear hl
    go_enter Try.func15, Try.ntmps15
    go_wp2
    go_loopg [5] xs.length (fun g i wr => ∃ k n : Nat, k + g = xs.length ∧ i = .int .i64 (k : Int) ∧ xs.take k = ys.take k ∧ wr = w.drewN n)
    case atStart => exact ⟨0, 0, by omega, rfl, rfl, rfl⟩
    case round =>
      obtain ⟨k, n, hk, rfl, ht, rfl⟩ := hrel
      have HT := hid ht
      have HK := hid hk
      clear ht hk
      by_cases hlt : k < xs.length
      · have hlt2 : k < ys.length := by rw [← HL.out]; exact hlt
        obtain ⟨b, o, rfl, hb, hc⟩ := hA.numI hlt
        obtain ⟨b', o', rfl, hb', hc'⟩ := hA'.numI hlt2
        have hx : (k : Int) < (xs.length : Int) := by omega
        have hy : (k : Int) < (ys.length : Int) := by omega
        have h0 : (0 : Int) ≤ (k : Int) := by omega
        have hstep := hid (take_eq_step xs ys k hlt hlt2 HT.out)
        by_cases he : xs[k] = ys[k]
        · have he2 : ((xs[k] : Int) != (ys[k] : Int)) = false := by simp [he]
          have HE := hid he
          clear he
          go_wp2
          go_quiet (fail)
          go_wp2
          have hk := HK.out
          go_roundg (gk - 1)
          case measure => omega
          case rel => exact ⟨k + 1, _, by omega, by go_num, hstep.out.2 HE.out, rfl⟩
        · have he2 : ((xs[k] : Int) != (ys[k] : Int)) = true := by rw [bne_iff_ne]; omega
          have HE := hid he
          have HF : Hid ((xs == ys) = false) := hid (by
            rw [beq_eq_false_iff_ne]
            intro e
            subst e
            exact he rfl)
          clear he
          go_wp2
          go_quiet (fail)
          go_wp2
          go_ret
          exact ⟨by rw [HF.out]; rfl, _, World.drewN_drewN _ _ _⟩
      · have hk := HK.out
        obtain rfl : k = xs.length := by omega
        have HF : Hid ((xs == ys) = true) := hid (by
          have h := HT.out
          rw [List.take_length, HL.out, List.take_length] at h
          rw [beq_iff_eq]; exact h)
        clear hk
        go_wp2
        go_ret
        exact ⟨by rw [HF.out]; rfl, _, rfl⟩
  · have hl2 : ((xs.length : Int) != (ys.length : Int)) = true := by rw [bne_iff_ne]; omega
    have HF : Hid ((xs == ys) = false) := hid (by
      rw [beq_eq_false_iff_ne]
      intro e
      subst e
      exact hl rfl)
    clear hl
    go_enter Try.func15, Try.ntmps15
    go_wp2
    go_ret
    exact ⟨by rw [HF.out]; rfl, 0, rfl⟩
end Go.Proofs.Ythooibljnfnnhaa
end
