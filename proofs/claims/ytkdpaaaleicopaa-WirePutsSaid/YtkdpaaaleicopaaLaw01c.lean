/-
  The statements of layer 1: an item put.
-/
import Derived.Test.YtkdpaaaleicopaaLaw01b
namespace Go.Proofs.Ytkdpaaaleicopaa
open Go.RowKit
set_option linter.unusedVariables false
set_option linter.unusedSimpArgs false

/-- An item by value. -/
def itV (x : It) (A1 : Option Addr) (c1 : Nat) (A2 : Option Addr) (c2 : Nat) : Value :=
  .agg #[.int .i64 x.kind, .int .i64 x.size, .int .u64 (x.n : Int), .slice A1 x.v.length c1, .slice A2 x.l.length c2]

/-- The bytes of an item. -/
def putB (x : It) : List UInt8 :=
  if x.kind = 0 then beBytes x.size.toNat x.n
  else if x.kind = 1 then vecBytes x.v
  else if x.kind = 2 then vecBytes (joinVecs x.l)
  else if x.kind = 3 then beBytes 1 (if 0 < x.n then 1 else 0)
  else x.v

def sizeOk (x : It) : Prop := x.kind = 0 → x.size = 1 ∨ x.size = 2 ∨ x.size = 4 ∨ x.size = 8

theorem total_bound (l : List (List UInt8)) (h : farLists l = false) (hl : l.length ≤ 20) : total l ≤ 20 * 204 := by
  have key : ∀ (l : List (List UInt8)), farLists l = false → total l ≤ l.length * 204 := by
    intro l
    induction l with
    | nil => intro _; simp [total]
    | cons x l ih =>
      intro h
      simp only [farLists, List.any_cons, Bool.or_eq_false_iff, decide_eq_false_iff_not] at h
      have := ih h.2
      have h3 := lenSize_le x.length
      simp only [total, List.length_cons]
      omega
  have := key l h
  omega

/-- A new slice without elements. -/
theorem ownsRow_empty (W : World) (e : TypeId) {k base : Nat} (h : W.heap.size = k) (hb : base ≤ k) : (W.alloc (.cells #[] e)).ownsRow base e 1 (.slice (some ⟨k, 0, none⟩) 0 0) 0 [] := by
  subst h
  exact World.ownsRow_lit W #[] 0 hb (by simp) rfl

set_option maxHeartbeats 3200000 in
theorem put_any (A : Option Addr) (xs : List UInt8) (c : Nat) (x : It) (A1 : Option Addr) (c1 : Nat) (A2 : Option Addr) (c2 : Nat) (w : World) (hA : Lie w w.heap.size A (bvs xs)) (hb : xs.length ≤ 1048576)
    (h1 : Lie w w.heap.size A1 (bvs x.v)) (h2 : Rows2 w w.heap.size A2 x.l) (hf : farIt x = false) (hs : sizeOk x) (hn : x.n < 18446744073709551616) :
    Calls Try.prog 8 #[.slice A xs.length c, itV x A1 c1 A2 c2] w fun e w' => ∃ v, e = .returned v ∧ OwnB w' w.heap.size v (xs ++ putB x) ∧ Below w.heap.size w w' := by
  obtain ⟨kind, size, n, v, l⟩ := x
  simp only [farIt, farHead, Bool.or_eq_false_iff, decide_eq_false_iff_not, sizeOk] at hf hs hn h1 h2
  obtain ⟨⟨⟨⟨k0, k4⟩, hv⟩, hl⟩, hll⟩ := hf
  have ht := total_bound l hll (by omega)
  have HA := hid hA; have H1 := hid h1; have H2 := hid h2
  clear hll hA h1 h2
  simp only [itV]
  have hG : ∀ cs : Array Value, Below w.heap.size w (w.alloc (.cells cs 29)) := fun cs => (Below.refl _ _).alloc (Nat.le_refl _) _
  have HG := hid hG
  clear hG
  have k5 : kind = 0 ∨ kind = 1 ∨ kind = 2 ∨ kind = 3 ∨ kind = 4 := by omega
  rcases k5 with rfl | rfl | rfl | rfl | rfl
  · have hp : Hid (putB ⟨0, size, n, v, l⟩ = beBytes size.toNat n) := hid (by simp [putB])
    have hs' := hs rfl
    obtain ⟨s, rfl⟩ : ∃ s : Nat, size = (s : Int) := ⟨size.toNat, by omega⟩
    rw [hp.out, Int.toNat_natCast]
    clear hs hp
    go_enter Try.func8, Try.ntmps8
    go_wp2_with fail
    refine (PutNum_ok A xs c s n _ (by omega) hn ((HA.out.alloc (Nat.le_refl _) _).more (by simp)) (by omega)).mono ?_
    rintro e w1 ⟨v1, rfl, ho, hbl⟩
    go_wp2
    go_ret
    exact ⟨v1, rfl, own_base ho (by simp), (HG.out _).trans (hbl.mono (by simp))⟩
  · have hp : Hid (putB ⟨1, size, n, v, l⟩ = vecBytes v) := hid (by simp [putB])
    rw [hp.out]
    clear hs hp
    go_enter Try.func8, Try.ntmps8
    go_wp2_with fail
    refine (PutVec_ok A xs c A1 v c1 _ (by omega) ((HA.out.alloc (Nat.le_refl _) _).more (by simp)) ((H1.out.alloc (Nat.le_refl _) _).more (by simp)) (by omega)).mono ?_
    rintro e w1 ⟨v1, rfl, ho, hbl⟩
    go_wp2
    go_ret
    exact ⟨v1, rfl, own_base ho (by simp), (HG.out _).trans (hbl.mono (by simp))⟩
  · have hp : Hid (putB ⟨2, size, n, v, l⟩ = vecBytes (joinVecs l)) := hid (by simp [putB])
    rw [hp.out]
    clear hs hp
    go_enter Try.func8, Try.ntmps8
    go_wp2_with fail
    refine (PutList_ok A xs c A2 l c2 _ (by omega) (by omega) ((HA.out.alloc (Nat.le_refl _) _).more (by simp)) ((H2.out.below (HG.out _)).more (by simp)) (by omega)).mono ?_
    rintro e w1 ⟨v1, rfl, ho, hbl⟩
    go_wp2
    go_ret
    exact ⟨v1, rfl, own_base ho (by simp), (HG.out _).trans (hbl.mono (by simp))⟩
  · by_cases hn0 : 0 < n
    · have hp : Hid (putB ⟨3, size, n, v, l⟩ = beBytes 1 1) := hid (by simp [putB, hn0])
      rw [hp.out]
      clear hs hp
      go_enter Try.func8, Try.ntmps8
      go_wp2_with fail
      refine (PutNum_ok A xs c 1 1 _ (by omega) (by omega) ((HA.out.alloc (Nat.le_refl _) _).more (by simp)) (by omega)).mono ?_
      rintro e w1 ⟨v1, rfl, ho, hbl⟩
      go_wp2
      go_ret
      exact ⟨v1, rfl, own_base ho (by simp), (HG.out _).trans (hbl.mono (by simp))⟩
    · have hp : Hid (putB ⟨3, size, n, v, l⟩ = beBytes 1 0) := hid (by simp [putB, hn0])
      rw [hp.out]
      clear hs hp
      go_enter Try.func8, Try.ntmps8
      go_wp2_with fail
      refine (PutNum_ok A xs c 1 0 _ (by omega) (by omega) ((HA.out.alloc (Nat.le_refl _) _).more (by simp)) (by omega)).mono ?_
      rintro e w1 ⟨v1, rfl, ho, hbl⟩
      go_wp2
      go_ret
      exact ⟨v1, rfl, own_base ho (by simp), (HG.out _).trans (hbl.mono (by simp))⟩
  · have hp : Hid (putB ⟨4, size, n, v, l⟩ = v) := hid (by simp [putB])
    rw [hp.out]
    clear hs hp
    go_enter Try.func8, Try.ntmps8
    go_wp2_with fail
    go_region_held3 (fun w' => w'.cell? ⟨w.heap.size, 3, none⟩ = some (.slice A1 v.length c1))
      (first | go_keep | (rw [hg1.cell_far _ (by simp <;> omega) (by simp [Value.ownBlock])]; go_keep) | (rw [hg2.cell_far _ (by have := hg1.size; simp at this ⊢ <;> omega) (by intro h; have := own_lt hown1 _ h.symm; simp at this <;> omega)]; assumption))
      ((first
        | (refine step_append_lie (by rfl) (.tmp 36) (.tmp 37) _ (by rfl) (w.heap.size + 1) 5 (.int .u8 0) 1 Try.underlying22 infoU8 rfl (by rfl) (World.ownsRow.drew (ownsRow_empty _ _ (k := w.heap.size + 1) (by simp) (by omega))) (bvs_length xs) (by rfl) ((HA.out.alloc (Nat.le_refl _) _).alloc (by simp) _).drew (bvs_one xs) (by unfold maxLen; omega) (by omega) (by simp <;> omega) ?_; intro v1 w1 hown1 hg1 hat1)
        | (refine step_append_lie (by rfl) (.tmp 38) (.tmp 40) _ (by rfl) (w.heap.size + 1) 5 (.int .u8 0) 1 Try.underlying22 infoU8 rfl (by rfl) hown1 (bvs_length v) (by rfl) (((H1.out.alloc (Nat.le_refl _) _).alloc (by simp) _).drew.grown hg1 (by simp <;> omega) (by intro g h; injection h with h; simp at h <;> omega)) (bvs_one v) (by unfold maxLen; omega) (by omega) (by have := hg1.size; simp at this <;> omega) ?_; intro v2 w2 hown2 hg2 hat2)))
    go_wp2
    go_ret
    refine ⟨v2, rfl, ?_, ?_⟩
    · refine own_base (B' := w.heap.size + 1) ?_ (by omega)
      simpa [OwnB, bvs_append] using hown2
    · have h1 : Below w.heap.size w w1 := (((HG.out _).alloc (by simp) _).drew).grown hg1 (by simp <;> omega) (by intro g h; injection h with h; simp at h <;> omega)
      exact h1.grown hg2 h1.size (fun k h => by have := own_lt hown1 k h; omega)
end Go.Proofs.Ytkdpaaaleicopaa
