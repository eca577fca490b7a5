/-
  Package wire, the taking side, part 4: lists and flags.
-/
import Derived.Test.YtkdpaaaleicopaaWire7
namespace Go.Proofs.Ytkdpaaaleicopaa
open Go.RowKit
set_option linter.unusedVariables false
set_option linter.unusedSimpArgs false

/-- The vectors of which bytes are just made, if they are. -/
def vecsAt : Nat → List UInt8 → Option (List (List UInt8))
  | _, [] => some []
  | 0, _ :: _ => none
  | f + 1, x :: l => if (vecAt (x :: l)).2.2 ≠ 0 then none else (vecsAt f (vecAt (x :: l)).2.1).map ((vecAt (x :: l)).1 :: ·)
/-- A list at the head of bytes. -/
def listAt (xs : List UInt8) : List (List UInt8) × List UInt8 × Nat :=
  if (vecAt xs).2.2 ≠ 0 then ([], (vecAt xs).2.1, (vecAt xs).2.2)
  else match vecsAt (vecAt xs).1.length (vecAt xs).1 with
    | some l => (l, (vecAt xs).2.1, 0)
    | none => ([], xs, 3)

theorem lenAt_pos (xs : List UInt8) (h : (lenAt xs).2.2 = 0) : 1 ≤ (lenAt xs).2.1 := by
  rcases xs with _ | ⟨x, l⟩
  · simp [lenAt] at h
  · revert h
    simp only [lenAt]
    repeat' split
    all_goals simp
theorem vecAt_ok (xs : List UInt8) (h : (vecAt xs).2.2 = 0) : (vecAt xs).2.1.length + (vecAt xs).1.length + 1 ≤ xs.length := by
  unfold vecAt at h ⊢
  split at h
  · exact absurd h ‹_›
  · rename_i h0
    split at h
    · simp at h
    · rename_i h1
      rw [if_neg h0, if_neg h1]
      have := lenAt_pos xs (by simpa using h0)
      simp only [List.length_drop, List.length_take]
      omega
theorem vecAt_err (xs : List UInt8) : (vecAt xs).2.2 ≤ 4 := by
  have := (lenAt_bounds xs).2.2.2
  unfold vecAt
  split
  · exact this
  · split <;> simp
theorem vecAt_bad (xs : List UInt8) (h : (vecAt xs).2.2 ≠ 0) : (vecAt xs).1 = [] ∧ (vecAt xs).2.1 = xs := by
  unfold vecAt at h ⊢
  split at h
  · rename_i h0
    rw [if_pos h0]
    exact ⟨rfl, rfl⟩
  · rename_i h0
    split at h
    · rename_i h1
      rw [if_neg h0, if_pos h1]
      exact ⟨rfl, rfl⟩
    · simp at h

theorem own_ne {w : World} {B B' : Nat} {e e' : TypeId} {s s' n n' : Nat} {v v' : Value} {xs xs' : List Value} (h : w.ownsRow B e s v n xs) (h' : w.ownsRow B' e' s' v' n' xs') (hne : e ≠ e') : v.ownBlock = none ∨ v.ownBlock ≠ v'.ownBlock := by
  rcases h.2 with ⟨rfl, _⟩ | ⟨g, cap, cur, rfl, _, hg, _⟩
  · exact .inl rfl
  · refine .inr fun he => ?_
    rcases h'.2 with ⟨rfl, _⟩ | ⟨g', cap', cur', rfl, _, hg', _⟩
    · simp [Value.ownBlock] at he
    · simp only [Value.ownBlock, Option.some.injEq] at he
      subst he
      rw [hg] at hg'
      injection hg' with hg'
      injection hg' with _ ht
      exact hne ht

theorem infoSU8 : (Try.prog.info? 22).map (fun i => (i.zero, i.size, i.bytes)) = some (some (.slice none 0 0), 1, 24) := by kernel_rfl

/-- The call owns the slice v of byte slices that read as ls, each of them the call's own, too. -/
def OwnL (w : World) (B : Nat) (v : Value) (ls : List (List UInt8)) : Prop :=
  ∃ vs : List Value, w.ownsRow B 22 1 v ls.length vs ∧ ∀ (j : Nat) (x : List UInt8), ls[j]? = some x → ∃ u, vs[j]? = some u ∧ OwnB w B u x

theorem OwnL.nil (w : World) (B : Nat) : OwnL w B (.slice none 0 0) [] := ⟨[], World.ownsRow_nil _ _ _ _, fun j x h => by simp at h⟩
theorem OwnL.kept {w w' : World} {B : Nat} {v : Value} {ls : List (List UInt8)} {row : Option Nat} (h : OwnL w B v ls) (hg : w.grownBy w' row) (hr : ∀ k, row = some k → k < B) : OwnL w' B v ls := by
  have hk : ∀ (u : Value), (∀ k, u.ownBlock = some k → B ≤ k) → u.ownBlock = none ∨ u.ownBlock ≠ row := by
    intro u hu
    rcases hb : u.ownBlock with _ | k
    · exact .inl rfl
    · exact .inr fun e => by have := hu k hb; have := hr k e.symm; omega
  obtain ⟨vs, h1, h2⟩ := h
  refine ⟨vs, h1.kept hg (hk _ (own_lt h1)), fun j x hx => ?_⟩
  obtain ⟨u, hu, ho⟩ := h2 j x hx
  exact ⟨u, hu, World.ownsRow.kept ho hg (hk _ (own_lt ho))⟩
theorem OwnL.base {w : World} {B B' : Nat} {v : Value} {ls : List (List UInt8)} (h : OwnL w B' v ls) (hB : B ≤ B') : OwnL w B v ls := by
  have hb : ∀ {e : TypeId} {n : Nat} {u : Value} {xs : List Value}, w.ownsRow B' e 1 u n xs → w.ownsRow B e 1 u n xs := by
    intro e n u xs h
    refine ⟨h.1, ?_⟩
    rcases h.2 with h2 | ⟨g, cap, cur, hv, hb, r⟩
    · exact .inl h2
    · exact .inr ⟨g, cap, cur, hv, Nat.le_trans hB hb, r⟩
  obtain ⟨vs, h1, h2⟩ := h
  refine ⟨vs, hb h1, fun j x hx => ?_⟩
  obtain ⟨u, hu, ho⟩ := h2 j x hx
  exact ⟨u, hu, hb ho⟩
theorem OwnL.rows {w : World} {B : Nat} {v : Value} {ls : List (List UInt8)} (h : OwnL w B v ls) : ∃ A c, v = .slice A ls.length c ∧ Rows2 w w.heap.size A ls := by
  obtain ⟨vs, h1, h2⟩ := h
  obtain ⟨A, c, rfl, hS⟩ := own_sl h1
  refine ⟨A, c, rfl, vs, by have := h1.1; omega, hS.lie, fun j x hx => ?_⟩
  obtain ⟨u, hu, ho⟩ := h2 j x hx
  obtain ⟨A', c', rfl, hS'⟩ := own_sl ho
  exact ⟨A', c', hu, hS'.lie⟩

/-- One vector more behind an owned list. -/
theorem OwnL.snoc {w w' : World} {B : Nat} {v v' u : Value} {ls : List (List UInt8)} {x : List UInt8} {vs : List Value} (h1 : w.ownsRow B 22 1 v ls.length vs)
    (h2 : ∀ (j : Nat) (x : List UInt8), ls[j]? = some x → ∃ u, vs[j]? = some u ∧ OwnB w B u x) (hu : OwnB w B u x)
    (hvs : w'.ownsRow B 22 1 v' (ls.length + 1) (vs ++ [u])) (hg : w.grownBy w' v.ownBlock) : OwnL w' B v' (ls ++ [x]) := by
  have hl : vs.length = ls.length := by have := h1.1; omega
  have hkeep : ∀ {u : Value} {x : List UInt8}, OwnB w B u x → OwnB w' B u x := fun ho => World.ownsRow.kept ho hg (own_ne ho h1 (by decide))
  refine ⟨vs ++ [u], by rw [List.length_append]; exact hvs, fun j y hy => ?_⟩
  rw [List.getElem?_append] at hy
  split at hy
  · rename_i hj
    obtain ⟨u', hu', ho⟩ := h2 j y hy
    exact ⟨u', by rw [List.getElem?_append, if_pos (by omega)]; exact hu', hkeep ho⟩
  · rename_i hj
    rw [List.getElem?_append, if_neg (by omega), hl]
    rw [List.getElem?_singleton] at hy ⊢
    split at hy
    · rename_i hj0
      rw [if_pos hj0]
      injection hy with hy
      subst hy
      exact ⟨u, rfl, hkeep hu⟩
    · cases hy

theorem vecsAt_step (f : Nat) (ys : List UInt8) (hne : ys ≠ []) (hf : ys.length ≤ f + 1) : vecsAt (f + 1) ys = if (vecAt ys).2.2 ≠ 0 then none else (vecsAt f (vecAt ys).2.1).map ((vecAt ys).1 :: ·) := by
  rcases ys with _ | ⟨x, l⟩
  · exact absurd rfl hne
  · rfl
theorem vecsAt_nil (f : Nat) : vecsAt f [] = some [] := by cases f <;> rfl

/-- What the loop of List has done: of V's vectors pre are taken, ys are left. -/
def Parsing (V ys : List UInt8) (pre : List (List UInt8)) : Prop :=
  ∃ f, ys.length ≤ f ∧ vecsAt V.length V = (vecsAt f ys).map (pre ++ ·) ∧ pre.length + ys.length ≤ V.length
theorem Parsing.start (V : List UInt8) : Parsing V V [] := ⟨V.length, Nat.le_refl _, by simp, by simp⟩
theorem Parsing.done {V : List UInt8} {pre : List (List UInt8)} (h : Parsing V [] pre) : vecsAt V.length V = some pre := by
  obtain ⟨f, _, h, _⟩ := h
  rw [h, vecsAt_nil]; simp
theorem Parsing.bad {V ys : List UInt8} {pre : List (List UInt8)} (h : Parsing V ys pre) (hne : ys ≠ []) (he : (vecAt ys).2.2 ≠ 0) : vecsAt V.length V = none := by
  obtain ⟨f, hf, h, _⟩ := h
  have hpos : 0 < ys.length := List.length_pos_iff.2 hne
  obtain ⟨f, rfl⟩ : ∃ f', f = f' + 1 := ⟨f - 1, by omega⟩
  rw [h, vecsAt_step f ys hne hf, if_pos he]; rfl
theorem Parsing.next {V ys : List UInt8} {pre : List (List UInt8)} (h : Parsing V ys pre) (hne : ys ≠ []) (he : (vecAt ys).2.2 = 0) : Parsing V (vecAt ys).2.1 (pre ++ [(vecAt ys).1]) := by
  obtain ⟨f, hf, h, hl⟩ := h
  have hpos : 0 < ys.length := List.length_pos_iff.2 hne
  obtain ⟨f, rfl⟩ : ∃ f', f = f' + 1 := ⟨f - 1, by omega⟩
  have hok := vecAt_ok ys he
  refine ⟨f, by omega, ?_, by simp; omega⟩
  rw [h, vecsAt_step f ys hne hf, if_neg (by simpa using he)]
  cases vecsAt f (vecAt ys).2.1 <;> simp

/-- What List answers, behind a name. -/
def ListPost (w : World) (g : Nat) (xs : List UInt8) (r : Ending) (w' : World) : Prop :=
  ∃ v, r = .returned v ∧ OwnL w' w.heap.size v (listAt xs).1 ∧ Rd w' g (listAt xs).2.1 (listAt xs).2.2 ∧ w.grownBy w' (some g)

set_option maxRecDepth 100000 in
set_option maxHeartbeats 1600000 in
theorem List_any (g : Nat) (xs : List UInt8) (w : World) (hr : Rd w g xs 0) (hb : xs.length ≤ 1099511627776) :
    Calls Try.prog 34 #[.pointer (some ⟨g, 0, none⟩)] w (ListPost w g xs) := by
  have hv := vecAt_length xs
  have hlt := hr.lt
  have hr0 := hid hr
  obtain ⟨A, c, hg, hS⟩ := hr
  have c0 := cell_of hg 0 _ rfl
  go_enter Try.func34, Try.ntmps34
  go_wp2_with fail
  refine (Err_any g xs 0 _ hr0.out).mono ?_
  rintro e w' ⟨rfl, rfl⟩
  go_wp2_with fail
  refine (nextVec_any g xs _ hr0.out).mono ?_
  rintro e w1 ⟨A1, c1, rfl, hS1, hr1, hg1⟩
  have hr2 : Rd (w1.alloc (.cells #[.slice A1 (vecAt xs).1.length c1, .int .u8 0] 55)) w1.heap.size (vecAt xs).1 0 :=
    ⟨A1, c1, heap_alloc_new w1 _, (hS1.more (Nat.le_of_lt hr1.lt)).alloc (Nat.le_refl _) _⟩
  have hr3 : Rd (w1.alloc (.cells #[.slice A1 (vecAt xs).1.length c1, .int .u8 0] 55)) g (vecAt xs).2.1 (vecAt xs).2.2 := hr1.grown (World.grownBy_alloc w1 _ none) (fun _ h => by cases h)
  have hg3 : w.grownBy (w1.alloc (.cells #[.slice A1 (vecAt xs).1.length c1, .int .u8 0] 55)) (some g) := grown_alloc hg1 _
  have hsz := hg1.size
  have hlt1 := hr1.lt
  have hS0 := hid hS
  have hg0 := hid hg
  clear hr1 hg1 hS1 c0 hS hg
  go_wp2
  go_loopg [5] (vecAt xs).1.length (fun k u wr => ∃ (ys : List UInt8) (pre : List (List UInt8)), k = ys.length ∧ Parsing (vecAt xs).1 ys pre ∧ Rd wr w1.heap.size ys 0 ∧ Rd wr g (vecAt xs).2.1 (vecAt xs).2.2 ∧ OwnL wr (w1.heap.size + 1) u pre ∧ w.grownBy wr (some g) ∧ w1.heap.size + 1 ≤ wr.heap.size)
  case atStart => exact ⟨(vecAt xs).1, [], rfl, Parsing.start _, hr2, hr3, OwnL.nil _ _, hg3, by simp⟩
  case round =>
    clear hr2 hr3 hg3
    obtain ⟨ys, pre, hk, hP, hR, hR0, hO, hG, hZ⟩ := hrel
    have hRs := hid hR
    have hP0 := hid hP
    have hR00 := hid hR0
    have hO0 := hid hO
    have hGs := hid hG
    obtain ⟨A2, c2, hb2, hS2⟩ := hR
    have c0 := cell_of hb2 0 _ rfl
    clear hb2 hS2 hP hR0 hO hG
    by_cases hy : ys.length = 0
    · obtain rfl : ys = [] := List.eq_nil_of_length_eq_zero hy
      rw [hy] at c0
      clear hy hk
      have HL : Hid (listAt xs = if (vecAt xs).2.2 ≠ 0 then ([], (vecAt xs).2.1, (vecAt xs).2.2) else (pre, (vecAt xs).2.1, 0)) := hid (by
        unfold listAt
        rw [hP0.out.done])
      go_wp2
      go_ret
      have hpre : (listAt xs).1 = pre := by
        rw [HL.out]
        split
        · rename_i h0
          have h1 := (vecAt_bad xs h0).1
          obtain ⟨f, _, _, hl⟩ := hP0.out
          rw [h1] at hl
          simp only [List.length_nil, Nat.add_zero, Nat.le_zero] at hl
          exact (List.eq_nil_of_length_eq_zero hl).symm
        · rfl
      have hrest : (listAt xs).2.1 = (vecAt xs).2.1 ∧ (listAt xs).2.2 = (vecAt xs).2.2 := by
        rw [HL.out]
        split
        · exact ⟨rfl, rfl⟩
        · rename_i h0
          exact ⟨rfl, (Decidable.not_not.1 h0).symm⟩
      refine ⟨u5, rfl, ?_, ?_, hGs.out⟩
      · rw [hpre]; exact hO0.out.base (by omega)
      · rw [hrest.1, hrest.2]; exact hR00.out
    · have hpos : 0 < ys.length := by omega
      clear hy
      have hlv : pre.length + ys.length ≤ xs.length := by
        obtain ⟨f, _, _, hl⟩ := hP0.out
        omega
      have hvl := vecAt_length ys
      have hlt2 := hRs.out.lt
      go_wp2_with fail
      refine (nextVec_any _ ys _ hRs.out).mono ?_
      rintro e w2 ⟨A3, c3, rfl, hS3, hr3, hg3⟩
      go_wp2_with fail
      refine (clone_any A3 _ c3 _ _ hS3.lie (by omega)).mono ?_
      rintro e w3 ⟨v3, rfl, ho3, hg4⟩
      obtain ⟨A4, c4, rfl, hS4⟩ := own_sl ho3
      clear hS4
      have hz3 : wr.heap.size ≤ w3.heap.size := Nat.le_trans hg3.size hg4.size
      have hz2 := hg3.size
      have hO3 : OwnL w3 (w1.heap.size + 1) u5 pre := (hO0.out.kept hg3 (fun k h => by injection h with h; omega)).kept hg4 (fun k h => by cases h)
      have ho3b : OwnB w3 (w1.heap.size + 1) (.slice A4 (vecAt ys).1.length c4) (vecAt ys).1 := own_base ho3 (by omega)
      have hr4 : Rd w3 w1.heap.size (vecAt ys).2.1 (vecAt ys).2.2 := hr3.grown hg4 (fun _ h => by cases h)
      have hR3 : Rd w3 g (vecAt xs).2.1 (vecAt xs).2.2 := (hR00.out.grown hg3 (fun k h => by injection h with h; omega)).grown hg4 (fun _ h => by cases h)
      have hG3 : w.grownBy w3 (some g) := grown_step (grown_step hGs.out (.inr ⟨_, rfl, hsz⟩) hg3) (.inl rfl) (grown_none hg4 _)
      obtain ⟨vs, hv1, hv2⟩ := hO3
      clear hR00 hO0 hGs hRs ho3 hg3 hg4 hr3 hS3
      have h1 := hid hr4; have h2 := hid hR3; have h3 := hid hG3; have h4 := hid hv2; have h5 := hid ho3b
      clear hr4 hR3 hG3 hv2 ho3b
      go_wp2_with (at_builtin; refine wpList_append_lie rfl _ _ 27 rfl (w1.heap.size + 1) 22 (.slice none 0 0) 24 Try.underlying27 infoSU8 rfl rfl (World.ownsRow.alloc hv1 _) rfl rfl (Lie.new1 _ _ _) ?d0 ?d1 ?d2 ?d3 ?_)
      case d0 => intro u hu; simp at hu; subst hu; rfl
      case d1 => rw [List.length_singleton]; unfold maxLen; omega
      case d2 => rw [List.length_singleton]; omega
      case d3 => simp; omega
      intro v4 w4 hown4 hg4 hat4
      have hlo := own_lt hv1
      have hR4 : Rd w4 w1.heap.size (vecAt ys).2.1 (vecAt ys).2.2 := (h1.out.grown (World.grownBy_alloc w3 _ none) (fun _ h => by cases h)).grown hg4 (fun k h => by have := hlo k h; omega)
      have hRg : Rd w4 g (vecAt xs).2.1 (vecAt xs).2.2 := (h2.out.grown (World.grownBy_alloc w3 _ none) (fun _ h => by cases h)).grown hg4 (fun k h => by have := hlo k h; omega)
      have hG4 : w.grownBy w4 (some g) := grown_fresh (grown_alloc h3.out _) hg4 (fun k h => by have := hlo k h; omega)
      have hO4 : OwnL w4 (w1.heap.size + 1) v4 (pre ++ [(vecAt ys).1]) := OwnL.snoc (World.ownsRow.alloc hv1 _) (fun j x hx => by
        obtain ⟨u, hu, ho⟩ := h4.out j x hx
        exact ⟨u, hu, World.ownsRow.alloc ho _⟩) (World.ownsRow.alloc h5.out _) hown4 hg4
      have hz4 : w1.heap.size + 1 ≤ w4.heap.size := by have := hg4.size; simp at this; omega
      clear hown4 hg4 hat4 h1 h2 h3 h4 h5 hv1 hlo c0
      have k1 := hid hR4; have k2 := hid hRg; have k3 := hid hG4; have k4 := hid hO4
      obtain ⟨A5, c5, hb5, _⟩ := hR4
      have c1 := cell_of hb5 1 _ rfl
      clear hRg hG4 hO4 hb5
      have hne : ys ≠ [] := List.length_pos_iff.1 hpos
      have hve := vecAt_err ys
      by_cases he : (vecAt ys).2.2 = 0
      · have hPn := hid (hP0.out.next hne he)
        have hok := vecAt_ok ys he
        rw [he] at c1
        have hE := hid he
        have hN := hid hne
        clear he hne hP0
        go_wp2
        go_roundg (vecAt ys).2.1.length
        case measure => omega
        case rel => exact ⟨_, _, rfl, hPn.out, by rw [← hE.out]; exact k1.out, k2.out, k4.out, k3.out, hz4⟩
      · have HL : Hid (vecsAt (vecAt xs).1.length (vecAt xs).1 = none) := hid (hP0.out.bad hne he)
        have he2 : (((vecAt ys).2.2 : Int) != 0) = true := by simp; omega
        have hN := hid hne
        have HP1 := hid hP0.out
        clear he hne hP0
        obtain ⟨A6, c6, hb6, _⟩ := k2.out
        have d0 := cell_of hb6 0 _ rfl
        have d1 := cell_of hb6 1 _ rfl
        have f0 := frozen_of_row w4 g 0 _ _ hb6
        have f1 := frozen_of_row w4 g 1 _ _ hb6
        have B6 := hid hb6
        clear hb6
        have HA : Hid (listAt xs = ([], xs, 3)) := hid (by
          have h0 : (vecAt xs).2.2 = 0 := by
            rcases Nat.eq_zero_or_pos (vecAt xs).2.2 with h | h
            · exact h
            · have h1 := (vecAt_bad xs (by omega)).1
              obtain ⟨f, _, _, hl⟩ := HP1.out
              rw [h1, List.length_nil] at hl
              omega
          unfold listAt
          rw [if_neg (by rw [h0]; simp), HL.out])
        go_wp2
        go_ret
        refine ⟨.slice none 0 0, rfl, ?_, ?_, ?_⟩
        · rw [HA.out]; exact OwnL.nil _ _
        · rw [HA.out]
          refine ⟨A, c, ?_, ?_⟩
          · rw [block_set (block_set B6.out 0 _) 1 _]; rfl
          · exact ((hS0.out.grown k3.out (by omega) (fun k h => by injection h with h; omega)).setCell (p := ⟨g, 0, none⟩) (Nat.le_refl _) _).setCell (p := ⟨g, 1, none⟩) (Nat.le_refl _) _
        · exact grown_step (grown_step k3.out (.inl rfl) (grown_setCell _ _ _ _ _)) (.inl rfl) (grown_setCell _ _ _ _ _)

theorem List_nil (w : World) :
    Calls Try.prog 34 #[.pointer none] w fun r w' => r = .returned (.slice none 0 0) ∧ w = w' := by
  go_enter Try.func34, Try.ntmps34
  go_wp2_with fail
  refine (Err_nil _).mono ?_
  rintro e w' ⟨rfl, rfl⟩
  go_wp2
  go_ret
  exact ⟨rfl, rfl⟩

/-- A flag at the head of bytes. -/
def flagAt : List UInt8 → Bool × List UInt8 × Nat
  | [] => (false, [], 4)
  | x :: l => if 1 < x.toNat then (false, x :: l, 3) else (x.toNat == 1, l, 0)

theorem Flag_any (g : Nat) (xs : List UInt8) (w : World) (hr : Rd w g xs 0) :
    Calls Try.prog 23 #[.pointer (some ⟨g, 0, none⟩)] w fun r w' => r = .returned (.bool (flagAt xs).1) ∧ Rd w' g (flagAt xs).2.1 (flagAt xs).2.2 ∧ w.grownBy w' (some g) := by
  have hr0 := hid hr
  obtain ⟨A, c, hg, hS⟩ := hr
  have c0 := cell_of hg 0 _ rfl
  have c1 := cell_of hg 1 _ rfl
  have f1 := frozen_of_row w g 1 _ _ hg
  have HG := hid hg
  have HS := hid hS
  rcases xs with _ | ⟨x, l⟩
  · rw [List.length_nil] at c0
    clear hg hS
    go_enter Try.func23, Try.ntmps23
    go_wp2_with fail
    refine (Err_any g [] 0 _ hr0.out).mono ?_
    rintro e w' ⟨rfl, rfl⟩
    go_wp2_with fail
    refine (next_short g [] 1 _ hr0.out (by simp) (by omega)).mono ?_
    rintro e w1 ⟨rfl, hr1, hg1⟩
    go_wp2_with fail
    refine (joined_m 0 none [] 0 _ _ 0 Lie.nil rfl (by decide) (by omega)).mono ?_
    rintro e w' ⟨rfl, rfl⟩
    have HR1 := hid hr1
    clear hr1
    go_wp2
    go_ret
    exact ⟨rfl, HR1.out, hg1⟩
  · obtain ⟨b, o, rfl, hb, hc⟩ := hS.lie.byte (k := 0) (by simp)
    simp only [Nat.add_zero, List.getElem_cons_zero] at hc
    have hx := x.toNat_lt
    have hp : (0 : Int) < (l.length : Int) + 1 := by omega
    rw [List.length_cons] at c0
    clear hg hS
    by_cases h1 : 1 < x.toNat
    · have HF : Hid (flagAt (x :: l) = (false, x :: l, 3)) := hid (by simp [flagAt, h1])
      go_enter Try.func23, Try.ntmps23
      go_wp2_with fail
      refine (Err_any g _ 0 _ hr0.out).mono ?_
      rintro e w' ⟨rfl, rfl⟩
      go_wp2
      go_ret
      rw [HF.out]
      exact ⟨rfl, ⟨_, _, by rw [block_set HG.out]; rfl, HS.out.setCell (Nat.le_refl _) _⟩, grown_setCell _ _ _ _ _⟩
    · have HF : Hid (flagAt (x :: l) = (x.toNat == 1, l, 0)) := hid (by simp [flagAt, h1])
      have h1' : ¬ (1 : Int) < (x.toNat : Int) := by omega
      have HB : Hid (beNum 0 ((x :: l).take 1) = x.toNat) := hid (by simp [beNum])
      have HQ : Hid (((x.toNat : Int) == 1) = (x.toNat == 1)) := hid (by
        rw [Bool.eq_iff_iff]; simp; omega)
      go_enter Try.func23, Try.ntmps23
      go_wp2_with fail
      refine (Err_any g _ 0 _ hr0.out).mono ?_
      rintro e w' ⟨rfl, rfl⟩
      go_wp2_with fail
      refine (next_ok g (x :: l) 1 _ hr0.out (by simp)).mono ?_
      rintro e w1 ⟨A2, c2, rfl, hS2, hr1, hg1⟩
      have HR1 := hid hr1
      clear hr1
      go_wp2_with fail
      refine (joined_m 0 A2 ((x :: l).take 1) 1 c2 _ g hS2.lie (by simp) (by decide) (by omega)).mono ?_
      rintro e w' ⟨rfl, rfl⟩
      rw [HB.out]
      go_wp2
      go_ret
      rw [HF.out]
      exact ⟨by rw [← HQ.out]; rfl, HR1.out, hg1⟩
theorem Flag_nil (w : World) :
    Calls Try.prog 23 #[.pointer none] w fun r w' => r = .returned (.bool false) ∧ w = w' := by
  go_enter Try.func23, Try.ntmps23
  go_wp2_with fail
  refine (Err_nil _).mono ?_
  rintro e w' ⟨rfl, rfl⟩
  go_wp2
  go_ret
  exact ⟨rfl, rfl⟩
end Go.Proofs.Ytkdpaaaleicopaa
