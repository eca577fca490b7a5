/-
  Package wire, the taking side, part 3: a new reader, its error, its end, numbers, vectors, flags, bytes.
-/
import Derived.Test.YtkdpaaaleicopaaWire6
namespace Go.Proofs.Ytkdpaaaleicopaa
open Go.RowKit
set_option linter.unusedVariables false
set_option linter.unusedSimpArgs false

theorem Rd.lt {w : World} {g e : Nat} {xs : List UInt8} (h : Rd w g xs e) : g < w.heap.size := by
  obtain ⟨A, c, hg, _⟩ := h
  exact block_lt hg
/-- A reader that nobody writes to stays as it is. -/
theorem Rd.grown {w w' : World} {g e : Nat} {xs : List UInt8} {row : Option Nat} (h : Rd w g xs e) (hg : w.grownBy w' row) (hr : ∀ k, row = some k → g < k) : Rd w' g xs e := by
  have hlt := h.lt
  obtain ⟨A, c, hb, hS⟩ := h
  exact ⟨A, c, block_grown hb hg (fun e => by have := hr g e.symm; omega), hS.grown hg (by omega) (fun k hk => by have := hr k hk; omega)⟩

theorem NewReader_any (A : Option Addr) (xs : List UInt8) (c : Nat) (w : World) (B : Nat) (hA : Lie w B A (bvs xs)) (hb : xs.length ≤ 140737488355328) :
    Calls Try.prog 14 #[.slice A xs.length c] w fun e w' => ∃ g, e = .returned (.pointer (some ⟨g, 0, none⟩)) ∧ w.heap.size ≤ g ∧ Rd w' g xs 0 ∧ w.grownBy w' none := by
  go_enter Try.func14, Try.ntmps14
  go_wp2_with fail
  refine (clone_any A xs c _ B hA hb).mono ?_
  rintro e w1 ⟨v1, rfl, ho, hg⟩
  obtain ⟨A1, c1, rfl, hS⟩ := own_sl ho
  go_wp2
  go_ret
  exact ⟨w1.heap.size, rfl, hg.size, ⟨A1, c1, heap_alloc_new w1 _, hS.alloc (Nat.le_refl _) _⟩, grown_alloc hg _⟩

theorem Err_any (g : Nat) (xs : List UInt8) (e : Nat) (w : World) (hr : Rd w g xs e) :
    Calls Try.prog 16 #[.pointer (some ⟨g, 0, none⟩)] w fun r w' => r = .returned (.int .u8 (e : Int)) ∧ w = w' := by
  obtain ⟨A, c, hg, hS⟩ := hr
  have c1 := cell_of hg 1 _ rfl
  go_enter Try.func16, Try.ntmps16
  go_wp2
  go_ret
  exact ⟨rfl, rfl⟩
theorem Err_nil (w : World) :
    Calls Try.prog 16 #[.pointer none] w fun r w' => r = .returned (.int .u8 2) ∧ w = w' := by
  go_enter Try.func16, Try.ntmps16
  go_wp2
  go_ret
  exact ⟨rfl, rfl⟩

def endOf (xs : List UInt8) (e : Nat) : Nat := if e ≠ 0 then e else if xs.length = 0 then 0 else 5
theorem End_any (g : Nat) (xs : List UInt8) (e : Nat) (w : World) (hr : Rd w g xs e) (he : e < 256) :
    Calls Try.prog 19 #[.pointer (some ⟨g, 0, none⟩)] w fun r w' => r = .returned (.int .u8 (endOf xs e : Int)) ∧ w = w' := by
  have hr0 := hr
  obtain ⟨A, c, hg, hS⟩ := hr
  have c0 := cell_of hg 0 _ rfl
  by_cases h0 : e = 0
  · subst h0
    have hcall := hid (Err_any g xs 0 w hr0)
    clear hr0
    by_cases hl : xs.length = 0
    · have HF : Hid (endOf xs 0 = 0) := hid (by simp [endOf, hl])
      rw [hl] at hg c0
      clear hl
      go_enter Try.func19, Try.ntmps19
      go_wp2_with fail
      refine hcall.out.mono ?_
      rintro e w' ⟨rfl, rfl⟩
      go_wp2
      go_ret
      exact ⟨by rw [HF.out]; rfl, rfl⟩
    · have HF : Hid (endOf xs 0 = 5) := hid (by simp only [endOf]; rw [if_neg (by simp), if_neg hl])
      have hp : 0 < xs.length := by omega
      clear hl
      go_enter Try.func19, Try.ntmps19
      go_wp2_with fail
      refine hcall.out.mono ?_
      rintro e w' ⟨rfl, rfl⟩
      go_wp2
      go_ret
      exact ⟨by rw [HF.out]; rfl, rfl⟩
  · have HF : Hid (endOf xs e = e) := hid (by simp [endOf, h0])
    have he1 : ((e : Int) != 0) = true := by simp; omega
    clear h0
    go_enter Try.func19, Try.ntmps19
    go_wp2_with fail
    refine (Err_any g xs e _ hr0).mono ?_
    rintro e w' ⟨rfl, rfl⟩
    go_wp2
    go_ret
    exact ⟨by rw [HF.out]; rfl, rfl⟩
theorem End_nil (w : World) :
    Calls Try.prog 19 #[.pointer none] w fun r w' => r = .returned (.int .u8 2) ∧ w = w' := by
  go_enter Try.func19, Try.ntmps19
  go_wp2_with fail
  refine (Err_nil _).mono ?_
  rintro e w' ⟨rfl, rfl⟩
  go_wp2
  go_ret
  exact ⟨rfl, rfl⟩

theorem Left_any (g : Nat) (xs : List UInt8) (e : Nat) (w : World) (hr : Rd w g xs e) :
    Calls Try.prog 22 #[.pointer (some ⟨g, 0, none⟩)] w fun r w' => r = .returned (.int .i64 (xs.length : Int)) ∧ w = w' := by
  obtain ⟨A, c, hg, hS⟩ := hr
  have c0 := cell_of hg 0 _ rfl
  go_enter Try.func22, Try.ntmps22
  go_wp2
  go_ret
  exact ⟨rfl, rfl⟩
theorem Left_nil (w : World) :
    Calls Try.prog 22 #[.pointer none] w fun r w' => r = .returned (.int .i64 0) ∧ w = w' := by
  go_enter Try.func22, Try.ntmps22
  go_wp2
  go_ret
  exact ⟨rfl, rfl⟩

theorem isNumSize_no (n : Int) (w : World) (h : ¬ (n = 1 ∨ n = 2 ∨ n = 4 ∨ n = 8)) :
    Calls Try.prog 35 #[.int .i64 n] w fun e w' => e = .returned (.bool false) ∧ w = w' := by
  have h1 : (n == 1) = false := by simp; omega
  have h2 : (n == 2) = false := by simp; omega
  have h4 : (n == 4) = false := by simp; omega
  have h8 : (n == 8) = false := by simp; omega
  clear h
  go_enter Try.func35, Try.ntmps35
  go_wp2
  go_ret
  exact ⟨rfl, rfl⟩

/-- A number of so many bytes at the head of bytes: it, what is left, the error. -/
def numAt (xs : List UInt8) (size : Nat) : Nat × List UInt8 × Nat := if xs.length < size then (0, xs, 4) else (beNum 0 (xs.take size), xs.drop size, 0)

theorem Num_any (g : Nat) (xs : List UInt8) (size : Nat) (w : World) (hr : Rd w g xs 0) (hs : size = 1 ∨ size = 2 ∨ size = 4 ∨ size = 8) :
    Calls Try.prog 20 #[.pointer (some ⟨g, 0, none⟩), .int .i64 (size : Int)] w fun r w' => r = .returned (.int .u64 ((numAt xs size).1 : Int)) ∧ Rd w' g (numAt xs size).2.1 (numAt xs size).2.2 ∧ w.grownBy w' (some g) := by
  by_cases hl : xs.length < size
  · have HN : Hid (numAt xs size = (0, xs, 4)) := hid (by simp [numAt, hl])
    go_enter Try.func20, Try.ntmps20
    go_wp2_with fail
    refine (Err_any g xs 0 _ hr).mono ?_
    rintro e w' ⟨rfl, rfl⟩
    go_wp2_with fail
    refine (isNumSize_yes _ _ (by omega)).mono ?_
    rintro e w' ⟨rfl, rfl⟩
    go_wp2_with fail
    refine (next_short g xs size _ hr hl (by omega)).mono ?_
    rintro e w1 ⟨rfl, hr1, hg1⟩
    go_wp2_with fail
    refine (joined_m 0 none [] 0 _ _ 0 Lie.nil rfl (by decide) (by omega)).mono ?_
    rintro e w' ⟨rfl, rfl⟩
    go_wp2
    go_ret
    rw [HN.out]
    exact ⟨rfl, hr1, hg1⟩
  · have HN : Hid (numAt xs size = (beNum 0 (xs.take size), xs.drop size, 0)) := hid (by simp [numAt, hl])
    have HL : Hid ((xs.take size).length = size) := hid (by simp; omega)
    go_enter Try.func20, Try.ntmps20
    go_wp2_with fail
    refine (Err_any g xs 0 _ hr).mono ?_
    rintro e w' ⟨rfl, rfl⟩
    go_wp2_with fail
    refine (isNumSize_yes _ _ (by omega)).mono ?_
    rintro e w' ⟨rfl, rfl⟩
    go_wp2_with fail
    refine (next_ok g xs size _ hr (by omega)).mono ?_
    rintro e w1 ⟨A, c, rfl, hS, hr1, hg1⟩
    go_wp2_with fail
    refine (joined_m 0 A (xs.take size) size c _ g hS.lie HL.out ?_ (by omega)).mono ?_
    · rcases hs with rfl | rfl | rfl | rfl <;> decide
    rintro e w' ⟨rfl, rfl⟩
    go_wp2
    go_ret
    rw [HN.out]
    exact ⟨rfl, hr1, hg1⟩
theorem Num_nil (n : Int) (w : World) :
    Calls Try.prog 20 #[.pointer none, .int .i64 n] w fun r w' => r = .returned (.int .u64 0) ∧ w = w' := by
  go_enter Try.func20, Try.ntmps20
  go_wp2_with fail
  refine (Err_nil _).mono ?_
  rintro e w' ⟨rfl, rfl⟩
  go_wp2
  go_ret
  exact ⟨rfl, rfl⟩

theorem vecAt_length (xs : List UInt8) : (vecAt xs).1.length ≤ xs.length := by
  unfold vecAt
  split
  · simp
  · split
    · simp
    · simp; omega

theorem Vec_any (g : Nat) (xs : List UInt8) (w : World) (hr : Rd w g xs 0) (hb : xs.length ≤ 140737488355328) :
    Calls Try.prog 15 #[.pointer (some ⟨g, 0, none⟩)] w fun r w' => ∃ v, r = .returned v ∧ OwnB w' w.heap.size v (vecAt xs).1 ∧ Rd w' g (vecAt xs).2.1 (vecAt xs).2.2 ∧ w.grownBy w' (some g) := by
  have hv := vecAt_length xs
  have hlt := hr.lt
  go_enter Try.func15, Try.ntmps15
  go_wp2_with fail
  refine (Err_any g xs 0 _ hr).mono ?_
  rintro e w' ⟨rfl, rfl⟩
  go_wp2_with fail
  refine (nextVec_any g xs _ hr).mono ?_
  rintro e w1 ⟨A, c, rfl, hS, hr1, hg1⟩
  go_wp2_with fail
  refine (clone_any A _ c _ g hS.lie (by omega)).mono ?_
  rintro e w2 ⟨v2, rfl, ho2, hg2⟩
  go_wp2
  go_ret
  exact ⟨v2, rfl, own_base ho2 hg1.size, hr1.grown hg2 (fun _ h => by cases h), grown_step hg1 (.inl rfl) (grown_none hg2 _)⟩
theorem Vec_nil (w : World) :
    Calls Try.prog 15 #[.pointer none] w fun r w' => r = .returned (.slice none 0 0) ∧ w = w' := by
  go_enter Try.func15, Try.ntmps15
  go_wp2_with fail
  refine (Err_nil _).mono ?_
  rintro e w' ⟨rfl, rfl⟩
  go_wp2
  go_ret
  exact ⟨rfl, rfl⟩

/-- So many bytes at the head of bytes. -/
def takeAt (xs : List UInt8) (n : Nat) : List UInt8 × List UInt8 × Nat := if xs.length < n then ([], xs, 4) else (xs.take n, xs.drop n, 0)

theorem Take_any (g : Nat) (xs : List UInt8) (n : Nat) (w : World) (hr : Rd w g xs 0) (h63 : n ≤ 9223372036854775807) (hb : xs.length ≤ 140737488355328) :
    Calls Try.prog 21 #[.pointer (some ⟨g, 0, none⟩), .int .i64 (n : Int)] w fun r w' => ∃ v, r = .returned v ∧ OwnB w' w.heap.size v (takeAt xs n).1 ∧ Rd w' g (takeAt xs n).2.1 (takeAt xs n).2.2 ∧ w.grownBy w' (some g) := by
  by_cases hl : xs.length < n
  · have HN : Hid (takeAt xs n = ([], xs, 4)) := hid (by simp [takeAt, hl])
    go_enter Try.func21, Try.ntmps21
    go_wp2_with fail
    refine (Err_any g xs 0 _ hr).mono ?_
    rintro e w' ⟨rfl, rfl⟩
    go_wp2_with fail
    refine (next_short g xs n _ hr hl h63).mono ?_
    rintro e w1 ⟨rfl, hr1, hg1⟩
    go_wp2_with fail
    refine (clone_any none [] 0 _ 0 Lie.nil (by simp)).mono ?_
    rintro e w2 ⟨v2, rfl, ho2, hg2⟩
    go_wp2
    go_ret
    rw [HN.out]
    exact ⟨v2, rfl, own_base ho2 hg1.size, hr1.grown hg2 (fun _ h => by cases h), grown_step hg1 (.inl rfl) (grown_none hg2 _)⟩
  · have HN : Hid (takeAt xs n = (xs.take n, xs.drop n, 0)) := hid (by simp [takeAt, hl])
    have HL : Hid ((xs.take n).length = n) := hid (by simp; omega)
    go_enter Try.func21, Try.ntmps21
    go_wp2_with fail
    refine (Err_any g xs 0 _ hr).mono ?_
    rintro e w' ⟨rfl, rfl⟩
    go_wp2_with fail
    refine (next_ok g xs n _ hr (by omega)).mono ?_
    rintro e w1 ⟨A, c, rfl, hS, hr1, hg1⟩
    go_wp2_with fail
    have hcl := clone_any A (xs.take n) c w1 g hS.lie (by simp; omega)
    rw [HL.out] at hcl
    refine hcl.mono ?_
    rintro e w2 ⟨v2, rfl, ho2, hg2⟩
    go_wp2
    go_ret
    rw [HN.out]
    exact ⟨v2, rfl, own_base ho2 hg1.size, hr1.grown hg2 (fun _ h => by cases h), grown_step hg1 (.inl rfl) (grown_none hg2 _)⟩
theorem Take_nil (n : Int) (w : World) :
    Calls Try.prog 21 #[.pointer none, .int .i64 n] w fun r w' => r = .returned (.slice none 0 0) ∧ w = w' := by
  go_enter Try.func21, Try.ntmps21
  go_wp2_with fail
  refine (Err_nil _).mono ?_
  rintro e w' ⟨rfl, rfl⟩
  go_wp2
  go_ret
  exact ⟨rfl, rfl⟩
end Go.Proofs.Ytkdpaaaleicopaa
