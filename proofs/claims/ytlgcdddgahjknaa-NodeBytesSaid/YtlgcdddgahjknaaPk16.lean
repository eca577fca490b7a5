/-
  Texts of this claim in one file: NcG, NcH, NcI, NcJ, NcK, NcL.
-/
import Derived.Test.YtlgcdddgahjknaaPk8
import Derived.Test.YtlgcdddgahjknaaPk15
import Derived.Test.YtlgcdddgahjknaaPk17
import Derived.Test.YtlgcdddgahjknaaPk18
section
namespace Go.Proofs.Ytlgcdddgahjknaa
open Go Go.RowKit
set_option linter.unusedVariables false
set_option linter.unusedSimpArgs false
theorem Vec_err (g : Nat) (xs : List UInt8) (e : Nat) (w : World) (hr : Rd w g xs e) (h0 : e ≠ 0) : Calls Try.prog 59 #[.pointer (some ⟨g, 0, none⟩)] w fun r w' => r = .returned (.slice none 0 0) ∧ w' = w := by
  have he : ((e : Int) != 0) = true := by rw [bne_iff_ne]; omega
  have HC := hid (Err_any g xs e w hr)
  clear hr h0
  go_enter Try.func59, Try.ntmps59
  go_wp2_with fail
  refine HC.out.mono ?_
  rintro r w1 ⟨rfl, rfl⟩
  clear HC
  go_wp2
  go_ret
  exact ⟨rfl, rfl⟩
theorem Num_err (g : Nat) (xs : List UInt8) (e : Nat) (n : Int) (w : World) (hr : Rd w g xs e) (h0 : e ≠ 0) : Calls Try.prog 60 #[.pointer (some ⟨g, 0, none⟩), .int .i64 n] w fun r w' => r = .returned (.int .u64 0) ∧ w' = w := by
  have he : ((e : Int) != 0) = true := by rw [bne_iff_ne]; omega
  have HC := hid (Err_any g xs e w hr)
  clear hr h0
  go_enter Try.func60, Try.ntmps60
  go_wp2_with fail
  refine HC.out.mono ?_
  rintro r w1 ⟨rfl, rfl⟩
  clear HC
  go_wp2
  go_ret
  exact ⟨rfl, rfl⟩
theorem vec_rest (xs : List UInt8) (i : Nat) : (vecAt (xs.drop i)).2.1 = xs.drop (vecN xs i) := by
  unfold vecN
  by_cases h : (vecAt (xs.drop i)).2.2 = 0
  · rw [if_pos h]
    unfold vecAt at h ⊢
    split at h
    · next h1 => exact absurd h h1
    · next h1 =>
      split at h
      · cases h
      · next h2 =>
        rw [if_neg h1, if_neg h2]
        show (xs.drop i).drop (_ + _) = _
        rw [List.drop_drop, Nat.add_assoc]
  · rw [if_neg h, (vecAt_bad _ h).2]
theorem err_stays (xs : List UInt8) (i j : Nat) (h : errD xs i j ≠ 0) : (vecAt (xs.drop (posD xs i j))).2.2 ≠ 0 := by
  induction j with
  | zero => exact absurd rfl h
  | succ j ih =>
    have hn : (vecAt (xs.drop (posD xs i j))).2.2 ≠ 0 := by
      by_cases h0 : errD xs i j = 0
      · rw [errD, if_pos h0] at h; exact h
      · exact ih h0
    rw [posD, vecN, if_neg hn]
    exact hn
theorem VecD (xs : List UInt8) (i j g : Nat) (w : World) (hl : xs.length ≤ 1000000) (hr : Rd w g (xs.drop (posD xs i j)) (errD xs i j)) :
    Calls Try.prog 59 #[.pointer (some ⟨g, 0, none⟩)] w fun r w' => ∃ A c, r = .returned (.slice A (vecJ xs i j).length c) ∧ OwnB w' w.heap.size (.slice A (vecJ xs i j).length c) (vecJ xs i j) ∧ Rd w' g (xs.drop (posD xs i (j + 1))) (errD xs i (j + 1)) ∧ w.grownBy w' (some g) := by
  by_cases h0 : errD xs i j = 0
  · rw [h0] at hr
    refine (Vec_any g _ w hr (by rw [List.length_drop]; omega)).mono ?_
    rintro r w1 ⟨v, rfl, ho, hr1, hg⟩
    rw [vec_rest] at hr1
    obtain ⟨A, c, rfl, -⟩ := own_sl ho
    exact ⟨A, c, rfl, ho, by rw [errD, if_pos h0]; exact hr1, hg⟩
  · have hn := err_stays xs i j h0
    refine (Vec_err g _ _ w hr h0).mono ?_
    rintro r w1 ⟨rfl, rfl⟩
    have hv : vecJ xs i j = [] := (vecAt_bad _ hn).1
    refine ⟨none, 0, by rw [hv]; rfl, by rw [hv]; exact World.ownsRow_nil _ _ _ _, ?_, World.grownBy.refl _ _⟩
    rw [errD, if_neg h0, posD, vecN, if_neg hn]
    exact hr
def numE (xs : List UInt8) (p e : Nat) : Nat := if e ≠ 0 then e else if xs.length ≤ p then 4 else 0
theorem NumD (xs : List UInt8) (p e g : Nat) (w : World) (hr : Rd w g (xs.drop p) e) :
    Calls Try.prog 60 #[.pointer (some ⟨g, 0, none⟩), .int .i64 1] w fun r w' => ∃ n : Nat, n < 256 ∧ r = .returned (.int .u64 (n : Int)) ∧ (numE xs p e = 0 → n = srcJ xs p) ∧ (∃ ys, Rd w' g ys (numE xs p e) ∧ (numE xs p e = 0 → ys = xs.drop (p + 1))) ∧ w.grownBy w' (some g) := by
  by_cases h0 : e = 0
  · subst h0
    refine (NumR_any g _ 1 w hr (.inl rfl)).mono ?_
    rintro r w1 ⟨rfl, hr1, hg⟩
    by_cases hp : xs.length ≤ p
    · have hE : numE xs p 0 = 4 := by unfold numE; rw [if_neg (by simp), if_pos hp]
      have hN : numAt (xs.drop p) 1 = (0, xs.drop p, 4) := by unfold numAt; rw [if_pos (by rw [List.length_drop]; omega)]
      rw [hN] at hr1
      rw [hN, hE]
      exact ⟨0, by decide, rfl, fun h => (by cases h), ⟨_, hr1, fun h => (by cases h)⟩, hg⟩
    · have hE : numE xs p 0 = 0 := by unfold numE; rw [if_neg (by simp), if_neg hp]
      have hN : numAt (xs.drop p) 1 = (beNum 0 ((xs.drop p).take 1), (xs.drop p).drop 1, 0) := by unfold numAt; rw [if_neg (by rw [List.length_drop]; omega)]
      have hv : beNum 0 ((xs.drop p).take 1) = srcJ xs p := by
        unfold srcJ
        have hlt : p < xs.length := by omega
        have ht : (xs.drop p).take 1 = [xs[p]] := by rw [List.drop_eq_getElem_cons hlt]; rfl
        rw [ht, List.getD_eq_getElem?_getD, List.getElem?_eq_getElem hlt]
        simp [beNum]
      rw [hN] at hr1
      rw [hN, hE, hv]
      refine ⟨_, srcJ_lt xs p, rfl, fun _ => rfl, ⟨_, hr1, fun _ => ?_⟩, hg⟩
      show (xs.drop p).drop 1 = _
      rw [List.drop_drop]
  · have hE : numE xs p e = e := by unfold numE; rw [if_pos h0]
    refine (Num_err g _ e 1 w hr h0).mono ?_
    rintro r w1 ⟨rfl, rfl⟩
    rw [hE]
    exact ⟨0, by decide, rfl, fun h => absurd h h0, ⟨_, hr, fun h => absurd h h0⟩, World.grownBy.refl _ _⟩
theorem grown_put {w a : World} {g k : Nat} {cs : Array Value} (h : w.grownBy a (some g)) (hk : w.heap.size ≤ k) : w.grownBy (a.setRow k cs) (some g) := grown_step h (.inr ⟨k, rfl, hk⟩) (grown_one a k cs)
theorem grown_cell {w a : World} {g k i : Nat} {u : Value} (h : w.grownBy a (some g)) (hk : w.heap.size ≤ k) : w.grownBy (a.setCell ⟨k, i, none⟩ u) (some g) := grown_step h (.inr ⟨k, rfl, hk⟩) (grown_setCell a k i none u)
/-- Bytes of one's own in new memory, read or written elsewhere. -/
theorem own_far {w w' : World} {B g : Nat} {v : Value} {xs : List UInt8} (h : OwnB w B v xs) (hg : w.grownBy w' (some g)) (hl : g < B) : OwnB w' B v xs :=
  World.ownsRow.kept (row := some g) h hg (by
    rcases hb : v.ownBlock with _ | k
    · exact .inl rfl
    · exact .inr fun e => by
        have := own_lt h k hb
        simp only [Option.some.injEq] at e
        omega)
theorem own_on16 {w w' : World} {B : Nat} {v : Value} {xs : List UInt8} (h : OwnB w B v xs) (hb : Below w.heap.size w w') : OwnB w' B v xs :=
  World.ownsRow.kept (row := none) h ⟨hb.os, hb.tape, hb.output, hb.size, fun k hk _ => hb.block k hk⟩ (by cases hv : v.ownBlock <;> simp)
theorem own_block16 {w : World} {B g : Nat} {v : Value} {xs : List UInt8} (h : OwnB w B v xs) (hv : v.ownBlock = some g) : ∃ cs, w.heap[g]? = some (.cells cs 5 (0, 0)) := by
  unfold OwnB World.ownsRow at h
  rcases h.2 with ⟨h1, _⟩ | ⟨g', cap, cur, h1, _, h3, _⟩
  · rw [h1] at hv; cases hv
  · rw [h1] at hv
    simp only [Value.ownBlock, Option.some.injEq] at hv
    subst hv
    exact ⟨cur, h3⟩
theorem own_not16 {w : World} {B g : Nat} {v : Value} {xs : List UInt8} {cs : Array Value} {t : TypeId} (h : OwnB w B v xs) (hg : w.heap[g]? = some (.cells cs t (0, 0))) (ht : t ≠ 5) : v.ownBlock ≠ some g := fun e => by
  obtain ⟨cs', h'⟩ := own_block16 h e
  rw [hg] at h'
  injection h' with h'
  injection h' with _ h' _
  exact ht h'
/-- A box and a slot, read at the end. -/
theorem results_cn {P : Program} {fn : Func} {p q : Tmp} {ty : TypeId} (h : fn.results = #[.cell p ty, .tmp q]) (tmps : Array Value) (w : World) (g : Nat) (t : TypeId) (cs : Array Value) (fr : Nat × Nat) (d : TypeDesc)
    (hp : tmps.getD p undef = .pointer (some ⟨g, 0, none⟩)) (hg : w.heap[g]? = some (.cells cs t fr))
    (hu : P.underlying ty = some d) (hd : (match d with | .struct _ | .array _ _ => true | _ => false) = true) (hi : (P.info? ty).map (·.size) = some cs.size) (v : Value) (hv : tmps.getD q undef = v) :
    (results fn tmps).run P w = .ok (.tuple #[.agg cs, v]) w := by
  have hp' : tmps[p]?.getD undef = .pointer (some ⟨g, 0, none⟩) := by simpa using hp
  have hv' : tmps[q]?.getD undef = v := by simpa using hv
  simp [results, h, hp', hv', asAddr, run_loadVar_row w g t ty cs fr d hg hu hd hi]
theorem own_lie16 {w : World} {B n c : Nat} {A : Option Addr} {xs : List UInt8} (h : OwnB w B (.slice A n c) xs) : Lie w w.heap.size A (bvs xs) := by
  have hn : n = xs.length := by
    rcases h.2 with ⟨h1, h2⟩ | ⟨g, cap, cur, hv, -⟩
    · injection h1 with _ h3 _; omega
    · injection hv
  subst hn
  exact Lie.of_own h
theorem grown_bl {w a b : World} {row : Option Nat} (h : w.grownBy a row) (hb : Below a.heap.size a b) : w.grownBy b row := grown_step h (.inl rfl) ⟨hb.os, hb.tape, hb.output, hb.size, fun k hk _ => hb.block k hk⟩
theorem num_e {xs : List UInt8} {p e : Nat} (h : numE xs p e = 0) : e = 0 ∧ p < xs.length := by
  unfold numE at h
  split at h
  · omega
  · split at h
    · omega
    · omega
theorem tl_num {xs : List UInt8} {i : Nat} (h : numE xs (tlP xs i) (errD xs i 3) ≠ 0) : tlE xs i = numE xs (tlP xs i) (errD xs i 3) := by
  unfold tlE
  unfold numE at h ⊢
  split at h
  · next h1 => rw [if_pos h1, if_pos h1]
  · next h1 =>
    rw [if_neg h1, if_neg h1]
    split at h
    · next h2 => rw [if_pos h2, if_pos h2]
    · exact absurd rfl h
def lastE (xs : List UInt8) (p : Nat) : Nat := if srcJ xs p = 3 then errD xs (p + 1) 2 else errD xs (p + 1) 1
theorem tl_last {xs : List UInt8} {i : Nat} (h : numE xs (tlP xs i) (errD xs i 3) = 0) (hs : ¬ (srcJ xs (tlP xs i) = 0 ∨ 3 < srcJ xs (tlP xs i))) : tlE xs i = if lastE xs (tlP xs i) ≠ 0 then lastE xs (tlP xs i) else if leafB (tlF xs i) then 0 else 3 := by
  obtain ⟨h1, h2⟩ := num_e h
  by_cases h3 : srcJ xs (tlP xs i) = 3
  · have hL : lastE xs (tlP xs i) = errD xs (tlP xs i + 1) 2 := by unfold lastE; rw [if_pos h3]
    have hR : tlR xs i = posD xs (tlP xs i + 1) 1 := by unfold tlR; rw [if_pos h3]
    have h2e : errD xs (tlP xs i + 1) 2 = if errD xs (tlP xs i + 1) 1 = 0 then errD xs (tlR xs i) 1 else errD xs (tlP xs i + 1) 1 := by rw [hR]; rfl
    rw [hL, h2e]
    by_cases h4 : errD xs (tlP xs i + 1) 1 = 0
    · rw [if_pos h4]
      by_cases h5 : errD xs (tlR xs i) 1 = 0
      · rw [if_neg (by simp [h5])]
        exact tl_d h1 h2 hs (fun h => h.2 h4) h5
      · rw [if_pos h5]
        exact tl_c h1 h2 hs (fun h => h.2 h4) h5
    · rw [if_neg h4, if_pos h4]
      exact tl_b h1 h2 hs ⟨h3, h4⟩
  · have hL : lastE xs (tlP xs i) = errD xs (tlP xs i + 1) 1 := by unfold lastE; rw [if_neg h3]
    have hR : tlR xs i = tlP xs i + 1 := by unfold tlR; rw [if_neg h3]
    rw [hL]
    by_cases h5 : errD xs (tlP xs i + 1) 1 = 0
    · rw [if_neg (by simp [h5])]
      exact tl_d h1 h2 hs (fun h => h3 h.1) (by rw [hR]; exact h5)
    · rw [if_pos h5]
      have := tl_c h1 h2 hs (fun h => h3 h.1) (by rw [hR]; exact h5)
      rw [hR] at this
      exact this
theorem lfOwn_in {W w : World} {x : Lf} {a : LA} (h : LfOwn W w x a) : LfIn w x a := ⟨own_lie16 h.1, own_lie16 h.2.1, own_lie16 h.2.2.1, own_lie16 h.2.2.2.1, own_lie16 h.2.2.2.2⟩
def TlRet (xs : List UInt8) (i g : Nat) (w : World) (e : Ending) (w' : World) : Prop := ∃ x a, e = .returned (.tuple #[.agg (lfV x a), .int .u8 (tlE xs i : Int)]) ∧ (tlE xs i = 0 → x = tlF xs i ∧ LfOwn w w' x a ∧ Rd w' g (xs.drop (posD xs (tlR xs i) 1)) 0) ∧ w.grownBy w' (some g)
theorem TlRet.no {xs : List UInt8} {i g er : Nat} {w w' : World} {x : Lf} {a : LA} (h : tlE xs i = er) (h0 : er ≠ 0) (hg : w.grownBy w' (some g)) : TlRet xs i g w (.returned (.tuple #[.agg (lfV x a), .int .u8 (er : Int)])) w' := ⟨x, a, by rw [h], fun h2 => absurd (h.symm.trans h2) h0, hg⟩
set_option maxRecDepth 100000 in
set_option maxHeartbeats 8000000 in
theorem takeLeaf_e (xs : List UInt8) (i g : Nat) (w : World) (hl : xs.length ≤ 1000000) (hr : Rd w g (xs.drop i) 0) :
    Calls Try.prog 43 #[.pointer (some ⟨g, 0, none⟩)] w (TlRet xs i g w) := by
  have HV : Hid (∀ i j W, Rd W g (xs.drop (posD xs i j)) (errD xs i j) → _) := hid fun i j W h => VecD xs i j g W hl h
  have HNU : Hid (∀ p e W, Rd W g (xs.drop p) e → _) := hid fun p e W h => NumD xs p e g W h
  have hgl := hr.lt
  have HGL := hid hgl
  have HBA : Hid (Below w.heap.size w (w.alloc (.cells lfZ LfT))) := hid ((Below.refl _ _).alloc (Nat.le_refl _) _)
  have K0 : Hid ((w.alloc (.cells lfZ LfT)).heap[w.heap.size]? = some (.cells lfZ LfT (0, 0))) := hid (heap_alloc_new w _)
  have HG : Hid (w.grownBy (w.alloc (.cells lfZ LfT)) (some g)) := hid (grown_bl (World.grownBy.refl _ _) HBA.out)
  have R0 : Hid (Rd (w.alloc (.cells lfZ LfT)) g (xs.drop (posD xs i 0)) (errD xs i 0)) := hid (rd_below hr HBA.out)
  have HRET : Hid (TlRet xs i g w = TlRet xs i g w) := hid rfl
  clear hl hr hgl HBA
  go_enter Try.func43, Try.ntmps43
  go_wp2_with fail
  refine (HV.out i 0 _ R0.out).mono ?_
  rintro r w1 ⟨A0, c0, rfl, ho, hr, hg⟩
  have HGn := hid (grown_step HG.out (.inl rfl) hg)
  have K0n := hid (block_grown K0.out hg (by intro e; injection e with e; have := HGL.out; omega))
  have O0 := hid (own_base ho HG.out.size)
  have R1 := hid hr
  clear ho hr hg R0
  clear HG K0
  have HG := HGn
  have K0 := K0n
  clear HGn K0n
  go_wp2_with fail
  refine (HV.out i 1 _ R1.out).mono ?_
  rintro r w2 ⟨A1, c1, rfl, ho, hr, hg⟩
  have HGn := hid (grown_step HG.out (.inl rfl) hg)
  have K0n := hid (block_grown K0.out hg (by intro e; injection e with e; have := HGL.out; omega))
  have O0n := hid (own_far O0.out hg HGL.out)
  have O1 := hid (own_base ho HG.out.size)
  have R2 := hid hr
  clear ho hr hg R1
  clear HG K0 O0
  have HG := HGn
  have K0 := K0n
  have O0 := O0n
  clear HGn K0n O0n
  go_wp2_with fail
  refine (HV.out i 2 _ R2.out).mono ?_
  rintro r w3 ⟨A2, c2, rfl, ho, hr, hg⟩
  have HGn := hid (grown_step HG.out (.inl rfl) hg)
  have K0n := hid (block_grown K0.out hg (by intro e; injection e with e; have := HGL.out; omega))
  have O0n := hid (own_far O0.out hg HGL.out)
  have O1n := hid (own_far O1.out hg HGL.out)
  have O2 := hid (own_base ho HG.out.size)
  have R3 := hid hr
  clear ho hr hg R2
  clear HG K0 O0 O1
  have HG := HGn
  have K0 := K0n
  have O0 := O0n
  have O1 := O1n
  clear HGn K0n O0n O1n
  go_wp2_with fail
  refine (HNU.out (posD xs i 3) (errD xs i 3) _ R3.out).mono ?_
  rintro r w4 ⟨n, hn, rfl, hsn, ⟨ys, hr, hys⟩, hg⟩
  have HGn := hid (grown_step HG.out (.inl rfl) hg)
  have K0n := hid (block_grown K0.out hg (by intro e; injection e with e; have := HGL.out; omega))
  have O0n := hid (own_far O0.out hg HGL.out)
  have O1n := hid (own_far O1.out hg HGL.out)
  have O2n := hid (own_far O2.out hg HGL.out)
  have RN := hid hr
  have HN := hid hn; have HSN := hid hsn; have HYS := hid hys
  clear hr hn hsn hys hg R3
  clear HG K0 O0 O1 O2
  have HG := HGn
  have K0 := K0n
  have O0 := O0n
  have O1 := O1n
  have O2 := O2n
  clear HGn K0n O0n O1n O2n
  obtain ⟨eN, hEN⟩ : ∃ t, t = numE xs (posD xs i 3) (errD xs i 3) := ⟨_, rfl⟩
  rw [← hEN] at RN HSN HYS
  have HEN := hid hEN
  clear hEN
  obtain ⟨b0, hb0⟩ : ∃ t, t = vecJ xs i 0 := ⟨_, rfl⟩
  rw [← hb0] at O0 ⊢
  have HBJ0 := hid hb0
  clear hb0
  obtain ⟨b1, hb1⟩ : ∃ t, t = vecJ xs i 1 := ⟨_, rfl⟩
  rw [← hb1] at O1 ⊢
  have HBJ1 := hid hb1
  clear hb1
  obtain ⟨b2, hb2⟩ : ∃ t, t = vecJ xs i 2 := ⟨_, rfl⟩
  rw [← hb2] at O2 ⊢
  have HBJ2 := hid hb2
  clear hb2
  have hcv : IntKind.u8.wrap (n : Int) = (n : Int) := by have := HN.out; show (n : Int) % 256 = n; omega
  have hbuild : ∀ V : World, (Instr.build LfT #[(0, .slice A0 b0.length c0), (1, .slice A1 b1.length c1), (2, .slice A2 b2.length c2), (3, .int .u8 (n : Int))]).run Try.prog V = .ok (.agg (lfV ⟨b0, b1, b2, n, [], []⟩ ⟨A0, A1, A2, none, none, c0, c1, c2, 0, 0⟩)) V := fun V => run_build V LfT _ _ (by kernel_rfl)
  have KA := heap_alloc_new w4 (.cells lfZ LfT)
  go_wp2_with (with_reducible refine wpList_store_row rfl LfT (.tmp 4) _ rfl w4.heap.size (lfV ⟨b0, b1, b2, n, [], []⟩ ⟨A0, A1, A2, none, none, c0, c1, c2, 0, 0⟩) rfl rfl LfT lfZ KA infoLf lfZ_size lfV_one ?_)
  have K4 := hid (setRow_heap _ w4.heap.size lfZ (lfV ⟨b0, b1, b2, n, [], []⟩ ⟨A0, A1, A2, none, none, c0, c1, c2, 0, 0⟩) LfT (0, 0) KA)
  have hbl : Below w4.heap.size w4 ((w4.alloc (.cells lfZ LfT)).setRow w4.heap.size (lfV ⟨b0, b1, b2, n, [], []⟩ ⟨A0, A1, A2, none, none, c0, c1, c2, 0, 0⟩)) := ((Below.refl _ _).alloc (Nat.le_refl _) _).trans (below_put _ _ _ (Nat.le_refl _))
  clear hcv hbuild KA
  generalize hW : World.setRow _ _ _ = W at K4 hbl ⊢
  have HGn := hid (grown_bl HG.out hbl)
  have K0n := hid ((hbl.block _ (block_lt K0.out)).trans K0.out)
  have RNn := hid (rd_below RN.out hbl)
  have O0n := hid (own_on16 O0.out hbl)
  have O1n := hid (own_on16 O1.out hbl)
  have O2n := hid (own_on16 O2.out hbl)
  have H4 : Hid (w.heap.size + 1 ≤ w4.heap.size) := hid (block_lt K0.out)
  clear hbl hW
  clear HG K0 RN O0 O1 O2
  have HG := HGn
  have K0 := K0n
  have RN := RNn
  have O0 := O0n
  have O1 := O1n
  have O2 := O2n
  clear HGn K0n RNn O0n O1n O2n
  obtain ⟨g4, hg4⟩ : ∃ t, t = w4.heap.size := ⟨_, rfl⟩
  rw [← hg4] at K4 H4 ⊢
  clear hg4
  go_wp2_with fail
  refine (Err_any g _ _ _ RN.out).mono ?_
  rintro r W2 ⟨rfl, rfl⟩
  by_cases h0 : eN = 0
  case neg =>
    have hne : ((eN : Int) != 0) = true := by rw [bne_iff_ne]; omega
    have HT : Hid (tlE xs i = eN) := hid (by rw [HEN.out]; exact tl_num (by rw [show tlP xs i = posD xs i 3 from rfl, ← HEN.out]; exact h0))
    have x0 := cell_of K4.out 0 _ rfl; have x1 := cell_of K4.out 1 _ rfl; have x2 := cell_of K4.out 2 _ rfl; have x3 := cell_of K4.out 3 _ rfl; have x4 := cell_of K4.out 4 _ rfl; have x5 := cell_of K4.out 5 _ rfl
    go_wp2_with (with_reducible refine wpList_store_row rfl LfT (.tmp 2) _ rfl w.heap.size (lfV ⟨b0, b1, b2, n, [], []⟩ ⟨A0, A1, A2, none, none, c0, c1, c2, 0, 0⟩) rfl rfl LfT lfZ K0.out infoLf lfZ_size lfV_one ?_)
    have KZ := setRow_heap _ w.heap.size lfZ (lfV ⟨b0, b1, b2, n, [], []⟩ ⟨A0, A1, A2, none, none, c0, c1, c2, 0, 0⟩) LfT (0, 0) K0.out
    exact bodyPost_ret (v := .tuple #[.agg (lfV ⟨b0, b1, b2, n, [], []⟩ ⟨A0, A1, A2, none, none, c0, c1, c2, 0, 0⟩), .int .u8 (eN : Int)]) (results_cn rfl _ _ w.heap.size LfT (lfV ⟨b0, b1, b2, n, [], []⟩ ⟨A0, A1, A2, none, none, c0, c1, c2, 0, 0⟩) (0, 0) _ rfl KZ Try.underlying24 rfl infoLf _ rfl) rfl (TlRet.no HT.out h0 (grown_put HG.out (Nat.le_refl _)))
  case pos =>
    subst h0
    have HS := hid (HSN.out rfl); have HY := hid (HYS.out rfl)
    rw [HY.out] at RN
    have HNE : Hid (numE xs (tlP xs i) (errD xs i 3) = 0) := hid HEN.out.symm
    have HSI := hid (fun V => isSource_e n V HN.out)
    obtain ⟨q, hq⟩ : ∃ t, t = (decide (0 < n) && decide (n < 4)) := ⟨_, rfl⟩
    rw [← hq] at HSI
    have HQ := hid hq
    clear hq HSN HYS HY HEN
    have y3 := cell_of K4.out 3 _ rfl
    go_wp2_with fail
    refine (HSI.out _).mono ?_
    rintro r W2 ⟨rfl, rfl⟩
    clear HSI
    cases q with
    | false =>
      have HT : Hid (tlE xs i = 3) := hid (by
        have h := HQ.out
        obtain ⟨h1, h2⟩ := num_e HNE.out
        refine tl_a h1 h2 ?_
        rw [show srcJ xs (tlP xs i) = n from HS.out.symm]
        rcases Nat.lt_or_ge 0 n with h3 | h3
        · rw [decide_eq_true h3, Bool.true_and] at h
          have := of_decide_eq_false h.symm
          exact .inr (by omega)
        · exact .inl (by omega))
      clear y3
      have x0 := cell_of K4.out 0 _ rfl; have x1 := cell_of K4.out 1 _ rfl; have x2 := cell_of K4.out 2 _ rfl; have x3 := cell_of K4.out 3 _ rfl; have x4 := cell_of K4.out 4 _ rfl; have x5 := cell_of K4.out 5 _ rfl
      go_wp2_with (with_reducible refine wpList_store_row rfl LfT (.tmp 2) _ rfl w.heap.size (lfV ⟨b0, b1, b2, n, [], []⟩ ⟨A0, A1, A2, none, none, c0, c1, c2, 0, 0⟩) rfl rfl LfT lfZ K0.out infoLf lfZ_size lfV_one ?_)
      have KZ := setRow_heap _ w.heap.size lfZ (lfV ⟨b0, b1, b2, n, [], []⟩ ⟨A0, A1, A2, none, none, c0, c1, c2, 0, 0⟩) LfT (0, 0) K0.out
      exact bodyPost_ret (v := .tuple #[.agg (lfV ⟨b0, b1, b2, n, [], []⟩ ⟨A0, A1, A2, none, none, c0, c1, c2, 0, 0⟩), .int .u8 ((3 : Nat) : Int)]) (results_cn rfl _ _ w.heap.size LfT (lfV ⟨b0, b1, b2, n, [], []⟩ ⟨A0, A1, A2, none, none, c0, c1, c2, 0, 0⟩) (0, 0) _ rfl KZ Try.underlying24 rfl infoLf _ rfl) rfl (TlRet.no HT.out (by decide) (grown_put HG.out (Nat.le_refl _)))
    | true =>
      have hq := HQ.out
      rw [eq_comm, Bool.and_eq_true, decide_eq_true_iff, decide_eq_true_iff] at hq
      have HSRC : Hid (¬ (srcJ xs (tlP xs i) = 0 ∨ 3 < srcJ xs (tlP xs i))) := hid (by rw [show srcJ xs (tlP xs i) = n from HS.out.symm]; omega)
      have HTL := hid (tl_last HNE.out HSRC.out)
      clear hq HQ
      have RP : Hid (Rd W2 g (xs.drop (posD xs (tlP xs i + 1) 0)) (errD xs (tlP xs i + 1) 0)) := RN
      clear RN
      by_cases h3 : n = 3
      case pos =>
        subst h3
        have y3 := cell_of K4.out 3 _ rfl
        have HS3 : Hid (srcJ xs (tlP xs i) = 3) := hid HS.out.symm
        go_wp2_with fail
        refine (HV.out (tlP xs i + 1) 0 _ RP.out).mono ?_
        rintro r V3 ⟨A3, c3, rfl, ho, hr, hg⟩
        have HGn := hid (grown_step HG.out (.inl rfl) hg)
        have K0n := hid (block_grown K0.out hg (by intro e; injection e with e; have := HGL.out; omega))
        have O0n := hid (own_far O0.out hg HGL.out)
        have O1n := hid (own_far O1.out hg HGL.out)
        have O2n := hid (own_far O2.out hg HGL.out)
        have K4n := hid (block_grown K4.out hg (by intro e; injection e with e; have := HGL.out; have := H4.out; omega))
        have O3 := hid (own_base ho HG.out.size)
        have RPn := hid hr
        clear ho hr hg RP
        clear HG K0 K4 O0 O1 O2
        have HG := HGn
        have K0 := K0n
        have K4 := K4n
        have O0 := O0n
        have O1 := O1n
        have O2 := O2n
        clear HGn K0n K4n O0n O1n O2n
        have RP := RPn
        clear RPn
        obtain ⟨b3, hb3⟩ : ∃ t, t = vecJ xs (tlP xs i + 1) 0 := ⟨_, rfl⟩
        rw [← hb3] at O3 ⊢
        have HBJ3 := hid hb3
        clear hb3
        clear y3
        have hgc := grown_setCell V3 g4 4 none (.slice A3 b3.length c3)
        have K4n : Hid ((V3.setCell ⟨g4, 4, none⟩ (.slice A3 b3.length c3)).heap[g4]? = some (.cells (lfV ⟨b0, b1, b2, 3, b3, []⟩ ⟨A0, A1, A2, A3, none, c0, c1, c2, c3, 0⟩) LfT (0, 0))) := hid (by have h := block_set K4.out 4 (.slice A3 b3.length c3); exact h)
        have K0n := hid (block_grown K0.out hgc (by intro e; injection e with e; have := H4.out; omega))
        have HGn := hid (grown_cell (i := 4) (u := (.slice A3 b3.length c3)) HG.out (show w.heap.size ≤ g4 by have := H4.out; omega))
        have RPn := hid (RP.out.grown hgc (by intro k e; injection e with e; have := HGL.out; have := H4.out; omega))
        have O0n := hid (World.ownsRow.kept (row := some g4) O0.out hgc (.inr (own_not16 O0.out K4.out (by decide))))
        have O1n := hid (World.ownsRow.kept (row := some g4) O1.out hgc (.inr (own_not16 O1.out K4.out (by decide))))
        have O2n := hid (World.ownsRow.kept (row := some g4) O2.out hgc (.inr (own_not16 O2.out K4.out (by decide))))
        have O3n := hid (World.ownsRow.kept (row := some g4) O3.out hgc (.inr (own_not16 O3.out K4.out (by decide))))
        have yy := cell_of K4.out 4 _ rfl
        have zz : V3.frozen? ⟨g4, 4, none⟩ = false := frozen_of_row _ _ _ _ _ K4.out
        go_wp2_with fail
        clear yy zz hgc
        generalize hW : World.setCell _ _ _ = X at K4n K0n HGn RPn O0n O1n O2n O3n ⊢
        clear hW
        clear HG K0 K4 RP O0 O1 O2 O3
        have HG := HGn
        have K0 := K0n
        have K4 := K4n
        have RP := RPn
        have O0 := O0n
        have O1 := O1n
        have O2 := O2n
        have O3 := O3n
        clear HGn K0n K4n RPn O0n O1n O2n O3n
        go_wp2_with fail
        refine (HV.out (tlP xs i + 1) 1 _ RP.out).mono ?_
        rintro r V4 ⟨A4, c4, rfl, ho, hr, hg⟩
        have HGn := hid (grown_step HG.out (.inl rfl) hg)
        have K0n := hid (block_grown K0.out hg (by intro e; injection e with e; have := HGL.out; omega))
        have O0n := hid (own_far O0.out hg HGL.out)
        have O1n := hid (own_far O1.out hg HGL.out)
        have O2n := hid (own_far O2.out hg HGL.out)
        have O3n := hid (own_far O3.out hg HGL.out)
        have K4n := hid (block_grown K4.out hg (by intro e; injection e with e; have := HGL.out; have := H4.out; omega))
        have O4 := hid (own_base ho HG.out.size)
        have RPn := hid hr
        clear ho hr hg RP
        clear HG K0 K4 O0 O1 O2 O3
        have HG := HGn
        have K0 := K0n
        have K4 := K4n
        have O0 := O0n
        have O1 := O1n
        have O2 := O2n
        have O3 := O3n
        clear HGn K0n K4n O0n O1n O2n O3n
        have RP := RPn
        clear RPn
        obtain ⟨b4, hb4⟩ : ∃ t, t = vecJ xs (tlP xs i + 1) 1 := ⟨_, rfl⟩
        rw [← hb4] at O4 ⊢
        have HBJ4 := hid hb4
        clear hb4
        have hgc := grown_setCell V4 g4 5 none (.slice A4 b4.length c4)
        have K4n : Hid ((V4.setCell ⟨g4, 5, none⟩ (.slice A4 b4.length c4)).heap[g4]? = some (.cells (lfV ⟨b0, b1, b2, 3, b3, b4⟩ ⟨A0, A1, A2, A3, A4, c0, c1, c2, c3, c4⟩) LfT (0, 0))) := hid (by have h := block_set K4.out 5 (.slice A4 b4.length c4); exact h)
        have K0n := hid (block_grown K0.out hgc (by intro e; injection e with e; have := H4.out; omega))
        have HGn := hid (grown_cell (i := 5) (u := (.slice A4 b4.length c4)) HG.out (show w.heap.size ≤ g4 by have := H4.out; omega))
        have RPn := hid (RP.out.grown hgc (by intro k e; injection e with e; have := HGL.out; have := H4.out; omega))
        have O0n := hid (World.ownsRow.kept (row := some g4) O0.out hgc (.inr (own_not16 O0.out K4.out (by decide))))
        have O1n := hid (World.ownsRow.kept (row := some g4) O1.out hgc (.inr (own_not16 O1.out K4.out (by decide))))
        have O2n := hid (World.ownsRow.kept (row := some g4) O2.out hgc (.inr (own_not16 O2.out K4.out (by decide))))
        have O3n := hid (World.ownsRow.kept (row := some g4) O3.out hgc (.inr (own_not16 O3.out K4.out (by decide))))
        have O4n := hid (World.ownsRow.kept (row := some g4) O4.out hgc (.inr (own_not16 O4.out K4.out (by decide))))
        have yy := cell_of K4.out 5 _ rfl
        have zz : V4.frozen? ⟨g4, 5, none⟩ = false := frozen_of_row _ _ _ _ _ K4.out
        go_wp2_with fail
        clear yy zz hgc
        generalize hW : World.setCell _ _ _ = X at K4n K0n HGn RPn O0n O1n O2n O3n O4n ⊢
        clear hW
        clear HG K0 K4 RP O0 O1 O2 O3 O4
        have HG := HGn
        have K0 := K0n
        have K4 := K4n
        have RP := RPn
        have O0 := O0n
        have O1 := O1n
        have O2 := O2n
        have O3 := O3n
        have O4 := O4n
        clear HGn K0n K4n RPn O0n O1n O2n O3n O4n
        refine (Err_any g _ _ _ RP.out).mono ?_
        rintro r Y ⟨rfl, rfl⟩
        obtain ⟨eL, hEL⟩ : ∃ t, t = errD xs (tlP xs i + 1) 2 := ⟨_, rfl⟩
        rw [← hEL] at RP ⊢
        have HLE : Hid (lastE xs (tlP xs i) = eL) := hid (by rw [hEL]; unfold lastE; rw [if_pos HS3.out])
        clear hEL
        have HX : Hid (tlF xs i = ⟨b0, b1, b2, 3, b3, b4⟩) := hid (by rw [HBJ0.out, HBJ1.out, HBJ2.out, HBJ3.out, HBJ4.out]; unfold tlF tlR; rw [HS3.out, if_pos rfl, if_pos rfl]; rfl)
        have HTT := HTL.out
        rw [HLE.out, HX.out] at HTT
        have HTU := hid HTT
        clear HTT HTL HLE
        by_cases h0 : eL = 0
        case neg =>
          have hne : ((eL : Int) != 0) = true := by rw [bne_iff_ne]; omega
          have HT : Hid (tlE xs i = eL) := hid (by rw [HTU.out, if_pos h0])
          have x0 := cell_of K4.out 0 _ rfl; have x1 := cell_of K4.out 1 _ rfl; have x2 := cell_of K4.out 2 _ rfl; have x3 := cell_of K4.out 3 _ rfl; have x4 := cell_of K4.out 4 _ rfl; have x5 := cell_of K4.out 5 _ rfl
          go_wp2_with (with_reducible refine wpList_store_row rfl LfT (.tmp 2) _ rfl w.heap.size (lfV ⟨b0, b1, b2, 3, b3, b4⟩ ⟨A0, A1, A2, A3, A4, c0, c1, c2, c3, c4⟩) rfl rfl LfT lfZ K0.out infoLf lfZ_size lfV_one ?_)
          have KZ := setRow_heap _ w.heap.size lfZ (lfV ⟨b0, b1, b2, 3, b3, b4⟩ ⟨A0, A1, A2, A3, A4, c0, c1, c2, c3, c4⟩) LfT (0, 0) K0.out
          exact bodyPost_ret (v := .tuple #[.agg (lfV ⟨b0, b1, b2, 3, b3, b4⟩ ⟨A0, A1, A2, A3, A4, c0, c1, c2, c3, c4⟩), .int .u8 (eL : Int)]) (results_cn rfl _ _ w.heap.size LfT (lfV ⟨b0, b1, b2, 3, b3, b4⟩ ⟨A0, A1, A2, A3, A4, c0, c1, c2, c3, c4⟩) (0, 0) _ rfl KZ Try.underlying24 rfl infoLf _ rfl) rfl (TlRet.no HT.out h0 (grown_put HG.out (Nat.le_refl _)))
        case pos =>
          subst h0
          have HT : Hid (tlE xs i = if leafB ⟨b0, b1, b2, 3, b3, b4⟩ then 0 else 3) := hid (by rw [HTU.out, if_neg (by simp)])
          have HIL : Hid (∀ V, Calls Try.prog 33 #[.agg (lfV ⟨b0, b1, b2, 3, b3, b4⟩ ⟨A0, A1, A2, A3, A4, c0, c1, c2, c3, c4⟩)] V (RetB V (leafB ⟨b0, b1, b2, 3, b3, b4⟩))) := hid fun V => isLeaf_e ⟨b0, b1, b2, 3, b3, b4⟩ ⟨A0, A1, A2, A3, A4, c0, c1, c2, c3, c4⟩ V (by have := HN.out; first | exact this | omega)
          obtain ⟨q, hq⟩ : ∃ t, t = leafB ⟨b0, b1, b2, 3, b3, b4⟩ := ⟨_, rfl⟩
          rw [← hq] at HIL HT
          have HFO : Hid (∀ V, Calls Try.prog 61 #[.bool q] V fun e w' => e = .returned (.int .u8 ((if q then 0 else 3 : Nat) : Int)) ∧ Below V.heap.size V w') := hid fun V => (formOf_e q V).mono fun e w' ⟨h1, h2⟩ => ⟨h1, by rw [h2]; exact Below.refl _ _⟩
          obtain ⟨er, her⟩ : ∃ t, t = (if q then 0 else 3 : Nat) := ⟨_, rfl⟩
          have HT2 : Hid (tlE xs i = er) := hid (by rw [HT.out, her])
          rw [← her] at HFO
          clear hq her HT HTU
          go_upto_region 13 with fail
          refine wp_region_grA 4 (by kernel_rfl) (by decide) ?_
          refine wpGrA_take (i := 0) (.agg (lfV ⟨b0, b1, b2, 3, b3, b4⟩ ⟨A0, A1, A2, A3, A4, c0, c1, c2, c3, c4⟩)) rfl (by kernel_rfl) (by kernel_rfl) (fun _ _ _ h => h) (yG_part (by rfl) LfT (.tmp 4) rfl g4 0 rfl LfT (lfV ⟨b0, b1, b2, 3, b3, b4⟩ ⟨A0, A1, A2, A3, A4, c0, c1, c2, c3, c4⟩) (lfV ⟨b0, b1, b2, 3, b3, b4⟩ ⟨A0, A1, A2, A3, A4, c0, c1, c2, c3, c4⟩) (0, 0) _ K4.out rfl Try.underlying24 rfl infoLf) ?_
          (try simp only [Act.put, List.getElem_toArray, List.getElem_cons_succ, List.getElem_cons_zero, List.setIfInBounds_toArray, List.set_cons_zero, List.set_cons_succ])
          refine wpGrA_take (i := 1) (.agg (lfV ⟨b0, b1, b2, 3, b3, b4⟩ ⟨A0, A1, A2, A3, A4, c0, c1, c2, c3, c4⟩)) rfl (by kernel_rfl) (by kernel_rfl) (fun _ _ _ h => h) (yG_part (by rfl) LfT (.tmp 4) rfl g4 0 rfl LfT (lfV ⟨b0, b1, b2, 3, b3, b4⟩ ⟨A0, A1, A2, A3, A4, c0, c1, c2, c3, c4⟩) (lfV ⟨b0, b1, b2, 3, b3, b4⟩ ⟨A0, A1, A2, A3, A4, c0, c1, c2, c3, c4⟩) (0, 0) _ K4.out rfl Try.underlying24 rfl infoLf) ?_
          (try simp only [Act.put, List.getElem_toArray, List.getElem_cons_succ, List.getElem_cons_zero, List.setIfInBounds_toArray, List.set_cons_zero, List.set_cons_succ])
          refine wpGrA_take (i := 2) (.bool q) rfl (by kernel_rfl) (by kernel_rfl) (fun _ _ _ h => h) (yG_call (by rfl) (fun w' => by go_simp) (fun w' hb => HIL.out w')) ?_
          (try simp only [Act.put, List.getElem_toArray, List.getElem_cons_succ, List.getElem_cons_zero, List.setIfInBounds_toArray, List.set_cons_zero, List.set_cons_succ])
          refine wpGrA_take (i := 3) (.int .u8 (er : Int)) rfl (by kernel_rfl) (by kernel_rfl) (fun _ _ _ h => h) (yG_call (by rfl) (fun w' => by go_simp) (fun w' hb => HFO.out w')) ?_
          (try simp only [Act.put, List.getElem_toArray, List.getElem_cons_succ, List.getElem_cons_zero, List.setIfInBounds_toArray, List.set_cons_zero, List.set_cons_succ])
          refine wpGrA_end (by kernel_rfl) ?_
          intro wz hb
          simp only [List.drop_succ_cons, List.drop_zero]
          have HGz := hid (grown_bl HG.out hb)
          have K0z := hid ((hb.block _ (block_lt K0.out)).trans K0.out)
          have RPz := hid (rd_below RP.out hb)
          have O0z := hid (own_on16 O0.out hb)
          have O1z := hid (own_on16 O1.out hb)
          have O2z := hid (own_on16 O2.out hb)
          have O3z := hid (own_on16 O3.out hb)
          have O4z := hid (own_on16 O4.out hb)
          clear hb HG K0 RP K4 HIL HFO O0 O1 O2 O3 O4
          go_wp2_with (with_reducible refine wpList_store_row rfl LfT (.tmp 2) _ rfl w.heap.size (lfV ⟨b0, b1, b2, 3, b3, b4⟩ ⟨A0, A1, A2, A3, A4, c0, c1, c2, c3, c4⟩) rfl rfl LfT lfZ K0z.out infoLf lfZ_size lfV_one ?_)
          have KZ := setRow_heap _ w.heap.size lfZ (lfV ⟨b0, b1, b2, 3, b3, b4⟩ ⟨A0, A1, A2, A3, A4, c0, c1, c2, c3, c4⟩) LfT (0, 0) K0z.out
          have hgp := grown_one wz w.heap.size (lfV ⟨b0, b1, b2, 3, b3, b4⟩ ⟨A0, A1, A2, A3, A4, c0, c1, c2, c3, c4⟩)
          have O0y := (World.ownsRow.kept (row := some w.heap.size) O0z.out hgp (.inr (own_not16 O0z.out K0z.out (by decide))))
          have O1y := (World.ownsRow.kept (row := some w.heap.size) O1z.out hgp (.inr (own_not16 O1z.out K0z.out (by decide))))
          have O2y := (World.ownsRow.kept (row := some w.heap.size) O2z.out hgp (.inr (own_not16 O2z.out K0z.out (by decide))))
          have O3y := (World.ownsRow.kept (row := some w.heap.size) O3z.out hgp (.inr (own_not16 O3z.out K0z.out (by decide))))
          have O4y := (World.ownsRow.kept (row := some w.heap.size) O4z.out hgp (.inr (own_not16 O4z.out K0z.out (by decide))))
          have RPy := RPz.out.grown hgp (by intro k e; injection e with e; have := HGL.out; omega)
          exact bodyPost_ret (v := .tuple #[.agg (lfV ⟨b0, b1, b2, 3, b3, b4⟩ ⟨A0, A1, A2, A3, A4, c0, c1, c2, c3, c4⟩), .int .u8 (er : Int)]) (results_cn rfl _ _ w.heap.size LfT (lfV ⟨b0, b1, b2, 3, b3, b4⟩ ⟨A0, A1, A2, A3, A4, c0, c1, c2, c3, c4⟩) (0, 0) _ rfl KZ Try.underlying24 rfl infoLf _ rfl) rfl ⟨⟨b0, b1, b2, 3, b3, b4⟩, ⟨A0, A1, A2, A3, A4, c0, c1, c2, c3, c4⟩, by rw [HT2.out], fun _ => ⟨HX.out.symm, ⟨O0y, O1y, O2y, O3y, O4y⟩, by unfold tlR; rw [if_pos HS3.out]; exact RPy⟩, grown_put HGz.out (Nat.le_refl _)⟩
      case neg =>
        have h3i : ((n : Int) == 3) = false := by rw [beq_eq_false_iff_ne]; omega
        have y3 := cell_of K4.out 3 _ rfl
        have HS3 : Hid (¬ srcJ xs (tlP xs i) = 3) := hid (by rw [show srcJ xs (tlP xs i) = n from HS.out.symm]; exact h3)
        go_wp2_with fail
        refine (HV.out (tlP xs i + 1) 0 _ RP.out).mono ?_
        rintro r V4 ⟨A4, c4, rfl, ho, hr, hg⟩
        have HGn := hid (grown_step HG.out (.inl rfl) hg)
        have K0n := hid (block_grown K0.out hg (by intro e; injection e with e; have := HGL.out; omega))
        have O0n := hid (own_far O0.out hg HGL.out)
        have O1n := hid (own_far O1.out hg HGL.out)
        have O2n := hid (own_far O2.out hg HGL.out)
        have K4n := hid (block_grown K4.out hg (by intro e; injection e with e; have := HGL.out; have := H4.out; omega))
        have O4 := hid (own_base ho HG.out.size)
        have RPn := hid hr
        clear ho hr hg RP
        clear HG K0 K4 O0 O1 O2
        have HG := HGn
        have K0 := K0n
        have K4 := K4n
        have O0 := O0n
        have O1 := O1n
        have O2 := O2n
        clear HGn K0n K4n O0n O1n O2n
        have RP := RPn
        clear RPn
        obtain ⟨b4, hb4⟩ : ∃ t, t = vecJ xs (tlP xs i + 1) 0 := ⟨_, rfl⟩
        rw [← hb4] at O4 ⊢
        have HBJ4 := hid hb4
        clear hb4
        clear y3 h3i
        have hgc := grown_setCell V4 g4 5 none (.slice A4 b4.length c4)
        have K4n : Hid ((V4.setCell ⟨g4, 5, none⟩ (.slice A4 b4.length c4)).heap[g4]? = some (.cells (lfV ⟨b0, b1, b2, n, [], b4⟩ ⟨A0, A1, A2, none, A4, c0, c1, c2, 0, c4⟩) LfT (0, 0))) := hid (by have h := block_set K4.out 5 (.slice A4 b4.length c4); exact h)
        have K0n := hid (block_grown K0.out hgc (by intro e; injection e with e; have := H4.out; omega))
        have HGn := hid (grown_cell (i := 5) (u := (.slice A4 b4.length c4)) HG.out (show w.heap.size ≤ g4 by have := H4.out; omega))
        have RPn := hid (RP.out.grown hgc (by intro k e; injection e with e; have := HGL.out; have := H4.out; omega))
        have O0n := hid (World.ownsRow.kept (row := some g4) O0.out hgc (.inr (own_not16 O0.out K4.out (by decide))))
        have O1n := hid (World.ownsRow.kept (row := some g4) O1.out hgc (.inr (own_not16 O1.out K4.out (by decide))))
        have O2n := hid (World.ownsRow.kept (row := some g4) O2.out hgc (.inr (own_not16 O2.out K4.out (by decide))))
        have O4n := hid (World.ownsRow.kept (row := some g4) O4.out hgc (.inr (own_not16 O4.out K4.out (by decide))))
        have yy := cell_of K4.out 5 _ rfl
        have zz : V4.frozen? ⟨g4, 5, none⟩ = false := frozen_of_row _ _ _ _ _ K4.out
        go_wp2_with fail
        clear yy zz hgc
        generalize hW : World.setCell _ _ _ = X at K4n K0n HGn RPn O0n O1n O2n O4n ⊢
        clear hW
        clear HG K0 K4 RP O0 O1 O2 O4
        have HG := HGn
        have K0 := K0n
        have K4 := K4n
        have RP := RPn
        have O0 := O0n
        have O1 := O1n
        have O2 := O2n
        have O4 := O4n
        clear HGn K0n K4n RPn O0n O1n O2n O4n
        refine (Err_any g _ _ _ RP.out).mono ?_
        rintro r Y ⟨rfl, rfl⟩
        obtain ⟨eL, hEL⟩ : ∃ t, t = errD xs (tlP xs i + 1) 1 := ⟨_, rfl⟩
        rw [← hEL] at RP ⊢
        have HLE : Hid (lastE xs (tlP xs i) = eL) := hid (by rw [hEL]; unfold lastE; rw [if_neg HS3.out])
        clear hEL
        have HX : Hid (tlF xs i = ⟨b0, b1, b2, n, [], b4⟩) := hid (by rw [HBJ0.out, HBJ1.out, HBJ2.out, HBJ4.out, HS.out]; unfold tlF tlR; rw [if_neg HS3.out, if_neg HS3.out]; rfl)
        have HTT := HTL.out
        rw [HLE.out, HX.out] at HTT
        have HTU := hid HTT
        clear HTT HTL HLE
        by_cases h0 : eL = 0
        case neg =>
          have hne : ((eL : Int) != 0) = true := by rw [bne_iff_ne]; omega
          have HT : Hid (tlE xs i = eL) := hid (by rw [HTU.out, if_pos h0])
          have x0 := cell_of K4.out 0 _ rfl; have x1 := cell_of K4.out 1 _ rfl; have x2 := cell_of K4.out 2 _ rfl; have x3 := cell_of K4.out 3 _ rfl; have x4 := cell_of K4.out 4 _ rfl; have x5 := cell_of K4.out 5 _ rfl
          go_wp2_with (with_reducible refine wpList_store_row rfl LfT (.tmp 2) _ rfl w.heap.size (lfV ⟨b0, b1, b2, n, [], b4⟩ ⟨A0, A1, A2, none, A4, c0, c1, c2, 0, c4⟩) rfl rfl LfT lfZ K0.out infoLf lfZ_size lfV_one ?_)
          have KZ := setRow_heap _ w.heap.size lfZ (lfV ⟨b0, b1, b2, n, [], b4⟩ ⟨A0, A1, A2, none, A4, c0, c1, c2, 0, c4⟩) LfT (0, 0) K0.out
          exact bodyPost_ret (v := .tuple #[.agg (lfV ⟨b0, b1, b2, n, [], b4⟩ ⟨A0, A1, A2, none, A4, c0, c1, c2, 0, c4⟩), .int .u8 (eL : Int)]) (results_cn rfl _ _ w.heap.size LfT (lfV ⟨b0, b1, b2, n, [], b4⟩ ⟨A0, A1, A2, none, A4, c0, c1, c2, 0, c4⟩) (0, 0) _ rfl KZ Try.underlying24 rfl infoLf _ rfl) rfl (TlRet.no HT.out h0 (grown_put HG.out (Nat.le_refl _)))
        case pos =>
          subst h0
          have HT : Hid (tlE xs i = if leafB ⟨b0, b1, b2, n, [], b4⟩ then 0 else 3) := hid (by rw [HTU.out, if_neg (by simp)])
          have HIL : Hid (∀ V, Calls Try.prog 33 #[.agg (lfV ⟨b0, b1, b2, n, [], b4⟩ ⟨A0, A1, A2, none, A4, c0, c1, c2, 0, c4⟩)] V (RetB V (leafB ⟨b0, b1, b2, n, [], b4⟩))) := hid fun V => isLeaf_e ⟨b0, b1, b2, n, [], b4⟩ ⟨A0, A1, A2, none, A4, c0, c1, c2, 0, c4⟩ V (by have := HN.out; first | exact this | omega)
          obtain ⟨q, hq⟩ : ∃ t, t = leafB ⟨b0, b1, b2, n, [], b4⟩ := ⟨_, rfl⟩
          rw [← hq] at HIL HT
          have HFO : Hid (∀ V, Calls Try.prog 61 #[.bool q] V fun e w' => e = .returned (.int .u8 ((if q then 0 else 3 : Nat) : Int)) ∧ Below V.heap.size V w') := hid fun V => (formOf_e q V).mono fun e w' ⟨h1, h2⟩ => ⟨h1, by rw [h2]; exact Below.refl _ _⟩
          obtain ⟨er, her⟩ : ∃ t, t = (if q then 0 else 3 : Nat) := ⟨_, rfl⟩
          have HT2 : Hid (tlE xs i = er) := hid (by rw [HT.out, her])
          rw [← her] at HFO
          clear hq her HT HTU
          go_upto_region 13 with fail
          refine wp_region_grA 4 (by kernel_rfl) (by decide) ?_
          refine wpGrA_take (i := 0) (.agg (lfV ⟨b0, b1, b2, n, [], b4⟩ ⟨A0, A1, A2, none, A4, c0, c1, c2, 0, c4⟩)) rfl (by kernel_rfl) (by kernel_rfl) (fun _ _ _ h => h) (yG_part (by rfl) LfT (.tmp 4) rfl g4 0 rfl LfT (lfV ⟨b0, b1, b2, n, [], b4⟩ ⟨A0, A1, A2, none, A4, c0, c1, c2, 0, c4⟩) (lfV ⟨b0, b1, b2, n, [], b4⟩ ⟨A0, A1, A2, none, A4, c0, c1, c2, 0, c4⟩) (0, 0) _ K4.out rfl Try.underlying24 rfl infoLf) ?_
          (try simp only [Act.put, List.getElem_toArray, List.getElem_cons_succ, List.getElem_cons_zero, List.setIfInBounds_toArray, List.set_cons_zero, List.set_cons_succ])
          refine wpGrA_take (i := 1) (.agg (lfV ⟨b0, b1, b2, n, [], b4⟩ ⟨A0, A1, A2, none, A4, c0, c1, c2, 0, c4⟩)) rfl (by kernel_rfl) (by kernel_rfl) (fun _ _ _ h => h) (yG_part (by rfl) LfT (.tmp 4) rfl g4 0 rfl LfT (lfV ⟨b0, b1, b2, n, [], b4⟩ ⟨A0, A1, A2, none, A4, c0, c1, c2, 0, c4⟩) (lfV ⟨b0, b1, b2, n, [], b4⟩ ⟨A0, A1, A2, none, A4, c0, c1, c2, 0, c4⟩) (0, 0) _ K4.out rfl Try.underlying24 rfl infoLf) ?_
          (try simp only [Act.put, List.getElem_toArray, List.getElem_cons_succ, List.getElem_cons_zero, List.setIfInBounds_toArray, List.set_cons_zero, List.set_cons_succ])
          refine wpGrA_take (i := 2) (.bool q) rfl (by kernel_rfl) (by kernel_rfl) (fun _ _ _ h => h) (yG_call (by rfl) (fun w' => by go_simp) (fun w' hb => HIL.out w')) ?_
          (try simp only [Act.put, List.getElem_toArray, List.getElem_cons_succ, List.getElem_cons_zero, List.setIfInBounds_toArray, List.set_cons_zero, List.set_cons_succ])
          refine wpGrA_take (i := 3) (.int .u8 (er : Int)) rfl (by kernel_rfl) (by kernel_rfl) (fun _ _ _ h => h) (yG_call (by rfl) (fun w' => by go_simp) (fun w' hb => HFO.out w')) ?_
          (try simp only [Act.put, List.getElem_toArray, List.getElem_cons_succ, List.getElem_cons_zero, List.setIfInBounds_toArray, List.set_cons_zero, List.set_cons_succ])
          refine wpGrA_end (by kernel_rfl) ?_
          intro wz hb
          simp only [List.drop_succ_cons, List.drop_zero]
          have HGz := hid (grown_bl HG.out hb)
          have K0z := hid ((hb.block _ (block_lt K0.out)).trans K0.out)
          have RPz := hid (rd_below RP.out hb)
          have O0z := hid (own_on16 O0.out hb)
          have O1z := hid (own_on16 O1.out hb)
          have O2z := hid (own_on16 O2.out hb)
          have O4z := hid (own_on16 O4.out hb)
          clear hb HG K0 RP K4 HIL HFO O0 O1 O2 O4
          go_wp2_with (with_reducible refine wpList_store_row rfl LfT (.tmp 2) _ rfl w.heap.size (lfV ⟨b0, b1, b2, n, [], b4⟩ ⟨A0, A1, A2, none, A4, c0, c1, c2, 0, c4⟩) rfl rfl LfT lfZ K0z.out infoLf lfZ_size lfV_one ?_)
          have KZ := setRow_heap _ w.heap.size lfZ (lfV ⟨b0, b1, b2, n, [], b4⟩ ⟨A0, A1, A2, none, A4, c0, c1, c2, 0, c4⟩) LfT (0, 0) K0z.out
          have hgp := grown_one wz w.heap.size (lfV ⟨b0, b1, b2, n, [], b4⟩ ⟨A0, A1, A2, none, A4, c0, c1, c2, 0, c4⟩)
          have O0y := (World.ownsRow.kept (row := some w.heap.size) O0z.out hgp (.inr (own_not16 O0z.out K0z.out (by decide))))
          have O1y := (World.ownsRow.kept (row := some w.heap.size) O1z.out hgp (.inr (own_not16 O1z.out K0z.out (by decide))))
          have O2y := (World.ownsRow.kept (row := some w.heap.size) O2z.out hgp (.inr (own_not16 O2z.out K0z.out (by decide))))
          have O4y := (World.ownsRow.kept (row := some w.heap.size) O4z.out hgp (.inr (own_not16 O4z.out K0z.out (by decide))))
          have RPy := RPz.out.grown hgp (by intro k e; injection e with e; have := HGL.out; omega)
          exact bodyPost_ret (v := .tuple #[.agg (lfV ⟨b0, b1, b2, n, [], b4⟩ ⟨A0, A1, A2, none, A4, c0, c1, c2, 0, c4⟩), .int .u8 (er : Int)]) (results_cn rfl _ _ w.heap.size LfT (lfV ⟨b0, b1, b2, n, [], b4⟩ ⟨A0, A1, A2, none, A4, c0, c1, c2, 0, c4⟩) (0, 0) _ rfl KZ Try.underlying24 rfl infoLf _ rfl) rfl ⟨⟨b0, b1, b2, n, [], b4⟩, ⟨A0, A1, A2, none, A4, c0, c1, c2, 0, c4⟩, by rw [HT2.out], fun _ => ⟨HX.out.symm, ⟨O0y, O1y, O2y, World.ownsRow_nil _ _ _ _, O4y⟩, by unfold tlR; rw [if_neg HS3.out]; exact RPy⟩, grown_put HGz.out (Nat.le_refl _)⟩
end Go.Proofs.Ytlgcdddgahjknaa
end
section
namespace Go.Proofs.Ytlgcdddgahjknaa
open Go Go.RowKit
set_option linter.unusedVariables false
set_option linter.unusedSimpArgs false
set_option maxHeartbeats 2000000 in
theorem node_takeleaf : NdTakeLeaf := fun g xs w hr hl => by
  have hgl := hr.lt
  have HGL := hid hgl
  have HBA : Hid (Below w.heap.size w (w.alloc (.cells lfZ LfT))) := hid ((Below.refl _ _).alloc (Nat.le_refl _) _)
  have K0 : Hid ((w.alloc (.cells lfZ LfT)).heap[w.heap.size]? = some (.cells lfZ LfT (0, 0))) := hid (heap_alloc_new w _)
  have HG : Hid (w.grownBy (w.alloc (.cells lfZ LfT)) (some g)) := hid (grown_bl (World.grownBy.refl _ _) HBA.out)
  have HT : Hid (Calls Try.prog 43 #[.pointer (some ⟨g, 0, none⟩)] (w.alloc (.cells lfZ LfT)) (TlRet xs 0 g (w.alloc (.cells lfZ LfT)))) := hid (takeLeaf_e xs 0 g _ hl (by rw [List.drop_zero]; exact rd_below hr HBA.out))
  clear hr hl hgl HBA
  go_enter Try.func22, Try.ntmps22
  go_wp2_with fail
  refine HT.out.mono ?_
  rintro e w1 ⟨x, a, rfl, hok, hg⟩
  have K1 := hid (block_grown K0.out hg (by intro e; injection e with e; have := HGL.out; omega))
  have HG1 := hid (grown_step HG.out (.inl rfl) hg)
  have HOK := hid hok
  obtain ⟨er, her⟩ : ∃ t, t = tlE xs 0 := ⟨_, rfl⟩
  have HTX : Hid (tlX xs 0 = if er = 0 then tlF xs 0 else lf0) := hid (by rw [her]; rfl)
  have HTN : Hid (er = 0 → tlN xs 0 = posD xs (tlR xs 0) 1) := hid (by rw [her]; intro h; unfold tlN; rw [if_pos h])
  rw [← her] at HOK ⊢
  have HER := hid her
  clear hok hg HT HG K0 her
  have KA := heap_alloc_new w1 (.cells lfZ LfT)
  have K4 : Hid (((w1.alloc (.cells lfZ LfT)).setRow w1.heap.size (lfV x a)).heap[w1.heap.size]? = some (.cells (lfV x a) LfT (0, 0))) := hid (setRow_heap _ w1.heap.size lfZ (lfV x a) LfT (0, 0) KA)
  have HBL : Hid (Below w1.heap.size w1 ((w1.alloc (.cells lfZ LfT)).setRow w1.heap.size (lfV x a))) := hid (((Below.refl _ _).alloc (Nat.le_refl _) _).trans (below_put _ _ _ (Nat.le_refl _)))
  have K2 := hid ((HBL.out.block _ (block_lt K1.out)).trans K1.out)
  have HG2 := hid (grown_bl HG1.out HBL.out)
  have HSZ : Hid ((w.alloc (.cells lfZ LfT)).heap.size = w.heap.size + 1) := hid (by simp)
  have HOW : Hid (er = 0 → x = tlF xs 0 ∧ LfOwn (w.alloc (.cells lfZ LfT)) ((w1.alloc (.cells lfZ LfT)).setRow w1.heap.size (lfV x a)) x a ∧ Rd ((w1.alloc (.cells lfZ LfT)).setRow w1.heap.size (lfV x a)) g (xs.drop (posD xs (tlR xs 0) 1)) 0) := hid fun h => by
    obtain ⟨h1, h2, h3⟩ := HOK.out h
    exact ⟨h1, lfOwn_on h2 HBL.out, rd_below h3 HBL.out⟩
  clear HBL K1 HG1 HOK
  by_cases h0 : er = 0
  · subst h0
    obtain ⟨hx, hlf, hrd⟩ := HOW.out rfl
    have htx := HTX.out
    rw [if_pos rfl, ← hx] at htx
    have HX := hid htx; have HL := hid hlf; have HR := hid hrd; have HN := hid (HTN.out rfl)
    clear hx hlf hrd htx HOW HTX HTN
    go_wp2_with (first
      | (with_reducible refine wpList_store_row rfl LfT (.tmp 4) _ rfl w1.heap.size (lfV x a) rfl rfl LfT lfZ KA infoLf lfZ_size lfV_one ?_)
      | (with_reducible refine wpList_load_row rfl LfT (.tmp 4) rfl w1.heap.size rfl LfT (lfV x a) (0, 0) _ K4.out Try.underlying24 rfl infoLf ?_)
      | (with_reducible refine wpList_store_row rfl LfT (.tmp 2) _ rfl w.heap.size (lfV x a) rfl rfl LfT lfZ K2.out infoLf lfZ_size lfV_one ?_))
    have KZ := setRow_heap _ w.heap.size lfZ (lfV x a) LfT (0, 0) K2.out
    have hlf := lfOwn_in (lfOwn_put (cs := lfV x a) HL.out (show w.heap.size < (w.alloc (.cells lfZ LfT)).heap.size by rw [HSZ.out]; omega))
    have hrd := HR.out.grown (grown_one ((w1.alloc (.cells lfZ LfT)).setRow w1.heap.size (lfV x a)) w.heap.size (lfV x a)) (by intro k e; injection e with e; have := HGL.out; omega)
    exact bodyPost_ret (v := .tuple #[.agg (lfV x a), .int .u8 ((0 : Nat) : Int)]) (results_cn rfl _ _ w.heap.size LfT (lfV x a) (0, 0) _ rfl KZ Try.underlying24 rfl infoLf _ rfl) rfl ⟨a, by rw [HX.out, ← HER.out], by rw [HX.out]; exact hlf, fun _ => by rw [HN.out]; exact hrd, grown_put HG2.out (Nat.le_refl _)⟩
  · have hne : ((er : Int) != 0) = true := by rw [bne_iff_ne]; omega
    have htx := HTX.out
    rw [if_neg h0] at htx
    have HX := hid htx
    have hbuild := build_lf
    clear htx HTX HTN HOW
    go_wp2_with (first
      | (with_reducible refine wpList_store_row rfl LfT (.tmp 4) _ rfl w1.heap.size (lfV x a) rfl rfl LfT lfZ KA infoLf lfZ_size lfV_one ?_)
      | (with_reducible refine wpList_store_row rfl LfT (.tmp 2) _ rfl w.heap.size (lfV lf0 la0) rfl rfl LfT lfZ K2.out infoLf lfZ_size lfV_one ?_))
    have KZ := setRow_heap _ w.heap.size lfZ (lfV lf0 la0) LfT (0, 0) K2.out
    exact bodyPost_ret (v := .tuple #[.agg (lfV lf0 la0), .int .u8 (er : Int)]) (results_cn rfl _ _ w.heap.size LfT (lfV lf0 la0) (0, 0) _ rfl KZ Try.underlying24 rfl infoLf _ rfl) rfl ⟨la0, by rw [HX.out, ← HER.out], by rw [HX.out]; exact lf0_in _, fun h => absurd (HER.out.trans h) h0, grown_put HG2.out (Nat.le_refl _)⟩
end Go.Proofs.Ytlgcdddgahjknaa
end
section
namespace Go.Proofs.Ytlgcdddgahjknaa
open Go Go.RowKit
set_option linter.unusedVariables false
set_option linter.unusedSimpArgs false
theorem lateAt_bound (v : List UInt8) (j : Nat) : ∃ m : Nat, lateAt v j = (m : Int) ∧ m < 4294967296 := by
  refine ⟨_, rfl, ?_⟩
  have h0 := (v.getD (4 * j) 0).toNat_lt; have h1 := (v.getD (4 * j + 1) 0).toNat_lt; have h2 := (v.getD (4 * j + 2) 0).toNat_lt; have h3 := (v.getD (4 * j + 3) 0).toNat_lt
  omega
theorem num4_at (v : List UInt8) (j m : Nat) (h : 4 * j + 4 ≤ v.length) (hm : lateAt v j = (m : Int)) (hlt : m < 4294967296) : numAt (v.drop (4 * j)) 4 = (m, v.drop (4 * (j + 1)), 0) := by
  have hb := late_be v j h
  rw [hm, Int.toNat_natCast] at hb
  unfold numAt
  rw [if_neg (by rw [List.length_drop]; omega), ← hb, beNum_beBytes, List.drop_drop, show 4 * j + 4 = 4 * (j + 1) by omega, Nat.zero_mul, Nat.zero_add, Nat.mod_eq_of_lt (by omega)]
theorem lateOf_snoc (v : List UInt8) (k : Nat) : lateOf v (k + 1) = lateOf v k ++ [lateAt v k] := by unfold lateOf; rw [List.range_succ, List.map_append]; rfl
theorem own_blockT {w : World} {B g n : Nat} {e : TypeId} {v : Value} {xs : List Value} (h : w.ownsRow B e 1 v n xs) (hv : v.ownBlock = some g) : ∃ cs, w.heap[g]? = some (.cells cs e (0, 0)) := by
  unfold World.ownsRow at h
  rcases h.2 with ⟨h1, _⟩ | ⟨g', cap, cur, h1, _, h3, _⟩
  · rw [h1] at hv; cases hv
  · rw [h1] at hv
    simp only [Value.ownBlock, Option.some.injEq] at hv
    subst hv
    exact ⟨cur, h3⟩
theorem own_notT {w : World} {B g n : Nat} {e t : TypeId} {v : Value} {xs : List Value} {cs : Array Value} (h : w.ownsRow B e 1 v n xs) (hg : w.heap[g]? = some (.cells cs t (0, 0))) (ht : t ≠ e) : v.ownBlock ≠ some g := fun he => by
  obtain ⟨cs', h'⟩ := own_blockT h he
  rw [hg] at h'
  injection h' with h'
  injection h' with _ h' _
  exact ht h'
set_option maxRecDepth 100000 in
set_option maxHeartbeats 2000000 in
theorem takeLate_e (A : Option Addr) (xs : List UInt8) (c : Nat) (w : World) (hA : Lie w w.heap.size A (bvs xs)) (hl : xs.length ≤ 1000000) :
    Calls Try.prog 73 #[.slice A xs.length c] w fun e w' => ∃ A' c' L, e = .returned (.tuple #[.slice A' (List.length L) c', .bool (decide (xs.length % 4 = 0) && decide (xs.length ≤ 262144))]) ∧ ((decide (xs.length % 4 = 0) && decide (xs.length ≤ 262144)) = true → L = lateOf xs (xs.length / 4)) ∧ w'.ownsRow w.heap.size 3 1 (.slice A' L.length c') L.length (izs L) ∧ Below w.heap.size w w' := by
  have HRD : Hid (Calls Try.prog 21 #[.slice A xs.length c] w fun e w' => ∃ g, e = .returned (.pointer (some ⟨g, 0, none⟩)) ∧ w.heap.size ≤ g ∧ Rd w' g xs 0 ∧ w.grownBy w' none) := hid (NewReader_any A xs c w _ hA (by omega))
  obtain ⟨n, hn⟩ : ∃ n, n = xs.length := ⟨_, rfl⟩
  have HN := hid hn
  rw [← hn] at HRD hl ⊢
  clear hA hn
  by_cases h4 : n % 4 = 0
  · by_cases hb : n ≤ 262144
    · rw [decide_eq_true h4, decide_eq_true hb]
      obtain ⟨k4, hk4⟩ : ∃ k, n = 4 * k := ⟨n / 4, by omega⟩
      subst hk4
      have hd : 4 * k4 / 4 = k4 := by omega
      rw [hd]
      have hrem : (((4 * k4 : Nat) : Int) % 4 != 0) = false := by rw [bne_eq_false_iff_eq]; omega
      have hquo : Int.tdiv ((4 * k4 : Nat) : Int) 4 = (k4 : Int) := by rw [Int.natCast_mul]; exact Int.mul_tdiv_cancel_left _ (by decide)
      have hgt : ¬ (262144 : Int) < ((4 * k4 : Nat) : Int) := by omega
      have hw1 : wrap64 (Int.tdiv ((4 * k4 : Nat) : Int) 4) = (k4 : Int) := by rw [hquo]; unfold wrap64; omega
      obtain ⟨N, hNN⟩ : ∃ N, N = 4 * k4 := ⟨_, rfl⟩
      rw [← hNN] at hrem hquo hgt hw1 HN HRD ⊢
      have HNN := hid hNN; have HB := hid hb
      obtain ⟨i0, hi, hz0, hz1, hz2⟩ := info_parts infoI
      clear hNN hb h4 hd
      go_enter Try.func73, Try.ntmps73
      go_wp2_with fail
      refine HRD.out.mono ?_
      rintro e w1 ⟨g, rfl, hg0, hr, hg⟩
      have HG0 := hid hg0; have HR := hid hr
      have HB1 : Hid (Below w.heap.size w w1) := hid (below_of_grown hg (Nat.le_refl _) (fun k e => by cases e))
      clear hg0 hr hg HRD
      go_wp2_with (at_make; refine wpList_make_own _ rfl _ _ 25 rfl w1.heap.size 3 i0 (.int .i64 0) 1 Try.underlying25 hi hz0 hz1 _ _ _ k4 rfl rfl ?c1 ?c2 ?c3 ?c4 ?_)
      case c1 => rfl
      case c2 => have := HB.out; have := HNN.out; rw [hz2]; omega
      case c3 => have := HB.out; have := HNN.out; unfold maxLen; omega
      case c4 => exact Nat.le_refl _
      intro w2 hown hg
      have HR2 := hid (HR.out.grown hg (fun k e => by cases e))
      have HB2 : Hid (Below w.heap.size w w2) := hid (HB1.out.grown hg HB1.out.size (fun k e => by cases e))
      have HGW : Hid (g < w1.heap.size) := hid HR.out.lt
      have HWW := hid HB1.out.size
      have HW2 : Hid (w1.heap.size ≤ w2.heap.size) := hid hg.size
      have HO2 : Hid (w2.ownsRow w1.heap.size 3 1 (.slice (some ⟨w1.heap.size, 0, none⟩) 0 k4) 0 (izs (lateOf xs 0))) := hid hown
      clear hown hg hi hz0 hz1 hz2 HR HB1 hrem hgt hquo hw1
      go_wp2
      go_loopg [5] k4 (fun r v wr => ∃ k : Nat, k + r = k4 ∧ wr.ownsRow w1.heap.size 3 1 v k (izs (lateOf xs k)) ∧ Rd wr g (xs.drop (4 * k)) 0 ∧ Below w.heap.size w wr ∧ w1.heap.size ≤ wr.heap.size)
      case atStart => exact ⟨0, by omega, HO2.out, by rw [Nat.mul_zero, List.drop_zero]; exact HR2.out, HB2.out, HW2.out⟩
      case round =>
        clear HO2 HR2 HB2
        obtain ⟨k, hk, ho, hr, hb, hws⟩ := hrel
        have HK := hid hk; have HO := hid ho; have HR := hid hr; have HBW := hid hb; have HWS := hid hws
        have HLN : Hid ((xs.drop (4 * k)).length = N - 4 * k) := hid (by rw [List.length_drop, ← HN.out])
        clear hk ho hr hb hws
        go_wp2_with fail
        refine (Left_any g _ 0 _ HR.out).mono ?_
        rintro e w3 ⟨rfl, rfl⟩
        rw [HLN.out]
        by_cases hlt : k < k4
        · have hpos : (0 : Int) < ((N - 4 * k : Nat) : Int) := by have := HNN.out; omega
          obtain ⟨m, hm, hm2⟩ := lateAt_bound xs k
          have hn4 := num4_at xs k m (by rw [← HN.out]; have := HNN.out; omega) hm hm2
          have HQ : Hid (Calls Try.prog 60 #[.pointer (some ⟨g, 0, none⟩), .int .i64 4] wr fun r w' => r = .returned (.int .u64 (m : Int)) ∧ Rd w' g (xs.drop (4 * (k + 1))) 0 ∧ wr.grownBy w' (some g)) := hid (by
            have h := NumR_any g (xs.drop (4 * k)) 4 wr HR.out (.inr (.inr (.inl rfl)))
            rw [hn4] at h
            exact h)
          have hcv : IntKind.i64.wrap (m : Int) = (m : Int) := IntWalk.i64_in _ (by omega)
          have HSN : Hid (izs (lateOf xs (k + 1)) = izs (lateOf xs k) ++ [.int .i64 (m : Int)]) := hid (by rw [lateOf_snoc, hm]; unfold izs; rw [List.map_append]; rfl)
          clear hn4 hm hm2
          go_wp2_with fail
          refine HQ.out.mono ?_
          rintro e w4 ⟨rfl, hr, hg⟩
          have HRn := hid hr
          obtain ⟨AR, cR, hgr, -⟩ := HR.out
          have HOn := hid (World.ownsRow.kept (row := some g) HO.out hg (.inr (own_notT HO.out hgr (by decide))))
          have HBn : Hid (Below w.heap.size w w4) := hid (HBW.out.grown hg HBW.out.size (fun k e => by cases e; exact HG0.out))
          have HWS4 : Hid (w1.heap.size ≤ w4.heap.size) := hid (Nat.le_trans HWS.out hg.size)
          clear hr hg hgr HR HO HBW HQ hpos
          go_wp2_with (at_builtin; refine wpList_append_lie rfl _ _ 25 rfl w1.heap.size 3 (.int .i64 0) 8 Try.underlying25 infoI rfl rfl (World.ownsRow.alloc HOn.out (.cells #[.int .i64 (m : Int)] 3)) rfl rfl (Lie.new1 _ _ _) (by intro u hu; simp at hu; subst hu; rfl) ?d1 ?d2 ?d3 ?_)
          case d1 => have := HB.out; have := HNN.out; unfold maxLen; simp; omega
          case d2 => have := HB.out; have := HNN.out; simp; omega
          case d3 => have := HWS4.out; simp; omega
          intro v5 w5 hown5 hg5 _
          have HO5 : Hid (w5.ownsRow w1.heap.size 3 1 v5 (k + 1) (izs (lateOf xs (k + 1)))) := hid (by rw [HSN.out]; exact hown5)
          have HR5 : Hid (Rd w5 g (xs.drop (4 * (k + 1))) 0) := hid (by
            have hra : Rd (w4.alloc (.cells #[.int .i64 (m : Int)] 3)) g (xs.drop (4 * (k + 1))) 0 := rd_below HRn.out ((Below.refl _ _).alloc (Nat.le_refl _) _)
            exact hra.grown hg5 (fun k hk => Nat.lt_of_lt_of_le HGW.out (own_lt HOn.out k hk)))
          have HW5 : Hid (w1.heap.size ≤ w5.heap.size) := hid (Nat.le_trans HWS4.out (Nat.le_trans (by simp) hg5.size))
          have HB5 : Hid (Below w.heap.size w w5) := hid ((HBn.out.alloc HBn.out.size _).grown hg5 (by have := HBn.out.size; simp; omega) (fun k hk => Nat.le_trans HWW.out (own_lt HOn.out k hk)))
          clear hown5 hg5 HOn HRn HBn hcv
          go_wp2
          have hk := HK.out
          go_roundg (k4 - (k + 1))
          case measure => omega
          case rel => exact ⟨k + 1, by omega, HO5.out, HR5.out, HB5.out, HW5.out⟩
        · obtain rfl : k = k4 := by have := HK.out; omega
          have h0 : N - 4 * k = 0 := by have := HNN.out; omega
          rw [h0]
          obtain ⟨A5, c5, rfl, -⟩ := own_sl HO.out
          go_wp2
          go_ret2
          exact ⟨A5, c5, lateOf xs k, by rw [lateOf_length]; rfl, fun _ => rfl, by rw [lateOf_length]; exact own_le HO.out HWW.out, HBW.out⟩
    · have hne : ¬ (decide (n % 4 = 0) && decide (n ≤ 262144)) = true := by simp [hb]
      rw [Bool.eq_false_iff.2 hne]
      have h4i : ((n : Int) % 4 != 0) = false := by rw [bne_eq_false_iff_eq]; omega
      have hbi : (262144 : Int) < (n : Int) := by omega
      clear hne h4 hb HN HRD
      go_enter Try.func73, Try.ntmps73
      go_wp2
      go_ret2
      exact ⟨none, 0, [], rfl, fun h => (by cases h), World.ownsRow_nil _ _ _ _, Below.refl _ _⟩
  · have hne : ¬ (decide (n % 4 = 0) && decide (n ≤ 262144)) = true := by simp [h4]
    rw [Bool.eq_false_iff.2 hne]
    have h4i : ((n : Int) % 4 != 0) = true := by rw [bne_iff_ne]; omega
    clear hne h4 HN HRD
    go_enter Try.func73, Try.ntmps73
    go_wp2
    go_ret2
    exact ⟨none, 0, [], rfl, fun h => (by cases h), World.ownsRow_nil _ _ _ _, Below.refl _ _⟩
end Go.Proofs.Ytlgcdddgahjknaa
end
section
namespace Go.Proofs.Ytlgcdddgahjknaa
open Go Go.RowKit
set_option linter.unusedVariables false
set_option linter.unusedSimpArgs false
def tpU (xs : List UInt8) (i : Nat) : Pnt := ⟨vecJ xs i 0, vecJ xs i 1, lateOf (vecJ xs i 2) ((vecJ xs i 2).length / 4)⟩
def tpE (xs : List UInt8) (i : Nat) : Nat := if errD xs i 3 ≠ 0 then errD xs i 3 else if (vecJ xs i 2).length % 4 = 0 ∧ parB (tpU xs i) = true then 0 else 3
def TpRet (xs : List UInt8) (i g : Nat) (w : World) (e : Ending) (w' : World) : Prop := ∃ u p, e = .returned (.tuple #[.agg (prV u p), .int .u8 (tpE xs i : Int)]) ∧ (tpE xs i = 0 → u = tpU xs i ∧ PrOwn w w' u p ∧ Rd w' g (xs.drop (posD xs i 3)) 0) ∧ w.grownBy w' (some g)
theorem TpRet.no {xs : List UInt8} {i g er : Nat} {w w' : World} {u : Pnt} {p : PA} (h : tpE xs i = er) (h0 : er ≠ 0) (hg : w.grownBy w' (some g)) : TpRet xs i g w (.returned (.tuple #[.agg (prV u p), .int .u8 (er : Int)])) w' := ⟨u, p, by rw [h], fun h2 => absurd (h.symm.trans h2) h0, hg⟩
theorem own_keepT {w w' : World} {B g n : Nat} {e t : TypeId} {v : Value} {xs : List Value} {cs : Array Value} (h : w.ownsRow B e 1 v n xs) (hk : w.heap[g]? = some (.cells cs t (0, 0))) (ht : t ≠ e) (hg : w.grownBy w' (some g)) : w'.ownsRow B e 1 v n xs := World.ownsRow.kept (row := some g) h hg (.inr (own_notT h hk ht))
theorem own_lieI {w : World} {B n c : Nat} {A : Option Addr} {xs : List Int} (h : w.ownsRow B 3 1 (.slice A n c) n (izs xs)) : Lie w w.heap.size A (izs xs) := Lie.of_own h
set_option maxRecDepth 100000 in
set_option maxHeartbeats 8000000 in
theorem takeParent_e (xs : List UInt8) (i g : Nat) (w : World) (hl : xs.length ≤ 1000000) (hr : Rd w g (xs.drop i) 0) :
    Calls Try.prog 62 #[.pointer (some ⟨g, 0, none⟩)] w (TpRet xs i g w) := by
  have HV : Hid (∀ i j W, Rd W g (xs.drop (posD xs i j)) (errD xs i j) → _) := hid fun i j W h => VecD xs i j g W hl h
  have hgl := hr.lt
  have HGL := hid hgl; have HXL := hid hl
  have HBA : Hid (Below w.heap.size w (w.alloc (.cells prZ PrT))) := hid ((Below.refl _ _).alloc (Nat.le_refl _) _)
  have K0 : Hid ((w.alloc (.cells prZ PrT)).heap[w.heap.size]? = some (.cells prZ PrT (0, 0))) := hid (heap_alloc_new w _)
  have HG : Hid (w.grownBy (w.alloc (.cells prZ PrT)) (some g)) := hid (grown_bl (World.grownBy.refl _ _) HBA.out)
  have R0 : Hid (Rd (w.alloc (.cells prZ PrT)) g (xs.drop (posD xs i 0)) (errD xs i 0)) := hid (rd_below hr HBA.out)
  clear hl hr hgl HBA
  go_enter Try.func62, Try.ntmps62
  go_wp2_with fail
  refine (HV.out i 0 _ R0.out).mono ?_
  rintro r w1 ⟨A0, c0, rfl, ho, hr, hg⟩
  have HGn := hid (grown_step HG.out (.inl rfl) hg)
  have K0n := hid (block_grown K0.out hg (by intro e; injection e with e; have := HGL.out; omega))
  have O0 := hid (own_base ho HG.out.size)
  have R1 := hid hr
  clear ho hr hg R0
  clear HG K0
  have HG := HGn
  have K0 := K0n
  clear HGn K0n
  go_wp2_with fail
  refine (HV.out i 1 _ R1.out).mono ?_
  rintro r w2 ⟨A1, c1, rfl, ho, hr, hg⟩
  have HGn := hid (grown_step HG.out (.inl rfl) hg)
  have K0n := hid (block_grown K0.out hg (by intro e; injection e with e; have := HGL.out; omega))
  have O0n := hid (own_far O0.out hg HGL.out)
  have O1 := hid (own_base ho HG.out.size)
  have R2 := hid hr
  clear ho hr hg R1
  clear HG K0 O0
  have HG := HGn
  have K0 := K0n
  have O0 := O0n
  clear HGn K0n O0n
  obtain ⟨b0, hb0⟩ : ∃ t, t = vecJ xs i 0 := ⟨_, rfl⟩
  rw [← hb0] at O0 ⊢
  have HBJ0 := hid hb0
  clear hb0
  obtain ⟨b1, hb1⟩ : ∃ t, t = vecJ xs i 1 := ⟨_, rfl⟩
  rw [← hb1] at O1 ⊢
  have HBJ1 := hid hb1
  clear hb1
  have hbuild : ∀ V : World, (Instr.build PrT #[(0, .slice A0 b0.length c0), (1, .slice A1 b1.length c1)]).run Try.prog V = .ok (.agg (prV ⟨b0, b1, []⟩ ⟨A0, A1, none, c0, c1, 0⟩)) V := fun V => run_build V PrT _ _ (by kernel_rfl)
  have KA := heap_alloc_new w2 (.cells prZ PrT)
  go_wp2_with (with_reducible refine wpList_store_row rfl PrT (.tmp 4) _ rfl w2.heap.size (prV ⟨b0, b1, []⟩ ⟨A0, A1, none, c0, c1, 0⟩) rfl rfl PrT prZ KA infoPr prZ_size prV_one ?_)
  have K4 := hid (setRow_heap _ w2.heap.size prZ (prV ⟨b0, b1, []⟩ ⟨A0, A1, none, c0, c1, 0⟩) PrT (0, 0) KA)
  have hbl : Below w2.heap.size w2 ((w2.alloc (.cells prZ PrT)).setRow w2.heap.size (prV ⟨b0, b1, []⟩ ⟨A0, A1, none, c0, c1, 0⟩)) := ((Below.refl _ _).alloc (Nat.le_refl _) _).trans (below_put _ _ _ (Nat.le_refl _))
  clear hbuild KA
  generalize hW : World.setRow _ _ _ = W at K4 hbl ⊢
  have HGn := hid (grown_bl HG.out hbl)
  have K0n := hid ((hbl.block _ (block_lt K0.out)).trans K0.out)
  have R2n := hid (rd_below R2.out hbl)
  have O0n := hid (own_on16 O0.out hbl)
  have O1n := hid (own_on16 O1.out hbl)
  have H4 : Hid (w.heap.size + 1 ≤ w2.heap.size) := hid (block_lt K0.out)
  clear hbl hW
  clear HG K0 R2 O0 O1
  have HG := HGn
  have K0 := K0n
  have R2 := R2n
  have O0 := O0n
  have O1 := O1n
  clear HGn K0n R2n O0n O1n
  obtain ⟨g4, hg4⟩ : ∃ t, t = w2.heap.size := ⟨_, rfl⟩
  rw [← hg4] at K4 H4 ⊢
  clear hg4
  refine (HV.out i 2 _ R2.out).mono ?_
  rintro r W2 ⟨A2, c2, rfl, ho, hr, hg⟩
  have HGn := hid (grown_step HG.out (.inl rfl) hg)
  have K0n := hid (block_grown K0.out hg (by intro e; injection e with e; have := HGL.out; omega))
  have O0n := hid (own_far O0.out hg HGL.out)
  have O1n := hid (own_far O1.out hg HGL.out)
  have K4n := hid (block_grown K4.out hg (by intro e; injection e with e; have := HGL.out; have := H4.out; omega))
  have O2 := hid (own_base ho HG.out.size)
  have R3 := hid hr
  clear ho hr hg R2 HV
  clear HG K0 K4 O0 O1
  have HG := HGn
  have K0 := K0n
  have K4 := K4n
  have O0 := O0n
  have O1 := O1n
  clear HGn K0n K4n O0n O1n
  obtain ⟨b2, hb2⟩ : ∃ t, t = vecJ xs i 2 := ⟨_, rfl⟩
  rw [← hb2] at O2 ⊢
  have HBJ2 := hid hb2
  have HB2L : Hid (b2.length ≤ 1000000) := hid (by rw [hb2]; exact Nat.le_trans (vecJ_le xs i 2) HXL.out)
  clear hb2
  obtain ⟨eL, hEL⟩ : ∃ t, t = errD xs i 3 := ⟨_, rfl⟩
  rw [show errD xs i (2 + 1) = eL from hEL.symm] at R3
  have HEL := hid hEL
  clear hEL
  go_wp2_with fail
  refine (Err_any g _ _ _ R3.out).mono ?_
  rintro r Y ⟨rfl, rfl⟩
  by_cases h0 : eL = 0
  case neg =>
    have hne : ((eL : Int) != 0) = true := by rw [bne_iff_ne]; omega
    have HT : Hid (tpE xs i = eL) := hid (by unfold tpE; rw [if_pos (by rw [← HEL.out]; exact h0), HEL.out])
    have x0 := cell_of K4.out 0 _ rfl; have x1 := cell_of K4.out 1 _ rfl; have x2 := cell_of K4.out 2 _ rfl
    go_wp2_with (with_reducible refine wpList_store_row rfl PrT (.tmp 2) _ rfl w.heap.size (prV ⟨b0, b1, []⟩ ⟨A0, A1, none, c0, c1, 0⟩) rfl rfl PrT prZ K0.out infoPr prZ_size prV_one ?_)
    have KZ := setRow_heap _ w.heap.size prZ (prV ⟨b0, b1, []⟩ ⟨A0, A1, none, c0, c1, 0⟩) PrT (0, 0) K0.out
    exact bodyPost_ret (v := .tuple #[.agg (prV ⟨b0, b1, []⟩ ⟨A0, A1, none, c0, c1, 0⟩), .int .u8 (eL : Int)]) (results_cn rfl _ _ w.heap.size PrT (prV ⟨b0, b1, []⟩ ⟨A0, A1, none, c0, c1, 0⟩) (0, 0) _ rfl KZ Try.underlying27 rfl infoPr _ rfl) rfl (TpRet.no HT.out h0 (grown_put HG.out (Nat.le_refl _)))
  case pos =>
    subst h0
    have HLT := hid (takeLate_e A2 b2 c2 _ (own_lie16 O2.out) HB2L.out)
    obtain ⟨q, hq⟩ : ∃ t, t = (decide (b2.length % 4 = 0) && decide (b2.length ≤ 262144)) := ⟨_, rfl⟩
    rw [← hq] at HLT
    have HQ := hid hq
    clear hq
    go_wp2_with fail
    refine HLT.out.mono ?_
    rintro r V ⟨A3, c3, L, rfl, hL, ho3, hb⟩
    have HLL := hid hL
    have O3 := hid (own_le ho3 HG.out.size)
    have K4n := hid ((hb.block _ (block_lt K4.out)).trans K4.out)
    have K0n := hid ((hb.block _ (block_lt K0.out)).trans K0.out)
    have HGn := hid (grown_bl HG.out hb)
    have R3n := hid (rd_below R3.out hb)
    have O0n := hid (own_on16 O0.out hb)
    have O1n := hid (own_on16 O1.out hb)
    have O2n := hid (own_on16 O2.out hb)
    clear hL ho3 hb HLT
    clear HG K0 K4 R3 O0 O1 O2
    have HG := HGn
    have K0 := K0n
    have K4 := K4n
    have R3 := R3n
    have O0 := O0n
    have O1 := O1n
    have O2 := O2n
    clear HGn K0n K4n R3n O0n O1n O2n
    have hgc := grown_setCell V g4 2 none (.slice A3 L.length c3)
    have K4n : Hid ((V.setCell ⟨g4, 2, none⟩ (.slice A3 L.length c3)).heap[g4]? = some (.cells (prV ⟨b0, b1, L⟩ ⟨A0, A1, A3, c0, c1, c3⟩) PrT (0, 0))) := hid (by have h := block_set K4.out 2 (.slice A3 L.length c3); exact h)
    have K0n := hid (block_grown K0.out hgc (by intro e; injection e with e; have := H4.out; omega))
    have HGn := hid (grown_cell (i := 2) (u := (.slice A3 L.length c3)) HG.out (show w.heap.size ≤ g4 by have := H4.out; omega))
    have R3n := hid (R3.out.grown hgc (by intro k e; injection e with e; have := HGL.out; have := H4.out; omega))
    have O0n := hid (own_keepT O0.out K4.out (by decide) hgc)
    have O1n := hid (own_keepT O1.out K4.out (by decide) hgc)
    have O2n := hid (own_keepT O2.out K4.out (by decide) hgc)
    have O3n := hid (own_keepT O3.out K4.out (by decide) hgc)
    have yy := cell_of K4.out 2 _ rfl
    have zz : V.frozen? ⟨g4, 2, none⟩ = false := frozen_of_row _ _ _ _ _ K4.out
    go_upto_region 8 with fail
    clear yy zz hgc
    generalize hW : World.setCell _ _ _ = X at K4n K0n HGn R3n O0n O1n O2n O3n ⊢
    clear hW
    clear HG K0 K4 R3 O0 O1 O2 O3
    have HG := HGn
    have K0 := K0n
    have K4 := K4n
    have R3 := R3n
    have O0 := O0n
    have O1 := O1n
    have O2 := O2n
    have O3 := O3n
    clear HGn K0n K4n R3n O0n O1n O2n O3n
    have HE0 : Hid (tpE xs i = if b2.length % 4 = 0 ∧ parB (tpU xs i) = true then 0 else 3) := hid (by unfold tpE; rw [if_neg (by rw [← HEL.out]; simp), HBJ2.out])
    cases q with
    | false =>
      have HT : Hid (tpE xs i = 3) := hid (by
        rw [HE0.out, if_neg]
        rintro ⟨h1, h2⟩
        have h := HQ.out
        rw [decide_eq_true h1, Bool.true_and] at h
        have h3 := of_decide_eq_false h.symm
        have h4 := rise_count (parB_len h2).1
        have h5 : (tpU xs i).late.length = b2.length / 4 := by unfold tpU; rw [HBJ2.out]; exact lateOf_length _ _
        rw [h5] at h4
        omega)
      have HFO : Hid (∀ V : World, Calls Try.prog 61 #[.bool false] V fun e w' => e = .returned (.int .u8 ((3 : Nat) : Int)) ∧ Below V.heap.size V w') := hid fun V => (formOf_e false V).mono fun e w' ⟨h1, h2⟩ => ⟨h1, by rw [h2]; exact Below.refl _ _⟩
      refine wp_region_grA 7 (by kernel_rfl) (by decide) ?_
      refine wpGrA_take (i := 1) (.bool false) rfl (by kernel_rfl) (by kernel_rfl) (fun _ _ _ h => h) (yG_val _ (by rfl) (fun w' _ => by (go_simp; try rfl))) ?_
      (try simp only [Act.put, List.getElem_toArray, List.getElem_cons_succ, List.getElem_cons_zero, List.setIfInBounds_toArray, List.set_cons_zero, List.set_cons_succ])
      refine wpGrA_take (i := 2) (.bool false) rfl (by kernel_rfl) (by kernel_rfl) (fun _ _ _ h => h) (yG_val _ (by rfl) (fun w' _ => by (go_simp; try rfl))) ?_
      (try simp only [Act.put, List.getElem_toArray, List.getElem_cons_succ, List.getElem_cons_zero, List.setIfInBounds_toArray, List.set_cons_zero, List.set_cons_succ])
      refine wpGrA_take (i := 0) (.agg (prV ⟨b0, b1, L⟩ ⟨A0, A1, A3, c0, c1, c3⟩)) rfl (by kernel_rfl) (by kernel_rfl) (fun _ _ _ h => h) (yG_part (by rfl) PrT (.tmp 4) rfl g4 0 rfl PrT (prV ⟨b0, b1, L⟩ ⟨A0, A1, A3, c0, c1, c3⟩) (prV ⟨b0, b1, L⟩ ⟨A0, A1, A3, c0, c1, c3⟩) (0, 0) _ K4.out rfl Try.underlying27 rfl infoPr) ?_
      (try simp only [Act.put, List.getElem_toArray, List.getElem_cons_succ, List.getElem_cons_zero, List.setIfInBounds_toArray, List.set_cons_zero, List.set_cons_succ])
      refine wpGrA_take (i := 3) (undef) rfl (by kernel_rfl) (by kernel_rfl) (fun _ _ _ h => h) (yG_skip (by rfl)) ?_
      (try simp only [Act.put, List.getElem_toArray, List.getElem_cons_succ, List.getElem_cons_zero, List.setIfInBounds_toArray, List.set_cons_zero, List.set_cons_succ])
      refine wpGrA_take (i := 4) (undef) rfl (by kernel_rfl) (by kernel_rfl) (fun _ _ _ h => h) (yG_skip (by rfl)) ?_
      (try simp only [Act.put, List.getElem_toArray, List.getElem_cons_succ, List.getElem_cons_zero, List.setIfInBounds_toArray, List.set_cons_zero, List.set_cons_succ])
      refine wpGrA_take (i := 5) (.bool false) rfl (by kernel_rfl) (by kernel_rfl) (fun _ _ _ h => h) (yG_val _ (by rfl) (fun w' _ => by (go_simp; try rfl))) ?_
      (try simp only [Act.put, List.getElem_toArray, List.getElem_cons_succ, List.getElem_cons_zero, List.setIfInBounds_toArray, List.set_cons_zero, List.set_cons_succ])
      refine wpGrA_take (i := 6) (.int .u8 ((3 : Nat) : Int)) rfl (by kernel_rfl) (by kernel_rfl) (fun _ _ _ h => h) (yG_call (by rfl) (fun w' => by go_simp) (fun w' hb => HFO.out w')) ?_
      (try simp only [Act.put, List.getElem_toArray, List.getElem_cons_succ, List.getElem_cons_zero, List.setIfInBounds_toArray, List.set_cons_zero, List.set_cons_succ])
      refine wpGrA_end (by kernel_rfl) ?_
      intro wz hb
      simp only [List.drop_succ_cons, List.drop_zero]
      have HGz := hid (grown_bl HG.out hb)
      have K0z := hid ((hb.block _ (block_lt K0.out)).trans K0.out)
      have RPz := hid (rd_below R3.out hb)
      have O0z := hid (own_on O0.out hb)
      have O1z := hid (own_on O1.out hb)
      have O3z := hid (own_on O3.out hb)
      clear hb HG K0 R3 K4 HFO O0 O1 O2 O3
      go_wp2_with (with_reducible refine wpList_store_row rfl PrT (.tmp 2) _ rfl w.heap.size (prV ⟨b0, b1, L⟩ ⟨A0, A1, A3, c0, c1, c3⟩) rfl rfl PrT prZ K0z.out infoPr prZ_size prV_one ?_)
      have KZ := setRow_heap _ w.heap.size prZ (prV ⟨b0, b1, L⟩ ⟨A0, A1, A3, c0, c1, c3⟩) PrT (0, 0) K0z.out
      have hgp := grown_one wz w.heap.size (prV ⟨b0, b1, L⟩ ⟨A0, A1, A3, c0, c1, c3⟩)
      exact bodyPost_ret (v := .tuple #[.agg (prV ⟨b0, b1, L⟩ ⟨A0, A1, A3, c0, c1, c3⟩), .int .u8 ((3 : Nat) : Int)]) (results_cn rfl _ _ w.heap.size PrT (prV ⟨b0, b1, L⟩ ⟨A0, A1, A3, c0, c1, c3⟩) (0, 0) _ rfl KZ Try.underlying27 rfl infoPr _ rfl) rfl (TpRet.no HT.out (by decide) (grown_put HGz.out (Nat.le_refl _)))
    | true =>
      have hL := HLL.out rfl
      have HUU : Hid (tpU xs i = ⟨b0, b1, L⟩) := hid (by rw [hL, HBJ0.out, HBJ1.out, HBJ2.out]; rfl)
      have hq := HQ.out
      rw [eq_comm, Bool.and_eq_true, decide_eq_true_iff, decide_eq_true_iff] at hq
      have HIP : Hid (∀ V, Below X.heap.size X V → Calls Try.prog 49 #[.agg (prV ⟨b0, b1, L⟩ ⟨A0, A1, A3, c0, c1, c3⟩)] V (RetB V (parB ⟨b0, b1, L⟩))) := hid fun V h => isParent_gen A0 A1 A3 b0.length b1.length c0 c1 c3 L V (lie_on (own_lieI O3.out) h) (by rw [hL, lateOf_length]; have := HB2L.out; omega)
      have hE := HE0.out
      rw [HUU.out] at hE
      obtain ⟨qp, hqp⟩ : ∃ t, t = parB ⟨b0, b1, L⟩ := ⟨_, rfl⟩
      rw [← hqp] at hE HIP
      obtain ⟨er, her⟩ : ∃ t, t = (if qp then 0 else 3 : Nat) := ⟨_, rfl⟩
      have HT : Hid (tpE xs i = er) := hid (by rw [hE, her]; cases qp <;> simp [hq.1])
      have HFO : Hid (∀ V : World, Calls Try.prog 61 #[.bool qp] V fun e w' => e = .returned (.int .u8 (er : Int)) ∧ Below V.heap.size V w') := hid fun V => (formOf_e qp V).mono fun e w' ⟨h1, h2⟩ => ⟨by rw [her]; exact h1, by rw [h2]; exact Below.refl _ _⟩
      clear hL hq hE hqp her HE0 HQ HLL
      refine wp_region_grA 7 (by kernel_rfl) (by decide) ?_
      refine wpGrA_take (i := 1) (.bool true) rfl (by kernel_rfl) (by kernel_rfl) (fun _ _ _ h => h) (yG_val _ (by rfl) (fun w' _ => by (go_simp; try rfl))) ?_
      (try simp only [Act.put, List.getElem_toArray, List.getElem_cons_succ, List.getElem_cons_zero, List.setIfInBounds_toArray, List.set_cons_zero, List.set_cons_succ])
      refine wpGrA_take (i := 2) (.bool true) rfl (by kernel_rfl) (by kernel_rfl) (fun _ _ _ h => h) (yG_val _ (by rfl) (fun w' _ => by (go_simp; try rfl))) ?_
      (try simp only [Act.put, List.getElem_toArray, List.getElem_cons_succ, List.getElem_cons_zero, List.setIfInBounds_toArray, List.set_cons_zero, List.set_cons_succ])
      refine wpGrA_take (i := 0) (.agg (prV ⟨b0, b1, L⟩ ⟨A0, A1, A3, c0, c1, c3⟩)) rfl (by kernel_rfl) (by kernel_rfl) (fun _ _ _ h => h) (yG_part (by rfl) PrT (.tmp 4) rfl g4 0 rfl PrT (prV ⟨b0, b1, L⟩ ⟨A0, A1, A3, c0, c1, c3⟩) (prV ⟨b0, b1, L⟩ ⟨A0, A1, A3, c0, c1, c3⟩) (0, 0) _ K4.out rfl Try.underlying27 rfl infoPr) ?_
      (try simp only [Act.put, List.getElem_toArray, List.getElem_cons_succ, List.getElem_cons_zero, List.setIfInBounds_toArray, List.set_cons_zero, List.set_cons_succ])
      refine wpGrA_take (i := 3) (.agg (prV ⟨b0, b1, L⟩ ⟨A0, A1, A3, c0, c1, c3⟩)) rfl (by kernel_rfl) (by kernel_rfl) (fun _ _ _ h => h) (yG_part (by rfl) PrT (.tmp 4) rfl g4 0 rfl PrT (prV ⟨b0, b1, L⟩ ⟨A0, A1, A3, c0, c1, c3⟩) (prV ⟨b0, b1, L⟩ ⟨A0, A1, A3, c0, c1, c3⟩) (0, 0) _ K4.out rfl Try.underlying27 rfl infoPr) ?_
      (try simp only [Act.put, List.getElem_toArray, List.getElem_cons_succ, List.getElem_cons_zero, List.setIfInBounds_toArray, List.set_cons_zero, List.set_cons_succ])
      refine wpGrA_take (i := 4) (.bool qp) rfl (by kernel_rfl) (by kernel_rfl) (fun _ _ _ h => h) (yG_call (by rfl) (fun w' => by go_simp) (fun w' hb => HIP.out w' hb)) ?_
      (try simp only [Act.put, List.getElem_toArray, List.getElem_cons_succ, List.getElem_cons_zero, List.setIfInBounds_toArray, List.set_cons_zero, List.set_cons_succ])
      refine wpGrA_take (i := 5) (.bool qp) rfl (by kernel_rfl) (by kernel_rfl) (fun _ _ _ h => h) (yG_val _ (by rfl) (fun w' _ => by (go_simp; try rfl))) ?_
      (try simp only [Act.put, List.getElem_toArray, List.getElem_cons_succ, List.getElem_cons_zero, List.setIfInBounds_toArray, List.set_cons_zero, List.set_cons_succ])
      refine wpGrA_take (i := 6) (.int .u8 (er : Int)) rfl (by kernel_rfl) (by kernel_rfl) (fun _ _ _ h => h) (yG_call (by rfl) (fun w' => by go_simp) (fun w' hb => HFO.out w')) ?_
      (try simp only [Act.put, List.getElem_toArray, List.getElem_cons_succ, List.getElem_cons_zero, List.setIfInBounds_toArray, List.set_cons_zero, List.set_cons_succ])
      refine wpGrA_end (by kernel_rfl) ?_
      intro wz hb
      simp only [List.drop_succ_cons, List.drop_zero]
      have HGz := hid (grown_bl HG.out hb)
      have K0z := hid ((hb.block _ (block_lt K0.out)).trans K0.out)
      have RPz := hid (rd_below R3.out hb)
      have O0z := hid (own_on O0.out hb)
      have O1z := hid (own_on O1.out hb)
      have O3z := hid (own_on O3.out hb)
      clear hb HG K0 R3 K4 HFO HIP O0 O1 O2 O3
      go_wp2_with (with_reducible refine wpList_store_row rfl PrT (.tmp 2) _ rfl w.heap.size (prV ⟨b0, b1, L⟩ ⟨A0, A1, A3, c0, c1, c3⟩) rfl rfl PrT prZ K0z.out infoPr prZ_size prV_one ?_)
      have KZ := setRow_heap _ w.heap.size prZ (prV ⟨b0, b1, L⟩ ⟨A0, A1, A3, c0, c1, c3⟩) PrT (0, 0) K0z.out
      have hgp := grown_one wz w.heap.size (prV ⟨b0, b1, L⟩ ⟨A0, A1, A3, c0, c1, c3⟩)
      have O0y := own_keepT O0z.out K0z.out (by decide) hgp
      have O1y := own_keepT O1z.out K0z.out (by decide) hgp
      have O3y := own_keepT O3z.out K0z.out (by decide) hgp
      have RPy := RPz.out.grown hgp (by intro k e; injection e with e; have := HGL.out; omega)
      exact bodyPost_ret (v := .tuple #[.agg (prV ⟨b0, b1, L⟩ ⟨A0, A1, A3, c0, c1, c3⟩), .int .u8 (er : Int)]) (results_cn rfl _ _ w.heap.size PrT (prV ⟨b0, b1, L⟩ ⟨A0, A1, A3, c0, c1, c3⟩) (0, 0) _ rfl KZ Try.underlying27 rfl infoPr _ rfl) rfl ⟨⟨b0, b1, L⟩, ⟨A0, A1, A3, c0, c1, c3⟩, by rw [HT.out], fun _ => ⟨HUU.out.symm, ⟨O0y, O1y, O3y⟩, RPy⟩, grown_put HGz.out (Nat.le_refl _)⟩
end Go.Proofs.Ytlgcdddgahjknaa
end
section
namespace Go.Proofs.Ytlgcdddgahjknaa
open Go Go.RowKit
set_option linter.unusedVariables false
set_option linter.unusedSimpArgs false
theorem grown_cells (g : Nat) : ∀ (vs : List Value) (o : Nat) (w : World), w.grownBy (w.setCells g o vs) (some g)
  | [], _, w => World.grownBy.refl w _
  | v :: r, o, w => grown_step (grown_setCell w g o none v) (.inl rfl) (grown_cells g r (o + 1) (w.setCell ⟨g, o, none⟩ v))
theorem there_of {w : World} {g o n : Nat} {cs : Array Value} {t : TypeId} (h : w.heap[g]? = some (.cells cs t (0, 0))) (hn : o + n ≤ cs.size) : w.there g o n := fun j hj =>
  ⟨by rw [cell_of h (o + j) (cs[o + j]'(by omega)) (Array.getElem?_eq_getElem _)]; rfl, frozen_of_row _ _ _ _ _ h⟩
theorem lfOwn_far {W w w' : World} {x : Lf} {a : LA} {k : Nat} (h : LfOwn W w x a) (hg : w.grownBy w' (some k)) (hk : k < W.heap.size) : LfOwn W w' x a := ⟨own_far h.1 hg hk, own_far h.2.1 hg hk, own_far h.2.2.1 hg hk, own_far h.2.2.2.1 hg hk, own_far h.2.2.2.2 hg hk⟩
theorem own_farT {w w' : World} {B g n : Nat} {t : TypeId} {v : Value} {xs : List Value} (h : w.ownsRow B t 1 v n xs) (hg : w.grownBy w' (some g)) (hl : g < B) : w'.ownsRow B t 1 v n xs :=
  World.ownsRow.kept (row := some g) h hg (by
    rcases hb : v.ownBlock with _ | k
    · exact .inl rfl
    · exact .inr fun e => by
        have := own_lt h k hb
        simp only [Option.some.injEq] at e
        omega)
theorem prOwn_far {W w w' : World} {u : Pnt} {p : PA} {k : Nat} (h : PrOwn W w u p) (hg : w.grownBy w' (some k)) (hk : k < W.heap.size) : PrOwn W w' u p := ⟨own_far h.1 hg hk, own_far h.2.1 hg hk, own_farT h.2.2 hg hk⟩
theorem prOwn_in {W w : World} {u : Pnt} {p : PA} (h : PrOwn W w u p) : PrIn w u p := ⟨own_lie16 h.1, own_lie16 h.2.1, own_lieI h.2.2⟩
theorem lfOwn_0 (W w : World) : LfOwn W w lf0 la0 := ⟨World.ownsRow_nil _ _ _ _, World.ownsRow_nil _ _ _ _, World.ownsRow_nil _ _ _ _, World.ownsRow_nil _ _ _ _, World.ownsRow_nil _ _ _ _⟩
theorem prOwn_0 (W w : World) : PrOwn W w pr0 pa0 := ⟨World.ownsRow_nil _ _ _ _, World.ownsRow_nil _ _ _ _, World.ownsRow_nil _ _ _ _⟩
abbrev lfL (x : Lf) (a : LA) : List Value := [.slice a.a0 x.box.length a.c0, .slice a.a1 x.sign.length a.c1, .slice a.a2 x.ident.length a.c2, .int .u8 (x.src : Int), .slice a.a3 x.par.length a.c3, .slice a.a4 x.sig.length a.c4]
abbrev prL (u : Pnt) (p : PA) : List Value := [.slice p.a0 u.box.length p.c0, .slice p.a1 u.hash.length p.c1, .slice p.a2 u.late.length p.c2]
theorem set_lf {w : World} {g k : Nat} {x : Lf} {a : LA} (h : w.heap[g]? = some (.cells (ndV k lf0 la0 pr0 pa0) NdT (0, 0))) : (w.setCells g 1 (lfL x a)).heap[g]? = some (.cells (ndV k x a pr0 pa0) NdT (0, 0)) :=
  block_set (block_set (block_set (block_set (block_set (block_set h 1 _) 2 _) 3 _) 4 _) 5 _) 6 _
theorem set_pr {w : World} {g k : Nat} {u : Pnt} {p : PA} (h : w.heap[g]? = some (.cells (ndV k lf0 la0 pr0 pa0) NdT (0, 0))) : (w.setCells g 7 (prL u p)).heap[g]? = some (.cells (ndV k lf0 la0 u p) NdT (0, 0)) :=
  block_set (block_set (block_set h 7 _) 8 _) 9 _
theorem tk_num {xs : List UInt8} (h : numE xs 0 0 ≠ 0) : tkE xs 0 = numE xs 0 0 := by
  unfold numE at h ⊢
  rw [if_neg (by simp)] at h ⊢
  by_cases h1 : xs.length ≤ 0
  · rw [if_pos h1]; unfold tkE; rw [if_pos h1]
  · rw [if_neg h1] at h; exact absurd rfl h
theorem tk_0 {xs : List UInt8} (h : 0 < xs.length) (h0 : srcJ xs 0 = 0) : tkE xs 0 = 0 ∧ tkL xs 0 = lf0 ∧ tkP xs 0 = pr0 ∧ tkN xs 0 = 1 := by
  have hE : tkE xs 0 = 0 := by unfold tkE; rw [if_neg (by omega), if_pos h0]
  exact ⟨hE, by unfold tkL; rw [if_neg (by omega)], by unfold tkP; rw [if_neg (by omega)], by unfold tkN; rw [if_pos hE, if_pos h0]⟩
theorem tk_1 {xs : List UInt8} (h : 0 < xs.length) (h0 : srcJ xs 0 = 1) : tkE xs 0 = tlE xs 1 ∧ (tlE xs 1 = 0 → tkL xs 0 = tlF xs 1 ∧ tkP xs 0 = pr0 ∧ tkN xs 0 = posD xs (tlR xs 1) 1) := by
  have hE : tkE xs 0 = tlE xs 1 := by unfold tkE; rw [if_neg (by omega), if_neg (by omega), if_pos h0]
  refine ⟨hE, fun he => ⟨?_, by unfold tkP; rw [if_neg (by omega)], ?_⟩⟩
  · unfold tkL; rw [if_pos ⟨hE.trans he, h0⟩]; show tlX xs 1 = _; unfold tlX; rw [if_pos he]
  · unfold tkN; rw [if_pos (hE.trans he), if_neg (by omega), if_pos h0]; show tlN xs 1 = _; unfold tlN; rw [if_pos he]
theorem tk_2 {xs : List UInt8} (h : 0 < xs.length) (h0 : srcJ xs 0 = 2) : tkE xs 0 = tpE xs 1 ∧ (tpE xs 1 = 0 → tkL xs 0 = lf0 ∧ tkP xs 0 = tpU xs 1 ∧ tkN xs 0 = posD xs 1 3) := by
  have hE : tkE xs 0 = tpE xs 1 := by unfold tkE; rw [if_neg (by omega), if_neg (by omega), if_neg (by omega), if_neg (by omega)]; rfl
  refine ⟨hE, fun he => ⟨by unfold tkL; rw [if_neg (by omega)], ?_, ?_⟩⟩
  · unfold tkP; rw [if_pos ⟨hE.trans he, h0⟩]; rfl
  · unfold tkN; rw [if_pos (hE.trans he), if_neg (by omega), if_neg (by omega)]
theorem tk_3 {xs : List UInt8} (h : 0 < xs.length) (h0 : srcJ xs 0 ≠ 0) (h1 : srcJ xs 0 ≠ 1) (h2 : srcJ xs 0 ≠ 2) : tkE xs 0 = 3 := by unfold tkE; rw [if_neg (by omega), if_neg h0, if_neg h1, if_pos h2]
def TnRet (xs : List UInt8) (g : Nat) (w : World) (e : Ending) (w' : World) : Prop := ∃ k x a u p, k < 256 ∧ e = .returned (.tuple #[.agg (ndV k x a u p), .int .u8 (tkE xs 0 : Int)]) ∧ (tkE xs 0 = 0 → k = srcJ xs 0 ∧ x = tkL xs 0 ∧ u = tkP xs 0 ∧ LfOwn w w' x a ∧ PrOwn w w' u p ∧ Rd w' g (xs.drop (tkN xs 0)) 0) ∧ w.grownBy w' (some g)
theorem TnRet.no {xs : List UInt8} {g k er : Nat} {w w' : World} {x : Lf} {a : LA} {u : Pnt} {p : PA} (hk : k < 256) (h : tkE xs 0 = er) (h0 : er ≠ 0) (hg : w.grownBy w' (some g)) : TnRet xs g w (.returned (.tuple #[.agg (ndV k x a u p), .int .u8 (er : Int)])) w' := ⟨k, x, a, u, p, hk, by rw [h], fun h2 => absurd (h.symm.trans h2) h0, hg⟩
set_option maxRecDepth 100000 in
set_option maxHeartbeats 8000000 in
theorem takeNode_e (xs : List UInt8) (g : Nat) (w : World) (hl : xs.length ≤ 1000000) (hr : Rd w g xs 0) :
    Calls Try.prog 44 #[.pointer (some ⟨g, 0, none⟩)] w (TnRet xs g w) := by
  have hgl := hr.lt
  have HGL := hid hgl; have HXL := hid hl
  have HBA : Hid (Below w.heap.size w (w.alloc (.cells ndZ NdT))) := hid ((Below.refl _ _).alloc (Nat.le_refl _) _)
  have K0 : Hid ((w.alloc (.cells ndZ NdT)).heap[w.heap.size]? = some (.cells (ndV 0 lf0 la0 pr0 pa0) NdT (0, 0))) := hid (heap_alloc_new w _)
  have HG : Hid (w.grownBy (w.alloc (.cells ndZ NdT)) (some g)) := hid (grown_bl (World.grownBy.refl _ _) HBA.out)
  have HNU : Hid (Calls Try.prog 60 #[.pointer (some ⟨g, 0, none⟩), .int .i64 1] (w.alloc (.cells ndZ NdT)) fun r w' => ∃ n : Nat, n < 256 ∧ r = .returned (.int .u64 (n : Int)) ∧ (numE xs 0 0 = 0 → n = srcJ xs 0) ∧ (∃ ys, Rd w' g ys (numE xs 0 0) ∧ (numE xs 0 0 = 0 → ys = xs.drop (0 + 1))) ∧ (w.alloc (.cells ndZ NdT)).grownBy w' (some g)) := hid (NumD xs 0 0 g _ (rd_below (by rw [List.drop_zero]; exact hr) HBA.out))
  clear hl hr hgl HBA
  go_enter Try.func44, Try.ntmps44
  go_wp2_with fail
  refine HNU.out.mono ?_
  rintro r w1 ⟨n, hn, rfl, hsn, ⟨ys, hr, hys⟩, hg⟩
  have HG1 := hid (grown_step HG.out (.inl rfl) hg)
  have K1 := hid (block_grown K0.out hg (by intro e; injection e with e; have := HGL.out; omega))
  have HN := hid hn; have HSN := hid hsn; have HYS := hid hys; have RN := hid hr
  clear hn hsn hys hr hg HG K0 HNU
  obtain ⟨eN, hEN⟩ : ∃ t, t = numE xs 0 0 := ⟨_, rfl⟩
  rw [← hEN] at RN HSN HYS
  have HEN := hid hEN
  clear hEN
  have hcv : IntKind.u8.wrap (n : Int) = (n : Int) := by have := HN.out; show (n : Int) % 256 = n; omega
  have hgc := grown_setCell w1 w.heap.size 0 none (.int .u8 (n : Int))
  have K2 : Hid ((w1.setCell ⟨w.heap.size, 0, none⟩ (.int .u8 (n : Int))).heap[w.heap.size]? = some (.cells (ndV n lf0 la0 pr0 pa0) NdT (0, 0))) := hid (by have h := block_set K1.out 0 (.int .u8 (n : Int)); exact h)
  have HG2 := hid (grown_cell (i := 0) (u := .int .u8 (n : Int)) HG1.out (Nat.le_refl w.heap.size))
  have RN2 := hid (RN.out.grown hgc (by intro k e; injection e with e; have := HGL.out; omega))
  have HS2 : Hid (w.heap.size < (w1.setCell ⟨w.heap.size, 0, none⟩ (.int .u8 (n : Int))).heap.size) := hid (block_lt K2.out)
  have yy := cell_of K1.out 0 _ rfl
  have zz : w1.frozen? ⟨w.heap.size, 0, none⟩ = false := frozen_of_row _ _ _ _ _ K1.out
  go_wp2_with fail
  clear yy zz hgc hcv
  generalize hW : World.setCell _ _ _ = X at K2 HG2 RN2 HS2 ⊢
  clear hW K1 HG1 RN
  refine (Err_any g _ _ _ RN2.out).mono ?_
  rintro r Y ⟨rfl, rfl⟩
  by_cases h0 : eN = 0
  case neg =>
    have hne : ((eN : Int) != 0) = true := by rw [bne_iff_ne]; omega
    have HT : Hid (tkE xs 0 = eN) := hid (by rw [HEN.out]; exact tk_num (by rw [← HEN.out]; exact h0))
    go_wp2_with (first
      | (with_reducible refine wpList_load_row rfl NdT (.tmp 2) rfl w.heap.size rfl NdT (ndV n lf0 la0 pr0 pa0) (0, 0) _ K2.out Try.underlying29 rfl infoNd16 ?_)
      | (with_reducible refine wpList_store_row rfl NdT (.tmp 2) _ rfl w.heap.size (ndV n lf0 la0 pr0 pa0) rfl rfl NdT (ndV n lf0 la0 pr0 pa0) K2.out infoNd16 rfl ndV_one ?_))
    have KZ := setRow_heap _ w.heap.size (ndV n lf0 la0 pr0 pa0) (ndV n lf0 la0 pr0 pa0) NdT (0, 0) K2.out
    exact bodyPost_ret (v := .tuple #[.agg (ndV n lf0 la0 pr0 pa0), .int .u8 (eN : Int)]) (results_cn rfl _ _ w.heap.size NdT (ndV n lf0 la0 pr0 pa0) (0, 0) _ rfl KZ Try.underlying29 rfl infoNd16 _ rfl) rfl (TnRet.no HN.out HT.out h0 (grown_put HG2.out (Nat.le_refl _)))
  case pos =>
    subst h0
    have HS := hid (HSN.out rfl); have HY := hid (HYS.out rfl)
    rw [HY.out] at RN2
    have HLN : Hid (0 < xs.length) := hid (by
      have h := HEN.out.symm
      unfold numE at h
      rw [if_neg (by simp)] at h
      rcases Nat.lt_or_ge 0 xs.length with h1 | h1
      · exact h1
      · rw [if_pos h1] at h; cases h)
    have y0 := cell_of K2.out 0 _ rfl
    clear HSN HYS HY HEN
    by_cases k0 : n = 0
    case pos =>
      subst k0
      have HT := hid (tk_0 HLN.out HS.out.symm)
      go_wp2_with (first
        | (with_reducible refine wpList_load_row rfl NdT (.tmp 2) rfl w.heap.size rfl NdT (ndV 0 lf0 la0 pr0 pa0) (0, 0) _ K2.out Try.underlying29 rfl infoNd16 ?_)
        | (with_reducible refine wpList_store_row rfl NdT (.tmp 2) _ rfl w.heap.size (ndV 0 lf0 la0 pr0 pa0) rfl rfl NdT (ndV 0 lf0 la0 pr0 pa0) K2.out infoNd16 rfl ndV_one ?_))
      have KZ := setRow_heap _ w.heap.size (ndV 0 lf0 la0 pr0 pa0) (ndV 0 lf0 la0 pr0 pa0) NdT (0, 0) K2.out
      have hrd := RN2.out.grown (grown_one X w.heap.size (ndV 0 lf0 la0 pr0 pa0)) (by intro k e; injection e with e; have := HGL.out; omega)
      exact bodyPost_ret (v := .tuple #[.agg (ndV 0 lf0 la0 pr0 pa0), .int .u8 ((0 : Nat) : Int)]) (results_cn rfl _ _ w.heap.size NdT (ndV 0 lf0 la0 pr0 pa0) (0, 0) _ rfl KZ Try.underlying29 rfl infoNd16 _ rfl) rfl ⟨0, lf0, la0, pr0, pa0, by decide, by rw [HT.out.1], fun _ => ⟨HS.out, HT.out.2.1.symm, HT.out.2.2.1.symm, lfOwn_0 _ _, prOwn_0 _ _, by rw [HT.out.2.2.2]; exact hrd⟩, grown_put HG2.out (Nat.le_refl _)⟩
    case neg =>
      have i0 : ((n : Int) == 0) = false := by rw [beq_eq_false_iff_ne]; omega
      by_cases k1 : n = 1
      case pos =>
        subst k1
        have HT := hid (tk_1 HLN.out HS.out.symm)
        have HTL := hid (takeLeaf_e xs 1 g X HXL.out RN2.out)
        go_wp2_with fail
        refine HTL.out.mono ?_
        rintro r V ⟨x, a, rfl, hok, hg⟩
        have HOK := hid hok
        have K3 := hid (block_grown K2.out hg (by intro e; injection e with e; have := HGL.out; omega))
        have HG3 := hid (grown_step HG2.out (.inl rfl) hg)
        clear hok hg y0 K2 HG2 HTL
        obtain ⟨er, her⟩ : ∃ t, t = tlE xs 1 := ⟨_, rfl⟩
        rw [← her] at HT HOK ⊢
        clear her
        have HTH : Hid (V.there w.heap.size 1 (lfV x a).size) := hid (there_of K3.out (by show 1 + 6 ≤ 10; decide))
        have K4 : Hid ((V.setCells w.heap.size 1 (lfL x a)).heap[w.heap.size]? = some (.cells (ndV 1 x a pr0 pa0) NdT (0, 0))) := hid (set_lf K3.out)
        have hgm := grown_cells w.heap.size (lfL x a) 1 V
        have HGE : Hid (w.grownBy ((V.setCells w.heap.size 1 (lfL x a)).setRow w.heap.size (ndV 1 x a pr0 pa0)) (some g)) := hid (grown_put (grown_step HG3.out (.inr ⟨w.heap.size, rfl, Nat.le_refl _⟩) hgm) (Nat.le_refl _))
        have hgo := grown_one (V.setCells w.heap.size 1 (lfL x a)) w.heap.size (ndV 1 x a pr0 pa0)
        go_wp2_with (first
          | (with_reducible refine wpList_store_mid rfl LfT (.tmp 25) (.tmp 23) rfl w.heap.size 1 (lfV x a) rfl rfl HTH.out infoLf lfV_one ?_)
          | (with_reducible refine wpList_load_row rfl NdT (.tmp 2) rfl w.heap.size rfl NdT (ndV 1 x a pr0 pa0) (0, 0) _ K4.out Try.underlying29 rfl infoNd16 ?_)
          | (with_reducible refine wpList_store_row rfl NdT (.tmp 2) _ rfl w.heap.size (ndV 1 x a pr0 pa0) rfl rfl NdT (ndV 1 x a pr0 pa0) K4.out infoNd16 rfl ndV_one ?_))
        have KZ := setRow_heap (V.setCells w.heap.size 1 (lfL x a)) w.heap.size (ndV 1 x a pr0 pa0) (ndV 1 x a pr0 pa0) NdT (0, 0) K4.out
        by_cases h0 : er = 0
        case pos =>
          subst h0
          obtain ⟨hx, hlo, hrd⟩ := HOK.out rfl
          obtain ⟨t1, t2, t3⟩ := HT.out.2 rfl
          have hl2 := lfOwn_far (lfOwn_far hlo hgm HS2.out) hgo HS2.out
          have hr2 := (hrd.grown hgm (by intro k e; injection e with e; have := HGL.out; omega)).grown hgo (by intro k e; injection e with e; have := HGL.out; omega)
          exact bodyPost_ret (v := .tuple #[.agg (ndV 1 x a pr0 pa0), .int .u8 ((0 : Nat) : Int)]) (results_cn rfl _ _ w.heap.size NdT (ndV 1 x a pr0 pa0) (0, 0) _ rfl KZ Try.underlying29 rfl infoNd16 _ rfl) rfl ⟨1, x, a, pr0, pa0, by decide, by rw [HT.out.1], fun _ => ⟨HS.out, hx.trans t1.symm, t2.symm, lfOwn_le hl2 (Nat.le_of_lt HS2.out), prOwn_0 _ _, by rw [t3]; exact hr2⟩, HGE.out⟩
        case neg => exact bodyPost_ret (v := .tuple #[.agg (ndV 1 x a pr0 pa0), .int .u8 (er : Int)]) (results_cn rfl _ _ w.heap.size NdT (ndV 1 x a pr0 pa0) (0, 0) _ rfl KZ Try.underlying29 rfl infoNd16 _ rfl) rfl (TnRet.no (by decide) HT.out.1 h0 HGE.out)
      case neg =>
        have i1 : ((n : Int) == 1) = false := by rw [beq_eq_false_iff_ne]; omega
        by_cases k2 : n = 2
        case pos =>
          subst k2
          have HT := hid (tk_2 HLN.out HS.out.symm)
          have HTL := hid (takeParent_e xs 1 g X HXL.out RN2.out)
          go_wp2_with fail
          refine HTL.out.mono ?_
          rintro r V ⟨u, p, rfl, hok, hg⟩
          have HOK := hid hok
          have K3 := hid (block_grown K2.out hg (by intro e; injection e with e; have := HGL.out; omega))
          have HG3 := hid (grown_step HG2.out (.inl rfl) hg)
          clear hok hg y0 K2 HG2 HTL
          obtain ⟨er, her⟩ : ∃ t, t = tpE xs 1 := ⟨_, rfl⟩
          rw [← her] at HT HOK ⊢
          clear her
          have HTH : Hid (V.there w.heap.size 7 (prV u p).size) := hid (there_of K3.out (by show 7 + 3 ≤ 10; decide))
          have K4 : Hid ((V.setCells w.heap.size 7 (prL u p)).heap[w.heap.size]? = some (.cells (ndV 2 lf0 la0 u p) NdT (0, 0))) := hid (set_pr K3.out)
          have hgm := grown_cells w.heap.size (prL u p) 7 V
          have HGE : Hid (w.grownBy ((V.setCells w.heap.size 7 (prL u p)).setRow w.heap.size (ndV 2 lf0 la0 u p)) (some g)) := hid (grown_put (grown_step HG3.out (.inr ⟨w.heap.size, rfl, Nat.le_refl _⟩) hgm) (Nat.le_refl _))
          have hgo := grown_one (V.setCells w.heap.size 7 (prL u p)) w.heap.size (ndV 2 lf0 la0 u p)
          go_wp2_with (first
            | (with_reducible refine wpList_store_mid rfl PrT (.tmp 33) (.tmp 31) rfl w.heap.size 7 (prV u p) rfl rfl HTH.out infoPr prV_one ?_)
            | (with_reducible refine wpList_load_row rfl NdT (.tmp 2) rfl w.heap.size rfl NdT (ndV 2 lf0 la0 u p) (0, 0) _ K4.out Try.underlying29 rfl infoNd16 ?_)
            | (with_reducible refine wpList_store_row rfl NdT (.tmp 2) _ rfl w.heap.size (ndV 2 lf0 la0 u p) rfl rfl NdT (ndV 2 lf0 la0 u p) K4.out infoNd16 rfl ndV_one ?_))
          have KZ := setRow_heap (V.setCells w.heap.size 7 (prL u p)) w.heap.size (ndV 2 lf0 la0 u p) (ndV 2 lf0 la0 u p) NdT (0, 0) K4.out
          by_cases h0 : er = 0
          case pos =>
            subst h0
            obtain ⟨hx, hlo, hrd⟩ := HOK.out rfl
            obtain ⟨t1, t2, t3⟩ := HT.out.2 rfl
            have hl2 := prOwn_far (prOwn_far hlo hgm HS2.out) hgo HS2.out
            have hr2 := (hrd.grown hgm (by intro k e; injection e with e; have := HGL.out; omega)).grown hgo (by intro k e; injection e with e; have := HGL.out; omega)
            exact bodyPost_ret (v := .tuple #[.agg (ndV 2 lf0 la0 u p), .int .u8 ((0 : Nat) : Int)]) (results_cn rfl _ _ w.heap.size NdT (ndV 2 lf0 la0 u p) (0, 0) _ rfl KZ Try.underlying29 rfl infoNd16 _ rfl) rfl ⟨2, lf0, la0, u, p, by decide, by rw [HT.out.1], fun _ => ⟨HS.out, t1.symm, hx.trans t2.symm, lfOwn_0 _ _, prOwn_le hl2 (Nat.le_of_lt HS2.out), by rw [t3]; exact hr2⟩, HGE.out⟩
          case neg => exact bodyPost_ret (v := .tuple #[.agg (ndV 2 lf0 la0 u p), .int .u8 (er : Int)]) (results_cn rfl _ _ w.heap.size NdT (ndV 2 lf0 la0 u p) (0, 0) _ rfl KZ Try.underlying29 rfl infoNd16 _ rfl) rfl (TnRet.no (by decide) HT.out.1 h0 HGE.out)
        case neg =>
          have i2 : ((n : Int) == 2) = false := by rw [beq_eq_false_iff_ne]; omega
          have HT := hid (tk_3 HLN.out (by rw [← HS.out]; exact k0) (by rw [← HS.out]; exact k1) (by rw [← HS.out]; exact k2))
          go_wp2_with (first
            | (with_reducible refine wpList_load_row rfl NdT (.tmp 2) rfl w.heap.size rfl NdT (ndV n lf0 la0 pr0 pa0) (0, 0) _ K2.out Try.underlying29 rfl infoNd16 ?_)
            | (with_reducible refine wpList_store_row rfl NdT (.tmp 2) _ rfl w.heap.size (ndV n lf0 la0 pr0 pa0) rfl rfl NdT (ndV n lf0 la0 pr0 pa0) K2.out infoNd16 rfl ndV_one ?_))
          have KZ := setRow_heap _ w.heap.size (ndV n lf0 la0 pr0 pa0) (ndV n lf0 la0 pr0 pa0) NdT (0, 0) K2.out
          exact bodyPost_ret (v := .tuple #[.agg (ndV n lf0 la0 pr0 pa0), .int .u8 ((3 : Nat) : Int)]) (results_cn rfl _ _ w.heap.size NdT (ndV n lf0 la0 pr0 pa0) (0, 0) _ rfl KZ Try.underlying29 rfl infoNd16 _ rfl) rfl (TnRet.no HN.out HT.out (by decide) (grown_put HG2.out (Nat.le_refl _)))
end Go.Proofs.Ytlgcdddgahjknaa
end
section
namespace Go.Proofs.Ytlgcdddgahjknaa
open Go Go.RowKit
set_option linter.unusedVariables false
set_option linter.unusedSimpArgs false
/-- What Take tells, its bytes in memory of its own. -/
def TkRet (xs : List UInt8) (g : Nat) (w : World) (e : Ending) (w' : World) : Prop := ∃ a p, e = .returned (.tuple #[.agg (ndV (tkK xs 0) (tkL xs 0) a (tkP xs 0) p), .int .u8 (tkE xs 0 : Int)]) ∧ LfOwn w w' (tkL xs 0) a ∧ PrOwn w w' (tkP xs 0) p ∧ (tkE xs 0 = 0 → Rd w' g (xs.drop (tkN xs 0)) 0) ∧ w.grownBy w' (some g)
set_option maxHeartbeats 4000000 in
theorem take_own (xs : List UInt8) (g : Nat) (w : World) (hl : xs.length ≤ 1000000) (hr : Rd w g xs 0) : Calls Try.prog 25 #[.pointer (some ⟨g, 0, none⟩)] w (TkRet xs g w) := by
  have hgl := hr.lt
  have HGL := hid hgl
  have HBA : Hid (Below w.heap.size w (w.alloc (.cells ndZ NdT))) := hid ((Below.refl _ _).alloc (Nat.le_refl _) _)
  have K0 : Hid ((w.alloc (.cells ndZ NdT)).heap[w.heap.size]? = some (.cells ndZ NdT (0, 0))) := hid (heap_alloc_new w _)
  have HG : Hid (w.grownBy (w.alloc (.cells ndZ NdT)) (some g)) := hid (grown_bl (World.grownBy.refl _ _) HBA.out)
  have HT : Hid (Calls Try.prog 44 #[.pointer (some ⟨g, 0, none⟩)] (w.alloc (.cells ndZ NdT)) (TnRet xs g (w.alloc (.cells ndZ NdT)))) := hid (takeNode_e xs g _ hl (rd_below hr HBA.out))
  clear hr hl hgl HBA
  go_enter Try.func25, Try.ntmps25
  go_wp2_with fail
  refine HT.out.mono ?_
  rintro e w1 ⟨k, x, a, u, p, hk, rfl, hok, hg⟩
  have K1 := hid (block_grown K0.out hg (by intro e; injection e with e; have := HGL.out; omega))
  have HG1 := hid (grown_step HG.out (.inl rfl) hg)
  have HOK := hid hok
  obtain ⟨er, her⟩ : ∃ t, t = tkE xs 0 := ⟨_, rfl⟩
  rw [← her] at HOK ⊢
  have HER := hid her
  clear hok hg HT HG K0 her hk
  have KA := heap_alloc_new w1 (.cells ndZ NdT)
  have K4 : Hid (((w1.alloc (.cells ndZ NdT)).setRow w1.heap.size (ndV k x a u p)).heap[w1.heap.size]? = some (.cells (ndV k x a u p) NdT (0, 0))) := hid (setRow_heap _ w1.heap.size ndZ (ndV k x a u p) NdT (0, 0) KA)
  have HBL : Hid (Below w1.heap.size w1 ((w1.alloc (.cells ndZ NdT)).setRow w1.heap.size (ndV k x a u p))) := hid (((Below.refl _ _).alloc (Nat.le_refl _) _).trans (below_put _ _ _ (Nat.le_refl _)))
  have K2 := hid ((HBL.out.block _ (block_lt K1.out)).trans K1.out)
  have HG2 := hid (grown_bl HG1.out HBL.out)
  have HSZ : Hid ((w.alloc (.cells ndZ NdT)).heap.size = w.heap.size + 1) := hid (by simp)
  have HOW : Hid (er = 0 → k = srcJ xs 0 ∧ x = tkL xs 0 ∧ u = tkP xs 0 ∧ LfOwn (w.alloc (.cells ndZ NdT)) ((w1.alloc (.cells ndZ NdT)).setRow w1.heap.size (ndV k x a u p)) x a ∧ PrOwn (w.alloc (.cells ndZ NdT)) ((w1.alloc (.cells ndZ NdT)).setRow w1.heap.size (ndV k x a u p)) u p ∧ Rd ((w1.alloc (.cells ndZ NdT)).setRow w1.heap.size (ndV k x a u p)) g (xs.drop (tkN xs 0)) 0) := hid fun h => by
    obtain ⟨h1, h2, h3, h4, h5, h6⟩ := HOK.out h
    exact ⟨h1, h2, h3, lfOwn_on h4 HBL.out, prOwn_on h5 HBL.out, rd_below h6 HBL.out⟩
  clear HBL K1 HG1 HOK
  by_cases h0 : er = 0
  · subst h0
    obtain ⟨h1, h2, h3, h4, h5, h6⟩ := HOW.out rfl
    have HKK : Hid (tkK xs 0 = k) := hid (by unfold tkK; rw [if_pos HER.out.symm, h1])
    have HX := hid h2; have HU := hid h3; have HL := hid h4; have HP := hid h5; have HR := hid h6
    clear h1 h2 h3 h4 h5 h6 HOW
    go_wp2_with (first
      | (with_reducible refine wpList_store_row rfl NdT (.tmp 4) _ rfl w1.heap.size (ndV k x a u p) rfl rfl NdT ndZ KA infoNd16 ndZ_size ndV_one ?_)
      | (with_reducible refine wpList_load_row rfl NdT (.tmp 4) rfl w1.heap.size rfl NdT (ndV k x a u p) (0, 0) _ K4.out Try.underlying29 rfl infoNd16 ?_)
      | (with_reducible refine wpList_store_row rfl NdT (.tmp 2) _ rfl w.heap.size (ndV k x a u p) rfl rfl NdT ndZ K2.out infoNd16 ndZ_size ndV_one ?_))
    have KZ := setRow_heap _ w.heap.size ndZ (ndV k x a u p) NdT (0, 0) K2.out
    have hlf := lfOwn_put (cs := ndV k x a u p) HL.out (show w.heap.size < (w.alloc (.cells ndZ NdT)).heap.size by rw [HSZ.out]; omega)
    have hpr := prOwn_put (cs := ndV k x a u p) HP.out (show w.heap.size < (w.alloc (.cells ndZ NdT)).heap.size by rw [HSZ.out]; omega)
    have hrd := HR.out.grown (grown_one ((w1.alloc (.cells ndZ NdT)).setRow w1.heap.size (ndV k x a u p)) w.heap.size (ndV k x a u p)) (by intro k e; injection e with e; have := HGL.out; omega)
    exact bodyPost_ret (v := .tuple #[.agg (ndV k x a u p), .int .u8 ((0 : Nat) : Int)]) (results_cn rfl _ _ w.heap.size NdT (ndV k x a u p) (0, 0) _ rfl KZ Try.underlying29 rfl infoNd16 _ rfl) rfl ⟨a, p, by rw [HKK.out, ← HX.out, ← HU.out, ← HER.out], by rw [← HX.out]; exact lfOwn_le hlf (by rw [HSZ.out]; omega), by rw [← HU.out]; exact prOwn_le hpr (by rw [HSZ.out]; omega), fun _ => hrd, grown_put HG2.out (Nat.le_refl _)⟩
  · have hne : ((er : Int) != 0) = true := by rw [bne_iff_ne]; omega
    obtain ⟨n1, n2, n3⟩ := tk_none (xs := xs) (i := 0) (by rw [← HER.out]; exact h0)
    have HN := hid (And.intro n1 (And.intro n2 n3))
    have hbuild := build_nd
    clear n1 n2 n3 HOW
    go_wp2_with (first
      | (with_reducible refine wpList_store_row rfl NdT (.tmp 4) _ rfl w1.heap.size (ndV k x a u p) rfl rfl NdT ndZ KA infoNd16 ndZ_size ndV_one ?_)
      | (with_reducible refine wpList_store_row rfl NdT (.tmp 2) _ rfl w.heap.size (ndV 0 lf0 la0 pr0 pa0) rfl rfl NdT ndZ K2.out infoNd16 ndZ_size ndV_one ?_))
    have KZ := setRow_heap _ w.heap.size ndZ (ndV 0 lf0 la0 pr0 pa0) NdT (0, 0) K2.out
    exact bodyPost_ret (v := .tuple #[.agg (ndV 0 lf0 la0 pr0 pa0), .int .u8 (er : Int)]) (results_cn rfl _ _ w.heap.size NdT (ndV 0 lf0 la0 pr0 pa0) (0, 0) _ rfl KZ Try.underlying29 rfl infoNd16 _ rfl) rfl ⟨la0, pa0, by rw [HN.out.1, HN.out.2.1, HN.out.2.2, ← HER.out], by rw [HN.out.2.1]; exact lfOwn_0 _ _, by rw [HN.out.2.2]; exact prOwn_0 _ _, fun h => absurd (HER.out.trans h) h0, grown_put HG2.out (Nat.le_refl _)⟩
theorem node_take : NdTake := fun g xs w hr hl => (take_own xs g w hl hr).mono fun e w' ⟨a, p, h1, h2, h3, h4, h5⟩ => ⟨a, p, h1, lfOwn_in h2, prOwn_in h3, h4, h5⟩
set_option maxHeartbeats 4000000 in
theorem takeNode_nil (w : World) : Calls Try.prog 44 #[.pointer none] w fun e w' => e = .returned (.tuple #[.agg (ndV 0 lf0 la0 pr0 pa0), .int .u8 2]) ∧ Below w.heap.size w w' := by
  have K0 : Hid ((w.alloc (.cells ndZ NdT)).heap[w.heap.size]? = some (.cells (ndV 0 lf0 la0 pr0 pa0) NdT (0, 0))) := hid (heap_alloc_new w _)
  go_enter Try.func44, Try.ntmps44
  go_wp2_with fail
  refine (Num_nil 1 _).mono ?_
  rintro r w1 ⟨rfl, rfl⟩
  have yy := cell_of K0.out 0 _ rfl
  have zz : (w.alloc (.cells ndZ NdT)).frozen? ⟨w.heap.size, 0, none⟩ = false := frozen_of_row _ _ _ _ _ K0.out
  have K2 : Hid (((w.alloc (.cells ndZ NdT)).setCell ⟨w.heap.size, 0, none⟩ (.int .u8 0)).heap[w.heap.size]? = some (.cells (ndV 0 lf0 la0 pr0 pa0) NdT (0, 0))) := hid (by have h := block_set K0.out 0 (.int .u8 0); exact h)
  have HB2 : Hid (Below w.heap.size w ((w.alloc (.cells ndZ NdT)).setCell ⟨w.heap.size, 0, none⟩ (.int .u8 0))) := hid (((Below.refl _ _).alloc (Nat.le_refl _) _).setCell (by simp) _)
  go_wp2_with fail
  clear yy zz
  refine (Err_nil _).mono ?_
  rintro r Y ⟨rfl, rfl⟩
  go_wp2_with (first
    | (with_reducible refine wpList_load_row rfl NdT (.tmp 2) rfl w.heap.size rfl NdT (ndV 0 lf0 la0 pr0 pa0) (0, 0) _ K2.out Try.underlying29 rfl infoNd16 ?_)
    | (with_reducible refine wpList_store_row rfl NdT (.tmp 2) _ rfl w.heap.size (ndV 0 lf0 la0 pr0 pa0) rfl rfl NdT (ndV 0 lf0 la0 pr0 pa0) K2.out infoNd16 rfl ndV_one ?_))
  have KZ := setRow_heap _ w.heap.size (ndV 0 lf0 la0 pr0 pa0) (ndV 0 lf0 la0 pr0 pa0) NdT (0, 0) K2.out
  exact bodyPost_ret (v := .tuple #[.agg (ndV 0 lf0 la0 pr0 pa0), .int .u8 2]) (results_cn rfl _ _ w.heap.size NdT (ndV 0 lf0 la0 pr0 pa0) (0, 0) _ rfl (by first | exact KZ | exact heap_alloc_new w _) Try.underlying29 rfl infoNd16 _ rfl) rfl ⟨rfl, by first | exact HB2.out.trans (below_put _ _ _ (Nat.le_refl _)) | exact (Below.refl _ _).alloc (Nat.le_refl _) _⟩
set_option maxHeartbeats 4000000 in
theorem node_takenil : NdTakeNil := fun w => by
  have K0 : Hid ((w.alloc (.cells ndZ NdT)).heap[w.heap.size]? = some (.cells ndZ NdT (0, 0))) := hid (heap_alloc_new w _)
  have HB0 : Hid (Below w.heap.size w (w.alloc (.cells ndZ NdT))) := hid ((Below.refl _ _).alloc (Nat.le_refl _) _)
  go_enter Try.func25, Try.ntmps25
  go_wp2_with fail
  refine (takeNode_nil _).mono ?_
  rintro e w1 ⟨rfl, hb⟩
  have KA := heap_alloc_new w1 (.cells ndZ NdT)
  have HBL : Hid (Below w1.heap.size w1 ((w1.alloc (.cells ndZ NdT)).setRow w1.heap.size (ndV 0 lf0 la0 pr0 pa0))) := hid (((Below.refl _ _).alloc (Nat.le_refl _) _).trans (below_put _ _ _ (Nat.le_refl _)))
  have K1 := hid ((hb.block _ (block_lt K0.out)).trans K0.out)
  have K2 := hid ((HBL.out.block _ (block_lt K1.out)).trans K1.out)
  have HB1 := hid (HB0.out.trans (hb.mono HB0.out.size))
  have HB2 := hid (HB1.out.trans (HBL.out.mono HB1.out.size))
  have hbuild := build_nd
  clear hb HBL K1 HB0 HB1 K0
  go_wp2_with (first
    | (with_reducible refine wpList_store_row rfl NdT (.tmp 4) _ rfl w1.heap.size (ndV 0 lf0 la0 pr0 pa0) rfl rfl NdT ndZ KA infoNd16 ndZ_size ndV_one ?_)
    | (with_reducible refine wpList_store_row rfl NdT (.tmp 2) _ rfl w.heap.size (ndV 0 lf0 la0 pr0 pa0) rfl rfl NdT ndZ K2.out infoNd16 ndZ_size ndV_one ?_))
  have KZ := setRow_heap _ w.heap.size ndZ (ndV 0 lf0 la0 pr0 pa0) NdT (0, 0) K2.out
  exact bodyPost_ret (v := .tuple #[.agg (ndV 0 lf0 la0 pr0 pa0), .int .u8 2]) (results_cn rfl _ _ w.heap.size NdT (ndV 0 lf0 la0 pr0 pa0) (0, 0) _ rfl KZ Try.underlying29 rfl infoNd16 _ rfl) rfl ⟨la0, pa0, rfl, lf0_in _, pr0_in _, HB2.out.trans (below_put _ _ _ (Nat.le_refl _))⟩
set_option maxHeartbeats 4000000 in
theorem node_of : NdOf := fun A xs c w hq hl => by
  have HRD : Hid (∀ V, Below w.heap.size w V → Calls Try.prog 21 #[.slice A xs.length c] V fun e w' => ∃ g, e = .returned (.pointer (some ⟨g, 0, none⟩)) ∧ V.heap.size ≤ g ∧ Rd w' g xs 0 ∧ V.grownBy w' none) := hid fun V h => NewReader_any A xs c V _ (lie_to hq.lie h) (by omega)
  have HTK : Hid (∀ g V, Rd V g xs 0 → Calls Try.prog 25 #[.pointer (some ⟨g, 0, none⟩)] V (TkRet xs g V)) := hid fun g V h => take_own xs g V hl h
  have K0 : Hid ((w.alloc (.cells ndZ NdT)).heap[w.heap.size]? = some (.cells ndZ NdT (0, 0))) := hid (heap_alloc_new w _)
  have HB0 : Hid (Below w.heap.size w (w.alloc (.cells ndZ NdT))) := hid ((Below.refl _ _).alloc (Nat.le_refl _) _)
  have HTU : Hid (tkE xs 0 = 0 → tkN xs 0 ≤ xs.length) := hid fun h => by
    rcases Nat.lt_or_ge 0 xs.length with h1 | h1
    · exact (tk_up h h1).2
    · have : xs = [] := List.length_eq_zero_iff.1 (by omega)
      subst this
      rw [take_end] at h; cases h
  have HOE : Hid (ofE xs = if tkE xs 0 ≠ 0 then tkE xs 0 else if tkN xs 0 < xs.length then 5 else 0) := hid rfl
  have HOK : Hid (ofK xs = (if ofE xs = 0 then tkK xs 0 else 0) ∧ ofL xs = (if ofE xs = 0 then tkL xs 0 else lf0) ∧ ofP xs = (if ofE xs = 0 then tkP xs 0 else pr0)) := hid ⟨rfl, rfl, rfl⟩
  obtain ⟨oe, hoe⟩ : ∃ t, t = ofE xs := ⟨_, rfl⟩
  obtain ⟨ok, hok⟩ : ∃ t, t = ofK xs := ⟨_, rfl⟩
  obtain ⟨ol, hol⟩ : ∃ t, t = ofL xs := ⟨_, rfl⟩
  obtain ⟨op, hop⟩ : ∃ t, t = ofP xs := ⟨_, rfl⟩
  rw [← hoe] at HOE HOK
  rw [← hok, ← hol, ← hop] at HOK
  rw [← hoe, ← hok, ← hol, ← hop]
  clear hq hl hoe hok hol hop
  go_enter Try.func18, Try.ntmps18
  go_wp2_with fail
  refine (HRD.out _ HB0.out).mono ?_
  rintro e w1 ⟨g, rfl, hg0, hr, hg⟩
  have hb1 : Below (w.heap.size + 1) (w.alloc (.cells ndZ NdT)) w1 := below_of_grown hg (by simp) (fun k e => by cases e)
  have K1 := hid ((hb1.block _ (Nat.lt_succ_self _)).trans K0.out)
  have HB1 := hid (HB0.out.trans (hb1.mono (Nat.le_succ _)))
  have HGG : Hid (w.heap.size < g) := hid (by simp at hg0; omega)
  have HR := hid hr
  have HW1 : Hid (w.heap.size < w1.heap.size) := hid (block_lt K1.out)
  clear hg0 hr hg hb1 HB0 K0 HRD
  go_wp2_with fail
  refine (HTK.out g _ HR.out).mono ?_
  rintro e w2 ⟨a, p, rfl, hlo, hpo, hrd, hg⟩
  have HLO := hid hlo; have HPO := hid hpo; have HRD := hid hrd
  have K2 := hid (block_grown K1.out hg (by intro e; injection e with e; have := HGG.out; omega))
  have HB2 : Hid (Below w.heap.size w w2) := hid (HB1.out.grown hg HB1.out.size (fun k e => by cases e; exact Nat.le_of_lt HGG.out))
  clear hlo hpo hrd hg HB1 K1 HTK HR
  obtain ⟨k, hk⟩ : ∃ t, t = tkK xs 0 := ⟨_, rfl⟩
  obtain ⟨x, hx⟩ : ∃ t, t = tkL xs 0 := ⟨_, rfl⟩
  obtain ⟨u, hu⟩ : ∃ t, t = tkP xs 0 := ⟨_, rfl⟩
  obtain ⟨er, her⟩ : ∃ t, t = tkE xs 0 := ⟨_, rfl⟩
  obtain ⟨m, hm⟩ : ∃ t, t = tkN xs 0 := ⟨_, rfl⟩
  rw [← hx] at HLO
  rw [← hu] at HPO
  rw [← her, ← hm] at HRD HOE HTU
  rw [← hk, ← hx, ← hu] at HOK
  rw [← hk, ← hx, ← hu, ← her]
  clear hk hx hu her hm
  have KA := heap_alloc_new w2 (.cells ndZ NdT)
  have K4 : Hid (((w2.alloc (.cells ndZ NdT)).setRow w2.heap.size (ndV k x a u p)).heap[w2.heap.size]? = some (.cells (ndV k x a u p) NdT (0, 0))) := hid (setRow_heap _ w2.heap.size ndZ (ndV k x a u p) NdT (0, 0) KA)
  have HBL : Hid (Below w2.heap.size w2 ((w2.alloc (.cells ndZ NdT)).setRow w2.heap.size (ndV k x a u p))) := hid (((Below.refl _ _).alloc (Nat.le_refl _) _).trans (below_put _ _ _ (Nat.le_refl _)))
  have K3 := hid ((HBL.out.block _ (block_lt K2.out)).trans K2.out)
  have HB3 := hid (HB2.out.trans (HBL.out.mono HB2.out.size))
  have HLO3 := hid (lfOwn_on HLO.out HBL.out); have HPO3 := hid (prOwn_on HPO.out HBL.out)
  have HRD3 : Hid (er = 0 → Rd ((w2.alloc (.cells ndZ NdT)).setRow w2.heap.size (ndV k x a u p)) g (xs.drop m) 0) := hid fun h => rd_below (HRD.out h) HBL.out
  have hbuild := build_nd
  clear HBL K2 HB2 HLO HPO HRD
  by_cases h0 : er = 0
  · subst h0
    have HEN := hid (End_any g _ 0 _ (HRD3.out rfl) (by decide))
    have hle := HTU.out rfl
    have HDL : Hid ((xs.drop m).length = xs.length - m) := hid List.length_drop
    go_wp2_with (first
      | (with_reducible refine wpList_store_row rfl NdT (.tmp 5) _ rfl w2.heap.size (ndV k x a u p) rfl rfl NdT ndZ KA infoNd16 ndZ_size ndV_one ?_))
    refine HEN.out.mono ?_
    rintro e w3 ⟨rfl, rfl⟩
    by_cases hm : m < xs.length
    · have HE : Hid (endOf (xs.drop m) 0 = 5) := hid (by unfold endOf; rw [if_neg (by simp), if_neg (by rw [HDL.out]; omega)])
      have hoe := HOE.out
      rw [if_neg (by simp), if_pos hm] at hoe
      subst hoe
      obtain ⟨n1, n2, n3⟩ := HOK.out
      rw [if_neg (by decide)] at n1 n2 n3
      subst n1 n2 n3
      rw [HE.out]
      clear HOK HOE hle hm HEN HE
      go_wp2_with (first
        | (with_reducible refine wpList_store_row rfl NdT (.tmp 2) _ rfl w.heap.size (ndV 0 lf0 la0 pr0 pa0) rfl rfl NdT ndZ K3.out infoNd16 ndZ_size ndV_one ?_))
      have KZ := setRow_heap _ w.heap.size ndZ (ndV 0 lf0 la0 pr0 pa0) NdT (0, 0) K3.out
      exact bodyPost_ret (v := .tuple #[.agg (ndV 0 lf0 la0 pr0 pa0), .int .u8 ((5 : Nat) : Int)]) (results_cn rfl _ _ w.heap.size NdT (ndV 0 lf0 la0 pr0 pa0) (0, 0) _ rfl KZ Try.underlying29 rfl infoNd16 _ rfl) rfl ⟨la0, pa0, rfl, lf0_in _, pr0_in _, HB3.out.trans (below_put _ _ _ (Nat.le_refl _))⟩
    · have HE : Hid (endOf (xs.drop m) 0 = 0) := hid (by unfold endOf; rw [if_neg (by simp), if_pos (by rw [HDL.out]; omega)])
      have hoe := HOE.out
      rw [if_neg (by simp), if_neg hm] at hoe
      subst hoe
      obtain ⟨n1, n2, n3⟩ := HOK.out
      rw [if_pos rfl] at n1 n2 n3
      subst n1 n2 n3
      rw [HE.out]
      clear HOK HOE hle hm HEN HE
      go_wp2_with (first
        | (with_reducible refine wpList_load_row rfl NdT (.tmp 5) rfl w2.heap.size rfl NdT (ndV ok ol a op p) (0, 0) _ K4.out Try.underlying29 rfl infoNd16 ?_)
        | (with_reducible refine wpList_store_row rfl NdT (.tmp 2) _ rfl w.heap.size (ndV ok ol a op p) rfl rfl NdT ndZ K3.out infoNd16 ndZ_size ndV_one ?_))
      have KZ := setRow_heap _ w.heap.size ndZ (ndV ok ol a op p) NdT (0, 0) K3.out
      have hlf := lfOwn_in (lfOwn_put (cs := ndV ok ol a op p) HLO3.out HW1.out)
      have hpr := prOwn_in (prOwn_put (cs := ndV ok ol a op p) HPO3.out HW1.out)
      exact bodyPost_ret (v := .tuple #[.agg (ndV ok ol a op p), .int .u8 ((0 : Nat) : Int)]) (results_cn rfl _ _ w.heap.size NdT (ndV ok ol a op p) (0, 0) _ rfl KZ Try.underlying29 rfl infoNd16 _ rfl) rfl ⟨a, p, rfl, hlf, hpr, HB3.out.trans (below_put _ _ _ (Nat.le_refl _))⟩
  · have hne : ((er : Int) != 0) = true := by rw [bne_iff_ne]; omega
    have hne2 : ((er : Int) == 0) = false := by rw [beq_eq_false_iff_ne]; omega
    have hoe := HOE.out
    rw [if_pos h0] at hoe
    subst hoe
    obtain ⟨n1, n2, n3⟩ := HOK.out
    rw [if_neg h0] at n1 n2 n3
    subst n1 n2 n3
    clear HOK HOE
    go_wp2_with (first
      | (with_reducible refine wpList_store_row rfl NdT (.tmp 5) _ rfl w2.heap.size (ndV k x a u p) rfl rfl NdT ndZ KA infoNd16 ndZ_size ndV_one ?_)
      | (with_reducible refine wpList_store_row rfl NdT (.tmp 2) _ rfl w.heap.size (ndV 0 lf0 la0 pr0 pa0) rfl rfl NdT ndZ K3.out infoNd16 ndZ_size ndV_one ?_))
    have KZ := setRow_heap _ w.heap.size ndZ (ndV 0 lf0 la0 pr0 pa0) NdT (0, 0) K3.out
    exact bodyPost_ret (v := .tuple #[.agg (ndV 0 lf0 la0 pr0 pa0), .int .u8 (oe : Int)]) (results_cn rfl _ _ w.heap.size NdT (ndV 0 lf0 la0 pr0 pa0) (0, 0) _ rfl KZ Try.underlying29 rfl infoNd16 _ rfl) rfl ⟨la0, pa0, rfl, lf0_in _, pr0_in _, HB3.out.trans (below_put _ _ _ (Nat.le_refl _))⟩
end Go.Proofs.Ytlgcdddgahjknaa
end
