/-
  Texts of this claim in one file: Ref13a, Ref13b, Ref11a, Ref11b.
-/
import Derived.Test.YtpkmidaflnbobaaGreatDoorPk5
import Derived.Test.YtpkmidaflnbobaaGreatDoorPk11
import Derived.Test.YtpkmidaflnbobaaGreatDoorPk14
import Derived.Lib.SlBytesConst
import Derived.Great.Walk
import Derived.Test.YtpkmidaflnbobaaGreatDoorPk39
import Derived.Test.YtpkmidaflnbobaaGreatDoorPk3
import Derived.Deep.LoopGhost
import Derived.Test.YtpkmidaflnbobaaGreatDoorPk12
import Derived.Test.YtpkmidaflnbobaaGreatDoorPk40
import Derived.BigQuiet
import Derived.Deep.DeepCutAuto
section
namespace Go.Proofs.YtpkmidaflnbobaaGreatDoor
open Go Go.RowKit
set_option linter.unusedVariables false
set_option linter.unusedSimpArgs false
theorem wpLA_const {P : Program} {ops : Array Oper} {Q : Exit → Act → World → Prop} {o o2 : Oper} {rest : List Oper} {a : Act} {w0 : World} (hg : o.guard = none) (t e : TypeId) (len : Nat) (parts : Array (Nat × Operand)) (ho : o.op = .buildSlice t len parts) (hu : P.underlying t = some (.slice e))
    (l : List (Nat × Value)) (hl : (parts.toList.map fun (i, x) => (i, a.eval x)) = l) (xs : List Value) (hf : P.builtSlice e len l = some xs.toArray) (hn : xs.length ≤ len) (hm : len ≤ 9223372036854775807)
    (hw : ∀ p, Region.wanted o2 (yielded ops (a.put o.dst (.slice (some ⟨p, 0, none⟩) len len)).tmps) = true)
    (hr : ∀ w' : World, (execOp (a.put o.dst (.slice (some ⟨w'.heap.size, 0, none⟩) len len)).eval o2).run P (w'.alloc (.cells xs.toArray e)) = .ok (.value (.slice (some ⟨w'.heap.size, 0, none⟩) len len)) (w'.alloc (.cells xs.toArray e (xs.toArray.size, xs.toArray.size + 1))))
    (h : ∀ p w2, Below w0.heap.size w0 w2 → Sq w2 w2.heap.size (some ⟨p, 0, none⟩) len xs → wpLA P ops Q w2 rest ((a.put o.dst (.slice (some ⟨p, 0, none⟩) len len)).put o2.dst (.slice (some ⟨p, 0, none⟩) len len))) : wpLA P ops Q w0 (o :: o2 :: rest) a := .mk fun w hb =>
  Great.wpList_buildSliceTo hg t e len parts ho w.heap.size rfl _ rfl hu xs.toArray (by rw [Array.toList_map, hl]; exact hf) (BigFrame.wpList_want (hw _) fun K' hK => by
    unfold Oper.wp
    rw [hr w]
    refine hK _ _ ((h w.heap.size _ (hb.alloc hb.size _) (.inr ⟨w.heap.size, 0, rfl, by simp, hn, hm, fun j u hj => ?_⟩)).out _ (Below.refl _ _))
    rw [Nat.zero_add, World.cell?_alloc_mark]
    simpa using hj)
/-- Bytes of a number, in memory somewhere. -/
def ByN (w : World) (n : Nat) (xs : List UInt8) (e : Ending) (w' : World) : Prop := ∃ A c, e = .returned (.slice A n c) ∧ Sq w' w'.heap.size A c (bvs xs) ∧ Below w.heap.size w w'
theorem byn_own {P : Program} {f : FuncId} {args : Array Value} {w : World} {xs : List UInt8} {n : Nat} (hn : xs.length = n) (h : Calls P f args w fun e w' => ∃ v, e = .returned v ∧ OwnB w' w.heap.size v xs ∧ Below w.heap.size w w') : Calls P f args w (ByN w n xs) :=
  h.mono fun e w' ⟨v, he, ho, hb⟩ => by
    obtain ⟨A, c, rfl, hs⟩ := own_sl ho
    exact ⟨A, c, by rw [he, hn], hs.sq, hb⟩
section
variable {P : Program} {ops : Array Oper} {Q : Exit → Act → World → Prop} {o : Oper} {rest : List Oper} {a : Act} {w0 : World}
theorem wpLA_byn {f : FuncId} {args : Array Value} (xs : List UInt8) (n : Nat) (hw : Region.wanted o (yielded ops a.tmps) = true) (hr : ∀ w', (execOp a.eval o).run P w' = .ok (.enter f args) w')
    (hc : ∀ w', Below w0.heap.size w0 w' → Calls P f args w' (ByN w' n xs))
    (h : ∀ A c w2, Below w0.heap.size w0 w2 → Sq w2 w2.heap.size A c (bvs xs) → wpLA P ops Q w2 rest (a.put o.dst (.slice A n c))) : wpLA P ops Q w0 (o :: rest) a :=
  wpLA_call (fun w' v w'' => ∃ A c, v = .slice A n c ∧ Sq w'' w''.heap.size A c (bvs xs) ∧ Below w'.heap.size w' w'') hw hr (fun w' hb => (hc w' hb).mono fun e w'' ⟨A, c, he, h1, h2⟩ => ⟨_, he, A, c, rfl, h1, h2⟩)
    fun w' v w'' hb ⟨A, c, hv, h1, h2⟩ => by subst hv; exact h A c w'' (hb.trans (h2.mono hb.size)) h1
end
def hpV : List UInt8 := [72, 80, 75, 69, 45, 118, 49]
def pairsB : List UInt8 := [75, 69, 77, 0, 32]
def boxesB : List UInt8 := [72, 80, 75, 69, 0, 32, 0, 1, 0, 1]
/-- An extract with a label; an expansion with a label. -/
def exH (name salt label secret : List UInt8) : List UInt8 := macB salt ((hpV ++ name) ++ (label ++ secret))
def epL (name secret label info : List UInt8) (n : Nat) : List UInt8 := kdfB secret ((((beBytes 2 n ++ hpV) ++ name) ++ (label ++ info))) n
theorem exH_length (name salt label secret : List UInt8) : (exH name salt label secret).length = 32 := macB_length _ _
theorem epL_length (name secret label info : List UInt8) (n : Nat) : (epL name secret label info n).length = n := kdfB_length _ _ _
theorem lit_hpV : Tryz.prog.builtSlice 5 7 [(0, .int .u8 72), (1, .int .u8 80), (2, .int .u8 75), (3, .int .u8 69), (4, .int .u8 45), (5, .int .u8 118), (6, .int .u8 49)] = some (bvs hpV).toArray ∧ (bvs hpV).length ≤ 7 := ⟨by kernel_rfl, by decide⟩
theorem lit_pairsB : Tryz.prog.builtSlice 5 5 [(0, .int .u8 75), (1, .int .u8 69), (2, .int .u8 77), (3, .int .u8 0), (4, .int .u8 32)] = some (bvs pairsB).toArray ∧ (bvs pairsB).length ≤ 5 := ⟨by kernel_rfl, by decide⟩
theorem lit_boxesB : Tryz.prog.builtSlice 5 10 [(0, .int .u8 72), (1, .int .u8 80), (2, .int .u8 75), (3, .int .u8 69), (4, .int .u8 0), (5, .int .u8 32), (6, .int .u8 0), (7, .int .u8 1), (8, .int .u8 0), (9, .int .u8 1)] = some (bvs boxesB).toArray ∧ (bvs boxesB).length ≤ 10 := ⟨by kernel_rfl, by decide⟩
set_option maxRecDepth 100000 in
set_option maxHeartbeats 1000000 in
theorem join13_e (A : Option Addr) (xs : List UInt8) (n c : Nat) (A' : Option Addr) (ys : List UInt8) (m c' : Nat) (w : World) (hx : xs.length = n) (hy : ys.length = m) (hS : Sq w w.heap.size A c (bvs xs)) (hS' : Sq w w.heap.size A' c' (bvs ys)) (hl : n + m ≤ 100000) :
    Calls Tryz.prog 37 #[.slice A n c, .slice A' m c'] w (ByN w (([] ++ xs) ++ ys).length (([] ++ xs) ++ ys)) := by
  have HS := hid hS; have HS' := hid hS'; have HX := hid hx; have HY := hid hy; have HL := hid hl
  clear hS hS' hx hy hl
  obtain ⟨X0, hX0⟩ : ∃ l_ : List UInt8, l_ = ([] : List UInt8) ++ xs := ⟨_, rfl⟩
  have EX0 := hid hX0
  have LX0 : Hid (X0.length ≤ 100000) := hid (by rw [hX0]; have := HL.out; have := HX.out; have := HY.out; simp only [List.length_append, List.length_nil]; omega)
  obtain ⟨X1, hX1⟩ : ∃ l_ : List UInt8, l_ = X0 ++ ys := ⟨_, rfl⟩
  have EX1 := hid hX1
  have LX1 : Hid (X1.length ≤ 100000) := hid (by rw [hX1]; have := HL.out; have := HX.out; have := HY.out; rw [EX0.out]; simp only [List.length_append, List.length_nil]; omega)
  rw [← hX0, ← hX1]
  clear hX0 hX1
  go_enter Tryz.func37, Tryz.ntmps37
  have S0 : Hid (St w w [] []) := hid (St.start w)
  go_upto_region 0 with fail
  refine wpLA_start ?_
  refine wpLA_take (.slice none 0 0) (yG_val _ (by rfl) (fun w' _ => by (go_simp; try rfl))) ?_
  (try simp only [Act.put, List.getElem_toArray, List.getElem_cons_succ, List.getElem_cons_zero, List.setIfInBounds_toArray, List.set_cons_zero, List.set_cons_succ])
  refine wpLA_end ?_
  intro w1 hb
  have S1 := hid (S0.out.on hb)
  clear hb S0
  go_upto_region 1 with fail
  refine wpLA_start ?_
  refine wpLA_empty (by rfl) (fun w' => by (go_simp; try rfl)) ?_
  intro p2 w2 hb ho
  have HB2 : Hid (Below w1.heap.size w1 w2) := hid hb
  have O2 := hid ho
  have S2 : Hid (St w w2 [] []) := hid (S1.out.on hb)
  clear hb ho
  (try simp only [Act.put, List.getElem_toArray, List.getElem_cons_succ, List.getElem_cons_zero, List.setIfInBounds_toArray, List.set_cons_zero, List.set_cons_succ])
  refine wpLA_take (.slice A n c) (yG_val _ (by rfl) (fun w' _ => by (go_simp; try rfl))) ?_
  (try simp only [Act.put, List.getElem_toArray, List.getElem_cons_succ, List.getElem_cons_zero, List.setIfInBounds_toArray, List.set_cons_zero, List.set_cons_succ])
  refine wpLA_append EX0.out (B := w1.heap.size) (xs := ([] : List UInt8)) (ys := xs) (by rfl) _ _ _ rfl Tryz.underlying22 infoU8 rfl O2.out HX.out rfl ((HS.out.on6 S2.out.below)) (by have := HL.out; have := HX.out; simp only [List.length_append, List.length_nil] at *; omega) HB2.out.size ?_
  intro A3 c3 w3 ho hb
  have HB3 := hid (HB2.out.trans hb)
  have O3 := hid ho
  have S3 : Hid (St w w3 [] [(A3, c3, bvs X0)]) := hid ((S1.out.on HB3.out).more (ownB_sq ho))
  clear ho hb S2 HB2 O2
  (try simp only [Act.put, List.getElem_toArray, List.getElem_cons_succ, List.getElem_cons_zero, List.setIfInBounds_toArray, List.set_cons_zero, List.set_cons_succ])
  refine wpLA_take (.slice A' m c') (yG_val _ (by rfl) (fun w' _ => by (go_simp; try rfl))) ?_
  (try simp only [Act.put, List.getElem_toArray, List.getElem_cons_succ, List.getElem_cons_zero, List.setIfInBounds_toArray, List.set_cons_zero, List.set_cons_succ])
  refine wpLA_append EX1.out (B := w1.heap.size) (xs := X0) (ys := ys) (by rfl) _ _ _ rfl Tryz.underlying22 infoU8 rfl O3.out HY.out rfl ((HS'.out.on6 S3.out.below)) (by have := HL.out; have := HX.out; have h0 := congrArg List.length EX0.out; simp only [List.length_append, List.length_nil] at *; omega) HB3.out.size ?_
  intro A4 c4 w4 ho hb
  have HB4 := hid (HB3.out.trans hb)
  have O4 := hid ho
  have S4 : Hid (St w w4 [] [(A4, c4, bvs X1)]) := hid ((S1.out.on HB4.out).more (ownB_sq ho))
  clear ho hb S3 HB3 O3
  (try simp only [Act.put, List.getElem_toArray, List.getElem_cons_succ, List.getElem_cons_zero, List.setIfInBounds_toArray, List.set_cons_zero, List.set_cons_succ])
  refine wpLA_take (.slice A4 (X1.length) c4) (yG_val _ (by rfl) (fun w' _ => by (go_simp; try rfl))) ?_
  (try simp only [Act.put, List.getElem_toArray, List.getElem_cons_succ, List.getElem_cons_zero, List.setIfInBounds_toArray, List.set_cons_zero, List.set_cons_succ])
  refine wpLA_end ?_
  intro w5 hb
  have S5 := hid (S4.out.on hb)
  clear hb S4
  clear S1 HB4 O4
  go_wp2_with fail
  go_ret
  exact ⟨_, _, rfl, S5.out.sq.1, S5.out.below⟩
theorem join13 (A : Option Addr) (xs : List UInt8) (n c : Nat) (A' : Option Addr) (ys : List UInt8) (m c' : Nat) (w : World) (hx : xs.length = n) (hy : ys.length = m) (hS : Sq w w.heap.size A c (bvs xs)) (hS' : Sq w w.heap.size A' c' (bvs ys)) (hl : n + m ≤ 100000) {L : Nat} (hL : n + m = L) {Z : List UInt8} (hZ : Z = xs ++ ys) :
    Calls Tryz.prog 37 #[.slice A n c, .slice A' m c'] w (ByN w L Z) := by
  have h := join13_e A xs n c A' ys m c' w hx hy hS hS' hl
  rw [List.nil_append, List.length_append, hx, hy, hL, ← hZ] at h
  exact h
theorem Pairs13 (w : World) : Calls Tryz.prog 29 #[] w (ByN w 5 pairsB) := by
  have HV : Hid (_ ∧ _) := hid (lit_pairsB)
  go_enter Tryz.func29, Tryz.ntmps29
  have S0 : Hid (St w w [] []) := hid (St.start w)
  go_upto_region 0 with fail
  refine wpLA_start ?_
  refine wpLA_take (.slice none 0 0) (yG_val _ (by rfl) (fun w' _ => by (go_simp; try rfl))) ?_
  (try simp only [Act.put, List.getElem_toArray, List.getElem_cons_succ, List.getElem_cons_zero, List.setIfInBounds_toArray, List.set_cons_zero, List.set_cons_succ])
  refine wpLA_end ?_
  intro w1 hb
  have S1 := hid (S0.out.on hb)
  clear hb S0
  go_upto_region 1 with fail
  refine wpLA_start ?_
  refine wpLA_slice rfl _ _ 5 _ rfl Tryz.underlying22 [(0, .int .u8 75), (1, .int .u8 69), (2, .int .u8 77), (3, .int .u8 0), (4, .int .u8 32)] rfl (bvs pairsB) HV.out.1 HV.out.2 (by decide) ?_
  intro p2 w2 hb hs
  have S2 : Hid (St w w2 [] [((some ⟨p2, 0, none⟩), 5, bvs pairsB)]) := hid ((S1.out.on hb).more hs)
  clear hb hs S1
  (try simp only [Act.put, List.getElem_toArray, List.getElem_cons_succ, List.getElem_cons_zero, List.setIfInBounds_toArray, List.set_cons_zero, List.set_cons_succ])
  refine wpLA_take (.slice (some ⟨p2, 0, none⟩) 5 5) (yG_val _ (by rfl) (fun w' _ => by (go_simp; try rfl))) ?_
  (try simp only [Act.put, List.getElem_toArray, List.getElem_cons_succ, List.getElem_cons_zero, List.setIfInBounds_toArray, List.set_cons_zero, List.set_cons_succ])
  refine wpLA_end ?_
  intro w3 hb
  have S3 := hid (S2.out.on hb)
  clear hb S2
  go_wp2_with fail
  go_ret
  exact ⟨_, _, rfl, S3.out.sq.1, S3.out.below⟩
theorem Boxes13 (w : World) : Calls Tryz.prog 39 #[] w (ByN w 10 boxesB) := by
  have HV : Hid (_ ∧ _) := hid (lit_boxesB)
  go_enter Tryz.func39, Tryz.ntmps39
  have S0 : Hid (St w w [] []) := hid (St.start w)
  go_upto_region 0 with fail
  refine wpLA_start ?_
  refine wpLA_take (.slice none 0 0) (yG_val _ (by rfl) (fun w' _ => by (go_simp; try rfl))) ?_
  (try simp only [Act.put, List.getElem_toArray, List.getElem_cons_succ, List.getElem_cons_zero, List.setIfInBounds_toArray, List.set_cons_zero, List.set_cons_succ])
  refine wpLA_end ?_
  intro w1 hb
  have S1 := hid (S0.out.on hb)
  clear hb S0
  go_upto_region 1 with fail
  refine wpLA_start ?_
  refine wpLA_slice rfl _ _ 10 _ rfl Tryz.underlying22 [(0, .int .u8 72), (1, .int .u8 80), (2, .int .u8 75), (3, .int .u8 69), (4, .int .u8 0), (5, .int .u8 32), (6, .int .u8 0), (7, .int .u8 1), (8, .int .u8 0), (9, .int .u8 1)] rfl (bvs boxesB) HV.out.1 HV.out.2 (by decide) ?_
  intro p2 w2 hb hs
  have S2 : Hid (St w w2 [] [((some ⟨p2, 0, none⟩), 10, bvs boxesB)]) := hid ((S1.out.on hb).more hs)
  clear hb hs S1
  (try simp only [Act.put, List.getElem_toArray, List.getElem_cons_succ, List.getElem_cons_zero, List.setIfInBounds_toArray, List.set_cons_zero, List.set_cons_succ])
  refine wpLA_take (.slice (some ⟨p2, 0, none⟩) 10 10) (yG_val _ (by rfl) (fun w' _ => by (go_simp; try rfl))) ?_
  (try simp only [Act.put, List.getElem_toArray, List.getElem_cons_succ, List.getElem_cons_zero, List.setIfInBounds_toArray, List.set_cons_zero, List.set_cons_succ])
  refine wpLA_end ?_
  intro w3 hb
  have S3 := hid (S2.out.on hb)
  clear hb S2
  go_wp2_with fail
  go_ret
  exact ⟨_, _, rfl, S3.out.sq.1, S3.out.below⟩
set_option maxRecDepth 100000 in
set_option maxHeartbeats 1000000 in
theorem Extract13 (A : Option Addr) (xs : List UInt8) (n c : Nat) (A' : Option Addr) (ys : List UInt8) (m c' : Nat) (s : ByteArray) (A'' : Option Addr) (zs : List UInt8) (k c'' : Nat) (w : World) (hx : xs.length = n) (hy : ys.length = m) (hz : zs.length = k)
    (hS : Sq w w.heap.size A c (bvs xs)) (hS' : Sq w w.heap.size A' c' (bvs ys)) (hS'' : Sq w w.heap.size A'' c'' (bvs zs)) (hl : n ≤ 10000 ∧ m ≤ 10000 ∧ s.size ≤ 10000 ∧ k ≤ 10000) :
    Calls Tryz.prog 30 #[.slice A n c, .slice A' m c', .string s, .slice A'' k c''] w (ByN w 32 (exH xs ys (sby s) zs)) := by
  have HS := hid hS; have HS' := hid hS'; have HS'' := hid hS''
  have hs := sby_length s
  have HSS : Hid (s.size ≤ 1000000) := hid (by omega)
  obtain ⟨R, hR⟩ : ∃ R, R = exH xs ys (sby s) zs := ⟨_, rfl⟩
  rw [← hR]
  unfold exH at hR
  have HV := hid lit_hpV
  have hv : hpV.length = 7 := rfl
  generalize hpV = V at hR HV hv
  obtain ⟨X1, hX1⟩ : ∃ X, X = V ++ xs := ⟨_, rfl⟩
  obtain ⟨X2, hX2⟩ : ∃ X, X = sby s ++ zs := ⟨_, rfl⟩
  obtain ⟨X3, hX3⟩ : ∃ X, X = X1 ++ X2 := ⟨_, rfl⟩
  obtain ⟨L1, hL1⟩ : ∃ L, 7 + n = L := ⟨_, rfl⟩
  obtain ⟨L2, hL2⟩ : ∃ L, s.size + k = L := ⟨_, rfl⟩
  obtain ⟨L3, hL3⟩ : ∃ L, L1 + L2 = L := ⟨_, rfl⟩
  have l1 : X1.length = L1 := by rw [hX1, List.length_append]; omega
  have l2 : X2.length = L2 := by rw [hX2, List.length_append]; omega
  have l3 : X3.length = L3 := by rw [hX3, List.length_append]; omega
  rw [← hX1, ← hX2, ← hX3] at hR
  have K1 : Hid (∀ (A0 : Option Addr) (c0 : Nat) (A1 : Option Addr) (c1 : Nat) (W : World), Sq W W.heap.size A0 c0 (bvs V) → Sq W W.heap.size A1 c1 (bvs xs) → Calls Tryz.prog 37 #[.slice A0 7 c0, .slice A1 n c1] W (ByN W L1 X1)) := hid fun A0 c0 A1 c1 W h h' => join13 A0 V 7 c0 A1 xs n c1 W hv hx h h' (by omega) hL1 hX1
  have K2 : Hid (∀ (A0 : Option Addr) (c0 : Nat) (A1 : Option Addr) (c1 : Nat) (W : World), Sq W W.heap.size A0 c0 (bvs (sby s)) → Sq W W.heap.size A1 c1 (bvs zs) → Calls Tryz.prog 37 #[.slice A0 s.size c0, .slice A1 k c1] W (ByN W L2 X2)) := hid fun A0 c0 A1 c1 W h h' => join13 A0 (sby s) s.size c0 A1 zs k c1 W hs hz h h' (by omega) hL2 hX2
  have K3 : Hid (∀ (A0 : Option Addr) (c0 : Nat) (A1 : Option Addr) (c1 : Nat) (W : World), Sq W W.heap.size A0 c0 (bvs X1) → Sq W W.heap.size A1 c1 (bvs X2) → Calls Tryz.prog 37 #[.slice A0 L1 c0, .slice A1 L2 c1] W (ByN W L3 X3)) := hid fun A0 c0 A1 c1 W h h' => join13 A0 X1 L1 c0 A1 X2 L2 c1 W l1 l2 h h' (by omega) hL3 hX3
  have KT : Hid (∀ (A0 : Option Addr) (c0 : Nat) (A1 : Option Addr) (c1 : Nat) (W : World), Sq W W.heap.size A0 c0 (bvs ys) → Sq W W.heap.size A1 c1 (bvs X3) → Calls Tryz.prog 53 #[.slice A0 m c0, .slice A1 L3 c1] W (ByN W 32 R)) := hid fun A0 c0 A1 c1 W h h' => by
    subst hy
    rw [hR]
    exact byn_own (macB_length _ _) (ref4_tag_n A0 ys c0 A1 X3 L3 c1 W h h' l3 (by omega) (by omega))
  clear hS hS' hS'' hs hR hv hX1 hX2 hX3 hL1 hL2 hL3 l1 l2 l3 hx hy hz hl
  go_enter Tryz.func30, Tryz.ntmps30
  have S0 : Hid (St w w [] []) := hid (St.start w)
  go_upto_region 0 with fail
  refine wpLA_start ?_
  refine wpLA_take (.slice none 0 0) (yG_val _ (by rfl) (fun w' _ => by (go_simp; try rfl))) ?_
  (try simp only [Act.put, List.getElem_toArray, List.getElem_cons_succ, List.getElem_cons_zero, List.setIfInBounds_toArray, List.set_cons_zero, List.set_cons_succ])
  refine wpLA_end ?_
  intro w1 hb
  have S1 := hid (S0.out.on hb)
  clear hb S0
  go_upto_region 1 with fail
  refine wpLA_start ?_
  refine wpLA_take (.slice A' m c') (yG_val _ (by rfl) (fun w' _ => by (go_simp; try rfl))) ?_
  (try simp only [Act.put, List.getElem_toArray, List.getElem_cons_succ, List.getElem_cons_zero, List.setIfInBounds_toArray, List.set_cons_zero, List.set_cons_succ])
  refine wpLA_const rfl _ _ 7 _ rfl Tryz.underlying22 [(0, .int .u8 72), (1, .int .u8 80), (2, .int .u8 75), (3, .int .u8 69), (4, .int .u8 45), (5, .int .u8 118), (6, .int .u8 49)] rfl (bvs V) HV.out.1 HV.out.2 (by decide) (fun p => by rfl) (fun w' => by (have hm := Go.Lib.run_convert_bytes_const (P := Tryz.prog) w' 22 5 (bvs V).toArray 7 7 Tryz.underlying22 Tryz.underlying5; go_simp; try rfl)) ?_
  intro p2 w2 hb hs
  have S2 : Hid (St w w2 [] [((some ⟨p2, 0, none⟩), 7, bvs V)]) := hid ((S1.out.on hb).more hs)
  clear hb hs S1
  (try simp only [Act.put, List.getElem_toArray, List.getElem_cons_succ, List.getElem_cons_zero, List.setIfInBounds_toArray, List.set_cons_zero, List.set_cons_succ])
  refine wpLA_take (.slice A n c) (yG_val _ (by rfl) (fun w' _ => by (go_simp; try rfl))) ?_
  (try simp only [Act.put, List.getElem_toArray, List.getElem_cons_succ, List.getElem_cons_zero, List.setIfInBounds_toArray, List.set_cons_zero, List.set_cons_succ])
  refine wpLA_byn X1 L1 (by rfl) (fun w' => by go_simp) (fun w' hb => K1.out (some ⟨p2, 0, none⟩) 7 A c w' (S2.out.on hb).sq.1 (HS.out.on6 ((S2.out.on hb).below))) ?_
  intro A3 c3 w3 hb hs
  have S3 : Hid (St w w3 [] [(A3, c3, bvs X1), ((some ⟨p2, 0, none⟩), 7, bvs V)]) := hid ((S2.out.on hb).more hs)
  clear hb hs S2
  (try simp only [Act.put, List.getElem_toArray, List.getElem_cons_succ, List.getElem_cons_zero, List.setIfInBounds_toArray, List.set_cons_zero, List.set_cons_succ])
  refine wpLA_take (.string s) (yG_val _ (by rfl) (fun w' _ => by (go_simp; try rfl))) ?_
  (try simp only [Act.put, List.getElem_toArray, List.getElem_cons_succ, List.getElem_cons_zero, List.setIfInBounds_toArray, List.set_cons_zero, List.set_cons_succ])
  refine wpLA_str s HSS.out (by rfl) (fun w' => by (have hm := run_bytes w' s; go_simp; try rfl)) ?_
  intro p4 c4 w4 hb hs
  have S4 : Hid (St w w4 [] [((some ⟨p4, 0, none⟩), c4, bvs (sby s)), (A3, c3, bvs X1), ((some ⟨p2, 0, none⟩), 7, bvs V)]) := hid ((S3.out.on hb).more hs)
  clear hb hs S3
  (try simp only [Act.put, List.getElem_toArray, List.getElem_cons_succ, List.getElem_cons_zero, List.setIfInBounds_toArray, List.set_cons_zero, List.set_cons_succ])
  refine wpLA_take (.slice A'' k c'') (yG_val _ (by rfl) (fun w' _ => by (go_simp; try rfl))) ?_
  (try simp only [Act.put, List.getElem_toArray, List.getElem_cons_succ, List.getElem_cons_zero, List.setIfInBounds_toArray, List.set_cons_zero, List.set_cons_succ])
  refine wpLA_byn X2 L2 (by rfl) (fun w' => by go_simp) (fun w' hb => K2.out (some ⟨p4, 0, none⟩) c4 A'' c'' w' (S4.out.on hb).sq.1 (HS''.out.on6 ((S4.out.on hb).below))) ?_
  intro A5 c5 w5 hb hs
  have S5 : Hid (St w w5 [] [(A5, c5, bvs X2), ((some ⟨p4, 0, none⟩), c4, bvs (sby s)), (A3, c3, bvs X1), ((some ⟨p2, 0, none⟩), 7, bvs V)]) := hid ((S4.out.on hb).more hs)
  clear hb hs S4
  (try simp only [Act.put, List.getElem_toArray, List.getElem_cons_succ, List.getElem_cons_zero, List.setIfInBounds_toArray, List.set_cons_zero, List.set_cons_succ])
  refine wpLA_byn X3 L3 (by rfl) (fun w' => by go_simp) (fun w' hb => K3.out A3 c3 A5 c5 w' (S5.out.on hb).sq.2.2.1 (S5.out.on hb).sq.1) ?_
  intro A6 c6 w6 hb hs
  have S6 : Hid (St w w6 [] [(A6, c6, bvs X3), (A5, c5, bvs X2), ((some ⟨p4, 0, none⟩), c4, bvs (sby s)), (A3, c3, bvs X1), ((some ⟨p2, 0, none⟩), 7, bvs V)]) := hid ((S5.out.on hb).more hs)
  clear hb hs S5
  (try simp only [Act.put, List.getElem_toArray, List.getElem_cons_succ, List.getElem_cons_zero, List.setIfInBounds_toArray, List.set_cons_zero, List.set_cons_succ])
  refine wpLA_byn R 32 (by rfl) (fun w' => by go_simp) (fun w' hb => KT.out A' c' A6 c6 w' (HS'.out.on6 ((S6.out.on hb).below)) (S6.out.on hb).sq.1) ?_
  intro A7 c7 w7 hb hs
  have S7 : Hid (St w w7 [] [(A7, c7, bvs R), (A6, c6, bvs X3), (A5, c5, bvs X2), ((some ⟨p4, 0, none⟩), c4, bvs (sby s)), (A3, c3, bvs X1), ((some ⟨p2, 0, none⟩), 7, bvs V)]) := hid ((S6.out.on hb).more hs)
  clear hb hs S6
  (try simp only [Act.put, List.getElem_toArray, List.getElem_cons_succ, List.getElem_cons_zero, List.setIfInBounds_toArray, List.set_cons_zero, List.set_cons_succ])
  refine wpLA_take (.slice A7 32 c7) (yG_val _ (by rfl) (fun w' _ => by (go_simp; try rfl))) ?_
  (try simp only [Act.put, List.getElem_toArray, List.getElem_cons_succ, List.getElem_cons_zero, List.setIfInBounds_toArray, List.set_cons_zero, List.set_cons_succ])
  refine wpLA_end ?_
  intro w8 hb
  have S8 := hid (S7.out.on hb)
  clear hb S7
  go_wp2_with fail
  go_ret
  exact ⟨_, _, rfl, S8.out.sq.1, S8.out.below⟩
set_option maxRecDepth 100000 in
set_option maxHeartbeats 1000000 in
theorem Expand13 (A : Option Addr) (xs : List UInt8) (q c : Nat) (A' : Option Addr) (ys : List UInt8) (m c' : Nat) (s : ByteArray) (A'' : Option Addr) (zs : List UInt8) (k c'' n : Nat) (w : World) (hx : xs.length = q) (hy : ys.length = m) (hz : zs.length = k)
    (hS : Sq w w.heap.size A c (bvs xs)) (hS' : Sq w w.heap.size A' c' (bvs ys)) (hS'' : Sq w w.heap.size A'' c'' (bvs zs)) (hl : q ≤ 10000 ∧ m ≤ 10000 ∧ s.size ≤ 10000 ∧ k ≤ 10000) (hn : n ≤ 8160) :
    Calls Tryz.prog 28 #[.slice A q c, .slice A' m c', .string s, .slice A'' k c'', .int .i64 (n : Int)] w (ByN w n (epL xs ys (sby s) zs n)) := by
  have HS := hid hS; have HS' := hid hS'; have HS'' := hid hS''
  have hs := sby_length s
  have HSS : Hid (s.size ≤ 1000000) := hid (by omega)
  have HNW : Hid (IntKind.u64.wrap (n : Int) = (n : Int)) := hid (by rw [IntKind.wrap_u64]; omega)
  obtain ⟨R, hR⟩ : ∃ R, R = epL xs ys (sby s) zs n := ⟨_, rfl⟩
  rw [← hR]
  unfold epL at hR
  have HV := hid lit_hpV
  have hv : hpV.length = 7 := rfl
  generalize hpV = V at hR HV hv
  obtain ⟨B, hB⟩ : ∃ B, B = beBytes 2 n := ⟨_, rfl⟩
  obtain ⟨X0, hX0⟩ : ∃ X, X = B ++ V := ⟨_, rfl⟩
  obtain ⟨X1, hX1⟩ : ∃ X, X = X0 ++ xs := ⟨_, rfl⟩
  obtain ⟨X2, hX2⟩ : ∃ X, X = sby s ++ zs := ⟨_, rfl⟩
  obtain ⟨X3, hX3⟩ : ∃ X, X = X1 ++ X2 := ⟨_, rfl⟩
  obtain ⟨L1, hL1⟩ : ∃ L, 9 + q = L := ⟨_, rfl⟩
  obtain ⟨L2, hL2⟩ : ∃ L, s.size + k = L := ⟨_, rfl⟩
  obtain ⟨L3, hL3⟩ : ∃ L, L1 + L2 = L := ⟨_, rfl⟩
  have lb : B.length = 2 := by rw [hB]; exact beBytes_length _ _
  have l0 : X0.length = 9 := by rw [hX0, List.length_append]; omega
  have l1 : X1.length = L1 := by rw [hX1, List.length_append]; omega
  have l2 : X2.length = L2 := by rw [hX2, List.length_append]; omega
  have l3 : X3.length = L3 := by rw [hX3, List.length_append]; omega
  rw [← hB, ← hX0, ← hX1, ← hX2, ← hX3] at hR
  have KN : Hid (∀ (W : World), Calls Tryz.prog 51 #[.int .i64 2, .int .u64 (n : Int)] W (ByN W 2 B)) := hid fun W => by
    rw [hB]
    exact byn_own (beBytes_length _ _) ((RefNum_any 2 n W (by decide) (by omega)).mono fun e w' ⟨v, h1, h2, h3⟩ => ⟨v, h1, h2, below_of_none h3⟩)
  have K0 : Hid (∀ (A0 : Option Addr) (c0 : Nat) (A1 : Option Addr) (c1 : Nat) (W : World), Sq W W.heap.size A0 c0 (bvs B) → Sq W W.heap.size A1 c1 (bvs V) → Calls Tryz.prog 37 #[.slice A0 2 c0, .slice A1 7 c1] W (ByN W 9 X0)) := hid fun A0 c0 A1 c1 W h h' => join13 A0 B 2 c0 A1 V 7 c1 W lb hv h h' (by omega) rfl hX0
  have K1 : Hid (∀ (A0 : Option Addr) (c0 : Nat) (A1 : Option Addr) (c1 : Nat) (W : World), Sq W W.heap.size A0 c0 (bvs X0) → Sq W W.heap.size A1 c1 (bvs xs) → Calls Tryz.prog 37 #[.slice A0 9 c0, .slice A1 q c1] W (ByN W L1 X1)) := hid fun A0 c0 A1 c1 W h h' => join13 A0 X0 9 c0 A1 xs q c1 W l0 hx h h' (by omega) hL1 hX1
  have K2 : Hid (∀ (A0 : Option Addr) (c0 : Nat) (A1 : Option Addr) (c1 : Nat) (W : World), Sq W W.heap.size A0 c0 (bvs (sby s)) → Sq W W.heap.size A1 c1 (bvs zs) → Calls Tryz.prog 37 #[.slice A0 s.size c0, .slice A1 k c1] W (ByN W L2 X2)) := hid fun A0 c0 A1 c1 W h h' => join13 A0 (sby s) s.size c0 A1 zs k c1 W hs hz h h' (by omega) hL2 hX2
  have K3 : Hid (∀ (A0 : Option Addr) (c0 : Nat) (A1 : Option Addr) (c1 : Nat) (W : World), Sq W W.heap.size A0 c0 (bvs X1) → Sq W W.heap.size A1 c1 (bvs X2) → Calls Tryz.prog 37 #[.slice A0 L1 c0, .slice A1 L2 c1] W (ByN W L3 X3)) := hid fun A0 c0 A1 c1 W h h' => join13 A0 X1 L1 c0 A1 X2 L2 c1 W l1 l2 h h' (by omega) hL3 hX3
  have KT : Hid (∀ (A0 : Option Addr) (c0 : Nat) (A1 : Option Addr) (c1 : Nat) (W : World), Sq W W.heap.size A0 c0 (bvs ys) → Sq W W.heap.size A1 c1 (bvs X3) → Calls Tryz.prog 52 #[.slice A0 m c0, .slice A1 L3 c1, .int .i64 (n : Int)] W (ByN W n R)) := hid fun A0 c0 A1 c1 W h h' => by
    subst hy
    have h5 := ref5_expandQ A0 ys c0 A1 X3 c1 n W h h' hn (by omega) (by omega)
    rw [l3, ← hR] at h5
    exact h5
  clear hS hS' hS'' hs hR hv hB hX0 hX1 hX2 hX3 hL1 hL2 hL3 lb l0 l1 l2 l3 hx hy hz hl hn
  go_enter Tryz.func28, Tryz.ntmps28
  have S0 : Hid (St w w [] []) := hid (St.start w)
  go_upto_region 0 with fail
  refine wpLA_start ?_
  refine wpLA_take (.slice none 0 0) (yG_val _ (by rfl) (fun w' _ => by (go_simp; try rfl))) ?_
  (try simp only [Act.put, List.getElem_toArray, List.getElem_cons_succ, List.getElem_cons_zero, List.setIfInBounds_toArray, List.set_cons_zero, List.set_cons_succ])
  refine wpLA_end ?_
  intro w1 hb
  have S1 := hid (S0.out.on hb)
  clear hb S0
  go_upto_region 1 with fail
  refine wpLA_start ?_
  refine wpLA_take (.int .i64 ((n : Int))) (yG_val _ (by rfl) (fun w' _ => by (go_simp; try rfl))) ?_
  (try simp only [Act.put, List.getElem_toArray, List.getElem_cons_succ, List.getElem_cons_zero, List.setIfInBounds_toArray, List.set_cons_zero, List.set_cons_succ])
  refine wpLA_take (.int .u64 ((n : Int))) (yG_val _ (by rfl) (fun w' _ => by (have hz := HNW.out; go_simp; try rfl))) ?_
  (try simp only [Act.put, List.getElem_toArray, List.getElem_cons_succ, List.getElem_cons_zero, List.setIfInBounds_toArray, List.set_cons_zero, List.set_cons_succ])
  refine wpLA_byn B 2 (by rfl) (fun w' => by go_simp) (fun w' hb => KN.out  w' ) ?_
  intro A2 c2 w2 hb hs
  have S2 : Hid (St w w2 [] [(A2, c2, bvs B)]) := hid ((S1.out.on hb).more hs)
  clear hb hs S1
  (try simp only [Act.put, List.getElem_toArray, List.getElem_cons_succ, List.getElem_cons_zero, List.setIfInBounds_toArray, List.set_cons_zero, List.set_cons_succ])
  refine wpLA_const rfl _ _ 7 _ rfl Tryz.underlying22 [(0, .int .u8 72), (1, .int .u8 80), (2, .int .u8 75), (3, .int .u8 69), (4, .int .u8 45), (5, .int .u8 118), (6, .int .u8 49)] rfl (bvs V) HV.out.1 HV.out.2 (by decide) (fun p => by rfl) (fun w' => by (have hm := Go.Lib.run_convert_bytes_const (P := Tryz.prog) w' 22 5 (bvs V).toArray 7 7 Tryz.underlying22 Tryz.underlying5; go_simp; try rfl)) ?_
  intro p3 w3 hb hs
  have S3 : Hid (St w w3 [] [((some ⟨p3, 0, none⟩), 7, bvs V), (A2, c2, bvs B)]) := hid ((S2.out.on hb).more hs)
  clear hb hs S2
  (try simp only [Act.put, List.getElem_toArray, List.getElem_cons_succ, List.getElem_cons_zero, List.setIfInBounds_toArray, List.set_cons_zero, List.set_cons_succ])
  refine wpLA_byn X0 9 (by rfl) (fun w' => by go_simp) (fun w' hb => K0.out A2 c2 (some ⟨p3, 0, none⟩) 7 w' (S3.out.on hb).sq.2.1 (S3.out.on hb).sq.1) ?_
  intro A4 c4 w4 hb hs
  have S4 : Hid (St w w4 [] [(A4, c4, bvs X0), ((some ⟨p3, 0, none⟩), 7, bvs V), (A2, c2, bvs B)]) := hid ((S3.out.on hb).more hs)
  clear hb hs S3
  (try simp only [Act.put, List.getElem_toArray, List.getElem_cons_succ, List.getElem_cons_zero, List.setIfInBounds_toArray, List.set_cons_zero, List.set_cons_succ])
  refine wpLA_take (.slice A4 9 c4) (yG_val _ (by rfl) (fun w' _ => by (go_simp; try rfl))) ?_
  (try simp only [Act.put, List.getElem_toArray, List.getElem_cons_succ, List.getElem_cons_zero, List.setIfInBounds_toArray, List.set_cons_zero, List.set_cons_succ])
  refine wpLA_end ?_
  intro w5 hb
  have S5 := hid (S4.out.on hb)
  clear hb S4
  go_upto_region 2 with fail
  refine wpLA_start ?_
  refine wpLA_take (.slice A' m c') (yG_val _ (by rfl) (fun w' _ => by (go_simp; try rfl))) ?_
  (try simp only [Act.put, List.getElem_toArray, List.getElem_cons_succ, List.getElem_cons_zero, List.setIfInBounds_toArray, List.set_cons_zero, List.set_cons_succ])
  refine wpLA_take (.slice A4 9 c4) (yG_val _ (by rfl) (fun w' _ => by (go_simp; try rfl))) ?_
  (try simp only [Act.put, List.getElem_toArray, List.getElem_cons_succ, List.getElem_cons_zero, List.setIfInBounds_toArray, List.set_cons_zero, List.set_cons_succ])
  refine wpLA_take (.slice A q c) (yG_val _ (by rfl) (fun w' _ => by (go_simp; try rfl))) ?_
  (try simp only [Act.put, List.getElem_toArray, List.getElem_cons_succ, List.getElem_cons_zero, List.setIfInBounds_toArray, List.set_cons_zero, List.set_cons_succ])
  refine wpLA_byn X1 L1 (by rfl) (fun w' => by go_simp) (fun w' hb => K1.out A4 c4 A c w' (S5.out.on hb).sq.1 (HS.out.on6 ((S5.out.on hb).below))) ?_
  intro A6 c6 w6 hb hs
  have S6 : Hid (St w w6 [] [(A6, c6, bvs X1), (A4, c4, bvs X0), ((some ⟨p3, 0, none⟩), 7, bvs V), (A2, c2, bvs B)]) := hid ((S5.out.on hb).more hs)
  clear hb hs S5
  (try simp only [Act.put, List.getElem_toArray, List.getElem_cons_succ, List.getElem_cons_zero, List.setIfInBounds_toArray, List.set_cons_zero, List.set_cons_succ])
  refine wpLA_take (.string s) (yG_val _ (by rfl) (fun w' _ => by (go_simp; try rfl))) ?_
  (try simp only [Act.put, List.getElem_toArray, List.getElem_cons_succ, List.getElem_cons_zero, List.setIfInBounds_toArray, List.set_cons_zero, List.set_cons_succ])
  refine wpLA_str s HSS.out (by rfl) (fun w' => by (have hm := run_bytes w' s; go_simp; try rfl)) ?_
  intro p7 c7 w7 hb hs
  have S7 : Hid (St w w7 [] [((some ⟨p7, 0, none⟩), c7, bvs (sby s)), (A6, c6, bvs X1), (A4, c4, bvs X0), ((some ⟨p3, 0, none⟩), 7, bvs V), (A2, c2, bvs B)]) := hid ((S6.out.on hb).more hs)
  clear hb hs S6
  (try simp only [Act.put, List.getElem_toArray, List.getElem_cons_succ, List.getElem_cons_zero, List.setIfInBounds_toArray, List.set_cons_zero, List.set_cons_succ])
  refine wpLA_take (.slice A'' k c'') (yG_val _ (by rfl) (fun w' _ => by (go_simp; try rfl))) ?_
  (try simp only [Act.put, List.getElem_toArray, List.getElem_cons_succ, List.getElem_cons_zero, List.setIfInBounds_toArray, List.set_cons_zero, List.set_cons_succ])
  refine wpLA_byn X2 L2 (by rfl) (fun w' => by go_simp) (fun w' hb => K2.out (some ⟨p7, 0, none⟩) c7 A'' c'' w' (S7.out.on hb).sq.1 (HS''.out.on6 ((S7.out.on hb).below))) ?_
  intro A8 c8 w8 hb hs
  have S8 : Hid (St w w8 [] [(A8, c8, bvs X2), ((some ⟨p7, 0, none⟩), c7, bvs (sby s)), (A6, c6, bvs X1), (A4, c4, bvs X0), ((some ⟨p3, 0, none⟩), 7, bvs V), (A2, c2, bvs B)]) := hid ((S7.out.on hb).more hs)
  clear hb hs S7
  (try simp only [Act.put, List.getElem_toArray, List.getElem_cons_succ, List.getElem_cons_zero, List.setIfInBounds_toArray, List.set_cons_zero, List.set_cons_succ])
  refine wpLA_byn X3 L3 (by rfl) (fun w' => by go_simp) (fun w' hb => K3.out A6 c6 A8 c8 w' (S8.out.on hb).sq.2.2.1 (S8.out.on hb).sq.1) ?_
  intro A9 c9 w9 hb hs
  have S9 : Hid (St w w9 [] [(A9, c9, bvs X3), (A8, c8, bvs X2), ((some ⟨p7, 0, none⟩), c7, bvs (sby s)), (A6, c6, bvs X1), (A4, c4, bvs X0), ((some ⟨p3, 0, none⟩), 7, bvs V), (A2, c2, bvs B)]) := hid ((S8.out.on hb).more hs)
  clear hb hs S8
  (try simp only [Act.put, List.getElem_toArray, List.getElem_cons_succ, List.getElem_cons_zero, List.setIfInBounds_toArray, List.set_cons_zero, List.set_cons_succ])
  refine wpLA_take (.int .i64 ((n : Int))) (yG_val _ (by rfl) (fun w' _ => by (go_simp; try rfl))) ?_
  (try simp only [Act.put, List.getElem_toArray, List.getElem_cons_succ, List.getElem_cons_zero, List.setIfInBounds_toArray, List.set_cons_zero, List.set_cons_succ])
  refine wpLA_byn R n (by rfl) (fun w' => by go_simp) (fun w' hb => KT.out A' c' A9 c9 w' (HS'.out.on6 ((S9.out.on hb).below)) (S9.out.on hb).sq.1) ?_
  intro A10 c10 w10 hb hs
  have S10 : Hid (St w w10 [] [(A10, c10, bvs R), (A9, c9, bvs X3), (A8, c8, bvs X2), ((some ⟨p7, 0, none⟩), c7, bvs (sby s)), (A6, c6, bvs X1), (A4, c4, bvs X0), ((some ⟨p3, 0, none⟩), 7, bvs V), (A2, c2, bvs B)]) := hid ((S9.out.on hb).more hs)
  clear hb hs S9
  (try simp only [Act.put, List.getElem_toArray, List.getElem_cons_succ, List.getElem_cons_zero, List.setIfInBounds_toArray, List.set_cons_zero, List.set_cons_succ])
  refine wpLA_take (.slice A10 n c10) (yG_val _ (by rfl) (fun w' _ => by (go_simp; try rfl))) ?_
  (try simp only [Act.put, List.getElem_toArray, List.getElem_cons_succ, List.getElem_cons_zero, List.setIfInBounds_toArray, List.set_cons_zero, List.set_cons_succ])
  refine wpLA_end ?_
  intro w11 hb
  have S11 := hid (S10.out.on hb)
  clear hb S10
  go_wp2_with fail
  go_ret
  exact ⟨_, _, rfl, S11.out.sq.1, S11.out.below⟩
end Go.Proofs.YtpkmidaflnbobaaGreatDoor
end
section
namespace Go.Proofs.YtpkmidaflnbobaaGreatDoor
open Go Go.RowKit
set_option linter.unusedVariables false
set_option linter.unusedSimpArgs false
def dkpB : List UInt8 := [100, 107, 112, 95, 112, 114, 107]
def skB : List UInt8 := [115, 107]
def eaeB : List UInt8 := [101, 97, 101, 95, 112, 114, 107]
def shsB : List UInt8 := [115, 104, 97, 114, 101, 100, 95, 115, 101, 99, 114, 101, 116]
def pskB : List UInt8 := [112, 115, 107, 95, 105, 100, 95, 104, 97, 115, 104]
def infB : List UInt8 := [105, 110, 102, 111, 95, 104, 97, 115, 104]
def secB : List UInt8 := [115, 101, 99, 114, 101, 116]
def keyB : List UInt8 := [107, 101, 121]
def bnB : List UInt8 := [98, 97, 115, 101, 95, 110, 111, 110, 99, 101]
/-- The private key of a seed; the shared secret; the key and the nonce; the info. -/
def privL (seed : List UInt8) : List UInt8 := epL pairsB (exH pairsB [] dkpB seed) skB [] 32
def sharedL (d enc pub : List UInt8) : List UInt8 := epL pairsB (exH pairsB [] eaeB d) shsB (enc ++ pub) 32
def keyC (info : List UInt8) : List UInt8 := [0] ++ (exH boxesB [] pskB [] ++ exH boxesB [] infB info)
def keyS (shared : List UInt8) : List UInt8 := exH boxesB shared secB []
def keyL (shared info : List UInt8) : List UInt8 := epL boxesB (keyS shared) keyB (keyC info) 16
def nonL (shared info : List UInt8) : List UInt8 := epL boxesB (keyS shared) bnB (keyC info) 12
theorem privL_length (x : List UInt8) : (privL x).length = 32 := epL_length _ _ _ _ _
theorem sharedL_length (d e p : List UInt8) : (sharedL d e p).length = 32 := epL_length _ _ _ _ _
theorem keyL_length (x i : List UInt8) : (keyL x i).length = 16 := epL_length _ _ _ _ _
theorem nonL_length (x i : List UInt8) : (nonL x i).length = 12 := epL_length _ _ _ _ _
def z1B : List UInt8 := [0]
theorem lit_z1 : Tryz.prog.builtSlice 5 1 [(0, .int .u8 0)] = some (bvs z1B).toArray ∧ (bvs z1B).length ≤ 1 := ⟨by kernel_rfl, by decide⟩
set_option maxRecDepth 100000 in
set_option maxHeartbeats 1000000 in
theorem Shared13 (A : Option Addr) (xs : List UInt8) (n c : Nat) (A' : Option Addr) (ys : List UInt8) (m c' : Nat) (A'' : Option Addr) (zs : List UInt8) (k c'' : Nat) (w : World) (hx : xs.length = n) (hy : ys.length = m) (hz : zs.length = k)
    (hS : Sq w w.heap.size A c (bvs xs)) (hS' : Sq w w.heap.size A' c' (bvs ys)) (hS'' : Sq w w.heap.size A'' c'' (bvs zs)) (hl : n ≤ 1000 ∧ m ≤ 1000 ∧ k ≤ 1000) :
    Calls Tryz.prog 16 #[.slice A n c, .slice A' m c', .slice A'' k c''] w (ByN w 32 (sharedL xs ys zs)) := by
  have HS := hid hS; have HS' := hid hS'; have HS'' := hid hS''
  obtain ⟨R, hR⟩ : ∃ R, R = sharedL xs ys zs := ⟨_, rfl⟩
  rw [← hR]
  unfold sharedL at hR
  have KP := hid Pairs13
  have hp : pairsB.length = 5 := rfl
  generalize pairsB = P at KP hp hR
  obtain ⟨X, hX⟩ : ∃ X, X = exH P [] eaeB xs := ⟨_, rfl⟩
  have lx : X.length = 32 := by rw [hX]; exact exH_length _ _ _ _
  obtain ⟨J, hJ⟩ : ∃ X, X = ys ++ zs := ⟨_, rfl⟩
  obtain ⟨L, hL⟩ : ∃ L, m + k = L := ⟨_, rfl⟩
  have lj : J.length = L := by rw [hJ, List.length_append]; omega
  rw [← hX, ← hJ] at hR
  have KX : Hid (∀ (A0 : Option Addr) (c0 : Nat) (A1 : Option Addr) (c1 : Nat) (W : World), Sq W W.heap.size A0 c0 (bvs P) → Sq W W.heap.size A1 c1 (bvs xs) → Calls Tryz.prog 30 #[.slice A0 5 c0, .slice none 0 0, .string ⟨#[101, 97, 101, 95, 112, 114, 107]⟩, .slice A1 n c1] W (ByN W 32 X)) := hid fun A0 c0 A1 c1 W h h' => by
    rw [hX]
    exact Extract13 A0 P 5 c0 none [] 0 0 ⟨#[101, 97, 101, 95, 112, 114, 107]⟩ A1 xs n c1 W hp rfl hx h Sq.nil h' ⟨by omega, by omega, by decide, by omega⟩
  have KJ : Hid (∀ (A0 : Option Addr) (c0 : Nat) (A1 : Option Addr) (c1 : Nat) (W : World), Sq W W.heap.size A0 c0 (bvs ys) → Sq W W.heap.size A1 c1 (bvs zs) → Calls Tryz.prog 37 #[.slice A0 m c0, .slice A1 k c1] W (ByN W L J)) := hid fun A0 c0 A1 c1 W h h' => join13 A0 ys m c0 A1 zs k c1 W hy hz h h' (by omega) hL hJ
  have KE : Hid (∀ (A0 : Option Addr) (c0 : Nat) (A1 : Option Addr) (c1 : Nat) (A2 : Option Addr) (c2 : Nat) (W : World), Sq W W.heap.size A0 c0 (bvs P) → Sq W W.heap.size A1 c1 (bvs X) → Sq W W.heap.size A2 c2 (bvs J) → Calls Tryz.prog 28 #[.slice A0 5 c0, .slice A1 32 c1, .string ⟨#[115, 104, 97, 114, 101, 100, 95, 115, 101, 99, 114, 101, 116]⟩, .slice A2 L c2, .int .i64 32] W (ByN W 32 R)) := hid fun A0 c0 A1 c1 A2 c2 W h h' h'' => by
    rw [hR]
    exact Expand13 A0 P 5 c0 A1 X 32 c1 ⟨#[115, 104, 97, 114, 101, 100, 95, 115, 101, 99, 114, 101, 116]⟩ A2 J L c2 32 W hp lx lj h h' h'' ⟨by omega, by omega, by decide, by omega⟩ (by omega)
  clear hS hS' hS'' hR hp hX lx hJ hL lj hx hy hz hl
  go_enter Tryz.func16, Tryz.ntmps16
  have S0 : Hid (St w w [] []) := hid (St.start w)
  go_upto_region 0 with fail
  refine wpLA_start ?_
  refine wpLA_take (.slice none 0 0) (yG_val _ (by rfl) (fun w' _ => by (go_simp; try rfl))) ?_
  (try simp only [Act.put, List.getElem_toArray, List.getElem_cons_succ, List.getElem_cons_zero, List.setIfInBounds_toArray, List.set_cons_zero, List.set_cons_succ])
  refine wpLA_end ?_
  intro w1 hb
  have S1 := hid (S0.out.on hb)
  clear hb S0
  go_upto_region 1 with fail
  refine wpLA_start ?_
  refine wpLA_byn P 5 (by rfl) (fun w' => by go_simp) (fun w' hb => KP.out  w' ) ?_
  intro A2 c2 w2 hb hs
  have S2 : Hid (St w w2 [] [(A2, c2, bvs P)]) := hid ((S1.out.on hb).more hs)
  clear hb hs S1
  (try simp only [Act.put, List.getElem_toArray, List.getElem_cons_succ, List.getElem_cons_zero, List.setIfInBounds_toArray, List.set_cons_zero, List.set_cons_succ])
  refine wpLA_byn P 5 (by rfl) (fun w' => by go_simp) (fun w' hb => KP.out  w' ) ?_
  intro A3 c3 w3 hb hs
  have S3 : Hid (St w w3 [] [(A3, c3, bvs P), (A2, c2, bvs P)]) := hid ((S2.out.on hb).more hs)
  clear hb hs S2
  (try simp only [Act.put, List.getElem_toArray, List.getElem_cons_succ, List.getElem_cons_zero, List.setIfInBounds_toArray, List.set_cons_zero, List.set_cons_succ])
  refine wpLA_take (.slice A n c) (yG_val _ (by rfl) (fun w' _ => by (go_simp; try rfl))) ?_
  (try simp only [Act.put, List.getElem_toArray, List.getElem_cons_succ, List.getElem_cons_zero, List.setIfInBounds_toArray, List.set_cons_zero, List.set_cons_succ])
  refine wpLA_byn X 32 (by rfl) (fun w' => by go_simp) (fun w' hb => KX.out A3 c3 A c w' (S3.out.on hb).sq.1 (HS.out.on6 ((S3.out.on hb).below))) ?_
  intro A4 c4 w4 hb hs
  have S4 : Hid (St w w4 [] [(A4, c4, bvs X), (A3, c3, bvs P), (A2, c2, bvs P)]) := hid ((S3.out.on hb).more hs)
  clear hb hs S3
  (try simp only [Act.put, List.getElem_toArray, List.getElem_cons_succ, List.getElem_cons_zero, List.setIfInBounds_toArray, List.set_cons_zero, List.set_cons_succ])
  refine wpLA_take (.slice A' m c') (yG_val _ (by rfl) (fun w' _ => by (go_simp; try rfl))) ?_
  (try simp only [Act.put, List.getElem_toArray, List.getElem_cons_succ, List.getElem_cons_zero, List.setIfInBounds_toArray, List.set_cons_zero, List.set_cons_succ])
  refine wpLA_take (.slice A'' k c'') (yG_val _ (by rfl) (fun w' _ => by (go_simp; try rfl))) ?_
  (try simp only [Act.put, List.getElem_toArray, List.getElem_cons_succ, List.getElem_cons_zero, List.setIfInBounds_toArray, List.set_cons_zero, List.set_cons_succ])
  refine wpLA_byn J L (by rfl) (fun w' => by go_simp) (fun w' hb => KJ.out A' c' A'' c'' w' (HS'.out.on6 ((S4.out.on hb).below)) (HS''.out.on6 ((S4.out.on hb).below))) ?_
  intro A5 c5 w5 hb hs
  have S5 : Hid (St w w5 [] [(A5, c5, bvs J), (A4, c4, bvs X), (A3, c3, bvs P), (A2, c2, bvs P)]) := hid ((S4.out.on hb).more hs)
  clear hb hs S4
  (try simp only [Act.put, List.getElem_toArray, List.getElem_cons_succ, List.getElem_cons_zero, List.setIfInBounds_toArray, List.set_cons_zero, List.set_cons_succ])
  refine wpLA_byn R 32 (by rfl) (fun w' => by go_simp) (fun w' hb => KE.out A2 c2 A4 c4 A5 c5 w' (S5.out.on hb).sq.2.2.2.1 (S5.out.on hb).sq.2.1 (S5.out.on hb).sq.1) ?_
  intro A6 c6 w6 hb hs
  have S6 : Hid (St w w6 [] [(A6, c6, bvs R), (A5, c5, bvs J), (A4, c4, bvs X), (A3, c3, bvs P), (A2, c2, bvs P)]) := hid ((S5.out.on hb).more hs)
  clear hb hs S5
  (try simp only [Act.put, List.getElem_toArray, List.getElem_cons_succ, List.getElem_cons_zero, List.setIfInBounds_toArray, List.set_cons_zero, List.set_cons_succ])
  refine wpLA_take (.slice A6 32 c6) (yG_val _ (by rfl) (fun w' _ => by (go_simp; try rfl))) ?_
  (try simp only [Act.put, List.getElem_toArray, List.getElem_cons_succ, List.getElem_cons_zero, List.setIfInBounds_toArray, List.set_cons_zero, List.set_cons_succ])
  refine wpLA_end ?_
  intro w7 hb
  have S7 := hid (S6.out.on hb)
  clear hb S6
  go_wp2_with fail
  go_ret
  exact ⟨_, _, rfl, S7.out.sq.1, S7.out.below⟩
set_option maxRecDepth 100000 in
set_option maxHeartbeats 1000000 in
theorem Key13 (A : Option Addr) (xs : List UInt8) (n c : Nat) (A' : Option Addr) (ys : List UInt8) (m c' : Nat) (w : World) (hx : xs.length = n) (hy : ys.length = m) (hS : Sq w w.heap.size A c (bvs xs)) (hS' : Sq w w.heap.size A' c' (bvs ys)) (hl : n ≤ 10000 ∧ m ≤ 10000) :
    Calls Tryz.prog 19 #[.slice A n c, .slice A' m c'] w fun e w' => ∃ A1 c1 A2 c2, e = .returned (.tuple #[.slice A1 16 c1, .slice A2 12 c2]) ∧ Sq w' w'.heap.size A1 c1 (bvs (keyL xs ys)) ∧ Sq w' w'.heap.size A2 c2 (bvs (nonL xs ys)) ∧ Below w.heap.size w w' := by
  have HS := hid hS; have HS' := hid hS'
  obtain ⟨R1, hR1⟩ : ∃ R, R = keyL xs ys := ⟨_, rfl⟩
  obtain ⟨R2, hR2⟩ : ∃ R, R = nonL xs ys := ⟨_, rfl⟩
  rw [← hR1, ← hR2]
  unfold keyL keyS keyC at hR1
  unfold nonL keyS keyC at hR2
  have KP := hid Boxes13
  have hp : boxesB.length = 10 := rfl
  generalize boxesB = P at KP hp hR1 hR2
  have HV := hid lit_z1
  have hv : z1B.length = 1 := rfl
  rw [show ([0] : List UInt8) = z1B from rfl] at hR1 hR2
  generalize z1B = Z at HV hv hR1 hR2
  obtain ⟨X1, hX1⟩ : ∃ X, X = exH P [] pskB [] := ⟨_, rfl⟩
  obtain ⟨X2, hX2⟩ : ∃ X, X = exH P [] infB ys := ⟨_, rfl⟩
  obtain ⟨X3, hX3⟩ : ∃ X, X = exH P xs secB [] := ⟨_, rfl⟩
  have l1 : X1.length = 32 := by rw [hX1]; exact exH_length _ _ _ _
  have l2 : X2.length = 32 := by rw [hX2]; exact exH_length _ _ _ _
  have l3 : X3.length = 32 := by rw [hX3]; exact exH_length _ _ _ _
  rw [← hX1, ← hX2, ← hX3] at hR1 hR2
  obtain ⟨J1, hJ1⟩ : ∃ X, X = X1 ++ X2 := ⟨_, rfl⟩
  obtain ⟨J2, hJ2⟩ : ∃ X, X = Z ++ J1 := ⟨_, rfl⟩
  have m1 : J1.length = 64 := by rw [hJ1, List.length_append]; omega
  have m2 : J2.length = 65 := by rw [hJ2, List.length_append]; omega
  rw [← hJ1, ← hJ2] at hR1 hR2
  have KX1 : Hid (∀ (A0 : Option Addr) (c0 : Nat) (W : World), Sq W W.heap.size A0 c0 (bvs P) → Calls Tryz.prog 30 #[.slice A0 10 c0, .slice none 0 0, .string ⟨#[112, 115, 107, 95, 105, 100, 95, 104, 97, 115, 104]⟩, .slice none 0 0] W (ByN W 32 X1)) := hid fun A0 c0 W h => by
    rw [hX1]
    exact Extract13 A0 P 10 c0 none [] 0 0 ⟨#[112, 115, 107, 95, 105, 100, 95, 104, 97, 115, 104]⟩ none [] 0 0 W hp rfl rfl h Sq.nil Sq.nil ⟨by omega, by omega, by decide, by omega⟩
  have KX2 : Hid (∀ (A0 : Option Addr) (c0 : Nat) (A1 : Option Addr) (c1 : Nat) (W : World), Sq W W.heap.size A0 c0 (bvs P) → Sq W W.heap.size A1 c1 (bvs ys) → Calls Tryz.prog 30 #[.slice A0 10 c0, .slice none 0 0, .string ⟨#[105, 110, 102, 111, 95, 104, 97, 115, 104]⟩, .slice A1 m c1] W (ByN W 32 X2)) := hid fun A0 c0 A1 c1 W h h' => by
    rw [hX2]
    exact Extract13 A0 P 10 c0 none [] 0 0 ⟨#[105, 110, 102, 111, 95, 104, 97, 115, 104]⟩ A1 ys m c1 W hp rfl hy h Sq.nil h' ⟨by omega, by omega, by decide, by omega⟩
  have KX3 : Hid (∀ (A0 : Option Addr) (c0 : Nat) (A1 : Option Addr) (c1 : Nat) (W : World), Sq W W.heap.size A0 c0 (bvs P) → Sq W W.heap.size A1 c1 (bvs xs) → Calls Tryz.prog 30 #[.slice A0 10 c0, .slice A1 n c1, .string ⟨#[115, 101, 99, 114, 101, 116]⟩, .slice none 0 0] W (ByN W 32 X3)) := hid fun A0 c0 A1 c1 W h h' => by
    rw [hX3]
    exact Extract13 A0 P 10 c0 A1 xs n c1 ⟨#[115, 101, 99, 114, 101, 116]⟩ none [] 0 0 W hp hx rfl h h' Sq.nil ⟨by omega, by omega, by decide, by omega⟩
  have KJ1 : Hid (∀ (A0 : Option Addr) (c0 : Nat) (A1 : Option Addr) (c1 : Nat) (W : World), Sq W W.heap.size A0 c0 (bvs X1) → Sq W W.heap.size A1 c1 (bvs X2) → Calls Tryz.prog 37 #[.slice A0 32 c0, .slice A1 32 c1] W (ByN W 64 J1)) := hid fun A0 c0 A1 c1 W h h' => join13 A0 X1 32 c0 A1 X2 32 c1 W l1 l2 h h' (by omega) rfl hJ1
  have KJ2 : Hid (∀ (A0 : Option Addr) (c0 : Nat) (A1 : Option Addr) (c1 : Nat) (W : World), Sq W W.heap.size A0 c0 (bvs Z) → Sq W W.heap.size A1 c1 (bvs J1) → Calls Tryz.prog 37 #[.slice A0 1 c0, .slice A1 64 c1] W (ByN W 65 J2)) := hid fun A0 c0 A1 c1 W h h' => join13 A0 Z 1 c0 A1 J1 64 c1 W hv m1 h h' (by omega) rfl hJ2
  have KE1 : Hid (∀ (A0 : Option Addr) (c0 : Nat) (A1 : Option Addr) (c1 : Nat) (A2 : Option Addr) (c2 : Nat) (W : World), Sq W W.heap.size A0 c0 (bvs P) → Sq W W.heap.size A1 c1 (bvs X3) → Sq W W.heap.size A2 c2 (bvs J2) → Calls Tryz.prog 28 #[.slice A0 10 c0, .slice A1 32 c1, .string ⟨#[107, 101, 121]⟩, .slice A2 65 c2, .int .i64 16] W (ByN W 16 R1)) := hid fun A0 c0 A1 c1 A2 c2 W h h' h'' => by
    rw [hR1]
    exact Expand13 A0 P 10 c0 A1 X3 32 c1 ⟨#[107, 101, 121]⟩ A2 J2 65 c2 16 W hp l3 m2 h h' h'' ⟨by omega, by omega, by decide, by omega⟩ (by omega)
  have KE2 : Hid (∀ (A0 : Option Addr) (c0 : Nat) (A1 : Option Addr) (c1 : Nat) (A2 : Option Addr) (c2 : Nat) (W : World), Sq W W.heap.size A0 c0 (bvs P) → Sq W W.heap.size A1 c1 (bvs X3) → Sq W W.heap.size A2 c2 (bvs J2) → Calls Tryz.prog 28 #[.slice A0 10 c0, .slice A1 32 c1, .string ⟨#[98, 97, 115, 101, 95, 110, 111, 110, 99, 101]⟩, .slice A2 65 c2, .int .i64 12] W (ByN W 12 R2)) := hid fun A0 c0 A1 c1 A2 c2 W h h' h'' => by
    rw [hR2]
    exact Expand13 A0 P 10 c0 A1 X3 32 c1 ⟨#[98, 97, 115, 101, 95, 110, 111, 110, 99, 101]⟩ A2 J2 65 c2 12 W hp l3 m2 h h' h'' ⟨by omega, by omega, by decide, by omega⟩ (by omega)
  clear hS hS' hR1 hR2 hp hv hX1 hX2 hX3 l1 l2 l3 hJ1 hJ2 m1 m2 hx hy hl
  go_enter Tryz.func19, Tryz.ntmps19
  have S0 : Hid (St w w [] []) := hid (St.start w)
  go_upto_region 0 with fail
  refine wpLA_start ?_
  refine wpLA_take (.slice none 0 0) (yG_val _ (by rfl) (fun w' _ => by (go_simp; try rfl))) ?_
  (try simp only [Act.put, List.getElem_toArray, List.getElem_cons_succ, List.getElem_cons_zero, List.setIfInBounds_toArray, List.set_cons_zero, List.set_cons_succ])
  refine wpLA_take (.slice none 0 0) (yG_val _ (by rfl) (fun w' _ => by (go_simp; try rfl))) ?_
  (try simp only [Act.put, List.getElem_toArray, List.getElem_cons_succ, List.getElem_cons_zero, List.setIfInBounds_toArray, List.set_cons_zero, List.set_cons_succ])
  refine wpLA_end ?_
  intro w1 hb
  have S1 := hid (S0.out.on hb)
  clear hb S0
  go_upto_region 1 with fail
  refine wpLA_start ?_
  refine wpLA_slice rfl _ _ 1 _ rfl Tryz.underlying22 [(0, .int .u8 0)] rfl (bvs Z) HV.out.1 HV.out.2 (by decide) ?_
  intro p2 w2 hb hs
  have S2 : Hid (St w w2 [] [((some ⟨p2, 0, none⟩), 1, bvs Z)]) := hid ((S1.out.on hb).more hs)
  clear hb hs S1
  (try simp only [Act.put, List.getElem_toArray, List.getElem_cons_succ, List.getElem_cons_zero, List.setIfInBounds_toArray, List.set_cons_zero, List.set_cons_succ])
  refine wpLA_byn P 10 (by rfl) (fun w' => by go_simp) (fun w' hb => KP.out  w' ) ?_
  intro A3 c3 w3 hb hs
  have S3 : Hid (St w w3 [] [(A3, c3, bvs P), ((some ⟨p2, 0, none⟩), 1, bvs Z)]) := hid ((S2.out.on hb).more hs)
  clear hb hs S2
  (try simp only [Act.put, List.getElem_toArray, List.getElem_cons_succ, List.getElem_cons_zero, List.setIfInBounds_toArray, List.set_cons_zero, List.set_cons_succ])
  refine wpLA_byn X1 32 (by rfl) (fun w' => by go_simp) (fun w' hb => KX1.out A3 c3 w' (S3.out.on hb).sq.1) ?_
  intro A4 c4 w4 hb hs
  have S4 : Hid (St w w4 [] [(A4, c4, bvs X1), (A3, c3, bvs P), ((some ⟨p2, 0, none⟩), 1, bvs Z)]) := hid ((S3.out.on hb).more hs)
  clear hb hs S3
  (try simp only [Act.put, List.getElem_toArray, List.getElem_cons_succ, List.getElem_cons_zero, List.setIfInBounds_toArray, List.set_cons_zero, List.set_cons_succ])
  refine wpLA_byn P 10 (by rfl) (fun w' => by go_simp) (fun w' hb => KP.out  w' ) ?_
  intro A5 c5 w5 hb hs
  have S5 : Hid (St w w5 [] [(A5, c5, bvs P), (A4, c4, bvs X1), (A3, c3, bvs P), ((some ⟨p2, 0, none⟩), 1, bvs Z)]) := hid ((S4.out.on hb).more hs)
  clear hb hs S4
  (try simp only [Act.put, List.getElem_toArray, List.getElem_cons_succ, List.getElem_cons_zero, List.setIfInBounds_toArray, List.set_cons_zero, List.set_cons_succ])
  refine wpLA_take (.slice A' m c') (yG_val _ (by rfl) (fun w' _ => by (go_simp; try rfl))) ?_
  (try simp only [Act.put, List.getElem_toArray, List.getElem_cons_succ, List.getElem_cons_zero, List.setIfInBounds_toArray, List.set_cons_zero, List.set_cons_succ])
  refine wpLA_byn X2 32 (by rfl) (fun w' => by go_simp) (fun w' hb => KX2.out A5 c5 A' c' w' (S5.out.on hb).sq.1 (HS'.out.on6 ((S5.out.on hb).below))) ?_
  intro A6 c6 w6 hb hs
  have S6 : Hid (St w w6 [] [(A6, c6, bvs X2), (A5, c5, bvs P), (A4, c4, bvs X1), (A3, c3, bvs P), ((some ⟨p2, 0, none⟩), 1, bvs Z)]) := hid ((S5.out.on hb).more hs)
  clear hb hs S5
  (try simp only [Act.put, List.getElem_toArray, List.getElem_cons_succ, List.getElem_cons_zero, List.setIfInBounds_toArray, List.set_cons_zero, List.set_cons_succ])
  refine wpLA_byn J1 64 (by rfl) (fun w' => by go_simp) (fun w' hb => KJ1.out A4 c4 A6 c6 w' (S6.out.on hb).sq.2.2.1 (S6.out.on hb).sq.1) ?_
  intro A7 c7 w7 hb hs
  have S7 : Hid (St w w7 [] [(A7, c7, bvs J1), (A6, c6, bvs X2), (A5, c5, bvs P), (A4, c4, bvs X1), (A3, c3, bvs P), ((some ⟨p2, 0, none⟩), 1, bvs Z)]) := hid ((S6.out.on hb).more hs)
  clear hb hs S6
  (try simp only [Act.put, List.getElem_toArray, List.getElem_cons_succ, List.getElem_cons_zero, List.setIfInBounds_toArray, List.set_cons_zero, List.set_cons_succ])
  refine wpLA_byn J2 65 (by rfl) (fun w' => by go_simp) (fun w' hb => KJ2.out (some ⟨p2, 0, none⟩) 1 A7 c7 w' (S7.out.on hb).sq.2.2.2.2.2.1 (S7.out.on hb).sq.1) ?_
  intro A8 c8 w8 hb hs
  have S8 : Hid (St w w8 [] [(A8, c8, bvs J2), (A7, c7, bvs J1), (A6, c6, bvs X2), (A5, c5, bvs P), (A4, c4, bvs X1), (A3, c3, bvs P), ((some ⟨p2, 0, none⟩), 1, bvs Z)]) := hid ((S7.out.on hb).more hs)
  clear hb hs S7
  (try simp only [Act.put, List.getElem_toArray, List.getElem_cons_succ, List.getElem_cons_zero, List.setIfInBounds_toArray, List.set_cons_zero, List.set_cons_succ])
  refine wpLA_take (.slice A8 65 c8) (yG_val _ (by rfl) (fun w' _ => by (go_simp; try rfl))) ?_
  (try simp only [Act.put, List.getElem_toArray, List.getElem_cons_succ, List.getElem_cons_zero, List.setIfInBounds_toArray, List.set_cons_zero, List.set_cons_succ])
  refine wpLA_end ?_
  intro w9 hb
  have S9 := hid (S8.out.on hb)
  clear hb S8
  go_upto_region 2 with fail
  refine wpLA_start ?_
  refine wpLA_byn P 10 (by rfl) (fun w' => by go_simp) (fun w' hb => KP.out  w' ) ?_
  intro A10 c10 w10 hb hs
  have S10 : Hid (St w w10 [] [(A10, c10, bvs P), (A8, c8, bvs J2), (A7, c7, bvs J1), (A6, c6, bvs X2), (A5, c5, bvs P), (A4, c4, bvs X1), (A3, c3, bvs P), ((some ⟨p2, 0, none⟩), 1, bvs Z)]) := hid ((S9.out.on hb).more hs)
  clear hb hs S9
  (try simp only [Act.put, List.getElem_toArray, List.getElem_cons_succ, List.getElem_cons_zero, List.setIfInBounds_toArray, List.set_cons_zero, List.set_cons_succ])
  refine wpLA_take (.slice A n c) (yG_val _ (by rfl) (fun w' _ => by (go_simp; try rfl))) ?_
  (try simp only [Act.put, List.getElem_toArray, List.getElem_cons_succ, List.getElem_cons_zero, List.setIfInBounds_toArray, List.set_cons_zero, List.set_cons_succ])
  refine wpLA_byn X3 32 (by rfl) (fun w' => by go_simp) (fun w' hb => KX3.out A10 c10 A c w' (S10.out.on hb).sq.1 (HS.out.on6 ((S10.out.on hb).below))) ?_
  intro A11 c11 w11 hb hs
  have S11 : Hid (St w w11 [] [(A11, c11, bvs X3), (A10, c10, bvs P), (A8, c8, bvs J2), (A7, c7, bvs J1), (A6, c6, bvs X2), (A5, c5, bvs P), (A4, c4, bvs X1), (A3, c3, bvs P), ((some ⟨p2, 0, none⟩), 1, bvs Z)]) := hid ((S10.out.on hb).more hs)
  clear hb hs S10
  (try simp only [Act.put, List.getElem_toArray, List.getElem_cons_succ, List.getElem_cons_zero, List.setIfInBounds_toArray, List.set_cons_zero, List.set_cons_succ])
  refine wpLA_take (.slice A11 32 c11) (yG_val _ (by rfl) (fun w' _ => by (go_simp; try rfl))) ?_
  (try simp only [Act.put, List.getElem_toArray, List.getElem_cons_succ, List.getElem_cons_zero, List.setIfInBounds_toArray, List.set_cons_zero, List.set_cons_succ])
  refine wpLA_end ?_
  intro w12 hb
  have S12 := hid (S11.out.on hb)
  clear hb S11
  go_upto_region 3 with fail
  refine wpLA_start ?_
  refine wpLA_byn P 10 (by rfl) (fun w' => by go_simp) (fun w' hb => KP.out  w' ) ?_
  intro A13 c13 w13 hb hs
  have S13 : Hid (St w w13 [] [(A13, c13, bvs P), (A11, c11, bvs X3), (A10, c10, bvs P), (A8, c8, bvs J2), (A7, c7, bvs J1), (A6, c6, bvs X2), (A5, c5, bvs P), (A4, c4, bvs X1), (A3, c3, bvs P), ((some ⟨p2, 0, none⟩), 1, bvs Z)]) := hid ((S12.out.on hb).more hs)
  clear hb hs S12
  (try simp only [Act.put, List.getElem_toArray, List.getElem_cons_succ, List.getElem_cons_zero, List.setIfInBounds_toArray, List.set_cons_zero, List.set_cons_succ])
  refine wpLA_take (.slice A11 32 c11) (yG_val _ (by rfl) (fun w' _ => by (go_simp; try rfl))) ?_
  (try simp only [Act.put, List.getElem_toArray, List.getElem_cons_succ, List.getElem_cons_zero, List.setIfInBounds_toArray, List.set_cons_zero, List.set_cons_succ])
  refine wpLA_take (.slice A8 65 c8) (yG_val _ (by rfl) (fun w' _ => by (go_simp; try rfl))) ?_
  (try simp only [Act.put, List.getElem_toArray, List.getElem_cons_succ, List.getElem_cons_zero, List.setIfInBounds_toArray, List.set_cons_zero, List.set_cons_succ])
  refine wpLA_byn R1 16 (by rfl) (fun w' => by go_simp) (fun w' hb => KE1.out A13 c13 A11 c11 A8 c8 w' (S13.out.on hb).sq.1 (S13.out.on hb).sq.2.1 (S13.out.on hb).sq.2.2.2.1) ?_
  intro A14 c14 w14 hb hs
  have S14 : Hid (St w w14 [] [(A14, c14, bvs R1), (A13, c13, bvs P), (A11, c11, bvs X3), (A10, c10, bvs P), (A8, c8, bvs J2), (A7, c7, bvs J1), (A6, c6, bvs X2), (A5, c5, bvs P), (A4, c4, bvs X1), (A3, c3, bvs P), ((some ⟨p2, 0, none⟩), 1, bvs Z)]) := hid ((S13.out.on hb).more hs)
  clear hb hs S13
  (try simp only [Act.put, List.getElem_toArray, List.getElem_cons_succ, List.getElem_cons_zero, List.setIfInBounds_toArray, List.set_cons_zero, List.set_cons_succ])
  refine wpLA_byn P 10 (by rfl) (fun w' => by go_simp) (fun w' hb => KP.out  w' ) ?_
  intro A15 c15 w15 hb hs
  have S15 : Hid (St w w15 [] [(A15, c15, bvs P), (A14, c14, bvs R1), (A13, c13, bvs P), (A11, c11, bvs X3), (A10, c10, bvs P), (A8, c8, bvs J2), (A7, c7, bvs J1), (A6, c6, bvs X2), (A5, c5, bvs P), (A4, c4, bvs X1), (A3, c3, bvs P), ((some ⟨p2, 0, none⟩), 1, bvs Z)]) := hid ((S14.out.on hb).more hs)
  clear hb hs S14
  (try simp only [Act.put, List.getElem_toArray, List.getElem_cons_succ, List.getElem_cons_zero, List.setIfInBounds_toArray, List.set_cons_zero, List.set_cons_succ])
  refine wpLA_take (.slice A11 32 c11) (yG_val _ (by rfl) (fun w' _ => by (go_simp; try rfl))) ?_
  (try simp only [Act.put, List.getElem_toArray, List.getElem_cons_succ, List.getElem_cons_zero, List.setIfInBounds_toArray, List.set_cons_zero, List.set_cons_succ])
  refine wpLA_take (.slice A8 65 c8) (yG_val _ (by rfl) (fun w' _ => by (go_simp; try rfl))) ?_
  (try simp only [Act.put, List.getElem_toArray, List.getElem_cons_succ, List.getElem_cons_zero, List.setIfInBounds_toArray, List.set_cons_zero, List.set_cons_succ])
  refine wpLA_byn R2 12 (by rfl) (fun w' => by go_simp) (fun w' hb => KE2.out A15 c15 A11 c11 A8 c8 w' (S15.out.on hb).sq.1 (S15.out.on hb).sq.2.2.2.1 (S15.out.on hb).sq.2.2.2.2.2.1) ?_
  intro A16 c16 w16 hb hs
  have S16 : Hid (St w w16 [] [(A16, c16, bvs R2), (A15, c15, bvs P), (A14, c14, bvs R1), (A13, c13, bvs P), (A11, c11, bvs X3), (A10, c10, bvs P), (A8, c8, bvs J2), (A7, c7, bvs J1), (A6, c6, bvs X2), (A5, c5, bvs P), (A4, c4, bvs X1), (A3, c3, bvs P), ((some ⟨p2, 0, none⟩), 1, bvs Z)]) := hid ((S15.out.on hb).more hs)
  clear hb hs S15
  (try simp only [Act.put, List.getElem_toArray, List.getElem_cons_succ, List.getElem_cons_zero, List.setIfInBounds_toArray, List.set_cons_zero, List.set_cons_succ])
  refine wpLA_take (.slice A14 16 c14) (yG_val _ (by rfl) (fun w' _ => by (go_simp; try rfl))) ?_
  (try simp only [Act.put, List.getElem_toArray, List.getElem_cons_succ, List.getElem_cons_zero, List.setIfInBounds_toArray, List.set_cons_zero, List.set_cons_succ])
  refine wpLA_take (.slice A16 12 c16) (yG_val _ (by rfl) (fun w' _ => by (go_simp; try rfl))) ?_
  (try simp only [Act.put, List.getElem_toArray, List.getElem_cons_succ, List.getElem_cons_zero, List.setIfInBounds_toArray, List.set_cons_zero, List.set_cons_succ])
  refine wpLA_end ?_
  intro w17 hb
  have S17 := hid (S16.out.on hb)
  clear hb S16
  go_wp2_with fail
  go_ret2
  exact ⟨_, _, _, _, rfl, S17.out.sq.2.2.1, S17.out.sq.1, S17.out.below⟩
end Go.Proofs.YtpkmidaflnbobaaGreatDoor
end
section
namespace Go.Proofs.YtpkmidaflnbobaaGreatDoor
open Go.RowKit
set_option linter.unusedVariables false
set_option linter.unusedSimpArgs false
/-- Bit by bit. -/
def tm1 (a b : Nat) : Nat → Nat
  | 0 => 0
  | i + 1 => if b / 2 ^ i % 2 = 1 then tm1 a b i ^^^ (a * 2 ^ i) else tm1 a b i
/-- What stands above is taken off. -/
def tm2 (n : Nat) : Nat → Nat
  | 0 => n
  | k + 1 => if tm2 n k / 2 ^ (14 - k) % 2 = 1 then tm2 n k ^^^ (283 * 2 ^ (6 - k)) else tm2 n k
def tmN (a b : Nat) : Nat := tm2 (tm1 a b 8) 7
end Go.Proofs.YtpkmidaflnbobaaGreatDoor
end
section
namespace Go.Proofs.YtpkmidaflnbobaaGreatDoor
open Go.RowKit
set_option linter.unusedVariables false
set_option linter.unusedSimpArgs false
/-- What makes 1, found among 1 to k. -/
def ivN (a : Nat) : Nat → Nat
  | 0 => 0
  | k + 1 => if tmN a (k + 1) = 1 then k + 1 else ivN a k
/-- The bits of the inverse, summed. -/
def bitN (b i : Nat) : Nat := b / 2 ^ i % 2
def sumB (b i : Nat) : Nat := bitN b i + bitN b ((i + 4) % 8) + bitN b ((i + 5) % 8) + bitN b ((i + 6) % 8) + bitN b ((i + 7) % 8) + bitN 99 i
def bxN (b : Nat) : Nat → Nat
  | 0 => 0
  | i + 1 => bxN b i + sumB b i % 2 * 2 ^ i
def boxN (a : Nat) : Nat := bxN (ivN a 255) 8
theorem bxN_lt (b : Nat) : ∀ i, bxN b i < 2 ^ i
  | 0 => by show 0 < 1; omega
  | i + 1 => by
    have h := bxN_lt b i
    have h2 : sumB b i % 2 ≤ 1 := by omega
    have h3 : sumB b i % 2 * 2 ^ i ≤ 1 * 2 ^ i := Nat.mul_le_mul_right _ h2
    show bxN b i + _ < 2 ^ (i + 1)
    rw [Nat.pow_succ]
    omega
end Go.Proofs.YtpkmidaflnbobaaGreatDoor
end
