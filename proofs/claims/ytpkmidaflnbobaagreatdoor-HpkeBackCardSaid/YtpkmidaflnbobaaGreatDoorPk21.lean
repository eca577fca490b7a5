/-
  Texts of this claim in one file: Ref13a, Ref13b, Ref11a, Ref11b.
-/
import Derived.Test.YtpkmidaflnbobaaGreatDoorPk3
import Derived.Test.YtpkmidaflnbobaaGreatDoorPk9
import Derived.Test.YtpkmidaflnbobaaGreatDoorPk12
import Derived.Lib.SlBytesConst
import Derived.Great.Walk
import Derived.Test.YtpkmidaflnbobaaGreatDoorPk37
import Derived.Test.YtpkmidaflnbobaaGreatDoorPk2
import Derived.Deep.LoopGhost
import Derived.Test.YtpkmidaflnbobaaGreatDoorPk10
import Derived.Test.YtpkmidaflnbobaaGreatDoorPk38
import Derived.BigQuiet
import Derived.Deep.DeepCutAuto
section
namespace Go.Proofs.YtpkmidaflnbobaaGreatDoor
open Go Go.RowKit
set_option linter.unusedVariables false
set_option linter.unusedSimpArgs false
theorem wpLA_const {P : Program} {ops : Array Oper} {Q : Exit → Act → World → Prop} {o o2 : Oper} {rest : List Oper} {a : Act} {w0 : World} (hg : o.guard = none) (t e : TypeId) (len : Nat) (parts : Array (Nat × Operand)) (ho : o.op = .buildSlice t len parts) (hu : P.underlying t = some (.slice e))
    (l : List (Nat × Value)) (hl : (parts.toList.map fun (i, x) => (i, a.eval x)) = l) (xs : List Value) (hf : P.builtSlice e len l = some xs.toArray) (hn : xs.length ≤ len) (hm : len ≤ 9223372036854775807)
    (hw : ∀ p, Region.wanted o2 (yielded ops (a.put o.dst (.slice (some ⟨p, 0, none⟩) len len)).tmps) = true)
    (hr : ∀ w' : World, (execOp (a.put o.dst (.slice (some ⟨w'.heap.size, 0, none⟩) len len)).eval o2).run P (w'.alloc (.cells xs.toArray e)) = .ok (.value (.slice (some ⟨w'.heap.size, 0, none⟩) len len)) (w'.alloc (.cells xs.toArray e (xs.toArray.size, xs.toArray.size + 1))))
    (h : ∀ p w2, Below w0.heap.size w0 w2 → Sq w2 w2.heap.size (some ⟨p, 0, none⟩) len xs → wpLA P ops Q w2 rest ((a.put o.dst (.slice (some ⟨p, 0, none⟩) len len)).put o2.dst (.slice (some ⟨p, 0, none⟩) len len))) : wpLA P ops Q w0 (o :: o2 :: rest) a := .mk fun w hb =>
  Great.wpList_buildSliceTo hg t e len parts ho w.heap.size rfl _ rfl hu xs.toArray (by rw [Array.toList_map, hl]; exact hf) (BigFrame.wpList_want (hw _) fun K' hK => by
    unfold Oper.wp
    rw [hr w]
    refine hK _ _ ((h w.heap.size _ (hb.alloc hb.size _) (.inr ⟨w.heap.size, 0, rfl, by simp, hn, hm, fun j u hj => ?_⟩)).out _ (Below.refl _ _))
    rw [Nat.zero_add, World.cell?_alloc_mark]
    simpa using hj)
/-- Bytes of a number, in memory somewhere. -/
def ByN (w : World) (n : Nat) (xs : List UInt8) (e : Ending) (w' : World) : Prop := ∃ A c, e = .returned (.slice A n c) ∧ Sq w' w'.heap.size A c (bvs xs) ∧ Below w.heap.size w w'
theorem byn_own {P : Program} {f : FuncId} {args : Array Value} {w : World} {xs : List UInt8} {n : Nat} (hn : xs.length = n) (h : Calls P f args w fun e w' => ∃ v, e = .returned v ∧ OwnB w' w.heap.size v xs ∧ Below w.heap.size w w') : Calls P f args w (ByN w n xs) :=
  h.mono fun e w' ⟨v, he, ho, hb⟩ => by
    obtain ⟨A, c, rfl, hs⟩ := own_sl ho
    exact ⟨A, c, by rw [he, hn], hs.sq, hb⟩
section
variable {P : Program} {ops : Array Oper} {Q : Exit → Act → World → Prop} {o : Oper} {rest : List Oper} {a : Act} {w0 : World}
theorem wpLA_byn {f : FuncId} {args : Array Value} (xs : List UInt8) (n : Nat) (hw : Region.wanted o (yielded ops a.tmps) = true) (hr : ∀ w', (execOp a.eval o).run P w' = .ok (.enter f args) w')
    (hc : ∀ w', Below w0.heap.size w0 w' → Calls P f args w' (ByN w' n xs))
    (h : ∀ A c w2, Below w0.heap.size w0 w2 → Sq w2 w2.heap.size A c (bvs xs) → wpLA P ops Q w2 rest (a.put o.dst (.slice A n c))) : wpLA P ops Q w0 (o :: rest) a :=
  wpLA_call (fun w' v w'' => ∃ A c, v = .slice A n c ∧ Sq w'' w''.heap.size A c (bvs xs) ∧ Below w'.heap.size w' w'') hw hr (fun w' hb => (hc w' hb).mono fun e w'' ⟨A, c, he, h1, h2⟩ => ⟨_, he, A, c, rfl, h1, h2⟩)
    fun w' v w'' hb ⟨A, c, hv, h1, h2⟩ => by subst hv; exact h A c w'' (hb.trans (h2.mono hb.size)) h1
end
def hpV : List UInt8 := [72, 80, 75, 69, 45, 118, 49]
def pairsB : List UInt8 := [75, 69, 77, 0, 32]
def boxesB : List UInt8 := [72, 80, 75, 69, 0, 32, 0, 1, 0, 1]
/-- An extract with a label; an expansion with a label. -/
def exH (name salt label secret : List UInt8) : List UInt8 := macB salt ((hpV ++ name) ++ (label ++ secret))
def epL (name secret label info : List UInt8) (n : Nat) : List UInt8 := kdfB secret ((((beBytes 2 n ++ hpV) ++ name) ++ (label ++ info))) n
theorem exH_length (name salt label secret : List UInt8) : (exH name salt label secret).length = 32 := macB_length _ _
theorem epL_length (name secret label info : List UInt8) (n : Nat) : (epL name secret label info n).length = n := kdfB_length _ _ _
set_option maxRecDepth 100000 in
set_option maxHeartbeats 1000000 in
theorem join13_e (A : Option Addr) (xs : List UInt8) (n c : Nat) (A' : Option Addr) (ys : List UInt8) (m c' : Nat) (w : World) (hx : xs.length = n) (hy : ys.length = m) (hS : Sq w w.heap.size A c (bvs xs)) (hS' : Sq w w.heap.size A' c' (bvs ys)) (hl : n + m ≤ 100000) :
    Calls Tryz.prog 37 #[.slice A n c, .slice A' m c'] w (ByN w (([] ++ xs) ++ ys).length (([] ++ xs) ++ ys)) := by
  have HS := hid hS; have HS' := hid hS'; have HX := hid hx; have HY := hid hy; have HL := hid hl
  clear hS hS' hx hy hl
  obtain ⟨X0, hX0⟩ : ∃ l_ : List UInt8, l_ = ([] : List UInt8) ++ xs := ⟨_, rfl⟩
  have EX0 := hid hX0
  have LX0 : Hid (X0.length ≤ 100000) := hid (by rw [hX0]; have := HL.out; have := HX.out; have := HY.out; simp only [List.length_append, List.length_nil]; omega)
  obtain ⟨X1, hX1⟩ : ∃ l_ : List UInt8, l_ = X0 ++ ys := ⟨_, rfl⟩
  have EX1 := hid hX1
  have LX1 : Hid (X1.length ≤ 100000) := hid (by rw [hX1]; have := HL.out; have := HX.out; have := HY.out; rw [EX0.out]; simp only [List.length_append, List.length_nil]; omega)
  rw [← hX0, ← hX1]
  clear hX0 hX1
  go_enter Tryz.func37, Tryz.ntmps37
  have S0 : Hid (St w w [] []) := hid (St.start w)
  go_upto_region 0 with fail
  refine wpLA_start ?_
  refine wpLA_take (.slice none 0 0) (yG_val _ (by rfl) (fun w' _ => by (go_simp; try rfl))) ?_
  (try simp only [Act.put, List.getElem_toArray, List.getElem_cons_succ, List.getElem_cons_zero, List.setIfInBounds_toArray, List.set_cons_zero, List.set_cons_succ])
  refine wpLA_end ?_
  intro w1 hb
  have S1 := hid (S0.out.on hb)
  clear hb S0
  go_upto_region 1 with fail
  refine wpLA_start ?_
  refine wpLA_empty (by rfl) (fun w' => by (go_simp; try rfl)) ?_
  intro p2 w2 hb ho
  have HB2 : Hid (Below w1.heap.size w1 w2) := hid hb
  have O2 := hid ho
  have S2 : Hid (St w w2 [] []) := hid (S1.out.on hb)
  clear hb ho
  (try simp only [Act.put, List.getElem_toArray, List.getElem_cons_succ, List.getElem_cons_zero, List.setIfInBounds_toArray, List.set_cons_zero, List.set_cons_succ])
  refine wpLA_take (.slice A n c) (yG_val _ (by rfl) (fun w' _ => by (go_simp; try rfl))) ?_
  (try simp only [Act.put, List.getElem_toArray, List.getElem_cons_succ, List.getElem_cons_zero, List.setIfInBounds_toArray, List.set_cons_zero, List.set_cons_succ])
  refine wpLA_append EX0.out (B := w1.heap.size) (xs := ([] : List UInt8)) (ys := xs) (by rfl) _ _ _ rfl Tryz.underlying22 infoU8 rfl O2.out HX.out rfl ((HS.out.on6 S2.out.below)) (by have := HL.out; have := HX.out; simp only [List.length_append, List.length_nil] at *; omega) HB2.out.size ?_
  intro A3 c3 w3 ho hb
  have HB3 := hid (HB2.out.trans hb)
  have O3 := hid ho
  have S3 : Hid (St w w3 [] [(A3, c3, bvs X0)]) := hid ((S1.out.on HB3.out).more (ownB_sq ho))
  clear ho hb S2 HB2 O2
  (try simp only [Act.put, List.getElem_toArray, List.getElem_cons_succ, List.getElem_cons_zero, List.setIfInBounds_toArray, List.set_cons_zero, List.set_cons_succ])
  refine wpLA_take (.slice A' m c') (yG_val _ (by rfl) (fun w' _ => by (go_simp; try rfl))) ?_
  (try simp only [Act.put, List.getElem_toArray, List.getElem_cons_succ, List.getElem_cons_zero, List.setIfInBounds_toArray, List.set_cons_zero, List.set_cons_succ])
  refine wpLA_append EX1.out (B := w1.heap.size) (xs := X0) (ys := ys) (by rfl) _ _ _ rfl Tryz.underlying22 infoU8 rfl O3.out HY.out rfl ((HS'.out.on6 S3.out.below)) (by have := HL.out; have := HX.out; have h0 := congrArg List.length EX0.out; simp only [List.length_append, List.length_nil] at *; omega) HB3.out.size ?_
  intro A4 c4 w4 ho hb
  have HB4 := hid (HB3.out.trans hb)
  have O4 := hid ho
  have S4 : Hid (St w w4 [] [(A4, c4, bvs X1)]) := hid ((S1.out.on HB4.out).more (ownB_sq ho))
  clear ho hb S3 HB3 O3
  (try simp only [Act.put, List.getElem_toArray, List.getElem_cons_succ, List.getElem_cons_zero, List.setIfInBounds_toArray, List.set_cons_zero, List.set_cons_succ])
  refine wpLA_take (.slice A4 (X1.length) c4) (yG_val _ (by rfl) (fun w' _ => by (go_simp; try rfl))) ?_
  (try simp only [Act.put, List.getElem_toArray, List.getElem_cons_succ, List.getElem_cons_zero, List.setIfInBounds_toArray, List.set_cons_zero, List.set_cons_succ])
  refine wpLA_end ?_
  intro w5 hb
  have S5 := hid (S4.out.on hb)
  clear hb S4
  clear S1 HB4 O4
  go_wp2_with fail
  go_ret
  exact ⟨_, _, rfl, S5.out.sq.1, S5.out.below⟩
theorem join13 (A : Option Addr) (xs : List UInt8) (n c : Nat) (A' : Option Addr) (ys : List UInt8) (m c' : Nat) (w : World) (hx : xs.length = n) (hy : ys.length = m) (hS : Sq w w.heap.size A c (bvs xs)) (hS' : Sq w w.heap.size A' c' (bvs ys)) (hl : n + m ≤ 100000) {L : Nat} (hL : n + m = L) {Z : List UInt8} (hZ : Z = xs ++ ys) :
    Calls Tryz.prog 37 #[.slice A n c, .slice A' m c'] w (ByN w L Z) := by
  have h := join13_e A xs n c A' ys m c' w hx hy hS hS' hl
  rw [List.nil_append, List.length_append, hx, hy, hL, ← hZ] at h
  exact h
end Go.Proofs.YtpkmidaflnbobaaGreatDoor
end
section
namespace Go.Proofs.YtpkmidaflnbobaaGreatDoor
open Go Go.RowKit
set_option linter.unusedVariables false
set_option linter.unusedSimpArgs false
def dkpB : List UInt8 := [100, 107, 112, 95, 112, 114, 107]
def skB : List UInt8 := [115, 107]
def eaeB : List UInt8 := [101, 97, 101, 95, 112, 114, 107]
def shsB : List UInt8 := [115, 104, 97, 114, 101, 100, 95, 115, 101, 99, 114, 101, 116]
def pskB : List UInt8 := [112, 115, 107, 95, 105, 100, 95, 104, 97, 115, 104]
def infB : List UInt8 := [105, 110, 102, 111, 95, 104, 97, 115, 104]
def secB : List UInt8 := [115, 101, 99, 114, 101, 116]
def keyB : List UInt8 := [107, 101, 121]
def bnB : List UInt8 := [98, 97, 115, 101, 95, 110, 111, 110, 99, 101]
/-- The private key of a seed; the shared secret; the key and the nonce; the info. -/
def privL (seed : List UInt8) : List UInt8 := epL pairsB (exH pairsB [] dkpB seed) skB [] 32
def sharedL (d enc pub : List UInt8) : List UInt8 := epL pairsB (exH pairsB [] eaeB d) shsB (enc ++ pub) 32
def keyC (info : List UInt8) : List UInt8 := [0] ++ (exH boxesB [] pskB [] ++ exH boxesB [] infB info)
def keyS (shared : List UInt8) : List UInt8 := exH boxesB shared secB []
def keyL (shared info : List UInt8) : List UInt8 := epL boxesB (keyS shared) keyB (keyC info) 16
def nonL (shared info : List UInt8) : List UInt8 := epL boxesB (keyS shared) bnB (keyC info) 12
def infoL (label context : List UInt8) : List UInt8 := vecBytes (mlsB ++ label) ++ vecBytes context
theorem privL_length (x : List UInt8) : (privL x).length = 32 := epL_length _ _ _ _ _
theorem sharedL_length (d e p : List UInt8) : (sharedL d e p).length = 32 := epL_length _ _ _ _ _
theorem keyL_length (x i : List UInt8) : (keyL x i).length = 16 := epL_length _ _ _ _ _
theorem nonL_length (x i : List UInt8) : (nonL x i).length = 12 := epL_length _ _ _ _ _
theorem infoL_length (l c : List UInt8) : (infoL l c).length ≤ l.length + c.length + 16 := by
  unfold infoL
  have h1 := vecBytes_le (mlsB ++ l)
  have h2 := vecBytes_le c
  rw [List.length_append] at *
  have : mlsB.length = 8 := rfl
  omega
def z1B : List UInt8 := [0]
theorem lit_z1 : Tryz.prog.builtSlice 5 1 [(0, .int .u8 0)] = some (bvs z1B).toArray ∧ (bvs z1B).length ≤ 1 := ⟨by kernel_rfl, by decide⟩
theorem lit_mlsB : Tryz.prog.builtSlice 5 8 [(0, .int .u8 77), (1, .int .u8 76), (2, .int .u8 83), (3, .int .u8 32), (4, .int .u8 49), (5, .int .u8 46), (6, .int .u8 48), (7, .int .u8 32)] = some (bvs mlsB).toArray ∧ (bvs mlsB).length ≤ 8 := ⟨by kernel_rfl, by decide⟩
set_option maxRecDepth 100000 in
set_option maxHeartbeats 1000000 in
theorem Info13 (s : ByteArray) (A : Option Addr) (xs : List UInt8) (n c : Nat) (w : World) (hx : xs.length = n) (hS : Sq w w.heap.size A c (bvs xs)) (hl : n ≤ 10000 ∧ s.size ≤ 10000) :
    Calls Tryz.prog 23 #[.string s, .slice A n c] w (ByN w (infoL (sby s) xs).length (infoL (sby s) xs)) := by
  have HS := hid hS
  have hs := sby_length s
  have HSS : Hid (s.size ≤ 1000000) := hid (by omega)
  obtain ⟨R, hR⟩ : ∃ R, R = infoL (sby s) xs := ⟨_, rfl⟩
  rw [← hR]
  unfold infoL at hR
  have HV := hid lit_mlsB
  have hv : mlsB.length = 8 := rfl
  generalize mlsB = M at HV hv hR
  obtain ⟨J1, hJ1⟩ : ∃ X, X = M ++ sby s := ⟨_, rfl⟩
  obtain ⟨V1, hV1⟩ : ∃ X, X = vecBytes J1 := ⟨_, rfl⟩
  obtain ⟨V2, hV2⟩ : ∃ X, X = vecBytes xs := ⟨_, rfl⟩
  obtain ⟨L1, hL1⟩ : ∃ L, 8 + s.size = L := ⟨_, rfl⟩
  obtain ⟨L2, hL2⟩ : ∃ L, V1.length = L := ⟨_, rfl⟩
  obtain ⟨L3, hL3⟩ : ∃ L, V2.length = L := ⟨_, rfl⟩
  obtain ⟨L, hL⟩ : ∃ L, R.length = L := ⟨_, rfl⟩
  have l1 : J1.length = L1 := by rw [hJ1, List.length_append]; omega
  have b1 := vecBytes_le J1
  have b2 := vecBytes_le xs
  rw [← hJ1, ← hV1, ← hV2] at hR
  rw [← hV1, hL2] at b1
  rw [← hV2, hL3] at b2
  have lr : L2 + L3 = L := by rw [← hL, hR, List.length_append]; omega
  rw [hL]
  have KJ1 : Hid (∀ (A0 : Option Addr) (c0 : Nat) (A1 : Option Addr) (c1 : Nat) (W : World), Sq W W.heap.size A0 c0 (bvs M) → Sq W W.heap.size A1 c1 (bvs (sby s)) → Calls Tryz.prog 37 #[.slice A0 8 c0, .slice A1 s.size c1] W (ByN W L1 J1)) := hid fun A0 c0 A1 c1 W h h' => join13 A0 M 8 c0 A1 (sby s) s.size c1 W hv hs h h' (by omega) hL1 hJ1
  have KV1 : Hid (∀ (A0 : Option Addr) (c0 : Nat) (W : World), Sq W W.heap.size A0 c0 (bvs J1) → Calls Tryz.prog 44 #[.slice A0 L1 c0] W (ByN W L2 V1)) := hid fun A0 c0 W h => by
    have h5 := byn_own hL2 ((RefVec_n A0 J1 L1 c0 W l1 (by omega) h.lie).mono fun e w' ⟨v, h1, h2, h3⟩ => ⟨v, h1, hV1 ▸ h2, below_of_none h3⟩)
    exact h5
  have KV2 : Hid (∀ (A0 : Option Addr) (c0 : Nat) (W : World), Sq W W.heap.size A0 c0 (bvs xs) → Calls Tryz.prog 44 #[.slice A0 n c0] W (ByN W L3 V2)) := hid fun A0 c0 W h => by
    have h5 := byn_own hL3 ((RefVec_n A0 xs n c0 W hx (by omega) h.lie).mono fun e w' ⟨v, h1, h2, h3⟩ => ⟨v, h1, hV2 ▸ h2, below_of_none h3⟩)
    exact h5
  have KJ2 : Hid (∀ (A0 : Option Addr) (c0 : Nat) (A1 : Option Addr) (c1 : Nat) (W : World), Sq W W.heap.size A0 c0 (bvs V1) → Sq W W.heap.size A1 c1 (bvs V2) → Calls Tryz.prog 37 #[.slice A0 L2 c0, .slice A1 L3 c1] W (ByN W L R)) := hid fun A0 c0 A1 c1 W h h' => join13 A0 V1 L2 c0 A1 V2 L3 c1 W hL2 hL3 h h' (by omega) lr hR
  clear hS hs hR hv hJ1 hV1 hV2 hL1 hL2 hL3 hL l1 b1 b2 lr hx hl
  go_enter Tryz.func23, Tryz.ntmps23
  have S0 : Hid (St w w [] []) := hid (St.start w)
  go_upto_region 0 with fail
  refine wpLA_start ?_
  refine wpLA_take (.slice none 0 0) (yG_val _ (by rfl) (fun w' _ => by (go_simp; try rfl))) ?_
  (try simp only [Act.put, List.getElem_toArray, List.getElem_cons_succ, List.getElem_cons_zero, List.setIfInBounds_toArray, List.set_cons_zero, List.set_cons_succ])
  refine wpLA_end ?_
  intro w1 hb
  have S1 := hid (S0.out.on hb)
  clear hb S0
  go_upto_region 1 with fail
  refine wpLA_start ?_
  refine wpLA_const rfl _ _ 8 _ rfl Tryz.underlying22 [(0, .int .u8 77), (1, .int .u8 76), (2, .int .u8 83), (3, .int .u8 32), (4, .int .u8 49), (5, .int .u8 46), (6, .int .u8 48), (7, .int .u8 32)] rfl (bvs M) HV.out.1 HV.out.2 (by decide) (fun p => by rfl) (fun w' => by (have hm := Go.Lib.run_convert_bytes_const (P := Tryz.prog) w' 22 5 (bvs M).toArray 8 8 Tryz.underlying22 Tryz.underlying5; go_simp; try rfl)) ?_
  intro p2 w2 hb hs
  have S2 : Hid (St w w2 [] [((some ⟨p2, 0, none⟩), 8, bvs M)]) := hid ((S1.out.on hb).more hs)
  clear hb hs S1
  (try simp only [Act.put, List.getElem_toArray, List.getElem_cons_succ, List.getElem_cons_zero, List.setIfInBounds_toArray, List.set_cons_zero, List.set_cons_succ])
  refine wpLA_take (.string s) (yG_val _ (by rfl) (fun w' _ => by (go_simp; try rfl))) ?_
  (try simp only [Act.put, List.getElem_toArray, List.getElem_cons_succ, List.getElem_cons_zero, List.setIfInBounds_toArray, List.set_cons_zero, List.set_cons_succ])
  refine wpLA_str s HSS.out (by rfl) (fun w' => by (have hm := run_bytes w' s; go_simp; try rfl)) ?_
  intro p3 c3 w3 hb hs
  have S3 : Hid (St w w3 [] [((some ⟨p3, 0, none⟩), c3, bvs (sby s)), ((some ⟨p2, 0, none⟩), 8, bvs M)]) := hid ((S2.out.on hb).more hs)
  clear hb hs S2
  (try simp only [Act.put, List.getElem_toArray, List.getElem_cons_succ, List.getElem_cons_zero, List.setIfInBounds_toArray, List.set_cons_zero, List.set_cons_succ])
  refine wpLA_byn J1 L1 (by rfl) (fun w' => by go_simp) (fun w' hb => KJ1.out (some ⟨p2, 0, none⟩) 8 (some ⟨p3, 0, none⟩) c3 w' (S3.out.on hb).sq.2.1 (S3.out.on hb).sq.1) ?_
  intro A4 c4 w4 hb hs
  have S4 : Hid (St w w4 [] [(A4, c4, bvs J1), ((some ⟨p3, 0, none⟩), c3, bvs (sby s)), ((some ⟨p2, 0, none⟩), 8, bvs M)]) := hid ((S3.out.on hb).more hs)
  clear hb hs S3
  (try simp only [Act.put, List.getElem_toArray, List.getElem_cons_succ, List.getElem_cons_zero, List.setIfInBounds_toArray, List.set_cons_zero, List.set_cons_succ])
  refine wpLA_byn V1 L2 (by rfl) (fun w' => by go_simp) (fun w' hb => KV1.out A4 c4 w' (S4.out.on hb).sq.1) ?_
  intro A5 c5 w5 hb hs
  have S5 : Hid (St w w5 [] [(A5, c5, bvs V1), (A4, c4, bvs J1), ((some ⟨p3, 0, none⟩), c3, bvs (sby s)), ((some ⟨p2, 0, none⟩), 8, bvs M)]) := hid ((S4.out.on hb).more hs)
  clear hb hs S4
  (try simp only [Act.put, List.getElem_toArray, List.getElem_cons_succ, List.getElem_cons_zero, List.setIfInBounds_toArray, List.set_cons_zero, List.set_cons_succ])
  refine wpLA_take (.slice A n c) (yG_val _ (by rfl) (fun w' _ => by (go_simp; try rfl))) ?_
  (try simp only [Act.put, List.getElem_toArray, List.getElem_cons_succ, List.getElem_cons_zero, List.setIfInBounds_toArray, List.set_cons_zero, List.set_cons_succ])
  refine wpLA_byn V2 L3 (by rfl) (fun w' => by go_simp) (fun w' hb => KV2.out A c w' (HS.out.on6 ((S5.out.on hb).below))) ?_
  intro A6 c6 w6 hb hs
  have S6 : Hid (St w w6 [] [(A6, c6, bvs V2), (A5, c5, bvs V1), (A4, c4, bvs J1), ((some ⟨p3, 0, none⟩), c3, bvs (sby s)), ((some ⟨p2, 0, none⟩), 8, bvs M)]) := hid ((S5.out.on hb).more hs)
  clear hb hs S5
  (try simp only [Act.put, List.getElem_toArray, List.getElem_cons_succ, List.getElem_cons_zero, List.setIfInBounds_toArray, List.set_cons_zero, List.set_cons_succ])
  refine wpLA_byn R L (by rfl) (fun w' => by go_simp) (fun w' hb => KJ2.out A5 c5 A6 c6 w' (S6.out.on hb).sq.2.1 (S6.out.on hb).sq.1) ?_
  intro A7 c7 w7 hb hs
  have S7 : Hid (St w w7 [] [(A7, c7, bvs R), (A6, c6, bvs V2), (A5, c5, bvs V1), (A4, c4, bvs J1), ((some ⟨p3, 0, none⟩), c3, bvs (sby s)), ((some ⟨p2, 0, none⟩), 8, bvs M)]) := hid ((S6.out.on hb).more hs)
  clear hb hs S6
  (try simp only [Act.put, List.getElem_toArray, List.getElem_cons_succ, List.getElem_cons_zero, List.setIfInBounds_toArray, List.set_cons_zero, List.set_cons_succ])
  refine wpLA_take (.slice A7 L c7) (yG_val _ (by rfl) (fun w' _ => by (go_simp; try rfl))) ?_
  (try simp only [Act.put, List.getElem_toArray, List.getElem_cons_succ, List.getElem_cons_zero, List.setIfInBounds_toArray, List.set_cons_zero, List.set_cons_succ])
  refine wpLA_end ?_
  intro w8 hb
  have S8 := hid (S7.out.on hb)
  clear hb S7
  go_wp2_with fail
  go_ret
  exact ⟨_, _, rfl, S8.out.sq.1, S8.out.below⟩
end Go.Proofs.YtpkmidaflnbobaaGreatDoor
end
section
namespace Go.Proofs.YtpkmidaflnbobaaGreatDoor
open Go.RowKit
set_option linter.unusedVariables false
set_option linter.unusedSimpArgs false
/-- Bit by bit. -/
def tm1 (a b : Nat) : Nat → Nat
  | 0 => 0
  | i + 1 => if b / 2 ^ i % 2 = 1 then tm1 a b i ^^^ (a * 2 ^ i) else tm1 a b i
/-- What stands above is taken off. -/
def tm2 (n : Nat) : Nat → Nat
  | 0 => n
  | k + 1 => if tm2 n k / 2 ^ (14 - k) % 2 = 1 then tm2 n k ^^^ (283 * 2 ^ (6 - k)) else tm2 n k
def tmN (a b : Nat) : Nat := tm2 (tm1 a b 8) 7
end Go.Proofs.YtpkmidaflnbobaaGreatDoor
end
section
namespace Go.Proofs.YtpkmidaflnbobaaGreatDoor
open Go.RowKit
set_option linter.unusedVariables false
set_option linter.unusedSimpArgs false
/-- What makes 1, found among 1 to k. -/
def ivN (a : Nat) : Nat → Nat
  | 0 => 0
  | k + 1 => if tmN a (k + 1) = 1 then k + 1 else ivN a k
/-- The bits of the inverse, summed. -/
def bitN (b i : Nat) : Nat := b / 2 ^ i % 2
def sumB (b i : Nat) : Nat := bitN b i + bitN b ((i + 4) % 8) + bitN b ((i + 5) % 8) + bitN b ((i + 6) % 8) + bitN b ((i + 7) % 8) + bitN 99 i
def bxN (b : Nat) : Nat → Nat
  | 0 => 0
  | i + 1 => bxN b i + sumB b i % 2 * 2 ^ i
def boxN (a : Nat) : Nat := bxN (ivN a 255) 8
theorem bxN_lt (b : Nat) : ∀ i, bxN b i < 2 ^ i
  | 0 => by show 0 < 1; omega
  | i + 1 => by
    have h := bxN_lt b i
    have h2 : sumB b i % 2 ≤ 1 := by omega
    have h3 : sumB b i % 2 * 2 ^ i ≤ 1 * 2 ^ i := Nat.mul_le_mul_right _ h2
    show bxN b i + _ < 2 ^ (i + 1)
    rw [Nat.pow_succ]
    omega
end Go.Proofs.YtpkmidaflnbobaaGreatDoor
end
