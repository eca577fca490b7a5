/-
  Texts of this claim in one file: Law12a, Law13a, Law13c, Law13d.
-/
import Derived.Test.YtpkmidaflnbobaaGreatDoorPk31
import Derived.Test.YtpkmidaflnbobaaGreatDoorPk28
import Derived.Deep.OwnRows
import Derived.Test.YtpkmidaflnbobaaGreatDoorPk23
import Derived.Test.YtpkmidaflnbobaaGreatDoorPk24
import Derived.Test.YtpkmidaflnbobaaGreatDoorPk8
section
namespace Go.Proofs.YtpkmidaflnbobaaGreatDoor
open Go.RowKit
set_option linter.unusedVariables false
set_option linter.unusedSimpArgs false
/-- A text sealed by the package. -/
def SealOk : Prop := ∀ (A A' A2 A3 : Option Addr) (key nonce text more : List UInt8) (m m' n2 n3 c c' c2 c3 : Nat) (w : World), Sq w w.heap.size A c (bvs key) → Sq w w.heap.size A' c' (bvs nonce) → Sq w w.heap.size A2 c2 (bvs text) → Sq w w.heap.size A3 c3 (bvs more) → key.length = m → nonce.length = m' → text.length = n2 → more.length = n3 → m ≤ 1000 → m' ≤ 1000 → n2 ≤ 1000 → n3 ≤ 1000 →
  Calls Tryz.prog 22 #[.slice A m c, .slice A' m' c', .slice A2 n2 c2, .slice A3 n3 c3] w fun e w' => (if m = 16 ∧ m' = 12 then ∃ v, e = .returned (.tuple #[v, .bool true]) ∧ OwnB w' w.heap.size v (seal12L key nonce text more) else ∃ A4 c4, e = .returned (.tuple #[.slice A4 0 c4, .bool false])) ∧ Below w.heap.size w w'
/-- Which bytes are opened. -/
def opens (key nonce sealed more : List UInt8) : Prop := key.length = 16 ∧ nonce.length = 12 ∧ 16 ≤ sealed.length ∧ sealed.drop (sealed.length - 16) = tagL key nonce (sealed.take (sealed.length - 16)) more
instance (key nonce sealed more : List UInt8) : Decidable (opens key nonce sealed more) := by unfold opens; infer_instance
/-- Bytes opened by the package. -/
def OpenOk : Prop := ∀ (A A' A2 A3 : Option Addr) (key nonce sealed more : List UInt8) (m m' n2 n3 c c' c2 c3 : Nat) (w : World), Sq w w.heap.size A c (bvs key) → Sq w w.heap.size A' c' (bvs nonce) → Sq w w.heap.size A2 c2 (bvs sealed) → Sq w w.heap.size A3 c3 (bvs more) → key.length = m → nonce.length = m' → sealed.length = n2 → more.length = n3 → m ≤ 1000 → m' ≤ 1000 → n2 ≤ 1000 → n3 ≤ 1000 →
  Calls Tryz.prog 20 #[.slice A m c, .slice A' m' c', .slice A2 n2 c2, .slice A3 n3 c3] w fun e w' => (if opens key nonce sealed more then ∃ v, e = .returned (.tuple #[v, .bool true]) ∧ OwnB w' w.heap.size v (maskedL key nonce (sealed.take (sealed.length - 16))) else ∃ A4 c4, e = .returned (.tuple #[.slice A4 0 c4, .bool false])) ∧ Below w.heap.size w w'
theorem sq_on {w w' : World} {A : Option Addr} {c : Nat} {xs : List Value} (h : Sq w w.heap.size A c xs) (hb : Below w.heap.size w w') : Sq w' w'.heap.size A c xs := (h.below hb).more hb.size
end Go.Proofs.YtpkmidaflnbobaaGreatDoor
end
section
namespace Go.Proofs.YtpkmidaflnbobaaGreatDoor
open Go Go.RowKit
set_option linter.unusedVariables false
set_option linter.unusedSimpArgs false
/-- Bytes and an error; two rows of bytes; both. -/
def By1N (w : World) (n : Nat) (xs : List UInt8) (k : Int) (e : Ending) (w' : World) : Prop := ∃ A c, e = .returned (.tuple #[.slice A n c, .int .u8 k]) ∧ Sq w' w'.heap.size A c (bvs xs) ∧ Below w.heap.size w w'
def By2 (w : World) (n : Nat) (xs : List UInt8) (m : Nat) (ys : List UInt8) (e : Ending) (w' : World) : Prop := ∃ A c A' c', e = .returned (.tuple #[.slice A n c, .slice A' m c']) ∧ Sq w' w'.heap.size A c (bvs xs) ∧ Sq w' w'.heap.size A' c' (bvs ys) ∧ Below w.heap.size w w'
def By2N (w : World) (n : Nat) (xs : List UInt8) (m : Nat) (ys : List UInt8) (k : Int) (e : Ending) (w' : World) : Prop := ∃ A c A' c', e = .returned (.tuple #[.slice A n c, .slice A' m c', .int .u8 k]) ∧ Sq w' w'.heap.size A c (bvs xs) ∧ Sq w' w'.heap.size A' c' (bvs ys) ∧ Below w.heap.size w w'
def ByOk (w : World) (n : Nat) (xs : List UInt8) (b : Bool) (e : Ending) (w' : World) : Prop := ∃ A c, e = .returned (.tuple #[.slice A n c, .bool b]) ∧ Sq w' w'.heap.size A c (bvs xs) ∧ Below w.heap.size w w'
def By1E (w : World) (r : List UInt8 × Nat) : Ending → World → Prop := By1N w r.1.length r.1 (r.2 : Int)
def By2E (w : World) (r : List UInt8 × List UInt8 × Nat) : Ending → World → Prop := By2N w r.1.length r.1 r.2.1.length r.2.1 (r.2.2 : Int)
theorem by1_is {P : Program} {f : FuncId} {args : Array Value} {w : World} {r : List UInt8 × Nat} {xs : List UInt8} {k n : Nat} (h : Calls P f args w (By1E w r)) (hr : r = (xs, k)) (hx : xs.length = n) : Calls P f args w (By1N w n xs (k : Int)) := by
  subst hr; subst hx; exact h
theorem by2_is {P : Program} {f : FuncId} {args : Array Value} {w : World} {r : List UInt8 × List UInt8 × Nat} {xs ys : List UInt8} {k n m : Nat} (h : Calls P f args w (By2E w r)) (hr : r = (xs, ys, k)) (hx : xs.length = n) (hy : ys.length = m) : Calls P f args w (By2N w n xs m ys (k : Int)) := by
  subst hr; subst hx; subst hy; exact h
section
variable {P : Program} {ops : Array Oper} {Q : Exit → Act → World → Prop} {o : Oper} {rest : List Oper} {a : Act} {w0 : World}
theorem wpLA_by1 {f : FuncId} {args : Array Value} (xs : List UInt8) (n : Nat) (k : Int) (hw : Region.wanted o (yielded ops a.tmps) = true) (hr : ∀ w', (execOp a.eval o).run P w' = .ok (.enter f args) w')
    (hc : ∀ w', Below w0.heap.size w0 w' → Calls P f args w' (By1N w' n xs k))
    (h : ∀ A c w2, Below w0.heap.size w0 w2 → Sq w2 w2.heap.size A c (bvs xs) → wpLA P ops Q w2 rest (a.put o.dst (.tuple #[.slice A n c, .int .u8 k]))) : wpLA P ops Q w0 (o :: rest) a :=
  wpLA_call (fun w' v w'' => ∃ A c, v = .tuple #[.slice A n c, .int .u8 k] ∧ Sq w'' w''.heap.size A c (bvs xs) ∧ Below w'.heap.size w' w'') hw hr (fun w' hb => (hc w' hb).mono fun e w'' ⟨A, c, he, h1, h2⟩ => ⟨_, he, A, c, rfl, h1, h2⟩)
    fun w' v w'' hb ⟨A, c, hv, h1, h2⟩ => by subst hv; exact h A c w'' (hb.trans (h2.mono hb.size)) h1
theorem wpLA_by2 {f : FuncId} {args : Array Value} (xs : List UInt8) (n : Nat) (ys : List UInt8) (m : Nat) (hw : Region.wanted o (yielded ops a.tmps) = true) (hr : ∀ w', (execOp a.eval o).run P w' = .ok (.enter f args) w')
    (hc : ∀ w', Below w0.heap.size w0 w' → Calls P f args w' (By2 w' n xs m ys))
    (h : ∀ A c A' c' w2, Below w0.heap.size w0 w2 → Sq w2 w2.heap.size A c (bvs xs) → Sq w2 w2.heap.size A' c' (bvs ys) → wpLA P ops Q w2 rest (a.put o.dst (.tuple #[.slice A n c, .slice A' m c']))) : wpLA P ops Q w0 (o :: rest) a :=
  wpLA_call (fun w' v w'' => ∃ A c A' c', v = .tuple #[.slice A n c, .slice A' m c'] ∧ Sq w'' w''.heap.size A c (bvs xs) ∧ Sq w'' w''.heap.size A' c' (bvs ys) ∧ Below w'.heap.size w' w'') hw hr (fun w' hb => (hc w' hb).mono fun e w'' ⟨A, c, A', c', he, h1, h2, h3⟩ => ⟨_, he, A, c, A', c', rfl, h1, h2, h3⟩)
    fun w' v w'' hb ⟨A, c, A', c', hv, h1, h2, h3⟩ => by subst hv; exact h A c A' c' w'' (hb.trans (h3.mono hb.size)) h1 h2
end
/-- What the document says: the public key of a seed; wrap, unwrap, seal, open. -/
def pubL (seed : List UInt8) : List UInt8 := dhV (privL seed) (b32 9)
def wrapR (pub seed : List UInt8) : List UInt8 × List UInt8 × Nat := if pub.length ≠ 32 then ([], [], 3) else if dhV (privL seed) pub = z32 then ([], [], 9) else (sharedL (dhV (privL seed) pub) (pubL seed) pub, pubL seed, 0)
def unwrapR (priv enc : List UInt8) : List UInt8 × Nat := if priv.length ≠ 32 then ([], 1) else if enc.length ≠ 32 then ([], 3) else if dhV priv enc = z32 then ([], 9) else (sharedL (dhV priv enc) enc (dhV priv (b32 9)), 0)
def sealR (pub seed info text more : List UInt8) : List UInt8 × List UInt8 × Nat := if (wrapR pub seed).2.2 ≠ 0 then ([], [], (wrapR pub seed).2.2) else ((wrapR pub seed).2.1, seal12L (keyL (wrapR pub seed).1 info) (nonL (wrapR pub seed).1 info) text more, 0)
def openR (priv enc info box more : List UInt8) : List UInt8 × Nat := if (unwrapR priv enc).2 ≠ 0 then ([], (unwrapR priv enc).2) else if opens (keyL (unwrapR priv enc).1 info) (nonL (unwrapR priv enc).1 info) box more then (maskedL (keyL (unwrapR priv enc).1 info) (nonL (unwrapR priv enc).1 info) (box.take (box.length - 16)), 0) else ([], 11)
theorem pubL_length (x : List UInt8) : (pubL x).length = 32 := dhV_length _ _
theorem pub_nz (a b : List UInt8) : dhV (privL a) (pubL b) ≠ z32 := dh_nz _ _
theorem wrap_len {pub seed : List UInt8} (h : pub.length ≠ 32) : wrapR pub seed = ([], [], 3) := if_pos h
theorem wrap_zero {pub seed : List UInt8} (h : pub.length = 32) (hz : dhV (privL seed) pub = z32) : wrapR pub seed = ([], [], 9) := by unfold wrapR; rw [if_neg (by omega), if_pos hz]
theorem wrap_ok {pub seed : List UInt8} (h : pub.length = 32) (hz : dhV (privL seed) pub ≠ z32) : wrapR pub seed = (sharedL (dhV (privL seed) pub) (pubL seed) pub, pubL seed, 0) := by unfold wrapR; rw [if_neg (by omega), if_neg hz]
theorem unwrap_arg {priv enc : List UInt8} (h : priv.length ≠ 32) : unwrapR priv enc = ([], 1) := if_pos h
theorem unwrap_len {priv enc : List UInt8} (h : priv.length = 32) (h' : enc.length ≠ 32) : unwrapR priv enc = ([], 3) := by unfold unwrapR; rw [if_neg (by omega), if_pos h']
theorem unwrap_zero {priv enc : List UInt8} (h : priv.length = 32) (h' : enc.length = 32) (hz : dhV priv enc = z32) : unwrapR priv enc = ([], 9) := by unfold unwrapR; rw [if_neg (by omega), if_neg (by omega), if_pos hz]
theorem unwrap_ok {priv enc : List UInt8} (h : priv.length = 32) (h' : enc.length = 32) (hz : dhV priv enc ≠ z32) : unwrapR priv enc = (sharedL (dhV priv enc) enc (dhV priv (b32 9)), 0) := by unfold unwrapR; rw [if_neg (by omega), if_neg (by omega), if_neg hz]
theorem open_err {priv enc info box more : List UInt8} {k : Nat} (h : unwrapR priv enc = ([], k)) (hk : k ≠ 0) : openR priv enc info box more = ([], k) := by unfold openR; rw [h, if_pos hk]
theorem open_no {priv enc info box more S : List UInt8} (h : unwrapR priv enc = (S, 0)) (ho : ¬ opens (keyL S info) (nonL S info) box more) : openR priv enc info box more = ([], 11) := by unfold openR; rw [h, if_neg (by simp), if_neg ho]
theorem open_ok {priv enc info box more S : List UInt8} (h : unwrapR priv enc = (S, 0)) (ho : opens (keyL S info) (nonL S info) box more) : openR priv enc info box more = (maskedL (keyL S info) (nonL S info) (box.take (box.length - 16)), 0) := by unfold openR; rw [h, if_neg (by simp), if_pos ho]
theorem seal_err {pub seed info text more : List UInt8} {k : Nat} (h : wrapR pub seed = ([], [], k)) (hk : k ≠ 0) : sealR pub seed info text more = ([], [], k) := by unfold sealR; rw [h, if_pos hk]
theorem seal_ok {pub seed info text more S E : List UInt8} (h : wrapR pub seed = (S, E, 0)) : sealR pub seed info text more = (E, seal12L (keyL S info) (nonL S info) text more, 0) := by unfold sealR; rw [h, if_neg (by simp)]
/-- A box of too few bytes opens to nothing. -/
theorem opens_short {key nonce box more : List UInt8} (h : box.length < 16) : ¬ opens key nonce box more := fun ho => by have := ho.2.2.1; omega
def PairOk : Prop := ∀ (A : Option Addr) (xs : List UInt8) (n c : Nat) (W : World), Glob W → Sq W W.heap.size A c (bvs xs) → xs.length = n → n ≤ 400 →
  Calls Tryz.prog 10 #[.slice A n c] W (By2 W 32 (privL xs) 32 (pubL xs))
def WrapOk : Prop := ∀ (A : Option Addr) (xs : List UInt8) (n c : Nat) (A' : Option Addr) (ys : List UInt8) (m c' : Nat) (W : World), Glob W → Sq W W.heap.size A c (bvs xs) → Sq W W.heap.size A' c' (bvs ys) → xs.length = n → ys.length = m → n ≤ 1000 → m ≤ 400 →
  Calls Tryz.prog 14 #[.slice A n c, .slice A' m c'] W (By2E W (wrapR xs ys))
def UnwrapOk : Prop := ∀ (A : Option Addr) (xs : List UInt8) (n c : Nat) (A' : Option Addr) (ys : List UInt8) (m c' : Nat) (W : World), Glob W → Sq W W.heap.size A c (bvs xs) → Sq W W.heap.size A' c' (bvs ys) → xs.length = n → ys.length = m → n ≤ 1000 → m ≤ 1000 →
  Calls Tryz.prog 17 #[.slice A n c, .slice A' m c'] W (By1E W (unwrapR xs ys))
def SealOk13 : Prop := ∀ (A : Option Addr) (xs : List UInt8) (n c : Nat) (A' : Option Addr) (ys : List UInt8) (m c' : Nat) (A2 : Option Addr) (is : List UInt8) (n2 c2 : Nat) (A3 : Option Addr) (ts : List UInt8) (n3 c3 : Nat) (A4 : Option Addr) (ms : List UInt8) (n4 c4 : Nat) (W : World), Glob W →
  Sq W W.heap.size A c (bvs xs) → Sq W W.heap.size A' c' (bvs ys) → Sq W W.heap.size A2 c2 (bvs is) → Sq W W.heap.size A3 c3 (bvs ts) → Sq W W.heap.size A4 c4 (bvs ms) → xs.length = n → ys.length = m → is.length = n2 → ts.length = n3 → ms.length = n4 → n ≤ 1000 → m ≤ 400 → n2 ≤ 400 → n3 ≤ 1000 → n4 ≤ 1000 →
  Calls Tryz.prog 21 #[.slice A n c, .slice A' m c', .slice A2 n2 c2, .slice A3 n3 c3, .slice A4 n4 c4] W (By2E W (sealR xs ys is ts ms))
def OpenOk13 : Prop := ∀ (A : Option Addr) (xs : List UInt8) (n c : Nat) (A' : Option Addr) (ys : List UInt8) (m c' : Nat) (A2 : Option Addr) (is : List UInt8) (n2 c2 : Nat) (A3 : Option Addr) (ts : List UInt8) (n3 c3 : Nat) (A4 : Option Addr) (ms : List UInt8) (n4 c4 : Nat) (W : World), Glob W →
  Sq W W.heap.size A c (bvs xs) → Sq W W.heap.size A' c' (bvs ys) → Sq W W.heap.size A2 c2 (bvs is) → Sq W W.heap.size A3 c3 (bvs ts) → Sq W W.heap.size A4 c4 (bvs ms) → xs.length = n → ys.length = m → is.length = n2 → ts.length = n3 → ms.length = n4 → n ≤ 1000 → m ≤ 1000 → n2 ≤ 400 → n3 ≤ 1000 → n4 ≤ 1000 →
  Calls Tryz.prog 18 #[.slice A n c, .slice A' m c', .slice A2 n2 c2, .slice A3 n3 c3, .slice A4 n4 c4] W (By1E W (openR xs ys is ts ms))
def x1B : List UInt8 := [1]
theorem lit_x1B : Tryz.prog.builtSlice 5 1 [(0, .int .u8 1)] = some (bvs x1B).toArray ∧ (bvs x1B).length ≤ 1 := ⟨by kernel_rfl, by decide⟩
theorem base13 (A : Option Addr) (xs : List UInt8) (c : Nat) (W : World) (h : Sq W W.heap.size A c (bvs xs)) (hx : xs.length = 32) : Calls Tryz.prog 12 #[.slice A 32 c] W (By1N W 32 (dhV xs (b32 9)) 0) :=
  (DhBase_e A xs c W h (by omega) hx).mono fun e w' ⟨A', c', he, hs, _, hb⟩ => ⟨A', c', he, hs, hb⟩
theorem dh13_ok (A : Option Addr) (xs : List UInt8) (c : Nat) (A' : Option Addr) (ys : List UInt8) (c' : Nat) (W : World) (h : Sq W W.heap.size A c (bvs xs)) (h' : Sq W W.heap.size A' c' (bvs ys)) (hx : xs.length = 32) (hy : ys.length = 32) (hz : dhV xs ys ≠ z32) : Calls Tryz.prog 15 #[.slice A 32 c, .slice A' 32 c'] W (By1N W 32 (dhV xs ys) 0) :=
  (DhShared_e A xs c A' ys c' W h h' (by omega) (by omega) hx hy hz).mono fun e w' ⟨A', c', he, hs, _, hb⟩ => ⟨A', c', he, hs, hb⟩
theorem dh13_zero (A : Option Addr) (xs : List UInt8) (c : Nat) (A' : Option Addr) (ys : List UInt8) (c' : Nat) (W : World) (h : Sq W W.heap.size A c (bvs xs)) (h' : Sq W W.heap.size A' c' (bvs ys)) (hx : xs.length = 32) (hy : ys.length = 32) (hz : dhV xs ys = z32) : Calls Tryz.prog 15 #[.slice A 32 c, .slice A' 32 c'] W (DhErr W 9) :=
  DhShared_zero A xs c A' ys c' W h h' (by omega) (by omega) hx hy hz
theorem same13 {xs : List UInt8} {n : Nat} (A : Option Addr) (c : Nat) (A' : Option Addr) (c' : Nat) (W : World) (h : Sq W W.heap.size A c (bvs xs)) (h' : Sq W W.heap.size A' c' (bvs xs)) (hx : xs.length = n) (hn : n ≤ 100000) :
    Calls Tryz.prog 13 #[.slice A n c, .slice A' n c'] W fun e w' => e = .returned (.bool true) ∧ Below W.heap.size W w' := by
  subst hx
  have h := Same_any A xs c A' xs c' W W.heap.size W.heap.size h.lie h'.lie (by omega)
  rw [beq_self_eq_true] at h
  exact calls_drew h
set_option maxHeartbeats 1000000 in
theorem alive13_any (hP : PairOk) (hO : OpenOk13) (w : World) (hG : Glob w) : Calls Tryz.prog 9 #[] w fun e w' => e = .returned (.bool true) ∧ Below w.heap.size w w' := by
  have HG := hid hG
  obtain ⟨X1, hX1⟩ : ∃ l : List UInt8, l = x1B := ⟨_, rfl⟩
  obtain ⟨PR, hPR⟩ : ∃ l, l = privL X1 := ⟨_, rfl⟩
  obtain ⟨PU, hPU⟩ : ∃ l, l = pubL X1 := ⟨_, rfl⟩
  have l1 : X1.length = 1 := by rw [hX1]; rfl
  have lr : PR.length = 32 := by rw [hPR]; exact privL_length _
  have lu : PU.length = 32 := by rw [hPU]; exact pubL_length _
  have hu : dhV PR (b32 9) = PU := by rw [hPR, hPU]; rfl
  have hz : dhV PR PU ≠ z32 := by rw [hPR, hPU]; exact pub_nz _ _
  have KP : Hid (∀ (A0 : Option Addr) (c0 : Nat) (W : World), Glob W → Sq W W.heap.size A0 c0 (bvs X1) → Calls Tryz.prog 10 #[.slice A0 1 c0] W (By2 W 32 PR 32 PU)) := hid fun A0 c0 W hG h => by
    rw [hPR, hPU]
    exact hP A0 X1 1 c0 W hG h l1 (by decide)
  have KB : Hid (∀ (A0 : Option Addr) (c0 : Nat) (W : World), Sq W W.heap.size A0 c0 (bvs PR) → Calls Tryz.prog 12 #[.slice A0 32 c0] W (By1N W 32 PU 0)) := hid fun A0 c0 W h => by
    rw [← hu]
    exact base13 A0 PR c0 W h lr
  have KO : Hid (∀ (A0 : Option Addr) (c0 : Nat) (A1 : Option Addr) (c1 : Nat) (A2 : Option Addr) (c2 : Nat) (W : World), Glob W → Sq W W.heap.size A0 c0 (bvs PR) → Sq W W.heap.size A1 c1 (bvs PU) → Sq W W.heap.size A2 c2 (bvs (List.replicate 15 0)) → Calls Tryz.prog 18 #[.slice A0 32 c0, .slice A1 32 c1, .slice none 0 0, .slice A2 15 c2, .slice none 0 0] W (By1N W 0 [] 11)) := hid fun A0 c0 A1 c1 A2 c2 W hG h h' h'' =>
    by1_is (hO A0 PR 32 c0 A1 PU 32 c1 none [] 0 0 A2 (List.replicate 15 0) 15 c2 none [] 0 0 W hG h h' Sq.nil h'' Sq.nil lr lu rfl List.length_replicate rfl (by decide) (by decide) (by decide) (by decide) (by decide)) (open_no (unwrap_ok lr lu hz) (opens_short (by decide))) rfl
  have KS : Hid (∀ (A0 : Option Addr) (c0 : Nat) (A1 : Option Addr) (c1 : Nat) (W : World), Sq W W.heap.size A0 c0 (bvs PU) → Sq W W.heap.size A1 c1 (bvs PU) → Calls Tryz.prog 13 #[.slice A0 32 c0, .slice A1 32 c1] W (fun e w' => e = .returned (.bool true) ∧ Below W.heap.size W w')) := hid fun A0 c0 A1 c1 W h h' => same13 A0 c0 A1 c1 W h h' lu (by decide)
  have HV := hid lit_x1B
  rw [← hX1] at HV
  clear hX1 hPR hPU l1 lr lu hu hz hG hP hO
  go_enter Tryz.func9, Tryz.ntmps9
  have S0 : Hid (St w w [] []) := hid (St.start w)
  go_upto_region 0 with fail
  refine wpLA_start ?_
  refine wpLA_take (.bool false) (yG_val _ (by rfl) (fun w' _ => by (go_simp; try rfl))) ?_
  (try simp only [Act.put, List.getElem_toArray, List.getElem_cons_succ, List.getElem_cons_zero, List.setIfInBounds_toArray, List.set_cons_zero, List.set_cons_succ])
  refine wpLA_end ?_
  intro w1 hb
  have S1 := hid (S0.out.on hb)
  clear hb S0
  go_upto_region 1 with fail
  refine wpLA_start ?_
  refine wpLA_slice rfl _ _ 1 _ rfl Tryz.underlying22 [(0, .int .u8 1)] rfl (bvs X1) HV.out.1 HV.out.2 (by decide) ?_
  intro p2 w2 hb hs
  have S2 : Hid (St w w2 [] [((some ⟨p2, 0, none⟩), 1, bvs X1)]) := hid ((S1.out.on hb).more hs)
  clear hb hs S1
  (try simp only [Act.put, List.getElem_toArray, List.getElem_cons_succ, List.getElem_cons_zero, List.setIfInBounds_toArray, List.set_cons_zero, List.set_cons_succ])
  refine wpLA_by2 PR 32 PU 32 (by rfl) (fun w' => by go_simp) (fun w' hb => KP.out (some ⟨p2, 0, none⟩) 1 w' (HG.out.below (S2.out.on hb).below (Nat.le_refl _)) (S2.out.on hb).sq.1) ?_
  intro A3 c3 B3 d3 w3 hb hs hs2
  have S3 : Hid (St w w3 [] [(A3, c3, bvs PR), (B3, d3, bvs PU), ((some ⟨p2, 0, none⟩), 1, bvs X1)]) := hid (((S2.out.on hb).more hs2).more hs)
  clear hb hs hs2 S2
  (try simp only [Act.put, List.getElem_toArray, List.getElem_cons_succ, List.getElem_cons_zero, List.setIfInBounds_toArray, List.set_cons_zero, List.set_cons_succ])
  refine wpLA_take (.tuple #[(.slice A3 32 c3), (.slice B3 32 d3)]) (yG_val _ (by rfl) (fun w' _ => by (go_simp; try rfl))) ?_
  (try simp only [Act.put, List.getElem_toArray, List.getElem_cons_succ, List.getElem_cons_zero, List.setIfInBounds_toArray, List.set_cons_zero, List.set_cons_succ])
  refine wpLA_take (.slice A3 32 c3) (yG_val _ (by rfl) (fun w' _ => by (go_simp; try rfl))) ?_
  (try simp only [Act.put, List.getElem_toArray, List.getElem_cons_succ, List.getElem_cons_zero, List.setIfInBounds_toArray, List.set_cons_zero, List.set_cons_succ])
  refine wpLA_take (.slice B3 32 d3) (yG_val _ (by rfl) (fun w' _ => by (go_simp; try rfl))) ?_
  (try simp only [Act.put, List.getElem_toArray, List.getElem_cons_succ, List.getElem_cons_zero, List.setIfInBounds_toArray, List.set_cons_zero, List.set_cons_succ])
  refine wpLA_take (.slice A3 32 c3) (yG_val _ (by rfl) (fun w' _ => by (go_simp; try rfl))) ?_
  (try simp only [Act.put, List.getElem_toArray, List.getElem_cons_succ, List.getElem_cons_zero, List.setIfInBounds_toArray, List.set_cons_zero, List.set_cons_succ])
  refine wpLA_take (.slice B3 32 d3) (yG_val _ (by rfl) (fun w' _ => by (go_simp; try rfl))) ?_
  (try simp only [Act.put, List.getElem_toArray, List.getElem_cons_succ, List.getElem_cons_zero, List.setIfInBounds_toArray, List.set_cons_zero, List.set_cons_succ])
  refine wpLA_end ?_
  intro w4 hb
  have S4 := hid (S3.out.on hb)
  clear hb S3
  go_upto_region 2 with fail
  refine wpLA_start ?_
  refine wpLA_take (.slice A3 32 c3) (yG_val _ (by rfl) (fun w' _ => by (go_simp; try rfl))) ?_
  (try simp only [Act.put, List.getElem_toArray, List.getElem_cons_succ, List.getElem_cons_zero, List.setIfInBounds_toArray, List.set_cons_zero, List.set_cons_succ])
  refine wpLA_by1 PU 32 0 (by rfl) (fun w' => by go_simp) (fun w' hb => KB.out A3 c3 w' (S4.out.on hb).sq.1) ?_
  intro A5 c5 w5 hb hs
  have S5 : Hid (St w w5 [] [(A5, c5, bvs PU), (A3, c3, bvs PR), (B3, d3, bvs PU), ((some ⟨p2, 0, none⟩), 1, bvs X1)]) := hid ((S4.out.on hb).more hs)
  clear hb hs S4
  (try simp only [Act.put, List.getElem_toArray, List.getElem_cons_succ, List.getElem_cons_zero, List.setIfInBounds_toArray, List.set_cons_zero, List.set_cons_succ])
  refine wpLA_take (.tuple #[(.slice A5 32 c5), (.int .u8 0)]) (yG_val _ (by rfl) (fun w' _ => by (go_simp; try rfl))) ?_
  (try simp only [Act.put, List.getElem_toArray, List.getElem_cons_succ, List.getElem_cons_zero, List.setIfInBounds_toArray, List.set_cons_zero, List.set_cons_succ])
  refine wpLA_take (.slice A5 32 c5) (yG_val _ (by rfl) (fun w' _ => by (go_simp; try rfl))) ?_
  (try simp only [Act.put, List.getElem_toArray, List.getElem_cons_succ, List.getElem_cons_zero, List.setIfInBounds_toArray, List.set_cons_zero, List.set_cons_succ])
  refine wpLA_take (.int .u8 0) (yG_val _ (by rfl) (fun w' _ => by (go_simp; try rfl))) ?_
  (try simp only [Act.put, List.getElem_toArray, List.getElem_cons_succ, List.getElem_cons_zero, List.setIfInBounds_toArray, List.set_cons_zero, List.set_cons_succ])
  refine wpLA_take (.slice A5 32 c5) (yG_val _ (by rfl) (fun w' _ => by (go_simp; try rfl))) ?_
  (try simp only [Act.put, List.getElem_toArray, List.getElem_cons_succ, List.getElem_cons_zero, List.setIfInBounds_toArray, List.set_cons_zero, List.set_cons_succ])
  refine wpLA_take (.int .u8 0) (yG_val _ (by rfl) (fun w' _ => by (go_simp; try rfl))) ?_
  (try simp only [Act.put, List.getElem_toArray, List.getElem_cons_succ, List.getElem_cons_zero, List.setIfInBounds_toArray, List.set_cons_zero, List.set_cons_succ])
  refine wpLA_end ?_
  intro w6 hb
  have S6 := hid (S5.out.on hb)
  clear hb S5
  go_upto_region 3 with fail
  refine wpLA_start ?_
  refine wpLA_take (.slice A3 32 c3) (yG_val _ (by rfl) (fun w' _ => by (go_simp; try rfl))) ?_
  (try simp only [Act.put, List.getElem_toArray, List.getElem_cons_succ, List.getElem_cons_zero, List.setIfInBounds_toArray, List.set_cons_zero, List.set_cons_succ])
  refine wpLA_take (.slice B3 32 d3) (yG_val _ (by rfl) (fun w' _ => by (go_simp; try rfl))) ?_
  (try simp only [Act.put, List.getElem_toArray, List.getElem_cons_succ, List.getElem_cons_zero, List.setIfInBounds_toArray, List.set_cons_zero, List.set_cons_succ])
  refine wpLA_make 15 (by rfl) _ _ _ rfl rfl rfl Tryz.underlying22 infoU8 (by decide) ?_
  intro p7 w7 hb hs
  have S7 : Hid (St w w7 [] [((some ⟨p7, 0, none⟩), 15, bvs (List.replicate 15 0)), (A5, c5, bvs PU), (A3, c3, bvs PR), (B3, d3, bvs PU), ((some ⟨p2, 0, none⟩), 1, bvs X1)]) := hid ((S6.out.on hb).more hs)
  clear hb hs S6
  (try simp only [Act.put, List.getElem_toArray, List.getElem_cons_succ, List.getElem_cons_zero, List.setIfInBounds_toArray, List.set_cons_zero, List.set_cons_succ])
  refine wpLA_by1 ([] : List UInt8) 0 11 (by rfl) (fun w' => by go_simp) (fun w' hb => KO.out A3 c3 B3 d3 (some ⟨p7, 0, none⟩) 15 w' (HG.out.below (S7.out.on hb).below (Nat.le_refl _)) (S7.out.on hb).sq.2.2.1 (S7.out.on hb).sq.2.2.2.1 (S7.out.on hb).sq.1) ?_
  intro A8 c8 w8 hb hs
  have S8 : Hid (St w w8 [] [(A8, c8, bvs ([] : List UInt8)), ((some ⟨p7, 0, none⟩), 15, bvs (List.replicate 15 0)), (A5, c5, bvs PU), (A3, c3, bvs PR), (B3, d3, bvs PU), ((some ⟨p2, 0, none⟩), 1, bvs X1)]) := hid ((S7.out.on hb).more hs)
  clear hb hs S7
  (try simp only [Act.put, List.getElem_toArray, List.getElem_cons_succ, List.getElem_cons_zero, List.setIfInBounds_toArray, List.set_cons_zero, List.set_cons_succ])
  refine wpLA_take (.tuple #[(.slice A8 0 c8), (.int .u8 11)]) (yG_val _ (by rfl) (fun w' _ => by (go_simp; try rfl))) ?_
  (try simp only [Act.put, List.getElem_toArray, List.getElem_cons_succ, List.getElem_cons_zero, List.setIfInBounds_toArray, List.set_cons_zero, List.set_cons_succ])
  refine wpLA_take (.slice A8 0 c8) (yG_val _ (by rfl) (fun w' _ => by (go_simp; try rfl))) ?_
  (try simp only [Act.put, List.getElem_toArray, List.getElem_cons_succ, List.getElem_cons_zero, List.setIfInBounds_toArray, List.set_cons_zero, List.set_cons_succ])
  refine wpLA_take (.int .u8 11) (yG_val _ (by rfl) (fun w' _ => by (go_simp; try rfl))) ?_
  (try simp only [Act.put, List.getElem_toArray, List.getElem_cons_succ, List.getElem_cons_zero, List.setIfInBounds_toArray, List.set_cons_zero, List.set_cons_succ])
  refine wpLA_take (.slice A8 0 c8) (yG_val _ (by rfl) (fun w' _ => by (go_simp; try rfl))) ?_
  (try simp only [Act.put, List.getElem_toArray, List.getElem_cons_succ, List.getElem_cons_zero, List.setIfInBounds_toArray, List.set_cons_zero, List.set_cons_succ])
  refine wpLA_take (.int .u8 11) (yG_val _ (by rfl) (fun w' _ => by (go_simp; try rfl))) ?_
  (try simp only [Act.put, List.getElem_toArray, List.getElem_cons_succ, List.getElem_cons_zero, List.setIfInBounds_toArray, List.set_cons_zero, List.set_cons_succ])
  refine wpLA_end ?_
  intro w9 hb
  have S9 := hid (S8.out.on hb)
  clear hb S8
  go_upto_region 4 with fail
  refine wpLA_start ?_
  refine wpLA_take (.slice A3 32 c3) (yG_val _ (by rfl) (fun w' _ => by (go_simp; try rfl))) ?_
  (try simp only [Act.put, List.getElem_toArray, List.getElem_cons_succ, List.getElem_cons_zero, List.setIfInBounds_toArray, List.set_cons_zero, List.set_cons_succ])
  refine wpLA_take (.int .i64 32) (yG_val _ (by rfl) (fun w' _ => by (go_simp; try rfl))) ?_
  (try simp only [Act.put, List.getElem_toArray, List.getElem_cons_succ, List.getElem_cons_zero, List.setIfInBounds_toArray, List.set_cons_zero, List.set_cons_succ])
  refine wpLA_take (.bool true) (yG_val _ (by rfl) (fun w' _ => by (go_simp; try rfl))) ?_
  (try simp only [Act.put, List.getElem_toArray, List.getElem_cons_succ, List.getElem_cons_zero, List.setIfInBounds_toArray, List.set_cons_zero, List.set_cons_succ])
  refine wpLA_take (.bool true) (yG_val _ (by rfl) (fun w' _ => by (go_simp; try rfl))) ?_
  (try simp only [Act.put, List.getElem_toArray, List.getElem_cons_succ, List.getElem_cons_zero, List.setIfInBounds_toArray, List.set_cons_zero, List.set_cons_succ])
  refine wpLA_take (.int .u8 0) (yG_val _ (by rfl) (fun w' _ => by (go_simp; try rfl))) ?_
  (try simp only [Act.put, List.getElem_toArray, List.getElem_cons_succ, List.getElem_cons_zero, List.setIfInBounds_toArray, List.set_cons_zero, List.set_cons_succ])
  refine wpLA_take (.int .i64 0) (yG_val _ (by rfl) (fun w' _ => by (go_simp; try rfl))) ?_
  (try simp only [Act.put, List.getElem_toArray, List.getElem_cons_succ, List.getElem_cons_zero, List.setIfInBounds_toArray, List.set_cons_zero, List.set_cons_succ])
  refine wpLA_take (.bool true) (yG_val _ (by rfl) (fun w' _ => by (go_simp; try rfl))) ?_
  (try simp only [Act.put, List.getElem_toArray, List.getElem_cons_succ, List.getElem_cons_zero, List.setIfInBounds_toArray, List.set_cons_zero, List.set_cons_succ])
  refine wpLA_take (.bool true) (yG_val _ (by rfl) (fun w' _ => by (go_simp; try rfl))) ?_
  (try simp only [Act.put, List.getElem_toArray, List.getElem_cons_succ, List.getElem_cons_zero, List.setIfInBounds_toArray, List.set_cons_zero, List.set_cons_succ])
  refine wpLA_take (.bool true) (yG_val _ (by rfl) (fun w' _ => by (go_simp; try rfl))) ?_
  (try simp only [Act.put, List.getElem_toArray, List.getElem_cons_succ, List.getElem_cons_zero, List.setIfInBounds_toArray, List.set_cons_zero, List.set_cons_succ])
  refine wpLA_take (.slice A5 32 c5) (yG_val _ (by rfl) (fun w' _ => by (go_simp; try rfl))) ?_
  (try simp only [Act.put, List.getElem_toArray, List.getElem_cons_succ, List.getElem_cons_zero, List.setIfInBounds_toArray, List.set_cons_zero, List.set_cons_succ])
  refine wpLA_take (.slice B3 32 d3) (yG_val _ (by rfl) (fun w' _ => by (go_simp; try rfl))) ?_
  (try simp only [Act.put, List.getElem_toArray, List.getElem_cons_succ, List.getElem_cons_zero, List.setIfInBounds_toArray, List.set_cons_zero, List.set_cons_succ])
  refine wpLA_take (.bool true) (yG_call (by rfl) (fun w' => by go_simp) (fun w' hb => KS.out A5 c5 B3 d3 w' (S9.out.on hb).sq.2.2.1 (S9.out.on hb).sq.2.2.2.2.1)) ?_
  (try simp only [Act.put, List.getElem_toArray, List.getElem_cons_succ, List.getElem_cons_zero, List.setIfInBounds_toArray, List.set_cons_zero, List.set_cons_succ])
  refine wpLA_take (.bool true) (yG_val _ (by rfl) (fun w' _ => by (go_simp; try rfl))) ?_
  (try simp only [Act.put, List.getElem_toArray, List.getElem_cons_succ, List.getElem_cons_zero, List.setIfInBounds_toArray, List.set_cons_zero, List.set_cons_succ])
  refine wpLA_take (.bool true) (yG_val _ (by rfl) (fun w' _ => by (go_simp; try rfl))) ?_
  (try simp only [Act.put, List.getElem_toArray, List.getElem_cons_succ, List.getElem_cons_zero, List.setIfInBounds_toArray, List.set_cons_zero, List.set_cons_succ])
  refine wpLA_take (.int .u8 11) (yG_val _ (by rfl) (fun w' _ => by (go_simp; try rfl))) ?_
  (try simp only [Act.put, List.getElem_toArray, List.getElem_cons_succ, List.getElem_cons_zero, List.setIfInBounds_toArray, List.set_cons_zero, List.set_cons_succ])
  refine wpLA_take (.int .i64 11) (yG_val _ (by rfl) (fun w' _ => by (go_simp; try rfl))) ?_
  (try simp only [Act.put, List.getElem_toArray, List.getElem_cons_succ, List.getElem_cons_zero, List.setIfInBounds_toArray, List.set_cons_zero, List.set_cons_succ])
  refine wpLA_take (.bool true) (yG_val _ (by rfl) (fun w' _ => by (go_simp; try rfl))) ?_
  (try simp only [Act.put, List.getElem_toArray, List.getElem_cons_succ, List.getElem_cons_zero, List.setIfInBounds_toArray, List.set_cons_zero, List.set_cons_succ])
  refine wpLA_take (.bool true) (yG_val _ (by rfl) (fun w' _ => by (go_simp; try rfl))) ?_
  (try simp only [Act.put, List.getElem_toArray, List.getElem_cons_succ, List.getElem_cons_zero, List.setIfInBounds_toArray, List.set_cons_zero, List.set_cons_succ])
  refine wpLA_take (.bool true) (yG_val _ (by rfl) (fun w' _ => by (go_simp; try rfl))) ?_
  (try simp only [Act.put, List.getElem_toArray, List.getElem_cons_succ, List.getElem_cons_zero, List.setIfInBounds_toArray, List.set_cons_zero, List.set_cons_succ])
  refine wpLA_end ?_
  intro w10 hb
  have S10 := hid (S9.out.on hb)
  clear hb S9
  go_wp2_with fail
  go_ret
  exact ⟨rfl, S10.out.below⟩
end Go.Proofs.YtpkmidaflnbobaaGreatDoor
end
section
namespace Go.Proofs.YtpkmidaflnbobaaGreatDoor
open Go Go.RowKit
set_option linter.unusedVariables false
set_option linter.unusedSimpArgs false
/-- The package's own opening and sealing, as bytes and whether. -/
def ByNo (w : World) (e : Ending) (w' : World) : Prop := ∃ A c, e = .returned (.tuple #[.slice A 0 c, .bool false]) ∧ Below w.heap.size w w'
theorem gopen_ok (hGO : OpenOk) {key nonce box tx : List UInt8} {l t : Nat} (A : Option Addr) (c : Nat) (A' : Option Addr) (c' : Nat) (A2 : Option Addr) (c2 : Nat) (W : World) (h : Sq W W.heap.size A c (bvs key)) (h' : Sq W W.heap.size A' c' (bvs nonce)) (h2 : Sq W W.heap.size A2 c2 (bvs box))
    (hk : key.length = 16) (hn : nonce.length = 12) (hb : box.length = l) (hl : l ≤ 1000) (ho : opens key nonce box []) (ht : tx = maskedL key nonce (box.take (box.length - 16))) (hlt : tx.length = t) :
    Calls Tryz.prog 20 #[.slice A 16 c, .slice A' 12 c', .slice A2 l c2, .slice none 0 0] W (ByOk W t tx true) :=
  (hGO A A' A2 none key nonce box [] 16 12 l 0 c c' c2 0 W h h' h2 Sq.nil hk hn hb rfl (by omega) (by omega) hl (by omega)).mono fun e w' hr => by
    obtain ⟨hr, hb⟩ := hr
    rw [if_pos ho, ← ht] at hr
    obtain ⟨v, rfl, hv⟩ := hr
    obtain ⟨At, ct, rfl, hq⟩ := own_n hv hlt
    exact ⟨At, ct, rfl, hq.sq, hb⟩
theorem gopen_no (hGO : OpenOk) {key nonce box : List UInt8} {l : Nat} (A : Option Addr) (c : Nat) (A' : Option Addr) (c' : Nat) (A2 : Option Addr) (c2 : Nat) (W : World) (h : Sq W W.heap.size A c (bvs key)) (h' : Sq W W.heap.size A' c' (bvs nonce)) (h2 : Sq W W.heap.size A2 c2 (bvs box))
    (hk : key.length = 16) (hn : nonce.length = 12) (hb : box.length = l) (hl : l ≤ 1000) (ho : ¬ opens key nonce box []) :
    Calls Tryz.prog 20 #[.slice A 16 c, .slice A' 12 c', .slice A2 l c2, .slice none 0 0] W (ByNo W) :=
  (hGO A A' A2 none key nonce box [] 16 12 l 0 c c' c2 0 W h h' h2 Sq.nil hk hn hb rfl (by omega) (by omega) hl (by omega)).mono fun e w' hr => by
    obtain ⟨hr, hb⟩ := hr
    rw [if_neg ho] at hr
    obtain ⟨A4, c4, rfl⟩ := hr
    exact ⟨A4, c4, rfl, hb⟩
set_option maxRecDepth 100000 in
set_option maxHeartbeats 4000000 in
theorem hpkeUnwraps_any (hP : PairOk) (hO : OpenOk13) (hU : UnwrapOk) (hGO : OpenOk) (A : Option Addr) (xs : List UInt8) (c : Nat) (A' : Option Addr) (ys : List UInt8) (c' : Nat) (A2 : Option Addr) (is : List UInt8) (c2 : Nat) (A3 : Option Addr) (bs : List UInt8) (c3 : Nat) (w : World) (hG : Glob w) (hS_xs : Sq w w.heap.size A c (bvs xs)) (hS_ys : Sq w w.heap.size A' c' (bvs ys)) (hS_is : Sq w w.heap.size A2 c2 (bvs is)) (hS_bs : Sq w w.heap.size A3 c3 (bvs bs)) :
    Calls Tryz.prog 5 #[.slice A xs.length c, .slice A' ys.length c', .slice A2 is.length c2, .slice A3 bs.length c3] w fun e w' => e = .returned (.bool true) ∧ Below w.heap.size w w' := by
  have HG := hid hG
  have KA : Hid (∀ (W : World), Glob W → Calls Tryz.prog 9 #[] W fun e w' => e = .returned (.bool true) ∧ Below W.heap.size W w') := hid fun W h => alive13_any hP hO W h
  obtain ⟨n, hn_xs⟩ : ∃ n, xs.length = n := ⟨_, rfl⟩
  rw [hn_xs]
  have Q_xs := hid hS_xs
  obtain ⟨m, hn_ys⟩ : ∃ n, ys.length = n := ⟨_, rfl⟩
  rw [hn_ys]
  have Q_ys := hid hS_ys
  obtain ⟨k, hn_is⟩ : ∃ n, is.length = n := ⟨_, rfl⟩
  rw [hn_is]
  have Q_is := hid hS_is
  obtain ⟨l, hn_bs⟩ : ∃ n, bs.length = n := ⟨_, rfl⟩
  rw [hn_bs]
  have Q_bs := hid hS_bs
  clear hG hS_xs hS_ys hS_is hS_bs
  have HB0 : Hid (Below w.heap.size w w) := hid (Below.refl _ _)
  go_enter Tryz.func5, Tryz.ntmps5
  go_wp2_with fail
  refine (KA.out  w (HG.out.below HB0.out (Nat.le_refl _)) ).mono ?_
  rintro e w1 ⟨rfl, hb⟩
  have HB1 : Hid (Below w.heap.size w w1) := hid (HB0.out.trans (hb.mono HB0.out.size))
  have Q_xs := hid (sq_on Q_xs.out hb)
  have Q_ys := hid (sq_on Q_ys.out hb)
  have Q_is := hid (sq_on Q_is.out hb)
  have Q_bs := hid (sq_on Q_bs.out hb)
  clear hb  HB0
  by_cases hl_n : 100 < n
  · have hi : (100 : Int) < ((n : Nat) : Int) := by omega
    have hd : decide ((100 : Int) < ((n : Nat) : Int)) = true := by simpa using hi
    go_wp2
    go_ret
    exact ⟨rfl, HB1.out⟩
  have hi_n : ¬ (100 : Int) < ((n : Nat) : Int) := by omega
  have hd_n : decide ((100 : Int) < ((n : Nat) : Int)) = false := by simpa using hi_n
  by_cases hl_m : 100 < m
  · have hi : (100 : Int) < ((m : Nat) : Int) := by omega
    have hd : decide ((100 : Int) < ((m : Nat) : Int)) = true := by simpa using hi
    go_wp2
    go_ret
    exact ⟨rfl, HB1.out⟩
  have hi_m : ¬ (100 : Int) < ((m : Nat) : Int) := by omega
  have hd_m : decide ((100 : Int) < ((m : Nat) : Int)) = false := by simpa using hi_m
  by_cases hl_k : 100 < k
  · have hi : (100 : Int) < ((k : Nat) : Int) := by omega
    have hd : decide ((100 : Int) < ((k : Nat) : Int)) = true := by simpa using hi
    go_wp2
    go_ret
    exact ⟨rfl, HB1.out⟩
  have hi_k : ¬ (100 : Int) < ((k : Nat) : Int) := by omega
  have hd_k : decide ((100 : Int) < ((k : Nat) : Int)) = false := by simpa using hi_k
  by_cases hl_l : 100 < l
  · have hi : (100 : Int) < ((l : Nat) : Int) := by omega
    have hd : decide ((100 : Int) < ((l : Nat) : Int)) = true := by simpa using hi
    go_wp2
    go_ret
    exact ⟨rfl, HB1.out⟩
  have hi_l : ¬ (100 : Int) < ((l : Nat) : Int) := by omega
  have hd_l : decide ((100 : Int) < ((l : Nat) : Int)) = false := by simpa using hi_l
  by_cases h32 : n ≠ 32
  · have hi1 : ¬ (n : Int) = 32 := by omega
    have hd1 : ((n : Int) != 32) = true := by simpa using hi1
    have KU : Hid (∀ (A0 : Option Addr) (c0 : Nat) (A1 : Option Addr) (c1 : Nat) (W : World), Glob W → Sq W W.heap.size A0 c0 (bvs xs) → Sq W W.heap.size A1 c1 (bvs ys) → Calls Tryz.prog 17 #[.slice A0 n c0, .slice A1 m c1] W (By1N W 0 [] 1)) := hid fun A0 c0 A1 c1 W hG h h' => by1_is (hU A0 xs n c0 A1 ys m c1 W hG h h' hn_xs hn_ys (by omega) (by omega)) (unwrap_arg (by omega)) rfl
    have KO : Hid (∀ (A0 : Option Addr) (c0 : Nat) (A1 : Option Addr) (c1 : Nat) (A2 : Option Addr) (c2 : Nat) (A3 : Option Addr) (c3 : Nat) (W : World), Glob W → Sq W W.heap.size A0 c0 (bvs xs) → Sq W W.heap.size A1 c1 (bvs ys) → Sq W W.heap.size A2 c2 (bvs is) → Sq W W.heap.size A3 c3 (bvs bs) → Calls Tryz.prog 18 #[.slice A0 n c0, .slice A1 m c1, .slice A2 k c2, .slice A3 l c3, .slice none 0 0] W (By1N W 0 [] 1)) := hid fun A0 c0 A1 c1 A2 c2 A3 c3 W hG h h' h2 h3 => by1_is (hO A0 xs n c0 A1 ys m c1 A2 is k c2 A3 bs l c3 none [] 0 0 W hG h h' h2 h3 Sq.nil hn_xs hn_ys hn_is hn_bs rfl (by omega) (by omega) (by omega) (by omega) (by omega)) (open_err (unwrap_arg (by omega)) (by decide)) rfl
    clear hP hO hU hGO KA h32
    go_wp2_with fail
    refine (KU.out A c A' c' w1 (HG.out.below HB1.out (Nat.le_refl _)) Q_xs.out Q_ys.out).mono ?_
    rintro e w2 ⟨A_s, c_s, rfl, hq_s, hb⟩
    have HB2 : Hid (Below w.heap.size w w2) := hid (HB1.out.trans (hb.mono HB1.out.size))
    have Q_xs := hid (sq_on Q_xs.out hb)
    have Q_ys := hid (sq_on Q_ys.out hb)
    have Q_is := hid (sq_on Q_is.out hb)
    have Q_bs := hid (sq_on Q_bs.out hb)
    have Q_s := hid hq_s
    clear hb hq_s HB1
    go_wp2_with fail
    refine (KO.out A c A' c' A2 c2 A3 c3 w2 (HG.out.below HB2.out (Nat.le_refl _)) Q_xs.out Q_ys.out Q_is.out Q_bs.out).mono ?_
    rintro e w3 ⟨A_t, c_t, rfl, hq_t, hb⟩
    have HB3 : Hid (Below w.heap.size w w3) := hid (HB2.out.trans (hb.mono HB2.out.size))
    have Q_xs := hid (sq_on Q_xs.out hb)
    have Q_ys := hid (sq_on Q_ys.out hb)
    have Q_is := hid (sq_on Q_is.out hb)
    have Q_bs := hid (sq_on Q_bs.out hb)
    have Q_s := hid (sq_on Q_s.out hb)
    have Q_t := hid hq_t
    clear hb hq_t HB2
    go_wp2
    go_ret
    exact ⟨rfl, HB3.out⟩
  obtain rfl : n = 32 := by omega
  clear h32
  by_cases h32 : m ≠ 32
  · have hi1 : ¬ (m : Int) = 32 := by omega
    have hd1 : ((m : Int) != 32) = true := by simpa using hi1
    have KU : Hid (∀ (A0 : Option Addr) (c0 : Nat) (A1 : Option Addr) (c1 : Nat) (W : World), Glob W → Sq W W.heap.size A0 c0 (bvs xs) → Sq W W.heap.size A1 c1 (bvs ys) → Calls Tryz.prog 17 #[.slice A0 32 c0, .slice A1 m c1] W (By1N W 0 [] 3)) := hid fun A0 c0 A1 c1 W hG h h' => by1_is (hU A0 xs 32 c0 A1 ys m c1 W hG h h' hn_xs hn_ys (by omega) (by omega)) (unwrap_len hn_xs (by omega)) rfl
    have KO : Hid (∀ (A0 : Option Addr) (c0 : Nat) (A1 : Option Addr) (c1 : Nat) (A2 : Option Addr) (c2 : Nat) (A3 : Option Addr) (c3 : Nat) (W : World), Glob W → Sq W W.heap.size A0 c0 (bvs xs) → Sq W W.heap.size A1 c1 (bvs ys) → Sq W W.heap.size A2 c2 (bvs is) → Sq W W.heap.size A3 c3 (bvs bs) → Calls Tryz.prog 18 #[.slice A0 32 c0, .slice A1 m c1, .slice A2 k c2, .slice A3 l c3, .slice none 0 0] W (By1N W 0 [] 3)) := hid fun A0 c0 A1 c1 A2 c2 A3 c3 W hG h h' h2 h3 => by1_is (hO A0 xs 32 c0 A1 ys m c1 A2 is k c2 A3 bs l c3 none [] 0 0 W hG h h' h2 h3 Sq.nil hn_xs hn_ys hn_is hn_bs rfl (by omega) (by omega) (by omega) (by omega) (by omega)) (open_err (unwrap_len hn_xs (by omega)) (by decide)) rfl
    clear hP hO hU hGO KA h32
    go_wp2_with fail
    refine (KU.out A c A' c' w1 (HG.out.below HB1.out (Nat.le_refl _)) Q_xs.out Q_ys.out).mono ?_
    rintro e w2 ⟨A_s, c_s, rfl, hq_s, hb⟩
    have HB2 : Hid (Below w.heap.size w w2) := hid (HB1.out.trans (hb.mono HB1.out.size))
    have Q_xs := hid (sq_on Q_xs.out hb)
    have Q_ys := hid (sq_on Q_ys.out hb)
    have Q_is := hid (sq_on Q_is.out hb)
    have Q_bs := hid (sq_on Q_bs.out hb)
    have Q_s := hid hq_s
    clear hb hq_s HB1
    go_wp2_with fail
    refine (KO.out A c A' c' A2 c2 A3 c3 w2 (HG.out.below HB2.out (Nat.le_refl _)) Q_xs.out Q_ys.out Q_is.out Q_bs.out).mono ?_
    rintro e w3 ⟨A_t, c_t, rfl, hq_t, hb⟩
    have HB3 : Hid (Below w.heap.size w w3) := hid (HB2.out.trans (hb.mono HB2.out.size))
    have Q_xs := hid (sq_on Q_xs.out hb)
    have Q_ys := hid (sq_on Q_ys.out hb)
    have Q_is := hid (sq_on Q_is.out hb)
    have Q_bs := hid (sq_on Q_bs.out hb)
    have Q_s := hid (sq_on Q_s.out hb)
    have Q_t := hid hq_t
    clear hb hq_t HB2
    go_wp2
    go_ret
    exact ⟨rfl, HB3.out⟩
  obtain rfl : m = 32 := by omega
  clear h32
  by_cases hz : dhV xs ys = z32
  · have KU : Hid (∀ (A0 : Option Addr) (c0 : Nat) (A1 : Option Addr) (c1 : Nat) (W : World), Glob W → Sq W W.heap.size A0 c0 (bvs xs) → Sq W W.heap.size A1 c1 (bvs ys) → Calls Tryz.prog 17 #[.slice A0 32 c0, .slice A1 32 c1] W (By1N W 0 [] 9)) := hid fun A0 c0 A1 c1 W hG h h' => by1_is (hU A0 xs 32 c0 A1 ys 32 c1 W hG h h' hn_xs hn_ys (by omega) (by omega)) (unwrap_zero hn_xs hn_ys hz) rfl
    have KO : Hid (∀ (A0 : Option Addr) (c0 : Nat) (A1 : Option Addr) (c1 : Nat) (A2 : Option Addr) (c2 : Nat) (A3 : Option Addr) (c3 : Nat) (W : World), Glob W → Sq W W.heap.size A0 c0 (bvs xs) → Sq W W.heap.size A1 c1 (bvs ys) → Sq W W.heap.size A2 c2 (bvs is) → Sq W W.heap.size A3 c3 (bvs bs) → Calls Tryz.prog 18 #[.slice A0 32 c0, .slice A1 32 c1, .slice A2 k c2, .slice A3 l c3, .slice none 0 0] W (By1N W 0 [] 9)) := hid fun A0 c0 A1 c1 A2 c2 A3 c3 W hG h h' h2 h3 => by1_is (hO A0 xs 32 c0 A1 ys 32 c1 A2 is k c2 A3 bs l c3 none [] 0 0 W hG h h' h2 h3 Sq.nil hn_xs hn_ys hn_is hn_bs rfl (by omega) (by omega) (by omega) (by omega) (by omega)) (open_err (unwrap_zero hn_xs hn_ys hz) (by decide)) rfl
    have KD : Hid (∀ (A0 : Option Addr) (c0 : Nat) (A1 : Option Addr) (c1 : Nat) (W : World), Sq W W.heap.size A0 c0 (bvs xs) → Sq W W.heap.size A1 c1 (bvs ys) → Calls Tryz.prog 15 #[.slice A0 32 c0, .slice A1 32 c1] W (DhErr W 9)) := hid fun A0 c0 A1 c1 W h h' => dh13_zero A0 xs c0 A1 ys c1 W h h' hn_xs hn_ys hz
    clear hP hO hU hGO KA hz
    go_wp2_with fail
    refine (KU.out A c A' c' w1 (HG.out.below HB1.out (Nat.le_refl _)) Q_xs.out Q_ys.out).mono ?_
    rintro e w2 ⟨A_s, c_s, rfl, hq_s, hb⟩
    have HB2 : Hid (Below w.heap.size w w2) := hid (HB1.out.trans (hb.mono HB1.out.size))
    have Q_xs := hid (sq_on Q_xs.out hb)
    have Q_ys := hid (sq_on Q_ys.out hb)
    have Q_is := hid (sq_on Q_is.out hb)
    have Q_bs := hid (sq_on Q_bs.out hb)
    have Q_s := hid hq_s
    clear hb hq_s HB1
    go_wp2_with fail
    refine (KO.out A c A' c' A2 c2 A3 c3 w2 (HG.out.below HB2.out (Nat.le_refl _)) Q_xs.out Q_ys.out Q_is.out Q_bs.out).mono ?_
    rintro e w3 ⟨A_t, c_t, rfl, hq_t, hb⟩
    have HB3 : Hid (Below w.heap.size w w3) := hid (HB2.out.trans (hb.mono HB2.out.size))
    have Q_xs := hid (sq_on Q_xs.out hb)
    have Q_ys := hid (sq_on Q_ys.out hb)
    have Q_is := hid (sq_on Q_is.out hb)
    have Q_bs := hid (sq_on Q_bs.out hb)
    have Q_s := hid (sq_on Q_s.out hb)
    have Q_t := hid hq_t
    clear hb hq_t HB2
    go_wp2_with fail
    refine (KD.out A c A' c' w3 Q_xs.out Q_ys.out).mono ?_
    rintro e w4 ⟨A_d, c_d, rfl, hb⟩
    have HB4 : Hid (Below w.heap.size w w4) := hid (HB3.out.trans (hb.mono HB3.out.size))
    have Q_xs := hid (sq_on Q_xs.out hb)
    have Q_ys := hid (sq_on Q_ys.out hb)
    have Q_is := hid (sq_on Q_is.out hb)
    have Q_bs := hid (sq_on Q_bs.out hb)
    have Q_s := hid (sq_on Q_s.out hb)
    have Q_t := hid (sq_on Q_t.out hb)
    clear hb  HB3
    go_wp2
    go_ret
    exact ⟨rfl, HB4.out⟩
  obtain ⟨PB, hPB⟩ : ∃ l, l = dhV xs (b32 9) := ⟨_, rfl⟩
  have lu : PB.length = 32 := by rw [hPB]; exact dhV_length _ _
  obtain ⟨D, hD⟩ : ∃ l, l = dhV xs ys := ⟨_, rfl⟩
  have ld : D.length = 32 := by rw [hD]; exact dhV_length _ _
  obtain ⟨S, hS⟩ : ∃ l, l = sharedL D ys PB := ⟨_, rfl⟩
  have ls : S.length = 32 := by rw [hS]; exact sharedL_length _ _ _
  have hu : unwrapR xs ys = (S, 0) := by rw [hS, hD, hPB]; exact unwrap_ok hn_xs hn_ys hz
  obtain ⟨KY, hKY⟩ : ∃ l, l = keyL S is := ⟨_, rfl⟩
  obtain ⟨NO, hNO⟩ : ∃ l, l = nonL S is := ⟨_, rfl⟩
  have lk : KY.length = 16 := by rw [hKY]; exact keyL_length _ _
  have lo : NO.length = 12 := by rw [hNO]; exact nonL_length _ _
  have KD : Hid (∀ (A0 : Option Addr) (c0 : Nat) (A1 : Option Addr) (c1 : Nat) (W : World), Sq W W.heap.size A0 c0 (bvs xs) → Sq W W.heap.size A1 c1 (bvs ys) → Calls Tryz.prog 15 #[.slice A0 32 c0, .slice A1 32 c1] W (By1N W 32 D 0)) := hid fun A0 c0 A1 c1 W h h' => by rw [hD]; exact dh13_ok A0 xs c0 A1 ys c1 W h h' hn_xs hn_ys hz
  have KB : Hid (∀ (A0 : Option Addr) (c0 : Nat) (W : World), Sq W W.heap.size A0 c0 (bvs xs) → Calls Tryz.prog 12 #[.slice A0 32 c0] W (By1N W 32 PB 0)) := hid fun A0 c0 W h => by rw [hPB]; exact base13 A0 xs c0 W h hn_xs
  have KH : Hid (∀ (A0 : Option Addr) (c0 : Nat) (A1 : Option Addr) (c1 : Nat) (A2 : Option Addr) (c2 : Nat) (W : World), Sq W W.heap.size A0 c0 (bvs D) → Sq W W.heap.size A1 c1 (bvs ys) → Sq W W.heap.size A2 c2 (bvs PB) → Calls Tryz.prog 16 #[.slice A0 32 c0, .slice A1 32 c1, .slice A2 32 c2] W (ByN W 32 S)) := hid fun A0 c0 A1 c1 A2 c2 W h h' h'' => by rw [hS]; exact Shared13 A0 D 32 c0 A1 ys 32 c1 A2 PB 32 c2 W ld hn_ys lu h h' h'' ⟨by omega, by omega, by omega⟩
  have KS1 : Hid (∀ (A0 : Option Addr) (c0 : Nat) (A1 : Option Addr) (c1 : Nat) (W : World), Sq W W.heap.size A0 c0 (bvs S) → Sq W W.heap.size A1 c1 (bvs S) → Calls Tryz.prog 13 #[.slice A0 32 c0, .slice A1 32 c1] W (fun e w' => e = .returned (.bool true) ∧ Below W.heap.size W w')) := hid fun A0 c0 A1 c1 W h h' => same13 A0 c0 A1 c1 W h h' ls (by decide)
  have KK : Hid (∀ (A0 : Option Addr) (c0 : Nat) (A1 : Option Addr) (c1 : Nat) (W : World), Sq W W.heap.size A0 c0 (bvs S) → Sq W W.heap.size A1 c1 (bvs is) → Calls Tryz.prog 19 #[.slice A0 32 c0, .slice A1 k c1] W (By2 W 16 KY 12 NO)) := hid fun A0 c0 A1 c1 W h h' => by rw [hKY, hNO]; exact Key13 A0 S 32 c0 A1 is k c1 W ls hn_is h h' ⟨by omega, by omega⟩
  clear hPB lu hD ld hS hz
  by_cases ho : ¬ opens KY NO bs []
  · have KU : Hid (∀ (A0 : Option Addr) (c0 : Nat) (A1 : Option Addr) (c1 : Nat) (W : World), Glob W → Sq W W.heap.size A0 c0 (bvs xs) → Sq W W.heap.size A1 c1 (bvs ys) → Calls Tryz.prog 17 #[.slice A0 32 c0, .slice A1 32 c1] W (By1N W 32 S 0)) := hid fun A0 c0 A1 c1 W hG h h' => by1_is (hU A0 xs 32 c0 A1 ys 32 c1 W hG h h' hn_xs hn_ys (by omega) (by omega)) hu ls
    have KO : Hid (∀ (A0 : Option Addr) (c0 : Nat) (A1 : Option Addr) (c1 : Nat) (A2 : Option Addr) (c2 : Nat) (A3 : Option Addr) (c3 : Nat) (W : World), Glob W → Sq W W.heap.size A0 c0 (bvs xs) → Sq W W.heap.size A1 c1 (bvs ys) → Sq W W.heap.size A2 c2 (bvs is) → Sq W W.heap.size A3 c3 (bvs bs) → Calls Tryz.prog 18 #[.slice A0 32 c0, .slice A1 32 c1, .slice A2 k c2, .slice A3 l c3, .slice none 0 0] W (By1N W 0 [] 11)) := hid fun A0 c0 A1 c1 A2 c2 A3 c3 W hG h h' h2 h3 => by1_is (hO A0 xs 32 c0 A1 ys 32 c1 A2 is k c2 A3 bs l c3 none [] 0 0 W hG h h' h2 h3 Sq.nil hn_xs hn_ys hn_is hn_bs rfl (by omega) (by omega) (by omega) (by omega) (by omega)) (open_no hu (by rw [← hKY, ← hNO]; exact ho)) rfl
    have KG : Hid (∀ (A0 : Option Addr) (c0 : Nat) (A1 : Option Addr) (c1 : Nat) (A2 : Option Addr) (c2 : Nat) (W : World), Sq W W.heap.size A0 c0 (bvs KY) → Sq W W.heap.size A1 c1 (bvs NO) → Sq W W.heap.size A2 c2 (bvs bs) → Calls Tryz.prog 20 #[.slice A0 16 c0, .slice A1 12 c1, .slice A2 l c2, .slice none 0 0] W (ByNo W)) := hid fun A0 c0 A1 c1 A2 c2 W h h' h'' => gopen_no hGO A0 c0 A1 c1 A2 c2 W h h' h'' lk lo hn_bs (by omega) ho
    clear hP hO hU hGO KA ho hu hKY hNO lk lo ls
    go_wp2_with fail
    refine (KU.out A c A' c' w1 (HG.out.below HB1.out (Nat.le_refl _)) Q_xs.out Q_ys.out).mono ?_
    rintro e w2 ⟨A_s, c_s, rfl, hq_s, hb⟩
    have HB2 : Hid (Below w.heap.size w w2) := hid (HB1.out.trans (hb.mono HB1.out.size))
    have Q_xs := hid (sq_on Q_xs.out hb)
    have Q_ys := hid (sq_on Q_ys.out hb)
    have Q_is := hid (sq_on Q_is.out hb)
    have Q_bs := hid (sq_on Q_bs.out hb)
    have Q_s := hid hq_s
    clear hb hq_s HB1
    go_wp2_with fail
    refine (KO.out A c A' c' A2 c2 A3 c3 w2 (HG.out.below HB2.out (Nat.le_refl _)) Q_xs.out Q_ys.out Q_is.out Q_bs.out).mono ?_
    rintro e w3 ⟨A_t, c_t, rfl, hq_t, hb⟩
    have HB3 : Hid (Below w.heap.size w w3) := hid (HB2.out.trans (hb.mono HB2.out.size))
    have Q_xs := hid (sq_on Q_xs.out hb)
    have Q_ys := hid (sq_on Q_ys.out hb)
    have Q_is := hid (sq_on Q_is.out hb)
    have Q_bs := hid (sq_on Q_bs.out hb)
    have Q_s := hid (sq_on Q_s.out hb)
    have Q_t := hid hq_t
    clear hb hq_t HB2
    go_wp2_with fail
    refine (KD.out A c A' c' w3 Q_xs.out Q_ys.out).mono ?_
    rintro e w4 ⟨A_d, c_d, rfl, hq_d, hb⟩
    have HB4 : Hid (Below w.heap.size w w4) := hid (HB3.out.trans (hb.mono HB3.out.size))
    have Q_xs := hid (sq_on Q_xs.out hb)
    have Q_ys := hid (sq_on Q_ys.out hb)
    have Q_is := hid (sq_on Q_is.out hb)
    have Q_bs := hid (sq_on Q_bs.out hb)
    have Q_s := hid (sq_on Q_s.out hb)
    have Q_t := hid (sq_on Q_t.out hb)
    have Q_d := hid hq_d
    clear hb hq_d HB3
    go_wp2_with fail
    refine (KB.out A c w4 Q_xs.out).mono ?_
    rintro e w5 ⟨A_b, c_b, rfl, hq_b, hb⟩
    have HB5 : Hid (Below w.heap.size w w5) := hid (HB4.out.trans (hb.mono HB4.out.size))
    have Q_xs := hid (sq_on Q_xs.out hb)
    have Q_ys := hid (sq_on Q_ys.out hb)
    have Q_is := hid (sq_on Q_is.out hb)
    have Q_bs := hid (sq_on Q_bs.out hb)
    have Q_s := hid (sq_on Q_s.out hb)
    have Q_t := hid (sq_on Q_t.out hb)
    have Q_d := hid (sq_on Q_d.out hb)
    have Q_b := hid hq_b
    clear hb hq_b HB4
    go_wp2_with fail
    refine (KH.out A_d c_d A' c' A_b c_b w5 Q_d.out Q_ys.out Q_b.out).mono ?_
    rintro e w6 ⟨A_u, c_u, rfl, hq_u, hb⟩
    have HB6 : Hid (Below w.heap.size w w6) := hid (HB5.out.trans (hb.mono HB5.out.size))
    have Q_xs := hid (sq_on Q_xs.out hb)
    have Q_ys := hid (sq_on Q_ys.out hb)
    have Q_is := hid (sq_on Q_is.out hb)
    have Q_bs := hid (sq_on Q_bs.out hb)
    have Q_s := hid (sq_on Q_s.out hb)
    have Q_t := hid (sq_on Q_t.out hb)
    have Q_d := hid (sq_on Q_d.out hb)
    have Q_b := hid (sq_on Q_b.out hb)
    have Q_u := hid hq_u
    clear hb hq_u HB5
    go_wp2_with fail
    refine (KS1.out A_s c_s A_u c_u w6 Q_s.out Q_u.out).mono ?_
    rintro e w7 ⟨rfl, hb⟩
    have HB7 : Hid (Below w.heap.size w w7) := hid (HB6.out.trans (hb.mono HB6.out.size))
    have Q_xs := hid (sq_on Q_xs.out hb)
    have Q_ys := hid (sq_on Q_ys.out hb)
    have Q_is := hid (sq_on Q_is.out hb)
    have Q_bs := hid (sq_on Q_bs.out hb)
    have Q_s := hid (sq_on Q_s.out hb)
    have Q_t := hid (sq_on Q_t.out hb)
    have Q_d := hid (sq_on Q_d.out hb)
    have Q_b := hid (sq_on Q_b.out hb)
    have Q_u := hid (sq_on Q_u.out hb)
    clear hb  HB6
    go_wp2_with fail
    refine (KK.out A_u c_u A2 c2 w7 Q_u.out Q_is.out).mono ?_
    rintro e w8 ⟨A_ky, c_ky, A_no, c_no, rfl, hq_ky, hq_no, hb⟩
    have HB8 : Hid (Below w.heap.size w w8) := hid (HB7.out.trans (hb.mono HB7.out.size))
    have Q_xs := hid (sq_on Q_xs.out hb)
    have Q_ys := hid (sq_on Q_ys.out hb)
    have Q_is := hid (sq_on Q_is.out hb)
    have Q_bs := hid (sq_on Q_bs.out hb)
    have Q_s := hid (sq_on Q_s.out hb)
    have Q_t := hid (sq_on Q_t.out hb)
    have Q_d := hid (sq_on Q_d.out hb)
    have Q_b := hid (sq_on Q_b.out hb)
    have Q_u := hid (sq_on Q_u.out hb)
    have Q_ky := hid hq_ky
    have Q_no := hid hq_no
    clear hb hq_ky hq_no HB7
    go_wp2_with fail
    refine (KG.out A_ky c_ky A_no c_no A3 c3 w8 Q_ky.out Q_no.out Q_bs.out).mono ?_
    rintro e w9 ⟨A_g, c_g, rfl, hb⟩
    have HB9 : Hid (Below w.heap.size w w9) := hid (HB8.out.trans (hb.mono HB8.out.size))
    have Q_xs := hid (sq_on Q_xs.out hb)
    have Q_ys := hid (sq_on Q_ys.out hb)
    have Q_is := hid (sq_on Q_is.out hb)
    have Q_bs := hid (sq_on Q_bs.out hb)
    have Q_s := hid (sq_on Q_s.out hb)
    have Q_t := hid (sq_on Q_t.out hb)
    have Q_d := hid (sq_on Q_d.out hb)
    have Q_b := hid (sq_on Q_b.out hb)
    have Q_u := hid (sq_on Q_u.out hb)
    have Q_ky := hid (sq_on Q_ky.out hb)
    have Q_no := hid (sq_on Q_no.out hb)
    clear hb  HB8
    go_wp2
    go_ret
    exact ⟨rfl, HB9.out⟩
  have ho : opens KY NO bs [] := by simpa using ho
  obtain ⟨TX, hTX⟩ : ∃ l, l = maskedL KY NO (bs.take (bs.length - 16)) := ⟨_, rfl⟩
  obtain ⟨t, lt⟩ : ∃ t, TX.length = t := ⟨_, rfl⟩
  have ltb : t ≤ 100 := by rw [← lt, hTX, maskedL_length, List.length_take]; omega
  have KU : Hid (∀ (A0 : Option Addr) (c0 : Nat) (A1 : Option Addr) (c1 : Nat) (W : World), Glob W → Sq W W.heap.size A0 c0 (bvs xs) → Sq W W.heap.size A1 c1 (bvs ys) → Calls Tryz.prog 17 #[.slice A0 32 c0, .slice A1 32 c1] W (By1N W 32 S 0)) := hid fun A0 c0 A1 c1 W hG h h' => by1_is (hU A0 xs 32 c0 A1 ys 32 c1 W hG h h' hn_xs hn_ys (by omega) (by omega)) hu ls
  have KO : Hid (∀ (A0 : Option Addr) (c0 : Nat) (A1 : Option Addr) (c1 : Nat) (A2 : Option Addr) (c2 : Nat) (A3 : Option Addr) (c3 : Nat) (W : World), Glob W → Sq W W.heap.size A0 c0 (bvs xs) → Sq W W.heap.size A1 c1 (bvs ys) → Sq W W.heap.size A2 c2 (bvs is) → Sq W W.heap.size A3 c3 (bvs bs) → Calls Tryz.prog 18 #[.slice A0 32 c0, .slice A1 32 c1, .slice A2 k c2, .slice A3 l c3, .slice none 0 0] W (By1N W t TX 0)) := hid fun A0 c0 A1 c1 A2 c2 A3 c3 W hG h h' h2 h3 => by1_is (hO A0 xs 32 c0 A1 ys 32 c1 A2 is k c2 A3 bs l c3 none [] 0 0 W hG h h' h2 h3 Sq.nil hn_xs hn_ys hn_is hn_bs rfl (by omega) (by omega) (by omega) (by omega) (by omega)) (by rw [hTX, hKY, hNO]; exact open_ok hu (by rw [← hKY, ← hNO]; exact ho)) lt
  have KG : Hid (∀ (A0 : Option Addr) (c0 : Nat) (A1 : Option Addr) (c1 : Nat) (A2 : Option Addr) (c2 : Nat) (W : World), Sq W W.heap.size A0 c0 (bvs KY) → Sq W W.heap.size A1 c1 (bvs NO) → Sq W W.heap.size A2 c2 (bvs bs) → Calls Tryz.prog 20 #[.slice A0 16 c0, .slice A1 12 c1, .slice A2 l c2, .slice none 0 0] W (ByOk W t TX true)) := hid fun A0 c0 A1 c1 A2 c2 W h h' h'' => gopen_ok hGO A0 c0 A1 c1 A2 c2 W h h' h'' lk lo hn_bs (by omega) ho hTX lt
  have KS2 : Hid (∀ (A0 : Option Addr) (c0 : Nat) (A1 : Option Addr) (c1 : Nat) (W : World), Sq W W.heap.size A0 c0 (bvs TX) → Sq W W.heap.size A1 c1 (bvs TX) → Calls Tryz.prog 13 #[.slice A0 t c0, .slice A1 t c1] W (fun e w' => e = .returned (.bool true) ∧ Below W.heap.size W w')) := hid fun A0 c0 A1 c1 W h h' => same13 A0 c0 A1 c1 W h h' lt (by omega)
  clear hP hO hU hGO KA ho hu hKY hNO lk lo ls hTX lt ltb
  go_wp2_with fail
  refine (KU.out A c A' c' w1 (HG.out.below HB1.out (Nat.le_refl _)) Q_xs.out Q_ys.out).mono ?_
  rintro e w2 ⟨A_s, c_s, rfl, hq_s, hb⟩
  have HB2 : Hid (Below w.heap.size w w2) := hid (HB1.out.trans (hb.mono HB1.out.size))
  have Q_xs := hid (sq_on Q_xs.out hb)
  have Q_ys := hid (sq_on Q_ys.out hb)
  have Q_is := hid (sq_on Q_is.out hb)
  have Q_bs := hid (sq_on Q_bs.out hb)
  have Q_s := hid hq_s
  clear hb hq_s HB1
  go_wp2_with fail
  refine (KO.out A c A' c' A2 c2 A3 c3 w2 (HG.out.below HB2.out (Nat.le_refl _)) Q_xs.out Q_ys.out Q_is.out Q_bs.out).mono ?_
  rintro e w3 ⟨A_t, c_t, rfl, hq_t, hb⟩
  have HB3 : Hid (Below w.heap.size w w3) := hid (HB2.out.trans (hb.mono HB2.out.size))
  have Q_xs := hid (sq_on Q_xs.out hb)
  have Q_ys := hid (sq_on Q_ys.out hb)
  have Q_is := hid (sq_on Q_is.out hb)
  have Q_bs := hid (sq_on Q_bs.out hb)
  have Q_s := hid (sq_on Q_s.out hb)
  have Q_t := hid hq_t
  clear hb hq_t HB2
  go_wp2_with fail
  refine (KD.out A c A' c' w3 Q_xs.out Q_ys.out).mono ?_
  rintro e w4 ⟨A_d, c_d, rfl, hq_d, hb⟩
  have HB4 : Hid (Below w.heap.size w w4) := hid (HB3.out.trans (hb.mono HB3.out.size))
  have Q_xs := hid (sq_on Q_xs.out hb)
  have Q_ys := hid (sq_on Q_ys.out hb)
  have Q_is := hid (sq_on Q_is.out hb)
  have Q_bs := hid (sq_on Q_bs.out hb)
  have Q_s := hid (sq_on Q_s.out hb)
  have Q_t := hid (sq_on Q_t.out hb)
  have Q_d := hid hq_d
  clear hb hq_d HB3
  go_wp2_with fail
  refine (KB.out A c w4 Q_xs.out).mono ?_
  rintro e w5 ⟨A_b, c_b, rfl, hq_b, hb⟩
  have HB5 : Hid (Below w.heap.size w w5) := hid (HB4.out.trans (hb.mono HB4.out.size))
  have Q_xs := hid (sq_on Q_xs.out hb)
  have Q_ys := hid (sq_on Q_ys.out hb)
  have Q_is := hid (sq_on Q_is.out hb)
  have Q_bs := hid (sq_on Q_bs.out hb)
  have Q_s := hid (sq_on Q_s.out hb)
  have Q_t := hid (sq_on Q_t.out hb)
  have Q_d := hid (sq_on Q_d.out hb)
  have Q_b := hid hq_b
  clear hb hq_b HB4
  go_wp2_with fail
  refine (KH.out A_d c_d A' c' A_b c_b w5 Q_d.out Q_ys.out Q_b.out).mono ?_
  rintro e w6 ⟨A_u, c_u, rfl, hq_u, hb⟩
  have HB6 : Hid (Below w.heap.size w w6) := hid (HB5.out.trans (hb.mono HB5.out.size))
  have Q_xs := hid (sq_on Q_xs.out hb)
  have Q_ys := hid (sq_on Q_ys.out hb)
  have Q_is := hid (sq_on Q_is.out hb)
  have Q_bs := hid (sq_on Q_bs.out hb)
  have Q_s := hid (sq_on Q_s.out hb)
  have Q_t := hid (sq_on Q_t.out hb)
  have Q_d := hid (sq_on Q_d.out hb)
  have Q_b := hid (sq_on Q_b.out hb)
  have Q_u := hid hq_u
  clear hb hq_u HB5
  go_wp2_with fail
  refine (KS1.out A_s c_s A_u c_u w6 Q_s.out Q_u.out).mono ?_
  rintro e w7 ⟨rfl, hb⟩
  have HB7 : Hid (Below w.heap.size w w7) := hid (HB6.out.trans (hb.mono HB6.out.size))
  have Q_xs := hid (sq_on Q_xs.out hb)
  have Q_ys := hid (sq_on Q_ys.out hb)
  have Q_is := hid (sq_on Q_is.out hb)
  have Q_bs := hid (sq_on Q_bs.out hb)
  have Q_s := hid (sq_on Q_s.out hb)
  have Q_t := hid (sq_on Q_t.out hb)
  have Q_d := hid (sq_on Q_d.out hb)
  have Q_b := hid (sq_on Q_b.out hb)
  have Q_u := hid (sq_on Q_u.out hb)
  clear hb  HB6
  go_wp2_with fail
  refine (KK.out A_u c_u A2 c2 w7 Q_u.out Q_is.out).mono ?_
  rintro e w8 ⟨A_ky, c_ky, A_no, c_no, rfl, hq_ky, hq_no, hb⟩
  have HB8 : Hid (Below w.heap.size w w8) := hid (HB7.out.trans (hb.mono HB7.out.size))
  have Q_xs := hid (sq_on Q_xs.out hb)
  have Q_ys := hid (sq_on Q_ys.out hb)
  have Q_is := hid (sq_on Q_is.out hb)
  have Q_bs := hid (sq_on Q_bs.out hb)
  have Q_s := hid (sq_on Q_s.out hb)
  have Q_t := hid (sq_on Q_t.out hb)
  have Q_d := hid (sq_on Q_d.out hb)
  have Q_b := hid (sq_on Q_b.out hb)
  have Q_u := hid (sq_on Q_u.out hb)
  have Q_ky := hid hq_ky
  have Q_no := hid hq_no
  clear hb hq_ky hq_no HB7
  go_wp2_with fail
  refine (KG.out A_ky c_ky A_no c_no A3 c3 w8 Q_ky.out Q_no.out Q_bs.out).mono ?_
  rintro e w9 ⟨A_g, c_g, rfl, hq_g, hb⟩
  have HB9 : Hid (Below w.heap.size w w9) := hid (HB8.out.trans (hb.mono HB8.out.size))
  have Q_xs := hid (sq_on Q_xs.out hb)
  have Q_ys := hid (sq_on Q_ys.out hb)
  have Q_is := hid (sq_on Q_is.out hb)
  have Q_bs := hid (sq_on Q_bs.out hb)
  have Q_s := hid (sq_on Q_s.out hb)
  have Q_t := hid (sq_on Q_t.out hb)
  have Q_d := hid (sq_on Q_d.out hb)
  have Q_b := hid (sq_on Q_b.out hb)
  have Q_u := hid (sq_on Q_u.out hb)
  have Q_ky := hid (sq_on Q_ky.out hb)
  have Q_no := hid (sq_on Q_no.out hb)
  have Q_g := hid hq_g
  clear hb hq_g HB8
  go_wp2_with fail
  refine (KS2.out A_t c_t A_g c_g w9 Q_t.out Q_g.out).mono ?_
  rintro e w10 ⟨rfl, hb⟩
  have HB10 : Hid (Below w.heap.size w w10) := hid (HB9.out.trans (hb.mono HB9.out.size))
  have Q_xs := hid (sq_on Q_xs.out hb)
  have Q_ys := hid (sq_on Q_ys.out hb)
  have Q_is := hid (sq_on Q_is.out hb)
  have Q_bs := hid (sq_on Q_bs.out hb)
  have Q_s := hid (sq_on Q_s.out hb)
  have Q_t := hid (sq_on Q_t.out hb)
  have Q_d := hid (sq_on Q_d.out hb)
  have Q_b := hid (sq_on Q_b.out hb)
  have Q_u := hid (sq_on Q_u.out hb)
  have Q_ky := hid (sq_on Q_ky.out hb)
  have Q_no := hid (sq_on Q_no.out hb)
  have Q_g := hid (sq_on Q_g.out hb)
  clear hb  HB9
  go_wp2
  go_ret
  exact ⟨rfl, HB10.out⟩
end Go.Proofs.YtpkmidaflnbobaaGreatDoor
end
section
namespace Go.Proofs.YtpkmidaflnbobaaGreatDoor
open Go Go.RowKit
set_option linter.unusedVariables false
set_option linter.unusedSimpArgs false
theorem gseal_ok (hGS : SealOk) {key nonce text more bx : List UInt8} {l q d : Nat} (A : Option Addr) (c : Nat) (A' : Option Addr) (c' : Nat) (A2 : Option Addr) (c2 : Nat) (A3 : Option Addr) (c3 : Nat) (W : World) (h : Sq W W.heap.size A c (bvs key)) (h' : Sq W W.heap.size A' c' (bvs nonce)) (h2 : Sq W W.heap.size A2 c2 (bvs text)) (h3 : Sq W W.heap.size A3 c3 (bvs more))
    (hk : key.length = 16) (hn : nonce.length = 12) (ht : text.length = l) (hm : more.length = q) (hl : l ≤ 1000) (hq : q ≤ 1000) (hb : bx = seal12L key nonce text more) (hd : bx.length = d) :
    Calls Tryz.prog 22 #[.slice A 16 c, .slice A' 12 c', .slice A2 l c2, .slice A3 q c3] W (ByOk W d bx true) :=
  (hGS A A' A2 A3 key nonce text more 16 12 l q c c' c2 c3 W h h' h2 h3 hk hn ht hm (by omega) (by omega) hl hq).mono fun e w' hr => by
    obtain ⟨hr, hb2⟩ := hr
    rw [if_pos ⟨rfl, rfl⟩, ← hb] at hr
    obtain ⟨v, rfl, hv⟩ := hr
    obtain ⟨At, ct, rfl, hq⟩ := own_n hv hd
    exact ⟨At, ct, rfl, hq.sq, hb2⟩
set_option maxRecDepth 100000 in
set_option maxHeartbeats 4000000 in
theorem hpkeSeals_any (hP : PairOk) (hO : OpenOk13) (hW : WrapOk) (hSl : SealOk13) (hGS : SealOk) (A : Option Addr) (xs : List UInt8) (c : Nat) (A' : Option Addr) (ys : List UInt8) (c' : Nat) (A2 : Option Addr) (is : List UInt8) (c2 : Nat) (A3 : Option Addr) (ts : List UInt8) (c3 : Nat) (A4 : Option Addr) (ms : List UInt8) (c4 : Nat) (w : World) (hG : Glob w) (hS_xs : Sq w w.heap.size A c (bvs xs)) (hS_ys : Sq w w.heap.size A' c' (bvs ys)) (hS_is : Sq w w.heap.size A2 c2 (bvs is)) (hS_ts : Sq w w.heap.size A3 c3 (bvs ts)) (hS_ms : Sq w w.heap.size A4 c4 (bvs ms)) :
    Calls Tryz.prog 6 #[.slice A xs.length c, .slice A' ys.length c', .slice A2 is.length c2, .slice A3 ts.length c3, .slice A4 ms.length c4] w fun e w' => e = .returned (.bool true) ∧ Below w.heap.size w w' := by
  have HG := hid hG
  have KA : Hid (∀ (W : World), Glob W → Calls Tryz.prog 9 #[] W fun e w' => e = .returned (.bool true) ∧ Below W.heap.size W w') := hid fun W h => alive13_any hP hO W h
  obtain ⟨n, hn_xs⟩ : ∃ n, xs.length = n := ⟨_, rfl⟩
  rw [hn_xs]
  have Q_xs := hid hS_xs
  obtain ⟨m, hn_ys⟩ : ∃ n, ys.length = n := ⟨_, rfl⟩
  rw [hn_ys]
  have Q_ys := hid hS_ys
  obtain ⟨k, hn_is⟩ : ∃ n, is.length = n := ⟨_, rfl⟩
  rw [hn_is]
  have Q_is := hid hS_is
  obtain ⟨l, hn_ts⟩ : ∃ n, ts.length = n := ⟨_, rfl⟩
  rw [hn_ts]
  have Q_ts := hid hS_ts
  obtain ⟨q, hn_ms⟩ : ∃ n, ms.length = n := ⟨_, rfl⟩
  rw [hn_ms]
  have Q_ms := hid hS_ms
  clear hG hS_xs hS_ys hS_is hS_ts hS_ms
  have HB0 : Hid (Below w.heap.size w w) := hid (Below.refl _ _)
  go_enter Tryz.func6, Tryz.ntmps6
  go_wp2_with fail
  refine (KA.out  w (HG.out.below HB0.out (Nat.le_refl _)) ).mono ?_
  rintro e w1 ⟨rfl, hb⟩
  have HB1 : Hid (Below w.heap.size w w1) := hid (HB0.out.trans (hb.mono HB0.out.size))
  have Q_xs := hid (sq_on Q_xs.out hb)
  have Q_ys := hid (sq_on Q_ys.out hb)
  have Q_is := hid (sq_on Q_is.out hb)
  have Q_ts := hid (sq_on Q_ts.out hb)
  have Q_ms := hid (sq_on Q_ms.out hb)
  clear hb  HB0
  by_cases hl_n : 100 < n
  · have hi : (100 : Int) < ((n : Nat) : Int) := by omega
    have hd : decide ((100 : Int) < ((n : Nat) : Int)) = true := by simpa using hi
    go_wp2
    go_ret
    exact ⟨rfl, HB1.out⟩
  have hi_n : ¬ (100 : Int) < ((n : Nat) : Int) := by omega
  have hd_n : decide ((100 : Int) < ((n : Nat) : Int)) = false := by simpa using hi_n
  by_cases hl_m : 100 < m
  · have hi : (100 : Int) < ((m : Nat) : Int) := by omega
    have hd : decide ((100 : Int) < ((m : Nat) : Int)) = true := by simpa using hi
    go_wp2
    go_ret
    exact ⟨rfl, HB1.out⟩
  have hi_m : ¬ (100 : Int) < ((m : Nat) : Int) := by omega
  have hd_m : decide ((100 : Int) < ((m : Nat) : Int)) = false := by simpa using hi_m
  by_cases hl_k : 100 < k
  · have hi : (100 : Int) < ((k : Nat) : Int) := by omega
    have hd : decide ((100 : Int) < ((k : Nat) : Int)) = true := by simpa using hi
    go_wp2
    go_ret
    exact ⟨rfl, HB1.out⟩
  have hi_k : ¬ (100 : Int) < ((k : Nat) : Int) := by omega
  have hd_k : decide ((100 : Int) < ((k : Nat) : Int)) = false := by simpa using hi_k
  by_cases hl_l : 100 < l
  · have hi : (100 : Int) < ((l : Nat) : Int) := by omega
    have hd : decide ((100 : Int) < ((l : Nat) : Int)) = true := by simpa using hi
    go_wp2
    go_ret
    exact ⟨rfl, HB1.out⟩
  have hi_l : ¬ (100 : Int) < ((l : Nat) : Int) := by omega
  have hd_l : decide ((100 : Int) < ((l : Nat) : Int)) = false := by simpa using hi_l
  by_cases hl_q : 100 < q
  · have hi : (100 : Int) < ((q : Nat) : Int) := by omega
    have hd : decide ((100 : Int) < ((q : Nat) : Int)) = true := by simpa using hi
    go_wp2
    go_ret
    exact ⟨rfl, HB1.out⟩
  have hi_q : ¬ (100 : Int) < ((q : Nat) : Int) := by omega
  have hd_q : decide ((100 : Int) < ((q : Nat) : Int)) = false := by simpa using hi_q
  by_cases h32 : n ≠ 32
  · have hi1 : ¬ (n : Int) = 32 := by omega
    have hd1 : ((n : Int) != 32) = true := by simpa using hi1
    have KW : Hid (∀ (A0 : Option Addr) (c0 : Nat) (A1 : Option Addr) (c1 : Nat) (W : World), Glob W → Sq W W.heap.size A0 c0 (bvs xs) → Sq W W.heap.size A1 c1 (bvs ys) → Calls Tryz.prog 14 #[.slice A0 n c0, .slice A1 m c1] W (By2N W 0 [] 0 [] 3)) := hid fun A0 c0 A1 c1 W hG h h' => by2_is (hW A0 xs n c0 A1 ys m c1 W hG h h' hn_xs hn_ys (by omega) (by omega)) (wrap_len (by omega)) rfl rfl
    have KL : Hid (∀ (A0 : Option Addr) (c0 : Nat) (A1 : Option Addr) (c1 : Nat) (A2 : Option Addr) (c2 : Nat) (A3 : Option Addr) (c3 : Nat) (A4 : Option Addr) (c4 : Nat) (W : World), Glob W → Sq W W.heap.size A0 c0 (bvs xs) → Sq W W.heap.size A1 c1 (bvs ys) → Sq W W.heap.size A2 c2 (bvs is) → Sq W W.heap.size A3 c3 (bvs ts) → Sq W W.heap.size A4 c4 (bvs ms) → Calls Tryz.prog 21 #[.slice A0 n c0, .slice A1 m c1, .slice A2 k c2, .slice A3 l c3, .slice A4 q c4] W (By2N W 0 [] 0 [] 3)) := hid fun A0 c0 A1 c1 A2 c2 A3 c3 A4 c4 W hG h h' h2 h3 h4 => by2_is (hSl A0 xs n c0 A1 ys m c1 A2 is k c2 A3 ts l c3 A4 ms q c4 W hG h h' h2 h3 h4 hn_xs hn_ys hn_is hn_ts hn_ms (by omega) (by omega) (by omega) (by omega) (by omega)) (seal_err (wrap_len (by omega)) (by decide)) rfl rfl
    clear hP hO hW hSl hGS KA h32
    go_wp2_with fail
    refine (KL.out A c A' c' A2 c2 A3 c3 A4 c4 w1 (HG.out.below HB1.out (Nat.le_refl _)) Q_xs.out Q_ys.out Q_is.out Q_ts.out Q_ms.out).mono ?_
    rintro e w2 ⟨A_e, c_e, A_x, c_x, rfl, hq_e, hq_x, hb⟩
    have HB2 : Hid (Below w.heap.size w w2) := hid (HB1.out.trans (hb.mono HB1.out.size))
    have Q_xs := hid (sq_on Q_xs.out hb)
    have Q_ys := hid (sq_on Q_ys.out hb)
    have Q_is := hid (sq_on Q_is.out hb)
    have Q_ts := hid (sq_on Q_ts.out hb)
    have Q_ms := hid (sq_on Q_ms.out hb)
    have Q_e := hid hq_e
    have Q_x := hid hq_x
    clear hb hq_e hq_x HB1
    go_wp2_with fail
    refine (KW.out A c A' c' w2 (HG.out.below HB2.out (Nat.le_refl _)) Q_xs.out Q_ys.out).mono ?_
    rintro e w3 ⟨A_s, c_s, A_v, c_v, rfl, hq_s, hq_v, hb⟩
    have HB3 : Hid (Below w.heap.size w w3) := hid (HB2.out.trans (hb.mono HB2.out.size))
    have Q_xs := hid (sq_on Q_xs.out hb)
    have Q_ys := hid (sq_on Q_ys.out hb)
    have Q_is := hid (sq_on Q_is.out hb)
    have Q_ts := hid (sq_on Q_ts.out hb)
    have Q_ms := hid (sq_on Q_ms.out hb)
    have Q_e := hid (sq_on Q_e.out hb)
    have Q_x := hid (sq_on Q_x.out hb)
    have Q_s := hid hq_s
    have Q_v := hid hq_v
    clear hb hq_s hq_v HB2
    go_wp2
    go_ret
    exact ⟨rfl, HB3.out⟩
  obtain rfl : n = 32 := by omega
  clear h32
  by_cases hz : dhV (privL ys) xs = z32
  · have KW : Hid (∀ (A0 : Option Addr) (c0 : Nat) (A1 : Option Addr) (c1 : Nat) (W : World), Glob W → Sq W W.heap.size A0 c0 (bvs xs) → Sq W W.heap.size A1 c1 (bvs ys) → Calls Tryz.prog 14 #[.slice A0 32 c0, .slice A1 m c1] W (By2N W 0 [] 0 [] 9)) := hid fun A0 c0 A1 c1 W hG h h' => by2_is (hW A0 xs 32 c0 A1 ys m c1 W hG h h' hn_xs hn_ys (by omega) (by omega)) (wrap_zero hn_xs hz) rfl rfl
    have KL : Hid (∀ (A0 : Option Addr) (c0 : Nat) (A1 : Option Addr) (c1 : Nat) (A2 : Option Addr) (c2 : Nat) (A3 : Option Addr) (c3 : Nat) (A4 : Option Addr) (c4 : Nat) (W : World), Glob W → Sq W W.heap.size A0 c0 (bvs xs) → Sq W W.heap.size A1 c1 (bvs ys) → Sq W W.heap.size A2 c2 (bvs is) → Sq W W.heap.size A3 c3 (bvs ts) → Sq W W.heap.size A4 c4 (bvs ms) → Calls Tryz.prog 21 #[.slice A0 32 c0, .slice A1 m c1, .slice A2 k c2, .slice A3 l c3, .slice A4 q c4] W (By2N W 0 [] 0 [] 9)) := hid fun A0 c0 A1 c1 A2 c2 A3 c3 A4 c4 W hG h h' h2 h3 h4 => by2_is (hSl A0 xs 32 c0 A1 ys m c1 A2 is k c2 A3 ts l c3 A4 ms q c4 W hG h h' h2 h3 h4 hn_xs hn_ys hn_is hn_ts hn_ms (by omega) (by omega) (by omega) (by omega) (by omega)) (seal_err (wrap_zero hn_xs hz) (by decide)) rfl rfl
    clear hP hO hW hSl hGS KA hz
    go_wp2_with fail
    refine (KL.out A c A' c' A2 c2 A3 c3 A4 c4 w1 (HG.out.below HB1.out (Nat.le_refl _)) Q_xs.out Q_ys.out Q_is.out Q_ts.out Q_ms.out).mono ?_
    rintro e w2 ⟨A_e, c_e, A_x, c_x, rfl, hq_e, hq_x, hb⟩
    have HB2 : Hid (Below w.heap.size w w2) := hid (HB1.out.trans (hb.mono HB1.out.size))
    have Q_xs := hid (sq_on Q_xs.out hb)
    have Q_ys := hid (sq_on Q_ys.out hb)
    have Q_is := hid (sq_on Q_is.out hb)
    have Q_ts := hid (sq_on Q_ts.out hb)
    have Q_ms := hid (sq_on Q_ms.out hb)
    have Q_e := hid hq_e
    have Q_x := hid hq_x
    clear hb hq_e hq_x HB1
    go_wp2_with fail
    refine (KW.out A c A' c' w2 (HG.out.below HB2.out (Nat.le_refl _)) Q_xs.out Q_ys.out).mono ?_
    rintro e w3 ⟨A_s, c_s, A_v, c_v, rfl, hq_s, hq_v, hb⟩
    have HB3 : Hid (Below w.heap.size w w3) := hid (HB2.out.trans (hb.mono HB2.out.size))
    have Q_xs := hid (sq_on Q_xs.out hb)
    have Q_ys := hid (sq_on Q_ys.out hb)
    have Q_is := hid (sq_on Q_is.out hb)
    have Q_ts := hid (sq_on Q_ts.out hb)
    have Q_ms := hid (sq_on Q_ms.out hb)
    have Q_e := hid (sq_on Q_e.out hb)
    have Q_x := hid (sq_on Q_x.out hb)
    have Q_s := hid hq_s
    have Q_v := hid hq_v
    clear hb hq_s hq_v HB2
    go_wp2
    go_ret
    exact ⟨rfl, HB3.out⟩
  have hw := wrap_ok hn_xs hz
  obtain ⟨E, hE⟩ : ∃ l, l = pubL ys := ⟨_, rfl⟩
  have le : E.length = 32 := by rw [hE]; exact pubL_length _
  obtain ⟨S, hS⟩ : ∃ l, l = sharedL (dhV (privL ys) xs) (pubL ys) xs := ⟨_, rfl⟩
  have ls : S.length = 32 := by rw [hS]; exact sharedL_length _ _ _
  rw [← hS, ← hE] at hw
  obtain ⟨KY, hKY⟩ : ∃ l, l = keyL S is := ⟨_, rfl⟩
  obtain ⟨NO, hNO⟩ : ∃ l, l = nonL S is := ⟨_, rfl⟩
  have lk : KY.length = 16 := by rw [hKY]; exact keyL_length _ _
  have lo : NO.length = 12 := by rw [hNO]; exact nonL_length _ _
  obtain ⟨BX, hBX⟩ : ∃ l, l = seal12L KY NO ts ms := ⟨_, rfl⟩
  obtain ⟨d, ld⟩ : ∃ d, BX.length = d := ⟨_, rfl⟩
  have ldb : d ≤ 116 := by rw [← ld, hBX, seal12L_length]; omega
  have KW : Hid (∀ (A0 : Option Addr) (c0 : Nat) (A1 : Option Addr) (c1 : Nat) (W : World), Glob W → Sq W W.heap.size A0 c0 (bvs xs) → Sq W W.heap.size A1 c1 (bvs ys) → Calls Tryz.prog 14 #[.slice A0 32 c0, .slice A1 m c1] W (By2N W 32 S 32 E 0)) := hid fun A0 c0 A1 c1 W hG h h' => by2_is (hW A0 xs 32 c0 A1 ys m c1 W hG h h' hn_xs hn_ys (by omega) (by omega)) hw ls le
  have KL : Hid (∀ (A0 : Option Addr) (c0 : Nat) (A1 : Option Addr) (c1 : Nat) (A2 : Option Addr) (c2 : Nat) (A3 : Option Addr) (c3 : Nat) (A4 : Option Addr) (c4 : Nat) (W : World), Glob W → Sq W W.heap.size A0 c0 (bvs xs) → Sq W W.heap.size A1 c1 (bvs ys) → Sq W W.heap.size A2 c2 (bvs is) → Sq W W.heap.size A3 c3 (bvs ts) → Sq W W.heap.size A4 c4 (bvs ms) → Calls Tryz.prog 21 #[.slice A0 32 c0, .slice A1 m c1, .slice A2 k c2, .slice A3 l c3, .slice A4 q c4] W (By2N W 32 E d BX 0)) := hid fun A0 c0 A1 c1 A2 c2 A3 c3 A4 c4 W hG h h' h2 h3 h4 => by2_is (hSl A0 xs 32 c0 A1 ys m c1 A2 is k c2 A3 ts l c3 A4 ms q c4 W hG h h' h2 h3 h4 hn_xs hn_ys hn_is hn_ts hn_ms (by omega) (by omega) (by omega) (by omega) (by omega)) (by rw [hBX, hKY, hNO]; exact seal_ok hw) le ld
  have KK : Hid (∀ (A0 : Option Addr) (c0 : Nat) (A1 : Option Addr) (c1 : Nat) (W : World), Sq W W.heap.size A0 c0 (bvs S) → Sq W W.heap.size A1 c1 (bvs is) → Calls Tryz.prog 19 #[.slice A0 32 c0, .slice A1 k c1] W (By2 W 16 KY 12 NO)) := hid fun A0 c0 A1 c1 W h h' => by rw [hKY, hNO]; exact Key13 A0 S 32 c0 A1 is k c1 W ls hn_is h h' ⟨by omega, by omega⟩
  have KG : Hid (∀ (A0 : Option Addr) (c0 : Nat) (A1 : Option Addr) (c1 : Nat) (A2 : Option Addr) (c2 : Nat) (A3 : Option Addr) (c3 : Nat) (W : World), Sq W W.heap.size A0 c0 (bvs KY) → Sq W W.heap.size A1 c1 (bvs NO) → Sq W W.heap.size A2 c2 (bvs ts) → Sq W W.heap.size A3 c3 (bvs ms) → Calls Tryz.prog 22 #[.slice A0 16 c0, .slice A1 12 c1, .slice A2 l c2, .slice A3 q c3] W (ByOk W d BX true)) := hid fun A0 c0 A1 c1 A2 c2 A3 c3 W h h' h2 h3 => gseal_ok hGS A0 c0 A1 c1 A2 c2 A3 c3 W h h' h2 h3 lk lo hn_ts hn_ms (by omega) (by omega) hBX ld
  have KS1 : Hid (∀ (A0 : Option Addr) (c0 : Nat) (A1 : Option Addr) (c1 : Nat) (W : World), Sq W W.heap.size A0 c0 (bvs E) → Sq W W.heap.size A1 c1 (bvs E) → Calls Tryz.prog 13 #[.slice A0 32 c0, .slice A1 32 c1] W (fun e w' => e = .returned (.bool true) ∧ Below W.heap.size W w')) := hid fun A0 c0 A1 c1 W h h' => same13 A0 c0 A1 c1 W h h' le (by decide)
  have KS2 : Hid (∀ (A0 : Option Addr) (c0 : Nat) (A1 : Option Addr) (c1 : Nat) (W : World), Sq W W.heap.size A0 c0 (bvs BX) → Sq W W.heap.size A1 c1 (bvs BX) → Calls Tryz.prog 13 #[.slice A0 d c0, .slice A1 d c1] W (fun e w' => e = .returned (.bool true) ∧ Below W.heap.size W w')) := hid fun A0 c0 A1 c1 W h h' => same13 A0 c0 A1 c1 W h h' ld (by omega)
  clear hP hO hW hSl hGS KA hz hw hE le hS ls hKY hNO lk lo hBX ld ldb
  go_wp2_with fail
  refine (KL.out A c A' c' A2 c2 A3 c3 A4 c4 w1 (HG.out.below HB1.out (Nat.le_refl _)) Q_xs.out Q_ys.out Q_is.out Q_ts.out Q_ms.out).mono ?_
  rintro e w2 ⟨A_e, c_e, A_x, c_x, rfl, hq_e, hq_x, hb⟩
  have HB2 : Hid (Below w.heap.size w w2) := hid (HB1.out.trans (hb.mono HB1.out.size))
  have Q_xs := hid (sq_on Q_xs.out hb)
  have Q_ys := hid (sq_on Q_ys.out hb)
  have Q_is := hid (sq_on Q_is.out hb)
  have Q_ts := hid (sq_on Q_ts.out hb)
  have Q_ms := hid (sq_on Q_ms.out hb)
  have Q_e := hid hq_e
  have Q_x := hid hq_x
  clear hb hq_e hq_x HB1
  go_wp2_with fail
  refine (KW.out A c A' c' w2 (HG.out.below HB2.out (Nat.le_refl _)) Q_xs.out Q_ys.out).mono ?_
  rintro e w3 ⟨A_s, c_s, A_v, c_v, rfl, hq_s, hq_v, hb⟩
  have HB3 : Hid (Below w.heap.size w w3) := hid (HB2.out.trans (hb.mono HB2.out.size))
  have Q_xs := hid (sq_on Q_xs.out hb)
  have Q_ys := hid (sq_on Q_ys.out hb)
  have Q_is := hid (sq_on Q_is.out hb)
  have Q_ts := hid (sq_on Q_ts.out hb)
  have Q_ms := hid (sq_on Q_ms.out hb)
  have Q_e := hid (sq_on Q_e.out hb)
  have Q_x := hid (sq_on Q_x.out hb)
  have Q_s := hid hq_s
  have Q_v := hid hq_v
  clear hb hq_s hq_v HB2
  go_wp2_with fail
  refine (KK.out A_s c_s A2 c2 w3 Q_s.out Q_is.out).mono ?_
  rintro e w4 ⟨A_ky, c_ky, A_no, c_no, rfl, hq_ky, hq_no, hb⟩
  have HB4 : Hid (Below w.heap.size w w4) := hid (HB3.out.trans (hb.mono HB3.out.size))
  have Q_xs := hid (sq_on Q_xs.out hb)
  have Q_ys := hid (sq_on Q_ys.out hb)
  have Q_is := hid (sq_on Q_is.out hb)
  have Q_ts := hid (sq_on Q_ts.out hb)
  have Q_ms := hid (sq_on Q_ms.out hb)
  have Q_e := hid (sq_on Q_e.out hb)
  have Q_x := hid (sq_on Q_x.out hb)
  have Q_s := hid (sq_on Q_s.out hb)
  have Q_v := hid (sq_on Q_v.out hb)
  have Q_ky := hid hq_ky
  have Q_no := hid hq_no
  clear hb hq_ky hq_no HB3
  go_wp2_with fail
  refine (KG.out A_ky c_ky A_no c_no A3 c3 A4 c4 w4 Q_ky.out Q_no.out Q_ts.out Q_ms.out).mono ?_
  rintro e w5 ⟨A_g, c_g, rfl, hq_g, hb⟩
  have HB5 : Hid (Below w.heap.size w w5) := hid (HB4.out.trans (hb.mono HB4.out.size))
  have Q_xs := hid (sq_on Q_xs.out hb)
  have Q_ys := hid (sq_on Q_ys.out hb)
  have Q_is := hid (sq_on Q_is.out hb)
  have Q_ts := hid (sq_on Q_ts.out hb)
  have Q_ms := hid (sq_on Q_ms.out hb)
  have Q_e := hid (sq_on Q_e.out hb)
  have Q_x := hid (sq_on Q_x.out hb)
  have Q_s := hid (sq_on Q_s.out hb)
  have Q_v := hid (sq_on Q_v.out hb)
  have Q_ky := hid (sq_on Q_ky.out hb)
  have Q_no := hid (sq_on Q_no.out hb)
  have Q_g := hid hq_g
  clear hb hq_g HB4
  go_wp2_with fail
  refine (KS1.out A_e c_e A_v c_v w5 Q_e.out Q_v.out).mono ?_
  rintro e w6 ⟨rfl, hb⟩
  have HB6 : Hid (Below w.heap.size w w6) := hid (HB5.out.trans (hb.mono HB5.out.size))
  have Q_xs := hid (sq_on Q_xs.out hb)
  have Q_ys := hid (sq_on Q_ys.out hb)
  have Q_is := hid (sq_on Q_is.out hb)
  have Q_ts := hid (sq_on Q_ts.out hb)
  have Q_ms := hid (sq_on Q_ms.out hb)
  have Q_e := hid (sq_on Q_e.out hb)
  have Q_x := hid (sq_on Q_x.out hb)
  have Q_s := hid (sq_on Q_s.out hb)
  have Q_v := hid (sq_on Q_v.out hb)
  have Q_ky := hid (sq_on Q_ky.out hb)
  have Q_no := hid (sq_on Q_no.out hb)
  have Q_g := hid (sq_on Q_g.out hb)
  clear hb  HB5
  go_wp2_with fail
  refine (KS2.out A_x c_x A_g c_g w6 Q_x.out Q_g.out).mono ?_
  rintro e w7 ⟨rfl, hb⟩
  have HB7 : Hid (Below w.heap.size w w7) := hid (HB6.out.trans (hb.mono HB6.out.size))
  have Q_xs := hid (sq_on Q_xs.out hb)
  have Q_ys := hid (sq_on Q_ys.out hb)
  have Q_is := hid (sq_on Q_is.out hb)
  have Q_ts := hid (sq_on Q_ts.out hb)
  have Q_ms := hid (sq_on Q_ms.out hb)
  have Q_e := hid (sq_on Q_e.out hb)
  have Q_x := hid (sq_on Q_x.out hb)
  have Q_s := hid (sq_on Q_s.out hb)
  have Q_v := hid (sq_on Q_v.out hb)
  have Q_ky := hid (sq_on Q_ky.out hb)
  have Q_no := hid (sq_on Q_no.out hb)
  have Q_g := hid (sq_on Q_g.out hb)
  clear hb  HB6
  go_wp2
  go_ret
  exact ⟨rfl, HB7.out⟩
end Go.Proofs.YtpkmidaflnbobaaGreatDoor
end
