/-
  Texts of this claim in one file: Law12a, Law13a, Law13c, Law13d, Law13e, Law13f.
-/
import Derived.Test.YtpkmidaflnbobaaGreatDoorPk29
import Derived.Test.YtpkmidaflnbobaaGreatDoorPk26
import Derived.Deep.OwnRows
import Derived.Test.YtpkmidaflnbobaaGreatDoorPk21
import Derived.Test.YtpkmidaflnbobaaGreatDoorPk22
import Derived.Test.YtpkmidaflnbobaaGreatDoorPk6
section
namespace Go.Proofs.YtpkmidaflnbobaaGreatDoor
open Go.RowKit
set_option linter.unusedVariables false
set_option linter.unusedSimpArgs false
/-- A text sealed by the package. -/
def SealOk : Prop := ∀ (A A' A2 A3 : Option Addr) (key nonce text more : List UInt8) (m m' n2 n3 c c' c2 c3 : Nat) (w : World), Sq w w.heap.size A c (bvs key) → Sq w w.heap.size A' c' (bvs nonce) → Sq w w.heap.size A2 c2 (bvs text) → Sq w w.heap.size A3 c3 (bvs more) → key.length = m → nonce.length = m' → text.length = n2 → more.length = n3 → m ≤ 1000 → m' ≤ 1000 → n2 ≤ 1000 → n3 ≤ 1000 →
  Calls Tryz.prog 22 #[.slice A m c, .slice A' m' c', .slice A2 n2 c2, .slice A3 n3 c3] w fun e w' => (if m = 16 ∧ m' = 12 then ∃ v, e = .returned (.tuple #[v, .bool true]) ∧ OwnB w' w.heap.size v (seal12L key nonce text more) else ∃ A4 c4, e = .returned (.tuple #[.slice A4 0 c4, .bool false])) ∧ Below w.heap.size w w'
/-- Which bytes are opened. -/
def opens (key nonce sealed more : List UInt8) : Prop := key.length = 16 ∧ nonce.length = 12 ∧ 16 ≤ sealed.length ∧ sealed.drop (sealed.length - 16) = tagL key nonce (sealed.take (sealed.length - 16)) more
instance (key nonce sealed more : List UInt8) : Decidable (opens key nonce sealed more) := by unfold opens; infer_instance
/-- Bytes opened by the package. -/
def OpenOk : Prop := ∀ (A A' A2 A3 : Option Addr) (key nonce sealed more : List UInt8) (m m' n2 n3 c c' c2 c3 : Nat) (w : World), Sq w w.heap.size A c (bvs key) → Sq w w.heap.size A' c' (bvs nonce) → Sq w w.heap.size A2 c2 (bvs sealed) → Sq w w.heap.size A3 c3 (bvs more) → key.length = m → nonce.length = m' → sealed.length = n2 → more.length = n3 → m ≤ 1000 → m' ≤ 1000 → n2 ≤ 1000 → n3 ≤ 1000 →
  Calls Tryz.prog 20 #[.slice A m c, .slice A' m' c', .slice A2 n2 c2, .slice A3 n3 c3] w fun e w' => (if opens key nonce sealed more then ∃ v, e = .returned (.tuple #[v, .bool true]) ∧ OwnB w' w.heap.size v (maskedL key nonce (sealed.take (sealed.length - 16))) else ∃ A4 c4, e = .returned (.tuple #[.slice A4 0 c4, .bool false])) ∧ Below w.heap.size w w'
/-- A mask taken off again. -/
theorem masked_twice (key nonce text : List UInt8) : maskedL key nonce (maskedL key nonce text) = text := by
  have hl : (maskedL key nonce text).length = text.length := maskedL_length _ _ _
  refine List.ext_getElem (by rw [maskedL_length, hl]) fun i h1 h2 => ?_
  have e : ∀ (t : List UInt8) (h : i < t.length) (h' : i < (maskedL key nonce t).length), (maskedL key nonce t)[i] = UInt8.ofNat (bf t i ^^^ mskB key nonce i) := fun t h h' => by simp [maskedL, mskN]
  have hm : mskB key nonce i < 256 := bf_lt _ _
  rw [e _ (by omega) h1, bf_at _ _ (by omega), e text h2 (by omega), UInt8.toNat_ofNat', Nat.mod_eq_of_lt (show bf text i ^^^ mskB key nonce i < 2 ^ 8 from Nat.xor_lt_two_pow (n := 8) (bf_lt _ _) hm), Nat.xor_assoc, Nat.xor_self, Nat.xor_zero, bf_at _ _ h2]
  simp
theorem sealed_take (key nonce text more : List UInt8) : (seal12L key nonce text more).take ((seal12L key nonce text more).length - 16) = maskedL key nonce text := by
  rw [seal12L_length, Nat.add_sub_cancel]
  unfold seal12L
  rw [List.take_append_of_le_length (by rw [maskedL_length]; exact Nat.le_refl _), List.take_of_length_le (by rw [maskedL_length]; exact Nat.le_refl _)]
theorem sealed_drop (key nonce text more : List UInt8) : (seal12L key nonce text more).drop ((seal12L key nonce text more).length - 16) = tagL key nonce (maskedL key nonce text) more := by
  rw [seal12L_length, Nat.add_sub_cancel]
  unfold seal12L
  rw [← maskedL_length key nonce text, List.drop_left]
theorem sealed_opens (key nonce text more : List UInt8) (hk : key.length = 16) (hn : nonce.length = 12) : opens key nonce (seal12L key nonce text more) more :=
  ⟨hk, hn, by rw [seal12L_length]; omega, by rw [sealed_drop, sealed_take]⟩
theorem sq_on {w w' : World} {A : Option Addr} {c : Nat} {xs : List Value} (h : Sq w w.heap.size A c xs) (hb : Below w.heap.size w w') : Sq w' w'.heap.size A c xs := (h.below hb).more hb.size
end Go.Proofs.YtpkmidaflnbobaaGreatDoor
end
section
namespace Go.Proofs.YtpkmidaflnbobaaGreatDoor
open Go Go.RowKit
set_option linter.unusedVariables false
set_option linter.unusedSimpArgs false
/-- Bytes and an error; two rows of bytes; both. -/
def By1N (w : World) (n : Nat) (xs : List UInt8) (k : Int) (e : Ending) (w' : World) : Prop := ∃ A c, e = .returned (.tuple #[.slice A n c, .int .u8 k]) ∧ Sq w' w'.heap.size A c (bvs xs) ∧ Below w.heap.size w w'
def By2 (w : World) (n : Nat) (xs : List UInt8) (m : Nat) (ys : List UInt8) (e : Ending) (w' : World) : Prop := ∃ A c A' c', e = .returned (.tuple #[.slice A n c, .slice A' m c']) ∧ Sq w' w'.heap.size A c (bvs xs) ∧ Sq w' w'.heap.size A' c' (bvs ys) ∧ Below w.heap.size w w'
def By2N (w : World) (n : Nat) (xs : List UInt8) (m : Nat) (ys : List UInt8) (k : Int) (e : Ending) (w' : World) : Prop := ∃ A c A' c', e = .returned (.tuple #[.slice A n c, .slice A' m c', .int .u8 k]) ∧ Sq w' w'.heap.size A c (bvs xs) ∧ Sq w' w'.heap.size A' c' (bvs ys) ∧ Below w.heap.size w w'
def ByOk (w : World) (n : Nat) (xs : List UInt8) (b : Bool) (e : Ending) (w' : World) : Prop := ∃ A c, e = .returned (.tuple #[.slice A n c, .bool b]) ∧ Sq w' w'.heap.size A c (bvs xs) ∧ Below w.heap.size w w'
def By1E (w : World) (r : List UInt8 × Nat) : Ending → World → Prop := By1N w r.1.length r.1 (r.2 : Int)
def By2E (w : World) (r : List UInt8 × List UInt8 × Nat) : Ending → World → Prop := By2N w r.1.length r.1 r.2.1.length r.2.1 (r.2.2 : Int)
theorem by1_is {P : Program} {f : FuncId} {args : Array Value} {w : World} {r : List UInt8 × Nat} {xs : List UInt8} {k n : Nat} (h : Calls P f args w (By1E w r)) (hr : r = (xs, k)) (hx : xs.length = n) : Calls P f args w (By1N w n xs (k : Int)) := by
  subst hr; subst hx; exact h
theorem by2_is {P : Program} {f : FuncId} {args : Array Value} {w : World} {r : List UInt8 × List UInt8 × Nat} {xs ys : List UInt8} {k n m : Nat} (h : Calls P f args w (By2E w r)) (hr : r = (xs, ys, k)) (hx : xs.length = n) (hy : ys.length = m) : Calls P f args w (By2N w n xs m ys (k : Int)) := by
  subst hr; subst hx; subst hy; exact h
section
variable {P : Program} {ops : Array Oper} {Q : Exit → Act → World → Prop} {o : Oper} {rest : List Oper} {a : Act} {w0 : World}
theorem wpLA_by1 {f : FuncId} {args : Array Value} (xs : List UInt8) (n : Nat) (k : Int) (hw : Region.wanted o (yielded ops a.tmps) = true) (hr : ∀ w', (execOp a.eval o).run P w' = .ok (.enter f args) w')
    (hc : ∀ w', Below w0.heap.size w0 w' → Calls P f args w' (By1N w' n xs k))
    (h : ∀ A c w2, Below w0.heap.size w0 w2 → Sq w2 w2.heap.size A c (bvs xs) → wpLA P ops Q w2 rest (a.put o.dst (.tuple #[.slice A n c, .int .u8 k]))) : wpLA P ops Q w0 (o :: rest) a :=
  wpLA_call (fun w' v w'' => ∃ A c, v = .tuple #[.slice A n c, .int .u8 k] ∧ Sq w'' w''.heap.size A c (bvs xs) ∧ Below w'.heap.size w' w'') hw hr (fun w' hb => (hc w' hb).mono fun e w'' ⟨A, c, he, h1, h2⟩ => ⟨_, he, A, c, rfl, h1, h2⟩)
    fun w' v w'' hb ⟨A, c, hv, h1, h2⟩ => by subst hv; exact h A c w'' (hb.trans (h2.mono hb.size)) h1
theorem wpLA_by2 {f : FuncId} {args : Array Value} (xs : List UInt8) (n : Nat) (ys : List UInt8) (m : Nat) (hw : Region.wanted o (yielded ops a.tmps) = true) (hr : ∀ w', (execOp a.eval o).run P w' = .ok (.enter f args) w')
    (hc : ∀ w', Below w0.heap.size w0 w' → Calls P f args w' (By2 w' n xs m ys))
    (h : ∀ A c A' c' w2, Below w0.heap.size w0 w2 → Sq w2 w2.heap.size A c (bvs xs) → Sq w2 w2.heap.size A' c' (bvs ys) → wpLA P ops Q w2 rest (a.put o.dst (.tuple #[.slice A n c, .slice A' m c']))) : wpLA P ops Q w0 (o :: rest) a :=
  wpLA_call (fun w' v w'' => ∃ A c A' c', v = .tuple #[.slice A n c, .slice A' m c'] ∧ Sq w'' w''.heap.size A c (bvs xs) ∧ Sq w'' w''.heap.size A' c' (bvs ys) ∧ Below w'.heap.size w' w'') hw hr (fun w' hb => (hc w' hb).mono fun e w'' ⟨A, c, A', c', he, h1, h2, h3⟩ => ⟨_, he, A, c, A', c', rfl, h1, h2, h3⟩)
    fun w' v w'' hb ⟨A, c, A', c', hv, h1, h2, h3⟩ => by subst hv; exact h A c A' c' w'' (hb.trans (h3.mono hb.size)) h1 h2
end
/-- What the document says: the public key of a seed; wrap, unwrap, seal, open. -/
def pubL (seed : List UInt8) : List UInt8 := dhV (privL seed) (b32 9)
def wrapR (pub seed : List UInt8) : List UInt8 × List UInt8 × Nat := if pub.length ≠ 32 then ([], [], 3) else if dhV (privL seed) pub = z32 then ([], [], 9) else (sharedL (dhV (privL seed) pub) (pubL seed) pub, pubL seed, 0)
def unwrapR (priv enc : List UInt8) : List UInt8 × Nat := if priv.length ≠ 32 then ([], 1) else if enc.length ≠ 32 then ([], 3) else if dhV priv enc = z32 then ([], 9) else (sharedL (dhV priv enc) enc (dhV priv (b32 9)), 0)
def sealR (pub seed info text more : List UInt8) : List UInt8 × List UInt8 × Nat := if (wrapR pub seed).2.2 ≠ 0 then ([], [], (wrapR pub seed).2.2) else ((wrapR pub seed).2.1, seal12L (keyL (wrapR pub seed).1 info) (nonL (wrapR pub seed).1 info) text more, 0)
def openR (priv enc info box more : List UInt8) : List UInt8 × Nat := if (unwrapR priv enc).2 ≠ 0 then ([], (unwrapR priv enc).2) else if opens (keyL (unwrapR priv enc).1 info) (nonL (unwrapR priv enc).1 info) box more then (maskedL (keyL (unwrapR priv enc).1 info) (nonL (unwrapR priv enc).1 info) (box.take (box.length - 16)), 0) else ([], 11)
theorem pubL_length (x : List UInt8) : (pubL x).length = 32 := dhV_length _ _
theorem pub_nz (a b : List UInt8) : dhV (privL a) (pubL b) ≠ z32 := dh_nz _ _
theorem wrap_len {pub seed : List UInt8} (h : pub.length ≠ 32) : wrapR pub seed = ([], [], 3) := if_pos h
theorem wrap_zero {pub seed : List UInt8} (h : pub.length = 32) (hz : dhV (privL seed) pub = z32) : wrapR pub seed = ([], [], 9) := by unfold wrapR; rw [if_neg (by omega), if_pos hz]
theorem wrap_ok {pub seed : List UInt8} (h : pub.length = 32) (hz : dhV (privL seed) pub ≠ z32) : wrapR pub seed = (sharedL (dhV (privL seed) pub) (pubL seed) pub, pubL seed, 0) := by unfold wrapR; rw [if_neg (by omega), if_neg hz]
theorem unwrap_arg {priv enc : List UInt8} (h : priv.length ≠ 32) : unwrapR priv enc = ([], 1) := if_pos h
theorem unwrap_len {priv enc : List UInt8} (h : priv.length = 32) (h' : enc.length ≠ 32) : unwrapR priv enc = ([], 3) := by unfold unwrapR; rw [if_neg (by omega), if_pos h']
theorem unwrap_zero {priv enc : List UInt8} (h : priv.length = 32) (h' : enc.length = 32) (hz : dhV priv enc = z32) : unwrapR priv enc = ([], 9) := by unfold unwrapR; rw [if_neg (by omega), if_neg (by omega), if_pos hz]
theorem unwrap_ok {priv enc : List UInt8} (h : priv.length = 32) (h' : enc.length = 32) (hz : dhV priv enc ≠ z32) : unwrapR priv enc = (sharedL (dhV priv enc) enc (dhV priv (b32 9)), 0) := by unfold unwrapR; rw [if_neg (by omega), if_neg (by omega), if_neg hz]
theorem open_err {priv enc info box more : List UInt8} {k : Nat} (h : unwrapR priv enc = ([], k)) (hk : k ≠ 0) : openR priv enc info box more = ([], k) := by unfold openR; rw [h, if_pos hk]
theorem open_no {priv enc info box more S : List UInt8} (h : unwrapR priv enc = (S, 0)) (ho : ¬ opens (keyL S info) (nonL S info) box more) : openR priv enc info box more = ([], 11) := by unfold openR; rw [h, if_neg (by simp), if_neg ho]
theorem open_ok {priv enc info box more S : List UInt8} (h : unwrapR priv enc = (S, 0)) (ho : opens (keyL S info) (nonL S info) box more) : openR priv enc info box more = (maskedL (keyL S info) (nonL S info) (box.take (box.length - 16)), 0) := by unfold openR; rw [h, if_neg (by simp), if_pos ho]
theorem seal_err {pub seed info text more : List UInt8} {k : Nat} (h : wrapR pub seed = ([], [], k)) (hk : k ≠ 0) : sealR pub seed info text more = ([], [], k) := by unfold sealR; rw [h, if_pos hk]
theorem seal_ok {pub seed info text more S E : List UInt8} (h : wrapR pub seed = (S, E, 0)) : sealR pub seed info text more = (E, seal12L (keyL S info) (nonL S info) text more, 0) := by unfold sealR; rw [h, if_neg (by simp)]
/-- A box of too few bytes opens to nothing. -/
theorem opens_short {key nonce box more : List UInt8} (h : box.length < 16) : ¬ opens key nonce box more := fun ho => by have := ho.2.2.1; omega
/-- What is sealed to a pair: opened by its private key. -/
theorem shared_same (a b : List UInt8) : sharedL (dhV (privL b) (pubL a)) (pubL b) (pubL a) = sharedL (dhV (privL a) (pubL b)) (pubL b) (dhV (privL a) (b32 9)) := by
  have h : dhV (privL b) (pubL a) = dhV (privL a) (pubL b) := dh_shares _ _
  rw [h]
  rfl
theorem back_is (a b info text : List UInt8) : ∃ S box, wrapR (pubL a) b = (S, pubL b, 0) ∧ unwrapR (privL a) (pubL b) = (S, 0) ∧ S.length = 32 ∧ sealR (pubL a) b info text [] = (pubL b, box, 0) ∧ box.length = text.length + 16 ∧ openR (privL a) (pubL b) info box [] = (text, 0) := by
  have h1 := wrap_ok (seed := b) (pubL_length a) (pub_nz b a)
  have h2 := unwrap_ok (privL_length a) (pubL_length b) (pub_nz a b)
  rw [← shared_same] at h2
  obtain ⟨S, hS⟩ : ∃ S, S = sharedL (dhV (privL b) (pubL a)) (pubL b) (pubL a) := ⟨_, rfl⟩
  rw [← hS] at h1 h2
  refine ⟨S, _, h1, h2, by rw [hS]; exact sharedL_length _ _ _, seal_ok h1, seal12L_length _ _ _ _, ?_⟩
  rw [open_ok h2 (sealed_opens _ _ _ _ (keyL_length _ _) (nonL_length _ _)), sealed_take, masked_twice]
def PairOk : Prop := ∀ (A : Option Addr) (xs : List UInt8) (n c : Nat) (W : World), Glob W → Sq W W.heap.size A c (bvs xs) → xs.length = n → n ≤ 400 →
  Calls Tryz.prog 10 #[.slice A n c] W (By2 W 32 (privL xs) 32 (pubL xs))
def WrapOk : Prop := ∀ (A : Option Addr) (xs : List UInt8) (n c : Nat) (A' : Option Addr) (ys : List UInt8) (m c' : Nat) (W : World), Glob W → Sq W W.heap.size A c (bvs xs) → Sq W W.heap.size A' c' (bvs ys) → xs.length = n → ys.length = m → n ≤ 1000 → m ≤ 400 →
  Calls Tryz.prog 14 #[.slice A n c, .slice A' m c'] W (By2E W (wrapR xs ys))
def UnwrapOk : Prop := ∀ (A : Option Addr) (xs : List UInt8) (n c : Nat) (A' : Option Addr) (ys : List UInt8) (m c' : Nat) (W : World), Glob W → Sq W W.heap.size A c (bvs xs) → Sq W W.heap.size A' c' (bvs ys) → xs.length = n → ys.length = m → n ≤ 1000 → m ≤ 1000 →
  Calls Tryz.prog 17 #[.slice A n c, .slice A' m c'] W (By1E W (unwrapR xs ys))
def SealOk13 : Prop := ∀ (A : Option Addr) (xs : List UInt8) (n c : Nat) (A' : Option Addr) (ys : List UInt8) (m c' : Nat) (A2 : Option Addr) (is : List UInt8) (n2 c2 : Nat) (A3 : Option Addr) (ts : List UInt8) (n3 c3 : Nat) (A4 : Option Addr) (ms : List UInt8) (n4 c4 : Nat) (W : World), Glob W →
  Sq W W.heap.size A c (bvs xs) → Sq W W.heap.size A' c' (bvs ys) → Sq W W.heap.size A2 c2 (bvs is) → Sq W W.heap.size A3 c3 (bvs ts) → Sq W W.heap.size A4 c4 (bvs ms) → xs.length = n → ys.length = m → is.length = n2 → ts.length = n3 → ms.length = n4 → n ≤ 1000 → m ≤ 400 → n2 ≤ 400 → n3 ≤ 1000 → n4 ≤ 1000 →
  Calls Tryz.prog 21 #[.slice A n c, .slice A' m c', .slice A2 n2 c2, .slice A3 n3 c3, .slice A4 n4 c4] W (By2E W (sealR xs ys is ts ms))
def OpenOk13 : Prop := ∀ (A : Option Addr) (xs : List UInt8) (n c : Nat) (A' : Option Addr) (ys : List UInt8) (m c' : Nat) (A2 : Option Addr) (is : List UInt8) (n2 c2 : Nat) (A3 : Option Addr) (ts : List UInt8) (n3 c3 : Nat) (A4 : Option Addr) (ms : List UInt8) (n4 c4 : Nat) (W : World), Glob W →
  Sq W W.heap.size A c (bvs xs) → Sq W W.heap.size A' c' (bvs ys) → Sq W W.heap.size A2 c2 (bvs is) → Sq W W.heap.size A3 c3 (bvs ts) → Sq W W.heap.size A4 c4 (bvs ms) → xs.length = n → ys.length = m → is.length = n2 → ts.length = n3 → ms.length = n4 → n ≤ 1000 → m ≤ 1000 → n2 ≤ 400 → n3 ≤ 1000 → n4 ≤ 1000 →
  Calls Tryz.prog 18 #[.slice A n c, .slice A' m c', .slice A2 n2 c2, .slice A3 n3 c3, .slice A4 n4 c4] W (By1E W (openR xs ys is ts ms))
def x1B : List UInt8 := [1]
theorem lit_x1B : Tryz.prog.builtSlice 5 1 [(0, .int .u8 1)] = some (bvs x1B).toArray ∧ (bvs x1B).length ≤ 1 := ⟨by kernel_rfl, by decide⟩
theorem base13 (A : Option Addr) (xs : List UInt8) (c : Nat) (W : World) (h : Sq W W.heap.size A c (bvs xs)) (hx : xs.length = 32) : Calls Tryz.prog 12 #[.slice A 32 c] W (By1N W 32 (dhV xs (b32 9)) 0) :=
  (DhBase_e A xs c W h (by omega) hx).mono fun e w' ⟨A', c', he, hs, _, hb⟩ => ⟨A', c', he, hs, hb⟩
theorem dh13_ok (A : Option Addr) (xs : List UInt8) (c : Nat) (A' : Option Addr) (ys : List UInt8) (c' : Nat) (W : World) (h : Sq W W.heap.size A c (bvs xs)) (h' : Sq W W.heap.size A' c' (bvs ys)) (hx : xs.length = 32) (hy : ys.length = 32) (hz : dhV xs ys ≠ z32) : Calls Tryz.prog 15 #[.slice A 32 c, .slice A' 32 c'] W (By1N W 32 (dhV xs ys) 0) :=
  (DhShared_e A xs c A' ys c' W h h' (by omega) (by omega) hx hy hz).mono fun e w' ⟨A', c', he, hs, _, hb⟩ => ⟨A', c', he, hs, hb⟩
theorem dh13_zero (A : Option Addr) (xs : List UInt8) (c : Nat) (A' : Option Addr) (ys : List UInt8) (c' : Nat) (W : World) (h : Sq W W.heap.size A c (bvs xs)) (h' : Sq W W.heap.size A' c' (bvs ys)) (hx : xs.length = 32) (hy : ys.length = 32) (hz : dhV xs ys = z32) : Calls Tryz.prog 15 #[.slice A 32 c, .slice A' 32 c'] W (DhErr W 9) :=
  DhShared_zero A xs c A' ys c' W h h' (by omega) (by omega) hx hy hz
theorem same13 {xs : List UInt8} {n : Nat} (A : Option Addr) (c : Nat) (A' : Option Addr) (c' : Nat) (W : World) (h : Sq W W.heap.size A c (bvs xs)) (h' : Sq W W.heap.size A' c' (bvs xs)) (hx : xs.length = n) (hn : n ≤ 100000) :
    Calls Tryz.prog 13 #[.slice A n c, .slice A' n c'] W fun e w' => e = .returned (.bool true) ∧ Below W.heap.size W w' := by
  subst hx
  have h := Same_any A xs c A' xs c' W W.heap.size W.heap.size h.lie h'.lie (by omega)
  rw [beq_self_eq_true] at h
  exact calls_drew h
set_option maxHeartbeats 1000000 in
theorem alive13_any (hP : PairOk) (hO : OpenOk13) (w : World) (hG : Glob w) : Calls Tryz.prog 9 #[] w fun e w' => e = .returned (.bool true) ∧ Below w.heap.size w w' := by
  have HG := hid hG
  obtain ⟨X1, hX1⟩ : ∃ l : List UInt8, l = x1B := ⟨_, rfl⟩
  obtain ⟨PR, hPR⟩ : ∃ l, l = privL X1 := ⟨_, rfl⟩
  obtain ⟨PU, hPU⟩ : ∃ l, l = pubL X1 := ⟨_, rfl⟩
  have l1 : X1.length = 1 := by rw [hX1]; rfl
  have lr : PR.length = 32 := by rw [hPR]; exact privL_length _
  have lu : PU.length = 32 := by rw [hPU]; exact pubL_length _
  have hu : dhV PR (b32 9) = PU := by rw [hPR, hPU]; rfl
  have hz : dhV PR PU ≠ z32 := by rw [hPR, hPU]; exact pub_nz _ _
  have KP : Hid (∀ (A0 : Option Addr) (c0 : Nat) (W : World), Glob W → Sq W W.heap.size A0 c0 (bvs X1) → Calls Tryz.prog 10 #[.slice A0 1 c0] W (By2 W 32 PR 32 PU)) := hid fun A0 c0 W hG h => by
    rw [hPR, hPU]
    exact hP A0 X1 1 c0 W hG h l1 (by decide)
  have KB : Hid (∀ (A0 : Option Addr) (c0 : Nat) (W : World), Sq W W.heap.size A0 c0 (bvs PR) → Calls Tryz.prog 12 #[.slice A0 32 c0] W (By1N W 32 PU 0)) := hid fun A0 c0 W h => by
    rw [← hu]
    exact base13 A0 PR c0 W h lr
  have KO : Hid (∀ (A0 : Option Addr) (c0 : Nat) (A1 : Option Addr) (c1 : Nat) (A2 : Option Addr) (c2 : Nat) (W : World), Glob W → Sq W W.heap.size A0 c0 (bvs PR) → Sq W W.heap.size A1 c1 (bvs PU) → Sq W W.heap.size A2 c2 (bvs (List.replicate 15 0)) → Calls Tryz.prog 18 #[.slice A0 32 c0, .slice A1 32 c1, .slice none 0 0, .slice A2 15 c2, .slice none 0 0] W (By1N W 0 [] 11)) := hid fun A0 c0 A1 c1 A2 c2 W hG h h' h'' =>
    by1_is (hO A0 PR 32 c0 A1 PU 32 c1 none [] 0 0 A2 (List.replicate 15 0) 15 c2 none [] 0 0 W hG h h' Sq.nil h'' Sq.nil lr lu rfl List.length_replicate rfl (by decide) (by decide) (by decide) (by decide) (by decide)) (open_no (unwrap_ok lr lu hz) (opens_short (by decide))) rfl
  have KS : Hid (∀ (A0 : Option Addr) (c0 : Nat) (A1 : Option Addr) (c1 : Nat) (W : World), Sq W W.heap.size A0 c0 (bvs PU) → Sq W W.heap.size A1 c1 (bvs PU) → Calls Tryz.prog 13 #[.slice A0 32 c0, .slice A1 32 c1] W (fun e w' => e = .returned (.bool true) ∧ Below W.heap.size W w')) := hid fun A0 c0 A1 c1 W h h' => same13 A0 c0 A1 c1 W h h' lu (by decide)
  have HV := hid lit_x1B
  rw [← hX1] at HV
  clear hX1 hPR hPU l1 lr lu hu hz hG hP hO
  go_enter Tryz.func9, Tryz.ntmps9
  have S0 : Hid (St w w [] []) := hid (St.start w)
  go_upto_region 0 with fail
  refine wpLA_start ?_
  refine wpLA_take (.bool false) (yG_val _ (by rfl) (fun w' _ => by (go_simp; try rfl))) ?_
  (try simp only [Act.put, List.getElem_toArray, List.getElem_cons_succ, List.getElem_cons_zero, List.setIfInBounds_toArray, List.set_cons_zero, List.set_cons_succ])
  refine wpLA_end ?_
  intro w1 hb
  have S1 := hid (S0.out.on hb)
  clear hb S0
  go_upto_region 1 with fail
  refine wpLA_start ?_
  refine wpLA_slice rfl _ _ 1 _ rfl Tryz.underlying22 [(0, .int .u8 1)] rfl (bvs X1) HV.out.1 HV.out.2 (by decide) ?_
  intro p2 w2 hb hs
  have S2 : Hid (St w w2 [] [((some ⟨p2, 0, none⟩), 1, bvs X1)]) := hid ((S1.out.on hb).more hs)
  clear hb hs S1
  (try simp only [Act.put, List.getElem_toArray, List.getElem_cons_succ, List.getElem_cons_zero, List.setIfInBounds_toArray, List.set_cons_zero, List.set_cons_succ])
  refine wpLA_by2 PR 32 PU 32 (by rfl) (fun w' => by go_simp) (fun w' hb => KP.out (some ⟨p2, 0, none⟩) 1 w' (HG.out.below (S2.out.on hb).below (Nat.le_refl _)) (S2.out.on hb).sq.1) ?_
  intro A3 c3 B3 d3 w3 hb hs hs2
  have S3 : Hid (St w w3 [] [(A3, c3, bvs PR), (B3, d3, bvs PU), ((some ⟨p2, 0, none⟩), 1, bvs X1)]) := hid (((S2.out.on hb).more hs2).more hs)
  clear hb hs hs2 S2
  (try simp only [Act.put, List.getElem_toArray, List.getElem_cons_succ, List.getElem_cons_zero, List.setIfInBounds_toArray, List.set_cons_zero, List.set_cons_succ])
  refine wpLA_take (.tuple #[(.slice A3 32 c3), (.slice B3 32 d3)]) (yG_val _ (by rfl) (fun w' _ => by (go_simp; try rfl))) ?_
  (try simp only [Act.put, List.getElem_toArray, List.getElem_cons_succ, List.getElem_cons_zero, List.setIfInBounds_toArray, List.set_cons_zero, List.set_cons_succ])
  refine wpLA_take (.slice A3 32 c3) (yG_val _ (by rfl) (fun w' _ => by (go_simp; try rfl))) ?_
  (try simp only [Act.put, List.getElem_toArray, List.getElem_cons_succ, List.getElem_cons_zero, List.setIfInBounds_toArray, List.set_cons_zero, List.set_cons_succ])
  refine wpLA_take (.slice B3 32 d3) (yG_val _ (by rfl) (fun w' _ => by (go_simp; try rfl))) ?_
  (try simp only [Act.put, List.getElem_toArray, List.getElem_cons_succ, List.getElem_cons_zero, List.setIfInBounds_toArray, List.set_cons_zero, List.set_cons_succ])
  refine wpLA_take (.slice A3 32 c3) (yG_val _ (by rfl) (fun w' _ => by (go_simp; try rfl))) ?_
  (try simp only [Act.put, List.getElem_toArray, List.getElem_cons_succ, List.getElem_cons_zero, List.setIfInBounds_toArray, List.set_cons_zero, List.set_cons_succ])
  refine wpLA_take (.slice B3 32 d3) (yG_val _ (by rfl) (fun w' _ => by (go_simp; try rfl))) ?_
  (try simp only [Act.put, List.getElem_toArray, List.getElem_cons_succ, List.getElem_cons_zero, List.setIfInBounds_toArray, List.set_cons_zero, List.set_cons_succ])
  refine wpLA_end ?_
  intro w4 hb
  have S4 := hid (S3.out.on hb)
  clear hb S3
  go_upto_region 2 with fail
  refine wpLA_start ?_
  refine wpLA_take (.slice A3 32 c3) (yG_val _ (by rfl) (fun w' _ => by (go_simp; try rfl))) ?_
  (try simp only [Act.put, List.getElem_toArray, List.getElem_cons_succ, List.getElem_cons_zero, List.setIfInBounds_toArray, List.set_cons_zero, List.set_cons_succ])
  refine wpLA_by1 PU 32 0 (by rfl) (fun w' => by go_simp) (fun w' hb => KB.out A3 c3 w' (S4.out.on hb).sq.1) ?_
  intro A5 c5 w5 hb hs
  have S5 : Hid (St w w5 [] [(A5, c5, bvs PU), (A3, c3, bvs PR), (B3, d3, bvs PU), ((some ⟨p2, 0, none⟩), 1, bvs X1)]) := hid ((S4.out.on hb).more hs)
  clear hb hs S4
  (try simp only [Act.put, List.getElem_toArray, List.getElem_cons_succ, List.getElem_cons_zero, List.setIfInBounds_toArray, List.set_cons_zero, List.set_cons_succ])
  refine wpLA_take (.tuple #[(.slice A5 32 c5), (.int .u8 0)]) (yG_val _ (by rfl) (fun w' _ => by (go_simp; try rfl))) ?_
  (try simp only [Act.put, List.getElem_toArray, List.getElem_cons_succ, List.getElem_cons_zero, List.setIfInBounds_toArray, List.set_cons_zero, List.set_cons_succ])
  refine wpLA_take (.slice A5 32 c5) (yG_val _ (by rfl) (fun w' _ => by (go_simp; try rfl))) ?_
  (try simp only [Act.put, List.getElem_toArray, List.getElem_cons_succ, List.getElem_cons_zero, List.setIfInBounds_toArray, List.set_cons_zero, List.set_cons_succ])
  refine wpLA_take (.int .u8 0) (yG_val _ (by rfl) (fun w' _ => by (go_simp; try rfl))) ?_
  (try simp only [Act.put, List.getElem_toArray, List.getElem_cons_succ, List.getElem_cons_zero, List.setIfInBounds_toArray, List.set_cons_zero, List.set_cons_succ])
  refine wpLA_take (.slice A5 32 c5) (yG_val _ (by rfl) (fun w' _ => by (go_simp; try rfl))) ?_
  (try simp only [Act.put, List.getElem_toArray, List.getElem_cons_succ, List.getElem_cons_zero, List.setIfInBounds_toArray, List.set_cons_zero, List.set_cons_succ])
  refine wpLA_take (.int .u8 0) (yG_val _ (by rfl) (fun w' _ => by (go_simp; try rfl))) ?_
  (try simp only [Act.put, List.getElem_toArray, List.getElem_cons_succ, List.getElem_cons_zero, List.setIfInBounds_toArray, List.set_cons_zero, List.set_cons_succ])
  refine wpLA_end ?_
  intro w6 hb
  have S6 := hid (S5.out.on hb)
  clear hb S5
  go_upto_region 3 with fail
  refine wpLA_start ?_
  refine wpLA_take (.slice A3 32 c3) (yG_val _ (by rfl) (fun w' _ => by (go_simp; try rfl))) ?_
  (try simp only [Act.put, List.getElem_toArray, List.getElem_cons_succ, List.getElem_cons_zero, List.setIfInBounds_toArray, List.set_cons_zero, List.set_cons_succ])
  refine wpLA_take (.slice B3 32 d3) (yG_val _ (by rfl) (fun w' _ => by (go_simp; try rfl))) ?_
  (try simp only [Act.put, List.getElem_toArray, List.getElem_cons_succ, List.getElem_cons_zero, List.setIfInBounds_toArray, List.set_cons_zero, List.set_cons_succ])
  refine wpLA_make 15 (by rfl) _ _ _ rfl rfl rfl Tryz.underlying22 infoU8 (by decide) ?_
  intro p7 w7 hb hs
  have S7 : Hid (St w w7 [] [((some ⟨p7, 0, none⟩), 15, bvs (List.replicate 15 0)), (A5, c5, bvs PU), (A3, c3, bvs PR), (B3, d3, bvs PU), ((some ⟨p2, 0, none⟩), 1, bvs X1)]) := hid ((S6.out.on hb).more hs)
  clear hb hs S6
  (try simp only [Act.put, List.getElem_toArray, List.getElem_cons_succ, List.getElem_cons_zero, List.setIfInBounds_toArray, List.set_cons_zero, List.set_cons_succ])
  refine wpLA_by1 ([] : List UInt8) 0 11 (by rfl) (fun w' => by go_simp) (fun w' hb => KO.out A3 c3 B3 d3 (some ⟨p7, 0, none⟩) 15 w' (HG.out.below (S7.out.on hb).below (Nat.le_refl _)) (S7.out.on hb).sq.2.2.1 (S7.out.on hb).sq.2.2.2.1 (S7.out.on hb).sq.1) ?_
  intro A8 c8 w8 hb hs
  have S8 : Hid (St w w8 [] [(A8, c8, bvs ([] : List UInt8)), ((some ⟨p7, 0, none⟩), 15, bvs (List.replicate 15 0)), (A5, c5, bvs PU), (A3, c3, bvs PR), (B3, d3, bvs PU), ((some ⟨p2, 0, none⟩), 1, bvs X1)]) := hid ((S7.out.on hb).more hs)
  clear hb hs S7
  (try simp only [Act.put, List.getElem_toArray, List.getElem_cons_succ, List.getElem_cons_zero, List.setIfInBounds_toArray, List.set_cons_zero, List.set_cons_succ])
  refine wpLA_take (.tuple #[(.slice A8 0 c8), (.int .u8 11)]) (yG_val _ (by rfl) (fun w' _ => by (go_simp; try rfl))) ?_
  (try simp only [Act.put, List.getElem_toArray, List.getElem_cons_succ, List.getElem_cons_zero, List.setIfInBounds_toArray, List.set_cons_zero, List.set_cons_succ])
  refine wpLA_take (.slice A8 0 c8) (yG_val _ (by rfl) (fun w' _ => by (go_simp; try rfl))) ?_
  (try simp only [Act.put, List.getElem_toArray, List.getElem_cons_succ, List.getElem_cons_zero, List.setIfInBounds_toArray, List.set_cons_zero, List.set_cons_succ])
  refine wpLA_take (.int .u8 11) (yG_val _ (by rfl) (fun w' _ => by (go_simp; try rfl))) ?_
  (try simp only [Act.put, List.getElem_toArray, List.getElem_cons_succ, List.getElem_cons_zero, List.setIfInBounds_toArray, List.set_cons_zero, List.set_cons_succ])
  refine wpLA_take (.slice A8 0 c8) (yG_val _ (by rfl) (fun w' _ => by (go_simp; try rfl))) ?_
  (try simp only [Act.put, List.getElem_toArray, List.getElem_cons_succ, List.getElem_cons_zero, List.setIfInBounds_toArray, List.set_cons_zero, List.set_cons_succ])
  refine wpLA_take (.int .u8 11) (yG_val _ (by rfl) (fun w' _ => by (go_simp; try rfl))) ?_
  (try simp only [Act.put, List.getElem_toArray, List.getElem_cons_succ, List.getElem_cons_zero, List.setIfInBounds_toArray, List.set_cons_zero, List.set_cons_succ])
  refine wpLA_end ?_
  intro w9 hb
  have S9 := hid (S8.out.on hb)
  clear hb S8
  go_upto_region 4 with fail
  refine wpLA_start ?_
  refine wpLA_take (.slice A3 32 c3) (yG_val _ (by rfl) (fun w' _ => by (go_simp; try rfl))) ?_
  (try simp only [Act.put, List.getElem_toArray, List.getElem_cons_succ, List.getElem_cons_zero, List.setIfInBounds_toArray, List.set_cons_zero, List.set_cons_succ])
  refine wpLA_take (.int .i64 32) (yG_val _ (by rfl) (fun w' _ => by (go_simp; try rfl))) ?_
  (try simp only [Act.put, List.getElem_toArray, List.getElem_cons_succ, List.getElem_cons_zero, List.setIfInBounds_toArray, List.set_cons_zero, List.set_cons_succ])
  refine wpLA_take (.bool true) (yG_val _ (by rfl) (fun w' _ => by (go_simp; try rfl))) ?_
  (try simp only [Act.put, List.getElem_toArray, List.getElem_cons_succ, List.getElem_cons_zero, List.setIfInBounds_toArray, List.set_cons_zero, List.set_cons_succ])
  refine wpLA_take (.bool true) (yG_val _ (by rfl) (fun w' _ => by (go_simp; try rfl))) ?_
  (try simp only [Act.put, List.getElem_toArray, List.getElem_cons_succ, List.getElem_cons_zero, List.setIfInBounds_toArray, List.set_cons_zero, List.set_cons_succ])
  refine wpLA_take (.int .u8 0) (yG_val _ (by rfl) (fun w' _ => by (go_simp; try rfl))) ?_
  (try simp only [Act.put, List.getElem_toArray, List.getElem_cons_succ, List.getElem_cons_zero, List.setIfInBounds_toArray, List.set_cons_zero, List.set_cons_succ])
  refine wpLA_take (.int .i64 0) (yG_val _ (by rfl) (fun w' _ => by (go_simp; try rfl))) ?_
  (try simp only [Act.put, List.getElem_toArray, List.getElem_cons_succ, List.getElem_cons_zero, List.setIfInBounds_toArray, List.set_cons_zero, List.set_cons_succ])
  refine wpLA_take (.bool true) (yG_val _ (by rfl) (fun w' _ => by (go_simp; try rfl))) ?_
  (try simp only [Act.put, List.getElem_toArray, List.getElem_cons_succ, List.getElem_cons_zero, List.setIfInBounds_toArray, List.set_cons_zero, List.set_cons_succ])
  refine wpLA_take (.bool true) (yG_val _ (by rfl) (fun w' _ => by (go_simp; try rfl))) ?_
  (try simp only [Act.put, List.getElem_toArray, List.getElem_cons_succ, List.getElem_cons_zero, List.setIfInBounds_toArray, List.set_cons_zero, List.set_cons_succ])
  refine wpLA_take (.bool true) (yG_val _ (by rfl) (fun w' _ => by (go_simp; try rfl))) ?_
  (try simp only [Act.put, List.getElem_toArray, List.getElem_cons_succ, List.getElem_cons_zero, List.setIfInBounds_toArray, List.set_cons_zero, List.set_cons_succ])
  refine wpLA_take (.slice A5 32 c5) (yG_val _ (by rfl) (fun w' _ => by (go_simp; try rfl))) ?_
  (try simp only [Act.put, List.getElem_toArray, List.getElem_cons_succ, List.getElem_cons_zero, List.setIfInBounds_toArray, List.set_cons_zero, List.set_cons_succ])
  refine wpLA_take (.slice B3 32 d3) (yG_val _ (by rfl) (fun w' _ => by (go_simp; try rfl))) ?_
  (try simp only [Act.put, List.getElem_toArray, List.getElem_cons_succ, List.getElem_cons_zero, List.setIfInBounds_toArray, List.set_cons_zero, List.set_cons_succ])
  refine wpLA_take (.bool true) (yG_call (by rfl) (fun w' => by go_simp) (fun w' hb => KS.out A5 c5 B3 d3 w' (S9.out.on hb).sq.2.2.1 (S9.out.on hb).sq.2.2.2.2.1)) ?_
  (try simp only [Act.put, List.getElem_toArray, List.getElem_cons_succ, List.getElem_cons_zero, List.setIfInBounds_toArray, List.set_cons_zero, List.set_cons_succ])
  refine wpLA_take (.bool true) (yG_val _ (by rfl) (fun w' _ => by (go_simp; try rfl))) ?_
  (try simp only [Act.put, List.getElem_toArray, List.getElem_cons_succ, List.getElem_cons_zero, List.setIfInBounds_toArray, List.set_cons_zero, List.set_cons_succ])
  refine wpLA_take (.bool true) (yG_val _ (by rfl) (fun w' _ => by (go_simp; try rfl))) ?_
  (try simp only [Act.put, List.getElem_toArray, List.getElem_cons_succ, List.getElem_cons_zero, List.setIfInBounds_toArray, List.set_cons_zero, List.set_cons_succ])
  refine wpLA_take (.int .u8 11) (yG_val _ (by rfl) (fun w' _ => by (go_simp; try rfl))) ?_
  (try simp only [Act.put, List.getElem_toArray, List.getElem_cons_succ, List.getElem_cons_zero, List.setIfInBounds_toArray, List.set_cons_zero, List.set_cons_succ])
  refine wpLA_take (.int .i64 11) (yG_val _ (by rfl) (fun w' _ => by (go_simp; try rfl))) ?_
  (try simp only [Act.put, List.getElem_toArray, List.getElem_cons_succ, List.getElem_cons_zero, List.setIfInBounds_toArray, List.set_cons_zero, List.set_cons_succ])
  refine wpLA_take (.bool true) (yG_val _ (by rfl) (fun w' _ => by (go_simp; try rfl))) ?_
  (try simp only [Act.put, List.getElem_toArray, List.getElem_cons_succ, List.getElem_cons_zero, List.setIfInBounds_toArray, List.set_cons_zero, List.set_cons_succ])
  refine wpLA_take (.bool true) (yG_val _ (by rfl) (fun w' _ => by (go_simp; try rfl))) ?_
  (try simp only [Act.put, List.getElem_toArray, List.getElem_cons_succ, List.getElem_cons_zero, List.setIfInBounds_toArray, List.set_cons_zero, List.set_cons_succ])
  refine wpLA_take (.bool true) (yG_val _ (by rfl) (fun w' _ => by (go_simp; try rfl))) ?_
  (try simp only [Act.put, List.getElem_toArray, List.getElem_cons_succ, List.getElem_cons_zero, List.setIfInBounds_toArray, List.set_cons_zero, List.set_cons_succ])
  refine wpLA_end ?_
  intro w10 hb
  have S10 := hid (S9.out.on hb)
  clear hb S9
  go_wp2_with fail
  go_ret
  exact ⟨rfl, S10.out.below⟩
end Go.Proofs.YtpkmidaflnbobaaGreatDoor
end
section
namespace Go.Proofs.YtpkmidaflnbobaaGreatDoor
open Go Go.RowKit
set_option linter.unusedVariables false
set_option linter.unusedSimpArgs false
/-- The package's own opening and sealing, as bytes and whether. -/
def ByNo (w : World) (e : Ending) (w' : World) : Prop := ∃ A c, e = .returned (.tuple #[.slice A 0 c, .bool false]) ∧ Below w.heap.size w w'
end Go.Proofs.YtpkmidaflnbobaaGreatDoor
end
section
namespace Go.Proofs.YtpkmidaflnbobaaGreatDoor
open Go Go.RowKit
set_option linter.unusedVariables false
set_option linter.unusedSimpArgs false
theorem gseal_ok (hGS : SealOk) {key nonce text more bx : List UInt8} {l q d : Nat} (A : Option Addr) (c : Nat) (A' : Option Addr) (c' : Nat) (A2 : Option Addr) (c2 : Nat) (A3 : Option Addr) (c3 : Nat) (W : World) (h : Sq W W.heap.size A c (bvs key)) (h' : Sq W W.heap.size A' c' (bvs nonce)) (h2 : Sq W W.heap.size A2 c2 (bvs text)) (h3 : Sq W W.heap.size A3 c3 (bvs more))
    (hk : key.length = 16) (hn : nonce.length = 12) (ht : text.length = l) (hm : more.length = q) (hl : l ≤ 1000) (hq : q ≤ 1000) (hb : bx = seal12L key nonce text more) (hd : bx.length = d) :
    Calls Tryz.prog 22 #[.slice A 16 c, .slice A' 12 c', .slice A2 l c2, .slice A3 q c3] W (ByOk W d bx true) :=
  (hGS A A' A2 A3 key nonce text more 16 12 l q c c' c2 c3 W h h' h2 h3 hk hn ht hm (by omega) (by omega) hl hq).mono fun e w' hr => by
    obtain ⟨hr, hb2⟩ := hr
    rw [if_pos ⟨rfl, rfl⟩, ← hb] at hr
    obtain ⟨v, rfl, hv⟩ := hr
    obtain ⟨At, ct, rfl, hq⟩ := own_n hv hd
    exact ⟨At, ct, rfl, hq.sq, hb2⟩
end Go.Proofs.YtpkmidaflnbobaaGreatDoor
end
section
namespace Go.Proofs.YtpkmidaflnbobaaGreatDoor
open Go Go.RowKit
set_option linter.unusedVariables false
set_option linter.unusedSimpArgs false
/-- Sealed and opened with a label. -/
def SealLabelOk : Prop := ∀ (A : Option Addr) (xs : List UInt8) (n c : Nat) (A' : Option Addr) (ys : List UInt8) (m c' : Nat) (s : ByteArray) (A2 : Option Addr) (cs : List UInt8) (n2 c2 : Nat) (A3 : Option Addr) (ts : List UInt8) (n3 c3 : Nat) (W : World), Glob W →
  Sq W W.heap.size A c (bvs xs) → Sq W W.heap.size A' c' (bvs ys) → Sq W W.heap.size A2 c2 (bvs cs) → Sq W W.heap.size A3 c3 (bvs ts) → xs.length = n → ys.length = m → cs.length = n2 → ts.length = n3 → s.size ≤ 150 → n ≤ 1000 → m ≤ 400 → n2 ≤ 150 → n3 ≤ 1000 →
  Calls Tryz.prog 24 #[.slice A n c, .slice A' m c', .string s, .slice A2 n2 c2, .slice A3 n3 c3] W (By2E W (sealR xs ys (infoL (sby s) cs) ts []))
def OpenLabelOk : Prop := ∀ (A : Option Addr) (xs : List UInt8) (n c : Nat) (A' : Option Addr) (ys : List UInt8) (m c' : Nat) (s : ByteArray) (A2 : Option Addr) (cs : List UInt8) (n2 c2 : Nat) (A3 : Option Addr) (ts : List UInt8) (n3 c3 : Nat) (W : World), Glob W →
  Sq W W.heap.size A c (bvs xs) → Sq W W.heap.size A' c' (bvs ys) → Sq W W.heap.size A2 c2 (bvs cs) → Sq W W.heap.size A3 c3 (bvs ts) → xs.length = n → ys.length = m → cs.length = n2 → ts.length = n3 → s.size ≤ 150 → n ≤ 1000 → m ≤ 1000 → n2 ≤ 150 → n3 ≤ 1000 →
  Calls Tryz.prog 25 #[.slice A n c, .slice A' m c', .string s, .slice A2 n2 c2, .slice A3 n3 c3] W (By1E W (openR xs ys (infoL (sby s) cs) ts []))
theorem wrapR_le (pub seed : List UInt8) : (wrapR pub seed).2.1.length ≤ 32 := by
  unfold wrapR
  split
  · simp
  split
  · simp
  · exact Nat.le_of_eq (pubL_length _)
theorem sealR_le (pub seed info text more : List UInt8) : (sealR pub seed info text more).1.length ≤ 32 ∧ (sealR pub seed info text more).2.1.length ≤ text.length + 16 := by
  have := wrapR_le pub seed
  unfold sealR
  split
  · simp
  · exact ⟨this, Nat.le_of_eq (seal12L_length _ _ _ _)⟩
theorem openR_le (priv enc info box more : List UInt8) : (openR priv enc info box more).1.length ≤ box.length := by
  unfold openR
  split
  · simp
  split
  · rw [maskedL_length, List.length_take]; omega
  · simp
set_option maxRecDepth 100000 in
set_option maxHeartbeats 4000000 in
theorem hpkeLabels_any (hP : PairOk) (hO : OpenOk13) (hSl : SealOk13) (hSL : SealLabelOk) (hOL : OpenLabelOk) (A : Option Addr) (xs : List UInt8) (c : Nat) (A' : Option Addr) (ys : List UInt8) (c' : Nat) (A2 : Option Addr) (cs : List UInt8) (c2 : Nat) (A3 : Option Addr) (ts : List UInt8) (c3 : Nat) (s : ByteArray) (w : World) (hG : Glob w) (hS_xs : Sq w w.heap.size A c (bvs xs)) (hS_ys : Sq w w.heap.size A' c' (bvs ys)) (hS_cs : Sq w w.heap.size A2 c2 (bvs cs)) (hS_ts : Sq w w.heap.size A3 c3 (bvs ts)) :
    Calls Tryz.prog 7 #[.slice A xs.length c, .slice A' ys.length c', .string s, .slice A2 cs.length c2, .slice A3 ts.length c3] w fun e w' => e = .returned (.bool true) ∧ Below w.heap.size w w' := by
  have HG := hid hG
  have KA : Hid (∀ (W : World), Glob W → Calls Tryz.prog 9 #[] W fun e w' => e = .returned (.bool true) ∧ Below W.heap.size W w') := hid fun W h => alive13_any hP hO W h
  obtain ⟨n, hn_xs⟩ : ∃ n, xs.length = n := ⟨_, rfl⟩
  rw [hn_xs]
  have Q_xs := hid hS_xs
  obtain ⟨m, hn_ys⟩ : ∃ n, ys.length = n := ⟨_, rfl⟩
  rw [hn_ys]
  have Q_ys := hid hS_ys
  obtain ⟨k, hn_cs⟩ : ∃ n, cs.length = n := ⟨_, rfl⟩
  rw [hn_cs]
  have Q_cs := hid hS_cs
  obtain ⟨l, hn_ts⟩ : ∃ n, ts.length = n := ⟨_, rfl⟩
  rw [hn_ts]
  have Q_ts := hid hS_ts
  clear hG hS_xs hS_ys hS_cs hS_ts
  have HB0 : Hid (Below w.heap.size w w) := hid (Below.refl _ _)
  go_enter Tryz.func7, Tryz.ntmps7
  go_wp2_with fail
  refine (KA.out  w (HG.out.below HB0.out (Nat.le_refl _)) ).mono ?_
  rintro e w1 ⟨rfl, hb⟩
  have HB1 : Hid (Below w.heap.size w w1) := hid (HB0.out.trans (hb.mono HB0.out.size))
  have Q_xs := hid (sq_on Q_xs.out hb)
  have Q_ys := hid (sq_on Q_ys.out hb)
  have Q_cs := hid (sq_on Q_cs.out hb)
  have Q_ts := hid (sq_on Q_ts.out hb)
  clear hb  HB0
  by_cases hl_n : 100 < n
  · have hi : (100 : Int) < ((n : Nat) : Int) := by omega
    have hd : decide ((100 : Int) < ((n : Nat) : Int)) = true := by simpa using hi
    go_wp2
    go_ret
    exact ⟨rfl, HB1.out⟩
  have hi_n : ¬ (100 : Int) < ((n : Nat) : Int) := by omega
  have hd_n : decide ((100 : Int) < ((n : Nat) : Int)) = false := by simpa using hi_n
  by_cases hl_m : 100 < m
  · have hi : (100 : Int) < ((m : Nat) : Int) := by omega
    have hd : decide ((100 : Int) < ((m : Nat) : Int)) = true := by simpa using hi
    go_wp2
    go_ret
    exact ⟨rfl, HB1.out⟩
  have hi_m : ¬ (100 : Int) < ((m : Nat) : Int) := by omega
  have hd_m : decide ((100 : Int) < ((m : Nat) : Int)) = false := by simpa using hi_m
  by_cases hl_s : 100 < s.size
  · have hi : (100 : Int) < ((s.size : Nat) : Int) := by omega
    have hd : decide ((100 : Int) < ((s.size : Nat) : Int)) = true := by simpa using hi
    go_wp2
    go_ret
    exact ⟨rfl, HB1.out⟩
  have hi_s : ¬ (100 : Int) < ((s.size : Nat) : Int) := by omega
  have hd_s : decide ((100 : Int) < ((s.size : Nat) : Int)) = false := by simpa using hi_s
  by_cases hl_k : 100 < k
  · have hi : (100 : Int) < ((k : Nat) : Int) := by omega
    have hd : decide ((100 : Int) < ((k : Nat) : Int)) = true := by simpa using hi
    go_wp2
    go_ret
    exact ⟨rfl, HB1.out⟩
  have hi_k : ¬ (100 : Int) < ((k : Nat) : Int) := by omega
  have hd_k : decide ((100 : Int) < ((k : Nat) : Int)) = false := by simpa using hi_k
  by_cases hl_l : 100 < l
  · have hi : (100 : Int) < ((l : Nat) : Int) := by omega
    have hd : decide ((100 : Int) < ((l : Nat) : Int)) = true := by simpa using hi
    go_wp2
    go_ret
    exact ⟨rfl, HB1.out⟩
  have hi_l : ¬ (100 : Int) < ((l : Nat) : Int) := by omega
  have hd_l : decide ((100 : Int) < ((l : Nat) : Int)) = false := by simpa using hi_l
  obtain ⟨I, hI⟩ : ∃ l, l = infoL (sby s) cs := ⟨_, rfl⟩
  obtain ⟨i, li⟩ : ∃ i, I.length = i := ⟨_, rfl⟩
  have lib : i ≤ 300 := by have h1 := infoL_length (sby s) cs; have h2 := sby_length s; rw [← li, hI]; omega
  obtain ⟨E, B, f, hR⟩ : ∃ E B f, sealR xs ys I ts [] = (E, B, f) := ⟨_, _, _, rfl⟩
  have hle := sealR_le xs ys I ts []
  rw [hR] at hle
  obtain ⟨e, he⟩ : ∃ e, E.length = e := ⟨_, rfl⟩
  obtain ⟨b, hb⟩ : ∃ e, B.length = e := ⟨_, rfl⟩
  have heb : e ≤ 32 ∧ b ≤ 116 := by rw [← he, ← hb]; exact ⟨hle.1, Nat.le_trans hle.2 (by omega)⟩
  obtain ⟨T, g, hO2⟩ : ∃ T g, openR ys E I B [] = (T, g) := ⟨_, _, rfl⟩
  have hle2 := openR_le ys E I B []
  rw [hO2] at hle2
  obtain ⟨t, ht⟩ : ∃ e, T.length = e := ⟨_, rfl⟩
  have htb : t ≤ 116 := by rw [← ht]; exact Nat.le_trans hle2 (by omega)
  have hgg : ((g : Int) == (g : Int)) = true := by simp
  have hff : ((f : Int) == (f : Int)) = true := by simp
  have KI : Hid (∀ (A0 : Option Addr) (c0 : Nat) (W : World), Sq W W.heap.size A0 c0 (bvs cs) → Calls Tryz.prog 23 #[.string s, .slice A0 k c0] W (ByN W i I)) := hid fun A0 c0 W h => by have h5 := Info13 s A0 cs k c0 W hn_cs h ⟨by omega, by omega⟩; rw [← hI, li] at h5; exact h5
  have KSL : Hid (∀ (A0 : Option Addr) (c0 : Nat) (A1 : Option Addr) (c1 : Nat) (A2 : Option Addr) (c2 : Nat) (A3 : Option Addr) (c3 : Nat) (W : World), Glob W → Sq W W.heap.size A0 c0 (bvs xs) → Sq W W.heap.size A1 c1 (bvs ys) → Sq W W.heap.size A2 c2 (bvs cs) → Sq W W.heap.size A3 c3 (bvs ts) → Calls Tryz.prog 24 #[.slice A0 n c0, .slice A1 m c1, .string s, .slice A2 k c2, .slice A3 l c3] W (By2N W e E b B (f : Int))) := hid fun A0 c0 A1 c1 A2 c2 A3 c3 W hG h h' h2 h3 => by2_is (hSL A0 xs n c0 A1 ys m c1 s A2 cs k c2 A3 ts l c3 W hG h h' h2 h3 hn_xs hn_ys hn_cs hn_ts (by omega) (by omega) (by omega) (by omega) (by omega)) (by rw [← hI]; exact hR) he hb
  have KL : Hid (∀ (A0 : Option Addr) (c0 : Nat) (A1 : Option Addr) (c1 : Nat) (A2 : Option Addr) (c2 : Nat) (A3 : Option Addr) (c3 : Nat) (W : World), Glob W → Sq W W.heap.size A0 c0 (bvs xs) → Sq W W.heap.size A1 c1 (bvs ys) → Sq W W.heap.size A2 c2 (bvs I) → Sq W W.heap.size A3 c3 (bvs ts) → Calls Tryz.prog 21 #[.slice A0 n c0, .slice A1 m c1, .slice A2 i c2, .slice A3 l c3, .slice none 0 0] W (By2N W e E b B (f : Int))) := hid fun A0 c0 A1 c1 A2 c2 A3 c3 W hG h h' h2 h3 => by2_is (hSl A0 xs n c0 A1 ys m c1 A2 I i c2 A3 ts l c3 none [] 0 0 W hG h h' h2 h3 Sq.nil hn_xs hn_ys li hn_ts rfl (by omega) (by omega) (by omega) (by omega) (by omega)) hR he hb
  have KOL : Hid (∀ (A0 : Option Addr) (c0 : Nat) (A1 : Option Addr) (c1 : Nat) (A2 : Option Addr) (c2 : Nat) (A3 : Option Addr) (c3 : Nat) (W : World), Glob W → Sq W W.heap.size A0 c0 (bvs ys) → Sq W W.heap.size A1 c1 (bvs E) → Sq W W.heap.size A2 c2 (bvs cs) → Sq W W.heap.size A3 c3 (bvs B) → Calls Tryz.prog 25 #[.slice A0 m c0, .slice A1 e c1, .string s, .slice A2 k c2, .slice A3 b c3] W (By1N W t T (g : Int))) := hid fun A0 c0 A1 c1 A2 c2 A3 c3 W hG h h' h2 h3 => by1_is (hOL A0 ys m c0 A1 E e c1 s A2 cs k c2 A3 B b c3 W hG h h' h2 h3 hn_ys he hn_cs hb (by omega) (by omega) (by omega) (by omega) (by omega)) (by rw [← hI]; exact hO2) ht
  have KO : Hid (∀ (A0 : Option Addr) (c0 : Nat) (A1 : Option Addr) (c1 : Nat) (A2 : Option Addr) (c2 : Nat) (A3 : Option Addr) (c3 : Nat) (W : World), Glob W → Sq W W.heap.size A0 c0 (bvs ys) → Sq W W.heap.size A1 c1 (bvs E) → Sq W W.heap.size A2 c2 (bvs I) → Sq W W.heap.size A3 c3 (bvs B) → Calls Tryz.prog 18 #[.slice A0 m c0, .slice A1 e c1, .slice A2 i c2, .slice A3 b c3, .slice none 0 0] W (By1N W t T (g : Int))) := hid fun A0 c0 A1 c1 A2 c2 A3 c3 W hG h h' h2 h3 => by1_is (hO A0 ys m c0 A1 E e c1 A2 I i c2 A3 B b c3 none [] 0 0 W hG h h' h2 h3 Sq.nil hn_ys he li hb rfl (by omega) (by omega) (by omega) (by omega) (by omega)) hO2 ht
  have KS1 : Hid (∀ (A0 : Option Addr) (c0 : Nat) (A1 : Option Addr) (c1 : Nat) (W : World), Sq W W.heap.size A0 c0 (bvs E) → Sq W W.heap.size A1 c1 (bvs E) → Calls Tryz.prog 13 #[.slice A0 e c0, .slice A1 e c1] W (fun e w' => e = .returned (.bool true) ∧ Below W.heap.size W w')) := hid fun A0 c0 A1 c1 W h h' => same13 A0 c0 A1 c1 W h h' he (by omega)
  have KS2 : Hid (∀ (A0 : Option Addr) (c0 : Nat) (A1 : Option Addr) (c1 : Nat) (W : World), Sq W W.heap.size A0 c0 (bvs B) → Sq W W.heap.size A1 c1 (bvs B) → Calls Tryz.prog 13 #[.slice A0 b c0, .slice A1 b c1] W (fun e w' => e = .returned (.bool true) ∧ Below W.heap.size W w')) := hid fun A0 c0 A1 c1 W h h' => same13 A0 c0 A1 c1 W h h' hb (by omega)
  have KS3 : Hid (∀ (A0 : Option Addr) (c0 : Nat) (A1 : Option Addr) (c1 : Nat) (W : World), Sq W W.heap.size A0 c0 (bvs T) → Sq W W.heap.size A1 c1 (bvs T) → Calls Tryz.prog 13 #[.slice A0 t c0, .slice A1 t c1] W (fun e w' => e = .returned (.bool true) ∧ Below W.heap.size W w')) := hid fun A0 c0 A1 c1 W h h' => same13 A0 c0 A1 c1 W h h' ht (by omega)
  clear hP hO hSl hSL hOL KA hI li lib hR hle he hb heb hO2 hle2 ht htb
  go_wp2_with fail
  refine (KI.out A2 c2 w1 Q_cs.out).mono ?_
  rintro e w2 ⟨A_i, c_i, rfl, hq_i, hb⟩
  have HB2 : Hid (Below w.heap.size w w2) := hid (HB1.out.trans (hb.mono HB1.out.size))
  have Q_xs := hid (sq_on Q_xs.out hb)
  have Q_ys := hid (sq_on Q_ys.out hb)
  have Q_cs := hid (sq_on Q_cs.out hb)
  have Q_ts := hid (sq_on Q_ts.out hb)
  have Q_i := hid hq_i
  clear hb hq_i HB1
  go_wp2_with fail
  refine (KSL.out A c A' c' A2 c2 A3 c3 w2 (HG.out.below HB2.out (Nat.le_refl _)) Q_xs.out Q_ys.out Q_cs.out Q_ts.out).mono ?_
  rintro e w3 ⟨A_e, c_e, A_b, c_b, rfl, hq_e, hq_b, hb⟩
  have HB3 : Hid (Below w.heap.size w w3) := hid (HB2.out.trans (hb.mono HB2.out.size))
  have Q_xs := hid (sq_on Q_xs.out hb)
  have Q_ys := hid (sq_on Q_ys.out hb)
  have Q_cs := hid (sq_on Q_cs.out hb)
  have Q_ts := hid (sq_on Q_ts.out hb)
  have Q_i := hid (sq_on Q_i.out hb)
  have Q_e := hid hq_e
  have Q_b := hid hq_b
  clear hb hq_e hq_b HB2
  go_wp2_with fail
  refine (KL.out A c A' c' A_i c_i A3 c3 w3 (HG.out.below HB3.out (Nat.le_refl _)) Q_xs.out Q_ys.out Q_i.out Q_ts.out).mono ?_
  rintro e w4 ⟨A_x, c_x, A_y, c_y, rfl, hq_x, hq_y, hb⟩
  have HB4 : Hid (Below w.heap.size w w4) := hid (HB3.out.trans (hb.mono HB3.out.size))
  have Q_xs := hid (sq_on Q_xs.out hb)
  have Q_ys := hid (sq_on Q_ys.out hb)
  have Q_cs := hid (sq_on Q_cs.out hb)
  have Q_ts := hid (sq_on Q_ts.out hb)
  have Q_i := hid (sq_on Q_i.out hb)
  have Q_e := hid (sq_on Q_e.out hb)
  have Q_b := hid (sq_on Q_b.out hb)
  have Q_x := hid hq_x
  have Q_y := hid hq_y
  clear hb hq_x hq_y HB3
  go_wp2_with fail
  refine (KOL.out A' c' A_e c_e A2 c2 A_b c_b w4 (HG.out.below HB4.out (Nat.le_refl _)) Q_ys.out Q_e.out Q_cs.out Q_b.out).mono ?_
  rintro e w5 ⟨A_o, c_o, rfl, hq_o, hb⟩
  have HB5 : Hid (Below w.heap.size w w5) := hid (HB4.out.trans (hb.mono HB4.out.size))
  have Q_xs := hid (sq_on Q_xs.out hb)
  have Q_ys := hid (sq_on Q_ys.out hb)
  have Q_cs := hid (sq_on Q_cs.out hb)
  have Q_ts := hid (sq_on Q_ts.out hb)
  have Q_i := hid (sq_on Q_i.out hb)
  have Q_e := hid (sq_on Q_e.out hb)
  have Q_b := hid (sq_on Q_b.out hb)
  have Q_x := hid (sq_on Q_x.out hb)
  have Q_y := hid (sq_on Q_y.out hb)
  have Q_o := hid hq_o
  clear hb hq_o HB4
  go_wp2_with fail
  refine (KO.out A' c' A_x c_x A_i c_i A_y c_y w5 (HG.out.below HB5.out (Nat.le_refl _)) Q_ys.out Q_x.out Q_i.out Q_y.out).mono ?_
  rintro e w6 ⟨A_p, c_p, rfl, hq_p, hb⟩
  have HB6 : Hid (Below w.heap.size w w6) := hid (HB5.out.trans (hb.mono HB5.out.size))
  have Q_xs := hid (sq_on Q_xs.out hb)
  have Q_ys := hid (sq_on Q_ys.out hb)
  have Q_cs := hid (sq_on Q_cs.out hb)
  have Q_ts := hid (sq_on Q_ts.out hb)
  have Q_i := hid (sq_on Q_i.out hb)
  have Q_e := hid (sq_on Q_e.out hb)
  have Q_b := hid (sq_on Q_b.out hb)
  have Q_x := hid (sq_on Q_x.out hb)
  have Q_y := hid (sq_on Q_y.out hb)
  have Q_o := hid (sq_on Q_o.out hb)
  have Q_p := hid hq_p
  clear hb hq_p HB5
  go_wp2_with fail
  refine (KS1.out A_e c_e A_x c_x w6 Q_e.out Q_x.out).mono ?_
  rintro e w7 ⟨rfl, hb⟩
  have HB7 : Hid (Below w.heap.size w w7) := hid (HB6.out.trans (hb.mono HB6.out.size))
  have Q_xs := hid (sq_on Q_xs.out hb)
  have Q_ys := hid (sq_on Q_ys.out hb)
  have Q_cs := hid (sq_on Q_cs.out hb)
  have Q_ts := hid (sq_on Q_ts.out hb)
  have Q_i := hid (sq_on Q_i.out hb)
  have Q_e := hid (sq_on Q_e.out hb)
  have Q_b := hid (sq_on Q_b.out hb)
  have Q_x := hid (sq_on Q_x.out hb)
  have Q_y := hid (sq_on Q_y.out hb)
  have Q_o := hid (sq_on Q_o.out hb)
  have Q_p := hid (sq_on Q_p.out hb)
  clear hb  HB6
  go_wp2_with fail
  refine (KS2.out A_b c_b A_y c_y w7 Q_b.out Q_y.out).mono ?_
  rintro e w8 ⟨rfl, hb⟩
  have HB8 : Hid (Below w.heap.size w w8) := hid (HB7.out.trans (hb.mono HB7.out.size))
  have Q_xs := hid (sq_on Q_xs.out hb)
  have Q_ys := hid (sq_on Q_ys.out hb)
  have Q_cs := hid (sq_on Q_cs.out hb)
  have Q_ts := hid (sq_on Q_ts.out hb)
  have Q_i := hid (sq_on Q_i.out hb)
  have Q_e := hid (sq_on Q_e.out hb)
  have Q_b := hid (sq_on Q_b.out hb)
  have Q_x := hid (sq_on Q_x.out hb)
  have Q_y := hid (sq_on Q_y.out hb)
  have Q_o := hid (sq_on Q_o.out hb)
  have Q_p := hid (sq_on Q_p.out hb)
  clear hb  HB7
  go_wp2_with fail
  refine (KS3.out A_o c_o A_p c_p w8 Q_o.out Q_p.out).mono ?_
  rintro e w9 ⟨rfl, hb⟩
  have HB9 : Hid (Below w.heap.size w w9) := hid (HB8.out.trans (hb.mono HB8.out.size))
  have Q_xs := hid (sq_on Q_xs.out hb)
  have Q_ys := hid (sq_on Q_ys.out hb)
  have Q_cs := hid (sq_on Q_cs.out hb)
  have Q_ts := hid (sq_on Q_ts.out hb)
  have Q_i := hid (sq_on Q_i.out hb)
  have Q_e := hid (sq_on Q_e.out hb)
  have Q_b := hid (sq_on Q_b.out hb)
  have Q_x := hid (sq_on Q_x.out hb)
  have Q_y := hid (sq_on Q_y.out hb)
  have Q_o := hid (sq_on Q_o.out hb)
  have Q_p := hid (sq_on Q_p.out hb)
  clear hb  HB8
  go_wp2
  go_ret
  exact ⟨rfl, HB9.out⟩
end Go.Proofs.YtpkmidaflnbobaaGreatDoor
end
section
namespace Go.Proofs.YtpkmidaflnbobaaGreatDoor
open Go Go.RowKit
set_option linter.unusedVariables false
set_option linter.unusedSimpArgs false
set_option maxRecDepth 100000 in
set_option maxHeartbeats 4000000 in
theorem hpkeBack_any (hP : PairOk) (hO : OpenOk13) (hW : WrapOk) (hU : UnwrapOk) (hSL : SealLabelOk) (hOL : OpenLabelOk) (A : Option Addr) (xs : List UInt8) (c : Nat) (A' : Option Addr) (ys : List UInt8) (c' : Nat) (A2 : Option Addr) (cs : List UInt8) (c2 : Nat) (A3 : Option Addr) (ts : List UInt8) (c3 : Nat) (s : ByteArray) (w : World) (hG : Glob w) (hS_xs : Sq w w.heap.size A c (bvs xs)) (hS_ys : Sq w w.heap.size A' c' (bvs ys)) (hS_cs : Sq w w.heap.size A2 c2 (bvs cs)) (hS_ts : Sq w w.heap.size A3 c3 (bvs ts)) :
    Calls Tryz.prog 8 #[.slice A xs.length c, .slice A' ys.length c', .string s, .slice A2 cs.length c2, .slice A3 ts.length c3] w fun e w' => e = .returned (.bool true) ∧ Below w.heap.size w w' := by
  have HG := hid hG
  have KA : Hid (∀ (W : World), Glob W → Calls Tryz.prog 9 #[] W fun e w' => e = .returned (.bool true) ∧ Below W.heap.size W w') := hid fun W h => alive13_any hP hO W h
  obtain ⟨n, hn_xs⟩ : ∃ n, xs.length = n := ⟨_, rfl⟩
  rw [hn_xs]
  have Q_xs := hid hS_xs
  obtain ⟨m, hn_ys⟩ : ∃ n, ys.length = n := ⟨_, rfl⟩
  rw [hn_ys]
  have Q_ys := hid hS_ys
  obtain ⟨k, hn_cs⟩ : ∃ n, cs.length = n := ⟨_, rfl⟩
  rw [hn_cs]
  have Q_cs := hid hS_cs
  have Q_ts := hid hS_ts
  clear hG hS_xs hS_ys hS_cs hS_ts
  have HB0 : Hid (Below w.heap.size w w) := hid (Below.refl _ _)
  go_enter Tryz.func8, Tryz.ntmps8
  go_wp2_with fail
  refine (KA.out  w (HG.out.below HB0.out (Nat.le_refl _)) ).mono ?_
  rintro e w1 ⟨rfl, hb⟩
  have HB1 : Hid (Below w.heap.size w w1) := hid (HB0.out.trans (hb.mono HB0.out.size))
  have Q_xs := hid (sq_on Q_xs.out hb)
  have Q_ys := hid (sq_on Q_ys.out hb)
  have Q_cs := hid (sq_on Q_cs.out hb)
  have Q_ts := hid (sq_on Q_ts.out hb)
  clear hb  HB0
  by_cases hl_n : 100 < n
  · have hi : (100 : Int) < ((n : Nat) : Int) := by omega
    have hd : decide ((100 : Int) < ((n : Nat) : Int)) = true := by simpa using hi
    go_wp2
    go_ret
    exact ⟨rfl, HB1.out⟩
  have hi_n : ¬ (100 : Int) < ((n : Nat) : Int) := by omega
  have hd_n : decide ((100 : Int) < ((n : Nat) : Int)) = false := by simpa using hi_n
  by_cases hl_m : 100 < m
  · have hi : (100 : Int) < ((m : Nat) : Int) := by omega
    have hd : decide ((100 : Int) < ((m : Nat) : Int)) = true := by simpa using hi
    go_wp2
    go_ret
    exact ⟨rfl, HB1.out⟩
  have hi_m : ¬ (100 : Int) < ((m : Nat) : Int) := by omega
  have hd_m : decide ((100 : Int) < ((m : Nat) : Int)) = false := by simpa using hi_m
  by_cases hl_s : 100 < s.size
  · have hi : (100 : Int) < ((s.size : Nat) : Int) := by omega
    have hd : decide ((100 : Int) < ((s.size : Nat) : Int)) = true := by simpa using hi
    go_wp2
    go_ret
    exact ⟨rfl, HB1.out⟩
  have hi_s : ¬ (100 : Int) < ((s.size : Nat) : Int) := by omega
  have hd_s : decide ((100 : Int) < ((s.size : Nat) : Int)) = false := by simpa using hi_s
  by_cases hl_k : 100 < k
  · have hi : (100 : Int) < ((k : Nat) : Int) := by omega
    have hd : decide ((100 : Int) < ((k : Nat) : Int)) = true := by simpa using hi
    go_wp2
    go_ret
    exact ⟨rfl, HB1.out⟩
  have hi_k : ¬ (100 : Int) < ((k : Nat) : Int) := by omega
  have hd_k : decide ((100 : Int) < ((k : Nat) : Int)) = false := by simpa using hi_k
  by_cases hl_l : 200 < ts.length
  · have hi : (200 : Int) < ((ts.length : Nat) : Int) := by omega
    have hd : decide ((200 : Int) < ((ts.length : Nat) : Int)) = true := by simpa using hi
    go_wp2
    go_ret
    exact ⟨rfl, HB1.out⟩
  have hi_l : ¬ (200 : Int) < ((ts.length : Nat) : Int) := by omega
  have hd_l : decide ((200 : Int) < ((ts.length : Nat) : Int)) = false := by simpa using hi_l
  obtain ⟨S, BX, h1, h2, h3, h4, h5, h6⟩ := back_is xs ys (infoL (sby s) cs) ts
  obtain ⟨PR, hPR⟩ : ∃ l, l = privL xs := ⟨_, rfl⟩
  obtain ⟨PU, hPU⟩ : ∃ l, l = pubL xs := ⟨_, rfl⟩
  obtain ⟨E, hE⟩ : ∃ l, l = pubL ys := ⟨_, rfl⟩
  have lr : PR.length = 32 := by rw [hPR]; exact privL_length _
  have lu : PU.length = 32 := by rw [hPU]; exact pubL_length _
  have le : E.length = 32 := by rw [hE]; exact pubL_length _
  rw [← hE, ← hPU] at h1 h4
  rw [← hE, ← hPR] at h2 h6
  obtain ⟨b, hb⟩ : ∃ e, BX.length = e := ⟨_, rfl⟩
  rw [hb] at h5
  have hw16 : IntKind.i64.wrap ((ts.length : Int) + 16) = (b : Int) := (IntWalk.i64_in _ (by omega)).trans (by omega)
  have hne : ((b : Int) != (b : Int)) = false := by simp
  have KP : Hid (∀ (A0 : Option Addr) (c0 : Nat) (W : World), Glob W → Sq W W.heap.size A0 c0 (bvs xs) → Calls Tryz.prog 10 #[.slice A0 n c0] W (By2 W 32 PR 32 PU)) := hid fun A0 c0 W hG h => by rw [hPR, hPU]; exact hP A0 xs n c0 W hG h hn_xs (by omega)
  have KSL : Hid (∀ (A0 : Option Addr) (c0 : Nat) (A1 : Option Addr) (c1 : Nat) (A2 : Option Addr) (c2 : Nat) (A3 : Option Addr) (c3 : Nat) (W : World), Glob W → Sq W W.heap.size A0 c0 (bvs PU) → Sq W W.heap.size A1 c1 (bvs ys) → Sq W W.heap.size A2 c2 (bvs cs) → Sq W W.heap.size A3 c3 (bvs ts) → Calls Tryz.prog 24 #[.slice A0 32 c0, .slice A1 m c1, .string s, .slice A2 k c2, .slice A3 ts.length c3] W (By2N W 32 E b BX 0)) := hid fun A0 c0 A1 c1 A2 c2 A3 c3 W hG h h' h7 h8 => by2_is (hSL A0 PU 32 c0 A1 ys m c1 s A2 cs k c2 A3 ts ts.length c3 W hG h h' h7 h8 lu hn_ys hn_cs rfl (by omega) (by omega) (by omega) (by omega) (by omega)) h4 le hb
  have KOL : Hid (∀ (A0 : Option Addr) (c0 : Nat) (A1 : Option Addr) (c1 : Nat) (A2 : Option Addr) (c2 : Nat) (A3 : Option Addr) (c3 : Nat) (W : World), Glob W → Sq W W.heap.size A0 c0 (bvs PR) → Sq W W.heap.size A1 c1 (bvs E) → Sq W W.heap.size A2 c2 (bvs cs) → Sq W W.heap.size A3 c3 (bvs BX) → Calls Tryz.prog 25 #[.slice A0 32 c0, .slice A1 32 c1, .string s, .slice A2 k c2, .slice A3 b c3] W (By1N W ts.length ts 0)) := hid fun A0 c0 A1 c1 A2 c2 A3 c3 W hG h h' h7 h8 => by1_is (hOL A0 PR 32 c0 A1 E 32 c1 s A2 cs k c2 A3 BX b c3 W hG h h' h7 h8 lr le hn_cs hb (by omega) (by omega) (by omega) (by omega) (by omega)) h6 rfl
  have KW : Hid (∀ (A0 : Option Addr) (c0 : Nat) (A1 : Option Addr) (c1 : Nat) (W : World), Glob W → Sq W W.heap.size A0 c0 (bvs PU) → Sq W W.heap.size A1 c1 (bvs ys) → Calls Tryz.prog 14 #[.slice A0 32 c0, .slice A1 m c1] W (By2N W 32 S 32 E 0)) := hid fun A0 c0 A1 c1 W hG h h' => by2_is (hW A0 PU 32 c0 A1 ys m c1 W hG h h' lu hn_ys (by omega) (by omega)) h1 h3 le
  have KU : Hid (∀ (A0 : Option Addr) (c0 : Nat) (A1 : Option Addr) (c1 : Nat) (W : World), Glob W → Sq W W.heap.size A0 c0 (bvs PR) → Sq W W.heap.size A1 c1 (bvs E) → Calls Tryz.prog 17 #[.slice A0 32 c0, .slice A1 32 c1] W (By1N W 32 S 0)) := hid fun A0 c0 A1 c1 W hG h h' => by1_is (hU A0 PR 32 c0 A1 E 32 c1 W hG h h' lr le (by omega) (by omega)) h2 h3
  have KS1 : Hid (∀ (A0 : Option Addr) (c0 : Nat) (A1 : Option Addr) (c1 : Nat) (W : World), Sq W W.heap.size A0 c0 (bvs ts) → Sq W W.heap.size A1 c1 (bvs ts) → Calls Tryz.prog 13 #[.slice A0 ts.length c0, .slice A1 ts.length c1] W (fun e w' => e = .returned (.bool true) ∧ Below W.heap.size W w')) := hid fun A0 c0 A1 c1 W h h' => same13 A0 c0 A1 c1 W h h' rfl (by omega)
  have KS2 : Hid (∀ (A0 : Option Addr) (c0 : Nat) (A1 : Option Addr) (c1 : Nat) (W : World), Sq W W.heap.size A0 c0 (bvs S) → Sq W W.heap.size A1 c1 (bvs S) → Calls Tryz.prog 13 #[.slice A0 32 c0, .slice A1 32 c1] W (fun e w' => e = .returned (.bool true) ∧ Below W.heap.size W w')) := hid fun A0 c0 A1 c1 W h h' => same13 A0 c0 A1 c1 W h h' h3 (by decide)
  have HTL : Hid (ts.length ≤ 200) := hid (by omega)
  clear hP hO hW hU hSL hOL KA h1 h2 h3 h4 h5 h6 hPR hPU hE lr lu le hb
  go_upto_region 5 with fail
  refine wpLA_start ?_
  refine wpLA_empty (by rfl) (fun w' => by (go_simp; try rfl)) ?_
  intro pe we hbe hoe
  have HBe := hid hbe
  have Oe := hid hoe
  clear hbe hoe
  (try simp only [Act.put, List.getElem_toArray, List.getElem_cons_succ, List.getElem_cons_zero, List.setIfInBounds_toArray, List.set_cons_zero, List.set_cons_succ])
  refine wpLA_take (.slice A3 ts.length c3) (yG_val _ (by rfl) (fun w' _ => by (go_simp; try rfl))) ?_
  (try simp only [Act.put, List.getElem_toArray, List.getElem_cons_succ, List.getElem_cons_zero, List.setIfInBounds_toArray, List.set_cons_zero, List.set_cons_succ])
  refine wpLA_append (List.nil_append ts).symm (B := w1.heap.size) (xs := ([] : List UInt8)) (ys := ts) (by rfl) _ _ _ rfl Tryz.underlying22 infoU8 rfl Oe.out rfl rfl (sq_on Q_ts.out HBe.out) (by have := HTL.out; simp only [List.length_nil]; omega) HBe.out.size ?_
  intro A_was c_was wa hoa hba
  have HBa := hid (HBe.out.trans hba)
  have Oa := hid (ownB_sq hoa)
  clear hoa hba HBe Oe
  (try simp only [Act.put, List.getElem_toArray, List.getElem_cons_succ, List.getElem_cons_zero, List.setIfInBounds_toArray, List.set_cons_zero, List.set_cons_succ])
  refine wpLA_take (.slice A_was ts.length c_was) (yG_val _ (by rfl) (fun w' _ => by (go_simp; try rfl))) ?_
  (try simp only [Act.put, List.getElem_toArray, List.getElem_cons_succ, List.getElem_cons_zero, List.setIfInBounds_toArray, List.set_cons_zero, List.set_cons_succ])
  refine wpLA_end ?_
  intro w2 hb
  have HBx := hid hb
  have hb : Below w1.heap.size w1 w2 := HBa.out.trans (hb.mono HBa.out.size)
  have Q_was : Hid (Sq w2 w2.heap.size A_was c_was (bvs ts)) := hid (sq_on Oa.out HBx.out)
  have HB2 : Hid (Below w.heap.size w w2) := hid (HB1.out.trans (hb.mono HB1.out.size))
  have Q_xs := hid (sq_on Q_xs.out hb)
  have Q_ys := hid (sq_on Q_ys.out hb)
  have Q_cs := hid (sq_on Q_cs.out hb)
  have Q_ts := hid (sq_on Q_ts.out hb)
  clear hb HB1 HBa HBx Oa
  go_wp2_with fail
  refine (KP.out A c w2 (HG.out.below HB2.out (Nat.le_refl _)) Q_xs.out).mono ?_
  rintro e w3 ⟨A_p, c_p, A_q, c_q, rfl, hq_p, hq_q, hb⟩
  have HB3 : Hid (Below w.heap.size w w3) := hid (HB2.out.trans (hb.mono HB2.out.size))
  have Q_xs := hid (sq_on Q_xs.out hb)
  have Q_ys := hid (sq_on Q_ys.out hb)
  have Q_cs := hid (sq_on Q_cs.out hb)
  have Q_ts := hid (sq_on Q_ts.out hb)
  have Q_was := hid (sq_on Q_was.out hb)
  have Q_p := hid hq_p
  have Q_q := hid hq_q
  clear hb hq_p hq_q HB2
  go_wp2_with fail
  refine (KSL.out A_q c_q A' c' A2 c2 A3 c3 w3 (HG.out.below HB3.out (Nat.le_refl _)) Q_q.out Q_ys.out Q_cs.out Q_ts.out).mono ?_
  rintro e w4 ⟨A_e, c_e, A_b, c_b, rfl, hq_e, hq_b, hb⟩
  have HB4 : Hid (Below w.heap.size w w4) := hid (HB3.out.trans (hb.mono HB3.out.size))
  have Q_xs := hid (sq_on Q_xs.out hb)
  have Q_ys := hid (sq_on Q_ys.out hb)
  have Q_cs := hid (sq_on Q_cs.out hb)
  have Q_ts := hid (sq_on Q_ts.out hb)
  have Q_was := hid (sq_on Q_was.out hb)
  have Q_p := hid (sq_on Q_p.out hb)
  have Q_q := hid (sq_on Q_q.out hb)
  have Q_e := hid hq_e
  have Q_b := hid hq_b
  clear hb hq_e hq_b HB3
  go_wp2_with fail
  refine (KOL.out A_p c_p A_e c_e A2 c2 A_b c_b w4 (HG.out.below HB4.out (Nat.le_refl _)) Q_p.out Q_e.out Q_cs.out Q_b.out).mono ?_
  rintro e w5 ⟨A_o, c_o, rfl, hq_o, hb⟩
  have HB5 : Hid (Below w.heap.size w w5) := hid (HB4.out.trans (hb.mono HB4.out.size))
  have Q_xs := hid (sq_on Q_xs.out hb)
  have Q_ys := hid (sq_on Q_ys.out hb)
  have Q_cs := hid (sq_on Q_cs.out hb)
  have Q_ts := hid (sq_on Q_ts.out hb)
  have Q_was := hid (sq_on Q_was.out hb)
  have Q_p := hid (sq_on Q_p.out hb)
  have Q_q := hid (sq_on Q_q.out hb)
  have Q_e := hid (sq_on Q_e.out hb)
  have Q_b := hid (sq_on Q_b.out hb)
  have Q_o := hid hq_o
  clear hb hq_o HB4
  go_wp2_with fail
  refine (KW.out A_q c_q A' c' w5 (HG.out.below HB5.out (Nat.le_refl _)) Q_q.out Q_ys.out).mono ?_
  rintro e w6 ⟨A_s, c_s, A_v, c_v, rfl, hq_s, hq_v, hb⟩
  have HB6 : Hid (Below w.heap.size w w6) := hid (HB5.out.trans (hb.mono HB5.out.size))
  have Q_xs := hid (sq_on Q_xs.out hb)
  have Q_ys := hid (sq_on Q_ys.out hb)
  have Q_cs := hid (sq_on Q_cs.out hb)
  have Q_ts := hid (sq_on Q_ts.out hb)
  have Q_was := hid (sq_on Q_was.out hb)
  have Q_p := hid (sq_on Q_p.out hb)
  have Q_q := hid (sq_on Q_q.out hb)
  have Q_e := hid (sq_on Q_e.out hb)
  have Q_b := hid (sq_on Q_b.out hb)
  have Q_o := hid (sq_on Q_o.out hb)
  have Q_s := hid hq_s
  have Q_v := hid hq_v
  clear hb hq_s hq_v HB5
  go_wp2_with fail
  refine (KU.out A_p c_p A_e c_e w6 (HG.out.below HB6.out (Nat.le_refl _)) Q_p.out Q_e.out).mono ?_
  rintro e w7 ⟨A_u, c_u, rfl, hq_u, hb⟩
  have HB7 : Hid (Below w.heap.size w w7) := hid (HB6.out.trans (hb.mono HB6.out.size))
  have Q_xs := hid (sq_on Q_xs.out hb)
  have Q_ys := hid (sq_on Q_ys.out hb)
  have Q_cs := hid (sq_on Q_cs.out hb)
  have Q_ts := hid (sq_on Q_ts.out hb)
  have Q_was := hid (sq_on Q_was.out hb)
  have Q_p := hid (sq_on Q_p.out hb)
  have Q_q := hid (sq_on Q_q.out hb)
  have Q_e := hid (sq_on Q_e.out hb)
  have Q_b := hid (sq_on Q_b.out hb)
  have Q_o := hid (sq_on Q_o.out hb)
  have Q_s := hid (sq_on Q_s.out hb)
  have Q_v := hid (sq_on Q_v.out hb)
  have Q_u := hid hq_u
  clear hb hq_u HB6
  go_wp2_with fail
  refine (KS1.out A_o c_o A_was c_was w7 Q_o.out Q_was.out).mono ?_
  rintro e w8 ⟨rfl, hb⟩
  have HB8 : Hid (Below w.heap.size w w8) := hid (HB7.out.trans (hb.mono HB7.out.size))
  have Q_xs := hid (sq_on Q_xs.out hb)
  have Q_ys := hid (sq_on Q_ys.out hb)
  have Q_cs := hid (sq_on Q_cs.out hb)
  have Q_ts := hid (sq_on Q_ts.out hb)
  have Q_was := hid (sq_on Q_was.out hb)
  have Q_p := hid (sq_on Q_p.out hb)
  have Q_q := hid (sq_on Q_q.out hb)
  have Q_e := hid (sq_on Q_e.out hb)
  have Q_b := hid (sq_on Q_b.out hb)
  have Q_o := hid (sq_on Q_o.out hb)
  have Q_s := hid (sq_on Q_s.out hb)
  have Q_v := hid (sq_on Q_v.out hb)
  have Q_u := hid (sq_on Q_u.out hb)
  clear hb  HB7
  go_wp2_with fail
  refine (KS1.out A3 c3 A_was c_was w8 Q_ts.out Q_was.out).mono ?_
  rintro e w9 ⟨rfl, hb⟩
  have HB9 : Hid (Below w.heap.size w w9) := hid (HB8.out.trans (hb.mono HB8.out.size))
  have Q_xs := hid (sq_on Q_xs.out hb)
  have Q_ys := hid (sq_on Q_ys.out hb)
  have Q_cs := hid (sq_on Q_cs.out hb)
  have Q_ts := hid (sq_on Q_ts.out hb)
  have Q_was := hid (sq_on Q_was.out hb)
  have Q_p := hid (sq_on Q_p.out hb)
  have Q_q := hid (sq_on Q_q.out hb)
  have Q_e := hid (sq_on Q_e.out hb)
  have Q_b := hid (sq_on Q_b.out hb)
  have Q_o := hid (sq_on Q_o.out hb)
  have Q_s := hid (sq_on Q_s.out hb)
  have Q_v := hid (sq_on Q_v.out hb)
  have Q_u := hid (sq_on Q_u.out hb)
  clear hb  HB8
  go_wp2_with fail
  refine (KS2.out A_s c_s A_u c_u w9 Q_s.out Q_u.out).mono ?_
  rintro e w10 ⟨rfl, hb⟩
  have HB10 : Hid (Below w.heap.size w w10) := hid (HB9.out.trans (hb.mono HB9.out.size))
  have Q_xs := hid (sq_on Q_xs.out hb)
  have Q_ys := hid (sq_on Q_ys.out hb)
  have Q_cs := hid (sq_on Q_cs.out hb)
  have Q_ts := hid (sq_on Q_ts.out hb)
  have Q_was := hid (sq_on Q_was.out hb)
  have Q_p := hid (sq_on Q_p.out hb)
  have Q_q := hid (sq_on Q_q.out hb)
  have Q_e := hid (sq_on Q_e.out hb)
  have Q_b := hid (sq_on Q_b.out hb)
  have Q_o := hid (sq_on Q_o.out hb)
  have Q_s := hid (sq_on Q_s.out hb)
  have Q_v := hid (sq_on Q_v.out hb)
  have Q_u := hid (sq_on Q_u.out hb)
  clear hb  HB9
  go_wp2
  go_ret
  exact ⟨rfl, HB10.out⟩
end Go.Proofs.YtpkmidaflnbobaaGreatDoor
end
