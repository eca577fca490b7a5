/-
  Texts of this claim in one file: Ref12a, Ref11c, Ref12d, Ref12h, Ref12b, Ref12c, Ref12i, Ref12j.
-/
import Derived.Test.YtpkmidaflnbobaaGreatDoorPk37
import Derived.Test.YtpkmidaflnbobaaGreatDoorPk39
import Derived.Test.YtpkmidaflnbobaaGreatDoorPk38
import Derived.Test.YtpkmidaflnbobaaGreatDoorPk25
import Derived.Test.YtpkmidaflnbobaaGreatDoorPk24
import Derived.Test.YtpkmidaflnbobaaGreatDoorPk21
import Derived.Deep.OwnRows
import Derived.Test.YtpkmidaflnbobaaGreatDoorPk27
import Derived.Test.YtpkmidaflnbobaaGreatDoorPk28
section
namespace Go.Proofs.YtpkmidaflnbobaaGreatDoor
open Go.RowKit
set_option linter.unusedVariables false
set_option linter.unusedSimpArgs false
/-- The bit of x to the power n. -/
def gbit (f : Nat → Nat) (n : Nat) : Nat := f (n / 8) / 2 ^ (7 - n % 8) % 2
/-- Two lists held against another. -/
def xorL : List UInt8 → List UInt8 → List UInt8
  | a :: xs, b :: ys => UInt8.ofNat (a.toNat ^^^ b.toNat) :: xorL xs ys
  | _, _ => []
theorem xorL_length : ∀ (xs ys : List UInt8), xs.length ≤ ys.length → (xorL xs ys).length = xs.length
  | [], _, _ => rfl
  | a :: xs, [], h => by simp at h
  | a :: xs, b :: ys, h => by simp only [xorL, List.length_cons]; rw [xorL_length xs ys (by simpa using h)]
theorem xorL_at : ∀ (xs ys : List UInt8) (k : Nat) (h : k < xs.length) (h' : k < ys.length), (xorL xs ys)[k]? = some (UInt8.ofNat (xs[k].toNat ^^^ ys[k].toNat))
  | a :: xs, b :: ys, 0, _, _ => rfl
  | a :: xs, b :: ys, k + 1, h, h' => by
    simp only [xorL, List.getElem?_cons_succ, List.getElem_cons_succ]
    exact xorL_at xs ys k (by simpa using h) (by simpa using h')
/-- With 0 behind to whole blocks. -/
def fillL (xs : List UInt8) : List UInt8 := xs ++ List.replicate ((16 - xs.length % 16) % 16) 0
theorem fillL_length (xs : List UInt8) : (fillL xs).length = (xs.length + 15) / 16 * 16 := by unfold fillL; rw [List.length_append, List.length_replicate]; omega
end Go.Proofs.YtpkmidaflnbobaaGreatDoor
end
section
namespace Go.Proofs.YtpkmidaflnbobaaGreatDoor
open Go.RowKit
set_option linter.unusedVariables false
set_option linter.unusedSimpArgs false
/-- A row of whole numbers lies below B. -/
structure Ints (w : World) (B : Nat) (A : Option Addr) (c : Nat) (f : Nat → Nat) (n : Nat) : Prop where
  at_ : ∃ g, A = some ⟨g, 0, none⟩ ∧ g < B ∧ ∀ j, j < n → w.cell? ⟨g, j, none⟩ = some (.int .i64 ((f j : Nat) : Int))
  cap : n ≤ c ∧ c ≤ 9223372036854775807
theorem Ints.below {w w' : World} {B c n : Nat} {A : Option Addr} {f : Nat → Nat} (h : Ints w B A c f n) (hb : Below B w w') : Ints w' B A c f n := by
  obtain ⟨⟨g, hA, hg, hc⟩, h2⟩ := h
  exact ⟨⟨g, hA, hg, fun j hj => (hb.cell (p := ⟨g, j, none⟩) hg).trans (hc j hj)⟩, h2⟩
theorem Ints.more {w : World} {B B' c n : Nat} {A : Option Addr} {f : Nat → Nat} (h : Ints w B A c f n) (hB : B ≤ B') : Ints w B' A c f n := by
  obtain ⟨⟨g, hA, hg, hc⟩, h2⟩ := h
  exact ⟨⟨g, hA, by omega, hc⟩, h2⟩
end Go.Proofs.YtpkmidaflnbobaaGreatDoor
end
section
namespace Go.Proofs.YtpkmidaflnbobaaGreatDoor
open Go.RowKit
set_option linter.unusedVariables false
set_option linter.unusedSimpArgs false
/-- The block as a polynomial. -/
def polN (f : Nat → Nat) : Nat → Nat
  | 0 => 0
  | n + 1 => polN f n ^^^ (if gbit f n = 1 then 2 ^ n else 0)
def pol (f : Nat → Nat) : Nat := polN f 128
theorem polN_bit (f : Nat → Nat) : ∀ n i, (polN f n).testBit i = (decide (i < n) && decide (gbit f i = 1))
  | 0, i => by simp [polN]
  | n + 1, i => by
    show (polN f n ^^^ (if gbit f n = 1 then 2 ^ n else 0)).testBit i = _
    rw [Nat.testBit_xor, polN_bit f n i]
    by_cases h : i = n
    · subst h
      by_cases h1 : gbit f i = 1 <;> simp [h1]
    · have h2 : (if gbit f n = 1 then 2 ^ n else 0 : Nat).testBit i = false := by
        split
        · rw [Nat.testBit_two_pow]; simp; omega
        · simp
      rw [h2]
      by_cases h3 : i < n
      · rw [show decide (i < n) = true by simp [h3], show decide (i < n + 1) = true by simp; omega]; simp
      · rw [show decide (i < n) = false by simp; omega, show decide (i < n + 1) = false by simp; omega]; rfl
theorem pol_lt (f : Nat → Nat) : pol f < 2 ^ 128 := by
  apply Nat.lt_pow_two_of_testBit
  intro i hi
  unfold pol
  rw [polN_bit, show decide (i < 128) = false by simp; omega]; rfl
theorem pol_bit (f : Nat → Nat) (i : Nat) (hi : i < 128) : (pol f).testBit i = decide (gbit f i = 1) := by
  unfold pol
  rw [polN_bit, show decide (i < 128) = true by simp [hi]]; rfl
/-- A coefficient. -/
def pf (p i : Nat) : Nat := if p.testBit i then 1 else 0
theorem pf_le (p i : Nat) : pf p i ≤ 1 := by unfold pf; split <;> omega
/-- A number's bytes, from its first k coefficients. -/
def ub (p : Nat) : Nat → Nat → Nat
  | 0, _ => 0
  | k + 1, j => ub p k j + (if k / 8 = j ∧ p.testBit k = true then 2 ^ (7 - k % 8) else 0)
theorem ub_le (p j : Nat) : ∀ k, ub p k j + 2 ^ (8 - min 8 (k - 8 * j)) ≤ 256
  | 0 => by simp [ub]
  | k + 1 => by
    have h := ub_le p j k
    show ub p k j + (if k / 8 = j ∧ p.testBit k = true then 2 ^ (7 - k % 8) else 0) + 2 ^ (8 - min 8 (k + 1 - 8 * j)) ≤ 256
    by_cases hj : k / 8 = j
    · have e1 : 8 - min 8 (k - 8 * j) = (7 - k % 8) + 1 := by omega
      have e2 : 8 - min 8 (k + 1 - 8 * j) = 7 - k % 8 := by omega
      rw [e1, Nat.pow_succ] at h
      rw [e2]
      split <;> omega
    · rw [if_neg (fun hc => hj hc.1)]
      have e : 2 ^ (8 - min 8 (k + 1 - 8 * j)) ≤ 2 ^ (8 - min 8 (k - 8 * j)) := Nat.pow_le_pow_right (by omega) (by omega)
      omega
theorem ub_lt (p k j : Nat) : ub p k j < 256 := by
  have h := ub_le p j k
  have := Nat.two_pow_pos (8 - min 8 (k - 8 * j))
  omega
/-- A block's bytes. -/
def unL (p : Nat) : List UInt8 := blkL (ub p 128)
theorem unL_length (p : Nat) : (unL p).length = 16 := blkL_length _
end Go.Proofs.YtpkmidaflnbobaaGreatDoor
end
section
namespace Go.Proofs.YtpkmidaflnbobaaGreatDoor
open Go.RowKit
set_option linter.unusedVariables false
set_option linter.unusedSimpArgs false
/-- The document's product of two blocks. -/
def timesL (xs ys : List UInt8) : List UInt8 := unL (gm (pol (bf xs)) (pol (bf ys)))
theorem timesL_length (xs ys : List UInt8) : (timesL xs ys).length = 16 := unL_length _
end Go.Proofs.YtpkmidaflnbobaaGreatDoor
end
section
namespace Go.Proofs.YtpkmidaflnbobaaGreatDoor
open Go.RowKit
set_option linter.unusedVariables false
set_option linter.unusedSimpArgs false
/-- A number in n bytes, the highest first: the byte i. -/
def lenB (N i : Nat) : Nat := N / 256 ^ (7 - i) % 256
theorem lenB_lt (N i : Nat) : lenB N i < 256 := Nat.mod_lt _ (by decide)
/-- Eight bytes. -/
def eightL (f : Nat → Nat) : List UInt8 := (List.range 8).map fun i => UInt8.ofNat (f i)
theorem eightL_length (f : Nat → Nat) : (eightL f).length = 8 := by simp [eightL]
theorem eightL_at (S : Nat → Nat) (i : Nat) (h : i < 8) : (eightL S)[i]'(by rw [eightL_length]; exact h) = UInt8.ofNat (S i) := by simp [eightL]
/-- What a mask is sealed from. -/
def nonceL (nonce : List UInt8) (n : Nat) : List UInt8 := nonce ++ [0, 0, UInt8.ofNat (n / 256), UInt8.ofNat (n % 256)]
theorem nonceL_length (nonce : List UInt8) (n : Nat) : (nonceL nonce n).length = nonce.length + 4 := by simp [nonceL]
/-- The n-th mask. -/
def maskL (key nonce : List UInt8) (n : Nat) : List UInt8 := blkL (sealN (bf key) (bf (nonceL nonce n)))
end Go.Proofs.YtpkmidaflnbobaaGreatDoor
end
section
namespace Go.Proofs.YtpkmidaflnbobaaGreatDoor
open Go.RowKit
set_option linter.unusedVariables false
set_option linter.unusedSimpArgs false
/-- The mask's byte at a place of the text. -/
def mskB (key nonce : List UInt8) (i : Nat) : Nat := bf (maskL key nonce (i / 16 + 2)) (i % 16)
/-- The first k bytes of a text held against masks. -/
def mskN (key nonce text : List UInt8) (k : Nat) : List UInt8 := (List.range k).map fun i => UInt8.ofNat (bf text i ^^^ mskB key nonce i)
def maskedL (key nonce text : List UInt8) : List UInt8 := mskN key nonce text text.length
theorem mskN_length (key nonce text : List UInt8) (k : Nat) : (mskN key nonce text k).length = k := by simp [mskN]
theorem maskL_length (key nonce : List UInt8) (n : Nat) : (maskL key nonce n).length = 16 := blkL_length _
end Go.Proofs.YtpkmidaflnbobaaGreatDoor
end
section
namespace Go.Proofs.YtpkmidaflnbobaaGreatDoor
open Go.RowKit
set_option linter.unusedVariables false
set_option linter.unusedSimpArgs false
def hashH (key : List UInt8) : List UInt8 := blkL (sealN (bf key) (bf (blkL fun _ => 0)))
theorem hashH_length (key : List UInt8) : (hashH key).length = 16 := blkL_length _
/-- What is held by the tag: more, the sealed text, their lengths. -/
def heldL (more sealed : List UInt8) : List UInt8 := ((fillL more ++ fillL sealed) ++ eightL (lenB (8 * more.length))) ++ eightL (lenB (8 * sealed.length))
def heldK (more sealed : List UInt8) : Nat := (more.length + 15) / 16 + (sealed.length + 15) / 16 + 1
theorem heldL_length (more sealed : List UInt8) : (heldL more sealed).length = 16 * heldK more sealed := by
  unfold heldL heldK
  rw [List.length_append, List.length_append, List.length_append, fillL_length, fillL_length, eightL_length, eightL_length]; omega
/-- After k blocks. -/
def tagY (h all : List UInt8) : Nat → List UInt8
  | 0 => blkL fun _ => 0
  | k + 1 => timesL (xorL (tagY h all k) ((all.drop (16 * k)).take 16)) h
theorem tagY_length (h all : List UInt8) : ∀ k, (tagY h all k).length = 16
  | 0 => blkL_length _
  | k + 1 => timesL_length _ _
def tagL (key nonce sealed more : List UInt8) : List UInt8 :=
  xorL (tagY (hashH key) (heldL more sealed) (heldK more sealed)) (maskL key nonce 1)
theorem tagL_length (key nonce sealed more : List UInt8) : (tagL key nonce sealed more).length = 16 := by
  unfold tagL; rw [xorL_length _ _ (by rw [tagY_length, maskL_length]; omega), tagY_length]
theorem own_n {w : World} {B n : Nat} {v : Value} {xs : List UInt8} (h : OwnB w B v xs) (hn : xs.length = n) : ∃ A c, v = .slice A n c ∧ Sl w w.heap.size A c (bvs xs) := by
  subst hn; exact own_sl h
theorem grown12 {w a : World} (h : Below w.heap.size w a) : w.grownBy a none := ⟨h.os, h.tape, h.output, h.size, fun k hk _ => h.block k hk⟩
end Go.Proofs.YtpkmidaflnbobaaGreatDoor
end
section
namespace Go.Proofs.YtpkmidaflnbobaaGreatDoor
open Go.RowKit
set_option linter.unusedVariables false
set_option linter.unusedSimpArgs false
theorem maskedL_length (key nonce text : List UInt8) : (maskedL key nonce text).length = text.length := mskN_length _ _ _ _
def seal12L (key nonce text more : List UInt8) : List UInt8 := maskedL key nonce text ++ tagL key nonce (maskedL key nonce text) more
theorem seal12L_length (key nonce text more : List UInt8) : (seal12L key nonce text more).length = text.length + 16 := by
  unfold seal12L; rw [List.length_append, maskedL_length, tagL_length]
end Go.Proofs.YtpkmidaflnbobaaGreatDoor
end
