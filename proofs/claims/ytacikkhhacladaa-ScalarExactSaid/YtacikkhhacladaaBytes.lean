/-
  Bytes in memory: slices of bytes and of byte slices, what the call owns of them, numbers as bytes.
-/
import Derived.Test.YtacikkhhacladaaProg
import Derived.Test.YtacikkhhacladaaBase
import Derived.Deep.LoopGhost
import Derived.Deep.QuietTactic
import Derived.BigQuiet
import Derived.ScopeJumps
import Derived.Deep.RegionHeld3
namespace Go.Proofs.Ytacikkhhacladaa
open Go.RowKit
set_option linter.unusedVariables false
set_option linter.unusedSimpArgs false

abbrev U8 : TypeId := 5
abbrev SU8 : TypeId := 22
theorem infoU8 : (Try.prog.info? 5).map (fun i => (i.zero, i.size, i.bytes)) = some (some (.int .u8 0), 1, 1) := by kernel_rfl

/-- Bytes as cells. -/
def bvs (xs : List UInt8) : List Value := xs.map fun x => .int .u8 (x.toNat : Int)
@[simp] theorem bvs_length (xs : List UInt8) : (bvs xs).length = xs.length := by simp [bvs]
theorem bvs_one (xs : List UInt8) : ∀ u ∈ bvs xs, u.oneCell' = true := by
  intro u hu
  simp only [bvs, List.mem_map] at hu
  obtain ⟨x, _, rfl⟩ := hu
  rfl
theorem bvs_append (xs ys : List UInt8) : bvs (xs ++ ys) = bvs xs ++ bvs ys := by simp [bvs]

/-- The call owns the bytes xs as the slice v, in blocks from B on. -/
def OwnB (w : World) (B : Nat) (v : Value) (xs : List UInt8) : Prop := w.ownsRow B 5 1 v xs.length (bvs xs)

theorem own_base {w : World} {B B' : Nat} {v : Value} {xs : List UInt8} (h : OwnB w B' v xs) (hB : B ≤ B') : OwnB w B v xs := by
  obtain ⟨h1, h2⟩ := h
  refine ⟨h1, ?_⟩
  rcases h2 with h2 | ⟨g, cap, cur, hv, hb, r⟩
  · exact .inl h2
  · exact .inr ⟨g, cap, cur, hv, Nat.le_trans hB hb, r⟩

/-- The lowest k bytes of n, the highest first. -/
def beBytes : Nat → Nat → List UInt8
  | 0, _ => []
  | k + 1, n => UInt8.ofNat (n / 256 ^ k) :: beBytes k n
@[simp] theorem beBytes_length (k n : Nat) : (beBytes k n).length = k := by induction k with | zero => rfl | succ k ih => simp [beBytes, ih]

theorem ofNat_val (m : Nat) : (((UInt8.ofNat m).toNat : Nat) : Int) = (m : Int) % 256 := by
  simp [UInt8.toNat_ofNat']
theorem shr_val (n j : Nat) : (n : Int) / 2 ^ (8 * j) % 256 = (((UInt8.ofNat (n / 256 ^ j)).toNat : Nat) : Int) := by
  rw [ofNat_val]
  have : (2 : Nat) ^ (8 * j) = 256 ^ j := by rw [Nat.pow_mul]
  have h2 : ((2 : Int) ^ (8 * j)) = ((2 ^ (8 * j) : Nat) : Int) := by simp
  rw [h2, this]
  simp

theorem own_snoc {w : World} {B : Nat} {v : Value} {xs : List UInt8} {n : Nat} {y : UInt8} {z : Int} (h : w.ownsRow B 5 1 v n (bvs xs ++ [.int .u8 z])) (hn : n = xs.length + 1) (hz : z = (y.toNat : Int)) : OwnB w B v (xs ++ [y]) := by
  subst hn
  subst hz
  simpa [OwnB, bvs] using h

theorem or_join (i a n : Nat) (ha : a % 2 ^ i = 0) (hn : n < 2 ^ i) (h1 : a < 18446744073709551616) (h2 : n < 18446744073709551616) : bits .or .u64 (a : Int) (n : Int) = ((a + n : Nat) : Int) := by
  rw [u64_or_nat a n h1 h2, nat_join i a n ha hn]

/-- A slice of byte slices lies below B and reads as ls. -/
def Rows2 (w : World) (B : Nat) (A : Option Addr) (ls : List (List UInt8)) : Prop :=
  ∃ vs : List Value, vs.length = ls.length ∧ Lie w B A vs ∧ ∀ (j : Nat) (x : List UInt8), ls[j]? = some x → ∃ A' c, vs[j]? = some (.slice A' x.length c) ∧ Lie w B A' (bvs x)

section
variable {w w' : World} {B B' : Nat} {A : Option Addr} {ls : List (List UInt8)}
theorem Rows2.nil : Rows2 w B A [] := ⟨[], rfl, Lie.nil, fun j x h => by simp at h⟩
theorem Rows2.keep (h : Rows2 w B A ls) (hk : ∀ b o, b < B → w'.cell? ⟨b, o, none⟩ = w.cell? ⟨b, o, none⟩) : Rows2 w' B A ls := by
  obtain ⟨vs, hl, hv, he⟩ := h
  refine ⟨vs, hl, hv.keep hk, fun j x hx => ?_⟩
  obtain ⟨A', c, h1, h2⟩ := he j x hx
  exact ⟨A', c, h1, h2.keep hk⟩
theorem Rows2.more (h : Rows2 w B A ls) (hB : B ≤ B') : Rows2 w B' A ls := by
  obtain ⟨vs, hl, hv, he⟩ := h
  refine ⟨vs, hl, hv.more hB, fun j x hx => ?_⟩
  obtain ⟨A', c, h1, h2⟩ := he j x hx
  exact ⟨A', c, h1, h2.more hB⟩
theorem Rows2.below (h : Rows2 w B A ls) (hb : Below B w w') : Rows2 w' B A ls := h.keep fun b o hlt => hb.cell (p := ⟨b, o, none⟩) hlt
theorem Rows2.drewN (h : Rows2 w B A ls) (n : Nat) : Rows2 (w.drewN n) B A ls := h
theorem Rows2.at_ (h : Rows2 w B A ls) {k : Nat} (hk : k < ls.length) : ∃ b o A' c, A = some ⟨b, o, none⟩ ∧ b < B ∧ w.cell? ⟨b, o + k, none⟩ = some (.slice A' ls[k].length c) ∧ Lie w B A' (bvs ls[k]) := by
  obtain ⟨vs, hl, hv, he⟩ := h
  obtain ⟨A', c, h1, h2⟩ := he k ls[k] (List.getElem?_eq_getElem hk)
  obtain ⟨b, o, hA, hb, hc⟩ := hv.at_ (k := k) (by omega)
  rw [List.getElem?_eq_getElem (by omega)] at h1
  injection h1 with h1
  exact ⟨b, o, A', c, hA, hb, by rw [hc, h1], h2⟩
end

/-- The number that n's bytes and those of xs make. -/
def beNum (n : Nat) (xs : List UInt8) : Nat := xs.foldl (fun a x => a * 256 + x.toNat) n
theorem beNum_snoc (n : Nat) (xs : List UInt8) (x : UInt8) : beNum n (xs ++ [x]) = beNum n xs * 256 + x.toNat := by simp [beNum]
theorem beNum_lt (n : Nat) (xs : List UInt8) : beNum n xs < (n + 1) * 256 ^ xs.length := by
  induction xs generalizing n with
  | nil => simp [beNum]
  | cons x l ih =>
    have h := ih (n * 256 + x.toNat)
    have hx := x.toNat_lt
    have h2 : (n * 256 + x.toNat + 1) * 256 ^ l.length ≤ (n + 1) * 256 * 256 ^ l.length := Nat.mul_le_mul_right _ (by omega)
    simp only [beNum, List.foldl_cons, List.length_cons] at h ⊢
    rw [Nat.pow_succ, Nat.mul_comm (256 ^ l.length) 256, ← Nat.mul_assoc]
    exact Nat.lt_of_lt_of_le h h2

theorem bvs_get (xs : List UInt8) (k : Nat) (h : k < (bvs xs).length) : (bvs xs)[k] = .int .u8 ((xs[k]'(by simpa using h)).toNat : Int) := by simp [bvs]
theorem Lie.byte {w : World} {B : Nat} {A : Option Addr} {xs : List UInt8} (h : Lie w B A (bvs xs)) {k : Nat} (hk : k < xs.length) :
    ∃ b o, A = some ⟨b, o, none⟩ ∧ b < B ∧ w.cell? ⟨b, o + k, none⟩ = some (.int .u8 (xs[k].toNat : Int)) := by
  obtain ⟨b, o, hA, hb, hc⟩ := h.at_ (k := k) (by simpa using hk)
  exact ⟨b, o, hA, hb, by rw [hc, bvs_get]⟩

theorem or_byte (T x : Nat) (hx : x < 256) (hT : T * 256 + 256 ≤ 18446744073709551616) : bits .or .u64 ((T : Int) * 256) (x : Int) = ((T * 256 + x : Nat) : Int) := by
  have h := or_join 8 (T * 256) x (by omega) (by omega) (by omega) (by omega)
  rw [← h]
  simp

theorem wrap_byte (T : Nat) (hT : T * 256 + 256 ≤ 18446744073709551616) : IntKind.u64.wrap ((T : Int) * 256) = (T : Int) * 256 := by
  rw [IntKind.wrap_u64]; omega

end Go.Proofs.Ytacikkhhacladaa
