/-
  The statements of layer 7: what they share.
-/
import Derived.Test.YtodimbmjbjioaaaDhI
import Derived.Test.YtodimbmjbjioaaaSame
import Derived.Deep.OwnRows
namespace Go.Proofs.Ytodimbmjbjioaaa
open Go.RowKit
set_option linter.unusedVariables false
set_option linter.unusedSimpArgs false

theorem zR_sq (W : World) : Sq (W.alloc (.cells zR 5)) (W.alloc (.cells zR 5)).heap.size (some ⟨W.heap.size, 0, none⟩) 32 (bvs z32) :=
  row_sq (heap_alloc_new W _) (fun j v h => by unfold zR; simpa using h) (by decide) (by decide)
theorem zR_two (W : World) : Sq ((W.alloc (.cells zR 5)).alloc (.cells zR 5)) ((W.alloc (.cells zR 5)).alloc (.cells zR 5)).heap.size (some ⟨W.heap.size, 0, none⟩) 32 (bvs z32) ∧
    Sq ((W.alloc (.cells zR 5)).alloc (.cells zR 5)) ((W.alloc (.cells zR 5)).alloc (.cells zR 5)).heap.size (some ⟨W.heap.size + 1, 0, none⟩) 32 (bvs z32) ∧
    Below W.heap.size W ((W.alloc (.cells zR 5)).alloc (.cells zR 5)) := by
  have hb : Below (W.alloc (.cells zR 5)).heap.size (W.alloc (.cells zR 5)) ((W.alloc (.cells zR 5)).alloc (.cells zR 5)) := (Below.refl _ _).alloc (Nat.le_refl _) _
  have h2 := zR_sq (W.alloc (.cells zR 5))
  have e : (W.alloc (.cells zR 5)).heap.size = W.heap.size + 1 := by simp
  rw [e] at h2
  exact ⟨(zR_sq W).on6 hb, h2, ((Below.refl _ _).alloc (Nat.le_refl _) _).alloc (by simp) _⟩
/-- Where the bytes lie. -/
theorem Sq.bytes {w : World} {B c : Nat} {A : Option Addr} {xs : List UInt8} (h : Sq w B A c (bvs xs)) (hx : 0 < xs.length) : ∃ b o, A = some ⟨b, o, none⟩ ∧ b < B ∧ ∀ k (hk : k < xs.length), w.cell? ⟨b, o + k, none⟩ = some (.int .u8 (xs[k].toNat : Int)) := by
  rcases h with ⟨h, _⟩ | ⟨b, o, hA, hb, _, _, hc⟩
  · have := congrArg List.length h
    rw [bvs_length, List.length_nil] at this
    omega
  · exact ⟨b, o, hA, hb, fun k hk => hc k _ (bvs_at xs k hk)⟩

theorem World.size_setCell7 (w : World) (a : Addr) (v : Value) : (w.setCell a v).heap.size = w.heap.size := by simp [World.setCell]
/-- Bytes that lie somewhere. -/
def Bys (w : World) : List (Option Addr × Nat × List UInt8) → Prop
  | [] => True
  | p :: l => Sq w w.heap.size p.1 p.2.1 (bvs p.2.2) ∧ Bys w l
theorem Bys.on {w w' : World} (hb : Below w.heap.size w w') : ∀ {l}, Bys w l → Bys w' l
  | [], _ => trivial
  | p :: l, h => ⟨h.1.on6 hb, Bys.on hb h.2⟩
/-- None of them in block g. -/
def Apart (g : Nat) : List (Option Addr × Nat × List UInt8) → Prop
  | [] => True
  | p :: l => NotIn p.1 (bvs p.2.2) g ∧ Apart g l
theorem Bys.apart {w : World} {g : Nat} (hg : w.heap.size ≤ g) : ∀ {l}, Bys w l → Apart g l
  | [], _ => trivial
  | p :: l, h => ⟨h.1.notIn hg, Bys.apart hg h.2⟩
theorem Bys.set {w : World} {g : Nat} (i : Nat) (v : Value) : ∀ {l}, Bys w l → Apart g l → Bys (w.setCell ⟨g, i, none⟩ v) l
  | [], _, _ => trivial
  | p :: l, h, a => ⟨by rw [World.size_setCell7]; exact h.1.other (grown_setCell w g i none v) (Nat.le_refl _) a.1, Bys.set i v h.2 a.2⟩
/-- What a statement's walk holds. -/
def Ls (w0 w : World) (l : List (Option Addr × Nat × List UInt8)) : Prop := Bys w l ∧ Below w0.heap.size w0 w
section
variable {w0 w w' : World} {l : List (Option Addr × Nat × List UInt8)}
theorem Ls.call (h : Ls w0 w l) (hb : Below w.heap.size w w') : Ls w0 w' l := ⟨h.1.on hb, h.2.trans (hb.mono h.2.size)⟩
theorem Ls.made (h : Ls w0 w l) (hb : Below w.heap.size w w') {A : Option Addr} {c : Nat} {xs : List UInt8} (hs : Sq w' w'.heap.size A c (bvs xs)) : Ls w0 w' ((A, c, xs) :: l) := ⟨⟨hs, h.1.on hb⟩, h.2.trans (hb.mono h.2.size)⟩
theorem Ls.drewN (h : Ls w0 w l) (n : Nat) : Ls w0 (w.drewN n) l := h.call (belowB_drewN (Below.refl _ _) n)
end
theorem same32 {v : List UInt8} (hvl : v.length = 32) : Hid (∀ (W : World) B B' A1 c1 A2 c2, Lie W B A1 (bvs v) → Lie W B' A2 (bvs v) → Calls Try.prog 7 #[.slice A1 32 c1, .slice A2 32 c2] W fun e w' => e = .returned (.bool true) ∧ ∃ n, w' = W.drewN n) := hid fun W B B' A1 c1 A2 c2 h h' => by
  have h := Same_any A1 v c1 A2 v c2 W B B' h h' (by rw [hvl]; omega)
  rw [hvl, beq_self_eq_true] at h
  exact h

set_option maxHeartbeats 1000000 in
theorem alive7_any (w : World) : Calls Try.prog 6 #[] w fun e w' => e = .returned (.bool true) ∧ Below w.heap.size w w' := by
  have hmk := mk32
  have HBA := hid (fun W A c h => DhBase_e A z32 c W h (by rw [z32_length]; omega) z32_length)
  rw [dhV_base] at HBA
  have HSH := hid (fun W A c A' c' h h' => DhShared_zero A z32 c A' z32 c' W h h' (by rw [z32_length]; omega) (by rw [z32_length]; omega) z32_length z32_length (dhV_zero z32 uF_zero))
  have HB0 : Hid (Below w.heap.size w (w.alloc (.cells zR 5))) := hid ((Below.refl _ _).alloc (Nat.le_refl _) _)
  have HS0 := hid (zR_sq w)
  go_enter Try.func6, Try.ntmps6
  go_wp2_with fail
  refine (HBA.out _ _ _ HS0.out).mono ?_
  rintro e w1 ⟨A1, c1, rfl, hS1, -, hb1⟩
  obtain ⟨b, o, rfl, hbl, hcell⟩ := hS1.bytes (by decide)
  have c0 := hcell 0 (by decide); have c1' := hcell 1 (by decide); have c2' := hcell 2 (by decide); have c3 := hcell 3 (by decide)
  have C0 : Hid (∀ W, Below w1.heap.size w1 W → W.cell? ⟨b, o, none⟩ = some (.int .u8 47) ∧ W.cell? ⟨b, o + 1, none⟩ = some (.int .u8 229) ∧ W.cell? ⟨b, o + 2, none⟩ = some (.int .u8 125) ∧ W.cell? ⟨b, o + 3, none⟩ = some (.int .u8 163)) := hid fun W hW =>
    ⟨(hW.cell (p := ⟨b, o, none⟩) hbl).trans c0, (hW.cell (p := ⟨b, o + 1, none⟩) hbl).trans c1', (hW.cell (p := ⟨b, o + 2, none⟩) hbl).trans c2', (hW.cell (p := ⟨b, o + 3, none⟩) hbl).trans c3⟩
  have HB1 := hid (HB0.out.trans (hb1.mono HB0.out.size))
  clear hS1 hb1 hcell c0 c1' c2' c3 hbl HB0 HS0 HBA
  have hB0 : Below w1.heap.size w1 w1.drew := (Below.refl _ _).drew
  have hB00 : Below w1.heap.size w1 w1 := Below.refl _ _
  have HTW := hid (zR_two w1)
  go_wp2_with fail
  go_region_held3 (fun W => Below w1.heap.size w1 W)
    (first
      | exact hB0
      | exact (hB00.alloc (Nat.le_refl _) _).drew
      | exact ((hB00.alloc (Nat.le_refl _) _).alloc (by simp) _).drew
      | assumption)
    (first
      | (go_at_call 11; refine (HSH.out _ _ _ _ _ (by first | exact HTW.out.1 | exact HTW.out.2.1) (by first | exact HTW.out.1 | exact HTW.out.2.1)).mono ?_; rintro e w2 ⟨A2, c2, rfl, hb2⟩; have hB2 : Below w1.heap.size w1 w2 := HTW.out.2.2.drew.trans (hb2.mono HTW.out.2.2.size)))
  all_goals obtain ⟨d0, d1, d2, d3⟩ := C0.out _ hB2
  all_goals have HBE := hid (HB1.out.trans (hB2.mono HB1.out.size))
  all_goals clear hB2 hb2 HTW hB0 hB00 C0 HSH hmk
  all_goals go_wp2
  all_goals go_ret
  all_goals exact ⟨rfl, HBE.out⟩
end Go.Proofs.Ytodimbmjbjioaaa
