/-
  Package long: the digest of bytes, of parts.
-/
import Derived.Test.YtokggppfobbblaaDoorLon7
namespace Go.Proofs.YtokggppfobbblaaDoor
open Go.RowKit
set_option linter.unusedVariables false
set_option linter.unusedSimpArgs false

/-- A new block holds the digest's bytes, and v is the slice of it. -/
def DigestL (w w' : World) (v : Value) (xs : List UInt8) : Prop := ∃ b, v = .slice (some ⟨b, 0, none⟩) 64 64 ∧ w'.heap[b]? = some (.cells (byA xs) A64B (0, 0)) ∧ w.heap.size ≤ b ∧ xs.length = 64

theorem rows_one {w' : World} {B g : Nat} {A : Option Addr} {c : Nat} {x : List UInt8} {t : TypeId} (hg : w'.heap[g]? = some (.cells #[.slice A x.length c] t (0, 0))) (hS : Sq w' B A c (bvs x)) (hB : g < B) : Rows2' w' B (some ⟨g, 0, none⟩) [x] :=
  ⟨[.slice A x.length c], rfl, fun _ => ⟨g, 0, rfl, hB, fun j u hu => by rw [Nat.zero_add]; exact cell_of hg j u (by simpa using hu)⟩, fun j y hy => by
    have hj : j = 0 := by
      have := (List.getElem?_eq_some_iff.1 hy).1
      simpa using this
    subst hj
    simp at hy
    subst hy
    exact ⟨A, c, rfl, hS⟩⟩

set_option maxRecDepth 100000 in
set_option maxHeartbeats 800000 in
theorem SumL_any (A : Option Addr) (xs : List UInt8) (c : Nat) (w : World) (hn : xs.length ≤ 1152921504606846976) (hA : Sq w w.heap.size A c (bvs xs)) (hG : GlobL w) :
    Calls Tryd.prog 16 #[.slice A xs.length c] w fun e w' => e = .returned (.agg (byA (longB xs))) ∧ Below w.heap.size w w' := by
  obtain ⟨z64, hz64⟩ : ∃ z : Array Value, z = (List.replicate 64 (Value.int .u8 0)).toArray := ⟨_, rfl⟩
  have hz64s : z64.size = 64 := by rw [hz64]; simp
  have hzero : ∀ W : World, (zeroValue 30).run Tryd.prog W = .ok (.agg z64) W := fun W => by
    rw [hz64]
    exact (zero_of_info (P := Tryd.prog) (t := 30) (v := .agg (List.replicate 64 (Value.int .u8 0)).toArray) (n := 64) (by kernel_rfl)).1 W
  have hbw : Below w.heap.size w ((w.alloc (.cells z64 A64B)).alloc (.cells #[.slice A xs.length c] 22)) := ((Below.refl _ _).alloc (Nat.le_refl _) _).alloc (by simp) _
  have hrow := heap_alloc2_new w (.cells z64 A64B) (.cells #[.slice A xs.length c] 22)
  have hrow0 := heap_alloc2_old w (.cells z64 A64B) (.cells #[.slice A xs.length c] 22)
  have HC := hid (digest_any (some ⟨w.heap.size + 1, 0, none⟩) [xs] 1 ((w.alloc (.cells z64 A64B)).alloc (.cells #[.slice A xs.length c] 22))
    (rows_one hrow ((hA.below hbw).more (by simp; omega)) (by simp)) (hG.below hbw (Nat.le_refl _)) (by simp) (by simpa using hn))
  obtain ⟨bs, hbs⟩ : ∃ bs, bs = byA (longB xs) := ⟨_, rfl⟩
  simp only [List.flatten_cons, List.flatten_nil, List.append_nil, List.length_cons, List.length_nil, Nat.zero_add] at HC
  rw [← hbs] at HC ⊢
  have hbz : bs.size = 64 := by rw [hbs]; simp [byA, longB_length]
  have HI3 : Hid ((Tryd.prog.info? 30).map (·.size) = some bs.size) := hid (info64B.trans (congrArg some hbz.symm))
  have HZ3 : Hid (z64.size = bs.size) := hid (hz64s.trans hbz.symm)
  have HO3 : Hid (bs.all (·.oneCell') = true) := hid (by rw [hbs]; exact byA_one _)
  have HR0 := hid hrow0; have HBW := hid hbw
  have hsz2 : ((w.alloc (.cells z64 A64B)).alloc (.cells #[.slice A xs.length c] 22)).heap.size = w.heap.size + 1 + 1 := by simp
  have HSZ := hid hsz2
  clear hA hG hn hz64 hz64s hbw hrow hrow0 hbs hbz hsz2
  go_enter Tryd.func16, Tryd.ntmps16
  go_wp2_with fail
  refine HC.out.mono ?_
  rintro e w1 ⟨rfl, hb1⟩
  rw [HSZ.out] at hb1
  have hR1 : w1.heap[w.heap.size]? = some (.cells z64 A64B (0, 0)) := (hb1.block _ (by omega)).trans HR0.out
  have hB1 : Below w.heap.size w w1 := HBW.out.trans (hb1.mono (by omega))
  have HR1 := hid hR1; have HB1 := hid hB1
  clear hb1 hR1 hB1 hzero
  go_wp2_with (with_reducible refine wpList_store_row rfl 30 (.tmp 2) _ rfl w.heap.size bs rfl rfl A64B z64 HR1.out HI3.out HZ3.out HO3.out ?_)
  refine bodyPost_ret (v := .agg bs) (results_cell_row rfl _ _ w.heap.size A64B bs (0, 0) _ rfl (setRow_heap _ _ _ _ _ _ HR1.out) Tryd.underlying30 rfl HI3.out) rfl ⟨rfl, ?_⟩
  exact below_setRow HB1.out (Nat.le_refl _) _

set_option maxRecDepth 100000 in
set_option maxHeartbeats 800000 in
theorem OfL_any (A : Option Addr) (ls : List (List UInt8)) (c : Nat) (w : World) (hA : Rows2' w w.heap.size A ls) (hG : GlobL w) (hl : ls.length ≤ 9223372036854775807) (hn : ls.flatten.length ≤ 1152921504606846976) :
    Calls Tryd.prog 18 #[.slice A ls.length c] w fun e w' => ∃ v, e = .returned v ∧ DigestL w w' v (longB ls.flatten) ∧ Below w.heap.size w w' := by
  obtain ⟨z64, hz64⟩ : ∃ z : Array Value, z = (List.replicate 64 (Value.int .u8 0)).toArray := ⟨_, rfl⟩
  have hz64s : z64.size = 64 := by rw [hz64]; simp
  have hzero : ∀ W : World, (zeroValue 30).run Tryd.prog W = .ok (.agg z64) W := fun W => by
    rw [hz64]
    exact (zero_of_info (P := Tryd.prog) (t := 30) (v := .agg (List.replicate 64 (Value.int .u8 0)).toArray) (n := 64) (by kernel_rfl)).1 W
  have HC := hid (digest_any A ls c w hA hG hl hn)
  obtain ⟨bs, hbs⟩ : ∃ bs, bs = byA (longB ls.flatten) := ⟨_, rfl⟩
  rw [← hbs] at HC
  have hbz : bs.size = 64 := by rw [hbs]; simp [byA, longB_length]
  have HI3 : Hid ((Tryd.prog.info? 30).map (·.size) = some bs.size) := hid (info64B.trans (congrArg some hbz.symm))
  have HZ3 : Hid (z64.size = bs.size) := hid (hz64s.trans hbz.symm)
  have HO3 : Hid (bs.all (·.oneCell') = true) := hid (by rw [hbs]; exact byA_one _)
  have HBS := hid hbs
  clear hA hG hn hl hz64 hz64s hbs hbz
  go_enter Tryd.func18, Tryd.ntmps18
  go_wp2_with fail
  refine HC.out.mono ?_
  rintro e w1 ⟨rfl, hb1⟩
  have HB1 := hid hb1
  have hsz := hb1.size
  clear hb1
  go_wp2_with (with_reducible refine wpList_store_row rfl 30 (.tmp 3) _ rfl w1.heap.size bs rfl rfl A64B z64 (heap_alloc_new _ _) HI3.out HZ3.out HO3.out ?_; rw [World.setRow_alloc_new])
  go_ret
  exact ⟨_, rfl, ⟨w1.heap.size, rfl, by rw [heap_alloc_new, HBS.out], hsz, longB_length _⟩, HB1.out.alloc hsz _⟩
end Go.Proofs.YtokggppfobbblaaDoor
