/-
  Package aes: Expand, Block.
-/
import Derived.Test.YtfjcedfjfadfpaaAesG
namespace Go.Proofs.Ytfjcedfjfadfpaa
open Go.RowKit
set_option linter.unusedVariables false
set_option linter.unusedSimpArgs false

theorem index_runK (ky : Nat → Nat) (n : Nat) (hn : n < 11) (W : World) : (Instr.index 46 (.agg (kF (wc ky))) (.int .i64 (n : Int))).run Try.prog W = .ok (.agg (qF (col (kW ky n)))) W := by
  have hu := run_underlying (P := Try.prog) Try.underlying46 W
  have hu2 := run_underlying (P := Try.prog) Try.underlying44 W
  have h8 : (n : Int) < 11 := by omega
  have h0 : (0 : Int) ≤ (n : Int) := by omega
  have hI : (Try.prog.info? 44).map (·.size) = some 4 := info4Q
  have hp := kF_part ky n hn
  rw [qF_size] at hp
  cases hq : Try.prog.info? 44 with
  | none => simp [hq] at hI
  | some i =>
    have hs : i.size = 4 := by simpa [hq] using hI
    simp [Instr.index, asIntOf, hu, part, isAgg, hu2, sizeOf, typeInfo, hq, hs, h8, hp, kF_size]
    intro h; omega
theorem own_grow {w w' : World} {B n : Nat} {e : TypeId} {v : Value} {xs : List Value} (h : w.ownsRow B e 1 v n xs) (hb : Below w.heap.size w w') : w'.ownsRow B e 1 v n xs :=
  h.kept (row := none) ⟨hb.os, hb.tape, hb.output, hb.size, fun k hk _ => hb.block k hk⟩ (by cases hv : v.ownBlock <;> simp)
theorem Block_any (A A' : Option Addr) (key blk : List UInt8) (n n' c c' : Nat) (w : World) (hS : Sq w w.heap.size A c (bvs key)) (hS' : Sq w w.heap.size A' c' (bvs blk)) (hn : key.length = n) (hn' : blk.length = n') :
    Calls Try.prog 11 #[.slice A n c, .slice A' n' c'] w fun e w' => if n = 16 ∧ n' = 16 then (∃ v, e = .returned (.tuple #[v, .bool true]) ∧ OwnB w' w.heap.size v (blkL (sealN (bf key) (bf blk))) ∧ Below w.heap.size w w') else e = .returned (.tuple #[.slice none 0 0, .bool false]) ∧ Below w.heap.size w w' := by
  have HS := hid hS; have HS' := hid hS'; have HN := hid hn; have HN' := hid hn'
  clear hS hS' hn hn'
  go_enter Try.func11, Try.ntmps11
  by_cases h : n = 16
  · subst h
    by_cases h' : n' = 16
    · subst h'
      have HK : Hid (∀ W, Below w.heap.size w W → Calls Try.prog 20 #[.slice A (16 : Nat) c] W fun e w' => e = .returned (.agg (kF (wc (bf key)))) ∧ Below W.heap.size W w') := hid fun W hb => words_any A key 16 c W ((HS.out.below hb).more hb.size) HN.out rfl
      have HB : Hid (∀ W, Below w.heap.size w W → Calls Try.prog 21 #[.slice A' (16 : Nat) c'] W fun e w' => e = .returned (.agg (qF (col (bf blk)))) ∧ Below W.heap.size W w') := hid fun W hb => squareOf_any A' blk 16 c' W ((HS'.out.below hb).more hb.size) HN'.out rfl
      go_wp2_with fail
      refine (HK.out _ (Below.refl _ _)).mono ?_
      rintro e w1 ⟨rfl, hb1⟩
      have HB1 := hid hb1
      clear hb1
      go_wp2_with fail
      refine (HB.out _ HB1.out).mono ?_
      rintro e w2 ⟨rfl, hb2⟩
      have HB2 : Hid (Below w.heap.size w w2) := hid (HB1.out.trans (hb2.mono HB1.out.size))
      clear hb2
      go_wp2_with fail
      refine (sealed_any (bf key) (bf blk) _ (bf_lt key) (bf_lt blk)).mono ?_
      rintro e w3 ⟨rfl, hb3⟩
      have HB3 : Hid (Below w.heap.size w w3) := hid (HB2.out.trans (hb3.mono HB2.out.size))
      clear hb3
      go_wp2_with fail
      refine (sqbytes_any (sealN (bf key) (bf blk)) _ (sealN_lt (bf_lt key) (bf_lt blk))).mono ?_
      rintro e w4 ⟨v, rfl, ho, hb4⟩
      have HB4 : Hid (Below w.heap.size w w4) := hid (HB3.out.trans (hb4.mono HB3.out.size))
      have HO : Hid (OwnB w4 w.heap.size v (blkL (sealN (bf key) (bf blk)))) := hid (own_base ho HB3.out.size)
      clear hb4 ho
      go_wp2
      go_ret2
      exact ⟨v, rfl, HO.out, HB4.out⟩
    · have hi : ¬ (n' : Int) = 16 := by omega
      have hib : ((n' : Int) != 16) = true := by rw [bne_iff_ne]; exact hi
      go_wp2
      go_ret2
      exact ⟨rfl, Below.refl _ _⟩
  · have hi : ¬ (n : Int) = 16 := by omega
    have hib : ((n : Int) != 16) = true := by rw [bne_iff_ne]; exact hi
    go_wp2
    go_ret2
    exact ⟨rfl, Below.refl _ _⟩
/-- A key's words, as bytes. -/
def exL (ky : Nat → Nat) : Nat → List UInt8
  | 0 => []
  | n + 1 => exL ky n ++ blkL (kW ky n)
theorem exL_length (ky : Nat → Nat) : ∀ n, (exL ky n).length = 16 * n
  | 0 => rfl
  | n + 1 => by rw [exL, List.length_append, exL_length ky n, blkL_length]; omega
set_option maxRecDepth 100000 in
set_option maxHeartbeats 1000000 in
theorem Expand_any (A : Option Addr) (key : List UInt8) (n c : Nat) (w : World) (hS : Sq w w.heap.size A c (bvs key)) (hn : key.length = n) :
    Calls Try.prog 12 #[.slice A n c] w fun e w' => if n = 16 then (∃ v, e = .returned (.tuple #[v, .bool true]) ∧ OwnB w' w.heap.size v (exL (bf key) 11) ∧ Below w.heap.size w w') else e = .returned (.tuple #[.slice none 0 0, .bool false]) ∧ Below w.heap.size w w' := by
  have HS := hid hS; have HN := hid hn
  obtain ⟨i0, hi, hz0, hz1, hz2⟩ := info_parts infoU8
  clear hS hn
  go_enter Try.func12, Try.ntmps12
  by_cases h : n = 16
  · subst h
    have HK : Hid (∀ W, Below w.heap.size w W → Calls Try.prog 20 #[.slice A (16 : Nat) c] W fun e w' => e = .returned (.agg (kF (wc (bf key)))) ∧ Below W.heap.size W w') := hid fun W hb => words_any A key 16 c W ((HS.out.below hb).more hb.size) HN.out rfl
    have HIX : Hid (∀ n : Nat, n < 11 → ∀ W : World, (Instr.index 46 (.agg (kF (wc (bf key)))) (.int .i64 (n : Int))).run Try.prog W = .ok (.agg (qF (col (kW (bf key) n)))) W) := hid fun n hn W => index_runK (bf key) n hn W
    go_wp2_with (at_make; refine wpList_make_own _ rfl _ _ 28 rfl w.heap.size 5 i0 (.int .u8 0) 1 Try.underlying28 hi hz0 hz1 _ _ _ 176 rfl rfl ?c1 ?c2 ?c3 ?c4 ?_)
    case c1 => omega
    case c2 => rw [hz2]; omega
    case c3 => unfold maxLen; omega
    case c4 => simp
    intro w1 hown hg
    have hb1 : Below w.heap.size w w1 := (Below.refl _ _).grown hg (by simp) (fun _ h => by cases h)
    have HO := hid hown; have HB := hid hb1
    clear hown hg hb1 hi hz0 hz1 hz2
    go_wp2_with fail
    refine (HK.out _ HB.out).mono ?_
    rintro e w2 ⟨rfl, hb2⟩
    have HB2 : Hid (Below w.heap.size w w2) := hid (HB.out.trans (hb2.mono HB.out.size))
    have HO2 : Hid (OwnB w2 w.heap.size (.slice (some ⟨w.heap.size, 0, none⟩) 0 176) (exL (bf key) 0)) := hid (own_grow HO.out hb2)
    clear HB HO hb2
    go_wp2
    go_loopg [4, 13] 11 (fun g v i wr => ∃ k : Nat, k + g = 11 ∧ i = .int .i64 (k : Int) ∧ OwnB wr w.heap.size v (exL (bf key) k) ∧ Below w.heap.size w wr)
    case atStart => exact ⟨0, by omega, rfl, HO2.out, HB2.out⟩
    case round =>
      clear HO2 HB2
      obtain ⟨k, hk, rfl, ho, hb⟩ := hrel
      have HK2 := hid hk; have HO := hid ho; have HB := hid hb
      have hk11 : k ≤ 11 := by omega
      clear hk ho hb
      by_cases hlt : k < 11
      · have hx : (k : Int) < 11 := by omega
        obtain ⟨x0, hx0⟩ : ∃ x, x = col (kW (bf key) k) 0 := ⟨_, rfl⟩
        obtain ⟨x1, hx1⟩ : ∃ x, x = col (kW (bf key) k) 1 := ⟨_, rfl⟩
        obtain ⟨x2, hx2⟩ : ∃ x, x = col (kW (bf key) k) 2 := ⟨_, rfl⟩
        obtain ⟨x3, hx3⟩ : ∃ x, x = col (kW (bf key) k) 3 := ⟨_, rfl⟩
        have hix : ∀ W : World, (Instr.index 46 (.agg (kF (wc (bf key)))) (.int .i64 (k : Int))).run Try.prog W = .ok (.agg #[.int .u32 (x0 : Int), .int .u32 (x1 : Int), .int .u32 (x2 : Int), .int .u32 (x3 : Int)]) W := by
          rw [hx0, hx1, hx2, hx3]; exact HIX.out k hlt
        have KB : Hid (∀ W, Calls Try.prog 22 #[.agg #[.int .u32 (x0 : Int), .int .u32 (x1 : Int), .int .u32 (x2 : Int), .int .u32 (x3 : Int)]] W fun e w' => ∃ v, e = .returned v ∧ OwnB w' W.heap.size v (blkL (kW (bf key) k)) ∧ Below W.heap.size W w') := hid fun W => by
          rw [hx0, hx1, hx2, hx3]; exact sqbytes_any _ W (kW_lt (bf_lt key) k)
        clear hx0 hx1 hx2 hx3
        have HZ : Hid ((wr.alloc (.cells #[.int .u32 0, .int .u32 0, .int .u32 0, .int .u32 0] SQT)).heap[wr.heap.size]? = some (.cells #[.int .u32 0, .int .u32 0, .int .u32 0, .int .u32 0] SQT (0, 0))) := hid (blkN rfl _ _)
        have HI4 : Hid ((Try.prog.info? 44).map (·.size) = some (#[Value.int .u32 (x0 : Int), .int .u32 (x1 : Int), .int .u32 (x2 : Int), .int .u32 (x3 : Int)] : Array Value).size) := hid info4Q
        have HO4 : Hid ((#[Value.int .u32 (x0 : Int), .int .u32 (x1 : Int), .int .u32 (x2 : Int), .int .u32 (x3 : Int)] : Array Value).all (·.oneCell') = true) := hid (by simp [Value.oneCell'])
        go_wp2_with (first
          | (with_reducible refine wpList_store_row rfl SQT (.tmp 6) _ rfl wr.heap.size #[.int .u32 (x0 : Int), .int .u32 (x1 : Int), .int .u32 (x2 : Int), .int .u32 (x3 : Int)] rfl rfl SQT #[.int .u32 0, .int .u32 0, .int .u32 0, .int .u32 0] HZ.out HI4.out rfl HO4.out ?_)
          | (with_reducible refine wpList_load_row rfl SQT (.tmp 6) rfl wr.heap.size rfl SQT #[.int .u32 (x0 : Int), .int .u32 (x1 : Int), .int .u32 (x2 : Int), .int .u32 (x3 : Int)] (0, 0) _ (setRow_heap _ _ _ _ _ _ HZ.out) undQ rfl HI4.out ?_))
        refine (KB.out _).mono ?_
        rintro e w4 ⟨v4, rfl, ho4, hb4⟩
        have hb3 : Below wr.heap.size wr ((wr.alloc (.cells #[.int .u32 0, .int .u32 0, .int .u32 0, .int .u32 0] SQT)).setRow wr.heap.size #[.int .u32 (x0 : Int), .int .u32 (x1 : Int), .int .u32 (x2 : Int), .int .u32 (x3 : Int)]) := belowRow ((Below.refl _ _).alloc (Nat.le_refl _) _) (Nat.le_refl _) _
        have hb34 : Below wr.heap.size wr w4 := hb3.trans (hb4.mono hb3.size)
        have HO2 : Hid (OwnB w4 w.heap.size u4 (exL (bf key) k)) := hid (own_grow HO.out hb34)
        have HB2 : Hid (Below w.heap.size w w4) := hid (HB.out.trans (hb34.mono HB.out.size))
        obtain ⟨A4, c4, rfl, hS4⟩ := own_sl ho4
        rw [blkL_length]
        have HL4 : Hid (Lie w4 w4.heap.size A4 (bvs (blkL (kW (bf key) k)))) := hid hS4.lie
        have hlen : (exL (bf key) k).length = 16 * k := exL_length _ k
        clear hb4 hb3 hb34 ho4 hS4 HO HB hix HZ
        have hsz := HB2.out.size
        go_wp2_with (at_builtin; go_loud (refine wpList_append_lie rfl (.tmp 16) (.tmp 18) 28 rfl w.heap.size 5 (.int .u8 0) 1 Try.underlying28 infoU8 rfl rfl HO2.out rfl rfl HL4.out (bvs_one _) ?p1 ?p2 ?p3 ?_))
        case p1 => rw [hlen, bvs_length, blkL_length]; unfold maxLen; omega
        case p2 => rw [hlen, bvs_length, blkL_length]; omega
        case p3 => exact hsz
        intro v5 w5 hown5 hg5 _
        have hO5 : OwnB w5 w.heap.size v5 (exL (bf key) (k + 1)) := by
          unfold OwnB
          rw [exL, bvs_append, List.length_append, hlen]
          exact hown5
        have hB5 : Below w.heap.size w w5 := HB2.out.grown hg5 HB2.out.size (fun q h => own_lt HO2.out q h)
        have HO5 := hid hO5; have HB5 := hid hB5
        clear hown5 hg5 hO5 hB5 HO2 HB2 HL4 hlen hsz
        have hwi : IntKind.i64.wrap ((k : Int) + 1) = ((k + 1 : Nat) : Int) := (IntWalk.i64_in _ (by omega)).trans (by omega)
        go_wp2
        have hk := HK2.out
        go_roundg (11 - k - 1)
        case measure => omega
        case rel => exact ⟨k + 1, by omega, rfl, HO5.out, HB5.out⟩
      · have hke : k = 11 := by omega
        rw [hke] at HO
        have hx : ¬ (k : Int) < 11 := by omega
        clear hke
        go_wp2
        go_ret2
        exact ⟨_, rfl, HO.out, HB.out⟩
  · have hi : ¬ (n : Int) = 16 := by omega
    have hib : ((n : Int) != 16) = true := by rw [bne_iff_ne]; exact hi
    go_wp2
    go_ret2
    exact ⟨rfl, Below.refl _ _⟩
end Go.Proofs.Ytfjcedfjfadfpaa
