/-
  Package long: products and powers of wide numbers.
-/
import Derived.Test.YtokggppfobbblaaDoorLon2
import Derived.Test.YtokggppfobbblaaDoorLonM
import Derived.Test.YtokggppfobbblaaDoorSha5
import Derived.Shelf.Bits.Mul64
import Derived.Laws.Externs
namespace Go.Proofs.YtokggppfobbblaaDoor
open Go.RowKit
set_option linter.unusedVariables false
set_option linter.unusedSimpArgs false

set_option maxHeartbeats 1000000 in
theorem Mul64_any (x y : Nat) (hx : x < 18446744073709551616) (hy : y < 18446744073709551616) (w : World) :
    Calls Tryd.prog 69 #[.int .u64 (x : Int), .int .u64 (y : Int)] w fun e w' => e = .returned (.tuple #[.int .u64 ((x * y / 18446744073709551616 : Nat) : Int), .int .u64 ((x * y % 18446744073709551616 : Nat) : Int)]) ∧ w' = w := by
  obtain ⟨bd, bt, bw, hhi⟩ := Lib.mul64_hi x y hx hy
  have ba := Lib.half_mul_le (a := x / 4294967296) (b := y / 4294967296) (by omega) (by omega)
  have bb := Lib.half_mul_le (a := x / 4294967296) (b := y % 4294967296) (by omega) (by omega)
  have bc := Lib.half_mul_le (a := x % 4294967296) (b := y / 4294967296) (by omega) (by omega)
  have ba' : x / 4294967296 * (y / 4294967296) < 18446744073709551616 := by omega
  have bb' : x / 4294967296 * (y % 4294967296) < 18446744073709551616 := by omega
  have bc' : x % 4294967296 * (y / 4294967296) < 18446744073709551616 := by omega
  have bh1 : x / 4294967296 * (y / 4294967296) + (x / 4294967296 * (y % 4294967296) + x % 4294967296 * (y % 4294967296) / 4294967296) / 4294967296 < 18446744073709551616 := by omega
  have bh : x / 4294967296 * (y / 4294967296) + (x / 4294967296 * (y % 4294967296) + x % 4294967296 * (y % 4294967296) / 4294967296) / 4294967296 + ((x / 4294967296 * (y % 4294967296) + x % 4294967296 * (y % 4294967296) / 4294967296) % 4294967296 + x % 4294967296 * (y / 4294967296)) / 4294967296 < 18446744073709551616 := by omega
  go_enter Tryd.func69, Tryd.ntmps69
  go_wp2
  simp only [Mul64.maskN x hx, Mul64.maskN y hy, Mul64.divN, Mul64.mulN, Mul64.addN, Mul64.wrapN _ bd, Mul64.wrapN _ bb', Mul64.wrapN _ bt, Mul64.maskN _ bt, Mul64.wrapN _ bc', Mul64.wrapN _ bw, Mul64.wrapN _ ba', Mul64.wrapN _ bh1, Mul64.wrapN _ bh, Mul64.wrapM (x * y)]
  rw [hhi]
  go_ret2
  exact ⟨rfl, rfl⟩
theorem Mul64_q (x y : Nat) (hx : x < 18446744073709551616) (hy : y < 18446744073709551616) (w : World) (a : Nat) :
    Calls Tryd.prog 69 #[.int .u64 (x : Int), .int .u64 (y : Int)] (w.drewN a) fun e w' => e = .returned (.tuple #[.int .u64 ((x * y / 18446744073709551616 : Nat) : Int), .int .u64 ((x * y % 18446744073709551616 : Nat) : Int)]) ∧ ∃ n, w' = w.drewN n :=
  (Mul64_any x y hx hy _).mono fun e w' h => ⟨h.1, a, h.2⟩

theorem Add64_run (x y : Nat) (w : World) :
    (callFunc 70 #[.int .u64 (x : Int), .int .u64 (y : Int), .int .u64 0]).run Tryd.prog w =
      .ok (.value (.tuple #[.int .u64 (((x + y) % 18446744073709551616 : Nat) : Int), .int .u64 (((x + y) / 18446744073709551616 : Nat) : Int)])) w := by
  rw [run_callFunc_extern Tryd.func70 (by kernel_rfl) (by kernel_rfl) (by kernel_rfl) (e := add64Entry) (by kernel_rfl), run_add64 x y 0 (by omega) (by omega) (by omega) (by omega)]
  simp only [Result.andThen]
  congr 5 <;> omega

abbrev A4W : TypeId := 65
/-- Four words as an array. -/
def wF (f : Nat → Nat) : Array Value := #[.int .u64 (f 0 : Int), .int .u64 (f 1 : Int), .int .u64 (f 2 : Int), .int .u64 (f 3 : Int)]
def wA (n : Nat) : Array Value := wF (wd n)
theorem wF_size (f : Nat → Nat) : (wF f).size = 4 := rfl
theorem wF_one (f : Nat → Nat) : (wF f).all (·.oneCell') = true := by simp [wF, Value.oneCell']
theorem wF_get (f : Nat → Nat) (k : Nat) (h : k < 4) : (wF f)[k]? = some (.int .u64 (f k : Int)) := by
  have : k = 0 ∨ k = 1 ∨ k = 2 ∨ k = 3 := by omega
  rcases this with rfl | rfl | rfl | rfl <;> rfl
theorem wF_set (f : Nat → Nat) (k v : Nat) (h : k < 4) : (wF f).setIfInBounds k (.int .u64 (v : Int)) = wF (fun q => if q = k then v else f q) := by
  have : k = 0 ∨ k = 1 ∨ k = 2 ∨ k = 3 := by omega
  rcases this with rfl | rfl | rfl | rfl <;> rfl
theorem wF_congr {f g : Nat → Nat} (h : ∀ k, k < 4 → f k = g k) : wF f = wF g := by
  rw [wF, wF, h 0 (by omega), h 1 (by omega), h 2 (by omega), h 3 (by omega)]
theorem info4W : (Tryd.prog.info? 65).map (·.size) = some 4 := by kernel_rfl
theorem wA_zero : wA 0 = #[Value.int .u64 0, .int .u64 0, .int .u64 0, .int .u64 0] := rfl
theorem undW : Tryd.prog.underlying 65 = some (.array 4 52) := Tryd.underlying65

/-- One step: the two sums, and what is carried. -/
theorem step_sum (m P c d e : Nat) (h : P + m + c = d + 18446744073709551616 * e) (hd : d < 18446744073709551616) :
    ((m % 18446744073709551616 + P) % 18446744073709551616 + c) % 18446744073709551616 = d ∧
    m / 18446744073709551616 + (m % 18446744073709551616 + P) / 18446744073709551616 + ((m % 18446744073709551616 + P) % 18446744073709551616 + c) / 18446744073709551616 = e := by
  constructor <;> omega

set_option maxRecDepth 100000 in
set_option maxHeartbeats 800000 in
theorem product_any (x y : Nat) (w : World) (hx : x < 18446744073709551616 ^ 4) :
    Calls Tryd.prog 61 #[.agg (wA x), .agg (wA y)] w fun e w' => e = .returned (.agg (wA (x * y))) ∧ Below w.heap.size w w' := by
  have HX := hid hx
  have hrow0 : wF (rowP x y 0 0) = wA 0 := wF_congr fun k _ => by rw [rowP_zero, Nat.pow_zero, Nat.mod_one, Nat.zero_mul]
  have HR0 := hid hrow0
  clear hx hrow0
  go_enter Tryd.func61, Tryd.ntmps61
  go_wp2
  rw [← wA_zero]
  have h0 : ((((w.alloc (.cells (wA x) A4W)).alloc (.cells (wA y) A4W)).alloc (.cells (wA 0) A4W)).alloc (.cells (wA 0) A4W)).heap[w.heap.size]? = some (.cells (wA x) A4W (0, 0)) := by
    rw [Below.heap_alloc _ _ _ (by simp <;> omega), Below.heap_alloc _ _ _ (by simp <;> omega)]; exact heap_alloc2_old w _ _
  have h1 : ((((w.alloc (.cells (wA x) A4W)).alloc (.cells (wA y) A4W)).alloc (.cells (wA 0) A4W)).alloc (.cells (wA 0) A4W)).heap[w.heap.size + 1]? = some (.cells (wA y) A4W (0, 0)) := by
    rw [Below.heap_alloc _ _ _ (by simp <;> omega), Below.heap_alloc _ _ _ (by simp <;> omega)]; exact heap_alloc2_new w _ _
  have h2 : ((((w.alloc (.cells (wA x) A4W)).alloc (.cells (wA y) A4W)).alloc (.cells (wA 0) A4W)).alloc (.cells (wA 0) A4W)).heap[w.heap.size + 1 + 1]? = some (.cells (wA 0) A4W (0, 0)) := by
    have h := heap_alloc2_old ((w.alloc (.cells (wA x) A4W)).alloc (.cells (wA y) A4W)) (.cells (wA 0) A4W) (.cells (wA 0) A4W)
    simpa using h
  have h3 : ((((w.alloc (.cells (wA x) A4W)).alloc (.cells (wA y) A4W)).alloc (.cells (wA 0) A4W)).alloc (.cells (wA 0) A4W)).heap[w.heap.size + 1 + 1 + 1]? = some (.cells (wA 0) A4W (0, 0)) := by
    have h := heap_alloc2_new ((w.alloc (.cells (wA x) A4W)).alloc (.cells (wA y) A4W)) (.cells (wA 0) A4W) (.cells (wA 0) A4W)
    simpa using h
  have hb : Below w.heap.size w ((((w.alloc (.cells (wA x) A4W)).alloc (.cells (wA y) A4W)).alloc (.cells (wA 0) A4W)).alloc (.cells (wA 0) A4W)) :=
    ((((Below.refl _ _).alloc (Nat.le_refl _) _).alloc (by simp) _).alloc (by simp; omega) _).alloc (by simp; omega) _
  have H0 := hid h0; have H1 := hid h1; have H2 := hid h2; have H3 := hid h3; have HB := hid hb
  clear h0 h1 h2 h3 hb
  generalize (((w.alloc (.cells (wA x) A4W)).alloc (.cells (wA y) A4W)).alloc (.cells (wA 0) A4W)).alloc (.cells (wA 0) A4W) = w0 at *
  go_loopg [13] 4 (fun g c wr => ∃ i : Nat, i + g = 4 ∧ c = .int .i64 (i : Int) ∧ wr.heap[w.heap.size]? = some (.cells (wA x) A4W (0, 0)) ∧ wr.heap[w.heap.size + 1]? = some (.cells (wA y) A4W (0, 0)) ∧ wr.heap[w.heap.size + 1 + 1]? = some (.cells (wA 0) A4W (0, 0)) ∧
    wr.heap[w.heap.size + 1 + 1 + 1]? = some (.cells (wF (rowP x y i 0)) A4W (0, 0)) ∧ Below w.heap.size w wr)
  case atStart => exact ⟨0, rfl, rfl, H0.out, H1.out, H2.out, by rw [HR0.out]; exact H3.out, HB.out⟩
  case round =>
    clear H0 H1 H2 H3 HB
    obtain ⟨i, hi, rfl, h0, h1, h2, h3, hb⟩ := hrel
    obtain ⟨wo, rfl⟩ : ∃ wo : World, wo = wr := ⟨_, rfl⟩
    have H0 := hid h0; have H1 := hid h1; have H2 := hid h2; have H3 := hid h3; have HB := hid hb; have HI := hid hi
    have hi4 : i ≤ 4 := by omega
    clear h0 h1 h2 h3 hb hi
    by_cases hlt : i < 4
    · have hxi : (i : Int) < 4 := by omega
      have hi0 : (0 : Int) ≤ (i : Int) := by omega
      go_wp2
      go_loopg [7, 8] (4 - i) (fun g q c wr => ∃ j : Nat, i + j + g = 4 ∧ c = .int .i64 (j : Int) ∧ q = .int .u64 ((carP x y i j : Nat) : Int) ∧ wr.heap[w.heap.size]? = some (.cells (wA x) A4W (0, 0)) ∧ wr.heap[w.heap.size + 1]? = some (.cells (wA y) A4W (0, 0)) ∧ wr.heap[w.heap.size + 1 + 1]? = some (.cells (wA 0) A4W (0, 0)) ∧
        wr.heap[w.heap.size + 1 + 1 + 1]? = some (.cells (wF (rowP x y i j)) A4W (0, 0)) ∧ Below w.heap.size w wr)
      case atStart => exact ⟨0, by omega, rfl, by rw [carP_zero]; rfl, H0.out, H1.out, H2.out, H3.out, HB.out⟩
      case round =>
        clear H0 H1 H2 H3 HB
        obtain ⟨j, hj, rfl, rfl, h0, h1, h2, h3, hb⟩ := hrel
        have H0 := hid h0; have H1 := hid h1; have H2 := hid h2; have H3 := hid h3; have HB := hid hb; have HJ := hid hj
        have hj4 : i + j ≤ 4 := by omega
        clear h0 h1 h2 h3 hb hj
        by_cases hlt2 : i + j < 4
        · have hxj : (i : Int) + (j : Int) < 4 := by omega
          have hj0 : (0 : Int) ≤ (j : Int) := by omega
          have hj4' : (j : Int) < 4 := by omega
          have hij0 : (0 : Int) ≤ (i : Int) + (j : Int) := by omega
          have hijn : ((i : Int) + (j : Int)).toNat = i + j := by omega
          have hst := stepP x y i j
          have hPe : rowP x y i j (i + j) = wd ((x % 18446744073709551616 ^ i) * y) (i + j) := by rw [rowP, if_neg (by omega)]
          rw [← hPe] at hst
          have hnx : wF (fun q => if q = i + j then wd (lowP x y i (j + 1)) (i + j) else rowP x y i j q) = wF (rowP x y i (j + 1)) := wF_congr fun k _ => (rowP_next x y i j k).symm
          have hcx : wr.cell? ⟨w.heap.size, i, none⟩ = some (.int .u64 ((wd x i : Nat) : Int)) := cell_of H0.out i _ (wF_get _ i hlt)
          have hcy : wr.cell? ⟨w.heap.size + 1, j, none⟩ = some (.int .u64 ((wd y j : Nat) : Int)) := cell_of H1.out j _ (wF_get _ j (by omega))
          have hcp : wr.cell? ⟨w.heap.size + 1 + 1 + 1, i + j, none⟩ = some (.int .u64 ((rowP x y i j (i + j) : Nat) : Int)) := cell_of H3.out _ _ (wF_get _ _ hlt2)
          have hfz : wr.frozen? ⟨w.heap.size + 1 + 1 + 1, i + j, none⟩ = false := frozen_of_row _ _ _ _ _ H3.out
          have hWs := fun v : Nat => (block_set H3.out (i + j) (.int .u64 (v : Int))).trans (by rw [wF_set _ _ _ hlt2])
          have HWS := hid hWs
          obtain ⟨a, ha⟩ : ∃ a, a = wd x i := ⟨_, rfl⟩
          obtain ⟨bb, hbb⟩ : ∃ b, b = wd y j := ⟨_, rfl⟩
          obtain ⟨P, hP⟩ : ∃ P, P = rowP x y i j (i + j) := ⟨_, rfl⟩
          obtain ⟨cc, hcc⟩ : ∃ c, c = carP x y i j := ⟨_, rfl⟩
          have hal : a < 18446744073709551616 := by rw [ha]; exact wd_lt _ _
          have hbl : bb < 18446744073709551616 := by rw [hbb]; exact wd_lt _ _
          rw [← ha, ← hbb, ← hP, ← hcc] at hst
          rw [← ha] at hcx
          rw [← hbb] at hcy
          rw [← hP] at hcp
          rw [← hcc]
          have hss := step_sum (a * bb) P cc _ _ hst.1 (wd_lt _ _)
          have hcl := hst.2
          have hmq := Mul64_q a bb hal hbl
          obtain ⟨h, hh⟩ : ∃ h, h = a * bb / 18446744073709551616 := ⟨_, rfl⟩
          obtain ⟨l, hll⟩ : ∃ l, l = a * bb % 18446744073709551616 := ⟨_, rfl⟩
          rw [← hh, ← hll] at hss hmq
          have hadd1 := Add64_run l P
          obtain ⟨s1, hs1⟩ : ∃ s, s = (l + P) % 18446744073709551616 := ⟨_, rfl⟩
          obtain ⟨o1, ho1⟩ : ∃ o, o = (l + P) / 18446744073709551616 := ⟨_, rfl⟩
          rw [← hs1, ← ho1] at hss
          rw [← hs1, ← ho1] at hadd1
          have hadd2 := Add64_run s1 cc
          obtain ⟨s2, hs2⟩ : ∃ s, s = (s1 + cc) % 18446744073709551616 := ⟨_, rfl⟩
          obtain ⟨o2, ho2⟩ : ∃ o, o = (s1 + cc) / 18446744073709551616 := ⟨_, rfl⟩
          rw [← hs2, ← ho2] at hss
          rw [← hs2, ← ho2] at hadd2
          obtain ⟨c2, hc2⟩ : ∃ c, c = carP x y i (j + 1) := ⟨_, rfl⟩
          rw [← hc2] at hss hcl
          have hsum : (h : Int) + (o1 : Int) + (o2 : Int) = (c2 : Int) := by have := hss.2; omega
          have hsum1 : IntKind.u64.wrap ((h : Int) + (o1 : Int)) = (h : Int) + (o1 : Int) := by rw [IntKind.wrap_u64]; omega
          have hsum2 : IntKind.u64.wrap ((h : Int) + (o1 : Int) + (o2 : Int)) = (c2 : Int) := by rw [hsum, IntKind.wrap_u64]; omega
          have HSS := hid hss.1; have HNX := hid hnx; have HC2 := hid hc2
          have HMQ := hid hmq
          clear hst hPe hnx hWs ha hbb hP hcc hss hcl hmq hh hll hs1 ho1 hs2 ho2 hc2 hsum
          go_wp2
          go_quiet ((go_at_call 69; with_reducible exact HMQ.out _ _))
          go_wp2
          have hW := HWS.out s2
          rw [HSS.out, HNX.out] at hW
          rw [← HSS.out] at hW
          have hj := HJ.out
          go_roundg (4 - i - j - 1)
          case measure => omega
          case rel => exact ⟨j + 1, by omega, by go_num, by rw [HC2.out], (heap_setCell_other (wr.drewN nq) _ _ _ (by simp <;> omega)).trans H0.out, (heap_setCell_other (wr.drewN nq) _ _ _ (by simp <;> omega)).trans H1.out, (heap_setCell_other (wr.drewN nq) _ _ _ (by simp)).trans H2.out, hW, (below_drewN HB.out nq).setCell (by simp <;> omega) _⟩
        · have hje : i + j = 4 := by omega
          have hre : wF (rowP x y i j) = wF (rowP x y (i + 1) 0) := wF_congr fun k hk => rowP_end x y i j k hje hk
          have H3' := hid (H3.out)
          rw [hre] at H3'
          have hxj : ¬ (i : Int) + (j : Int) < 4 := by omega
          clear hje hre H3
          go_wp2
          have hi := HI.out
          go_roundg (4 - i - 1)
          case measure => omega
          case rel => exact ⟨i + 1, by omega, by go_num, H0.out, H1.out, H2.out, H3'.out, HB.out⟩
    · obtain rfl : i = 4 := by omega
      have hre : wF (rowP x y 4 0) = wA (x * y) := wF_congr fun k hk => rowP_done x y k HX.out
      have H3' := hid (H3.out)
      rw [hre] at H3'
      have HI2 : Hid ((Tryd.prog.info? 65).map (·.size) = some (wA (x * y)).size) := hid (info4W.trans (congrArg some (wF_size _).symm))
      have HZ : Hid ((wA 0).size = (wA (x * y)).size) := hid rfl
      have HO : Hid ((wA (x * y)).all (·.oneCell') = true) := hid (wF_one (wd (x * y)))
      clear hre H3
      go_wp2_with (first
        | (with_reducible refine wpList_load_row rfl 65 (.tmp 5) rfl (w.heap.size + 1 + 1 + 1) rfl A4W (wA (x * y)) (0, 0) _ H3'.out undW rfl HI2.out ?_)
        | (with_reducible refine wpList_store_row rfl 65 (.tmp 4) _ rfl (w.heap.size + 1 + 1) (wA (x * y)) rfl rfl A4W (wA 0) H2.out HI2.out HZ.out HO.out ?_))
      refine bodyPost_ret (v := .agg (wA (x * y))) (results_cell_row rfl _ _ (w.heap.size + 1 + 1) A4W (wA (x * y)) (0, 0) _ rfl (setRow_heap _ _ _ _ _ _ H2.out) undW rfl HI2.out) rfl ⟨rfl, ?_⟩
      exact below_setRow HB.out (by omega) _

set_option maxRecDepth 100000 in
set_option maxHeartbeats 800000 in
theorem power_any (x k : Nat) (w : World) (hx : x < 18446744073709551616 ^ 4) (hk : 0 < k) (hk2 : k ≤ 3) (hp : ∀ j, 0 < j → j < k → x ^ j < 18446744073709551616 ^ 4) :
    Calls Tryd.prog 46 #[.agg (wA x), .int .i64 (k : Int)] w fun e w' => e = .returned (.agg (wA (x ^ k))) ∧ Below w.heap.size w w' := by
  have HX := hid hx; have HP := hid hp
  have hk0 : (0 : Int) < (k : Int) := by omega
  have hk3 : (k : Int) ≤ 3 := by omega
  have hI : ∀ n : Nat, (Tryd.prog.info? 65).map (·.size) = some (wA n).size := fun n => info4W.trans (congrArg some (wF_size _).symm)
  have hO : ∀ n : Nat, (wA n).all (·.oneCell') = true := fun n => wF_one _
  have HI := hid hI; have HO := hid hO
  have h2 := heap_alloc2_old w (.cells (wA x) A4W) (.cells (wA 0) A4W)
  have H2 := hid h2
  clear hx hp hI hO h2
  have hz : ((w.alloc (.cells (wA x) A4W)).alloc (.cells (wA 0) A4W)).heap.size = w.heap.size + 1 + 1 := by simp
  have h3 : (((w.alloc (.cells (wA x) A4W)).alloc (.cells (wA 0) A4W)).alloc (.cells (wA 0) A4W)).heap[w.heap.size + 1 + 1]? = some (.cells (wA 0) A4W (0, 0)) := by
    have h := heap_alloc_new ((w.alloc (.cells (wA x) A4W)).alloc (.cells (wA 0) A4W)) (.cells (wA 0) A4W)
    rwa [hz] at h
  have h4 : (((w.alloc (.cells (wA x) A4W)).alloc (.cells (wA 0) A4W)).alloc (.cells (wA 0) A4W)).heap[w.heap.size]? = some (.cells (wA x) A4W (0, 0)) :=
    (Below.heap_alloc _ _ _ (by simp; omega)).trans H2.out
  have h5 : (((w.alloc (.cells (wA x) A4W)).alloc (.cells (wA 0) A4W)).alloc (.cells (wA 0) A4W)).heap[w.heap.size + 1]? = some (.cells (wA 0) A4W (0, 0)) :=
    (Below.heap_alloc _ _ _ (by simp)).trans (heap_alloc2_new w _ _)
  have hb : Below w.heap.size w (((w.alloc (.cells (wA x) A4W)).alloc (.cells (wA 0) A4W)).alloc (.cells (wA 0) A4W)) := (((Below.refl _ _).alloc (Nat.le_refl _) _).alloc (by simp) _).alloc (by simp; omega) _
  have H3 := hid h3; have H4 := hid h4; have H5 := hid h5; have HB := hid hb
  have HZ : Hid ((wA 0).size = (wA x).size) := hid rfl
  have hz0 : ∀ W : World, (zeroValue 65).run Tryd.prog W = .ok (.agg (wA 0)) W := fun W => by rw [wA_zero]; kernel_rfl
  clear h3 h4 h5 hb hz
  go_enter Tryd.func46, Tryd.ntmps46
  go_wp2_with (first
    | (with_reducible refine wpList_load_row rfl 65 (.tmp 2) rfl w.heap.size rfl A4W (wA x) (0, 0) _ H2.out undW rfl (HI.out x) ?_)
    | (with_reducible refine wpList_store_row rfl 65 (.tmp 5) _ rfl (w.heap.size + 1 + 1) (wA x) rfl rfl A4W (wA 0) H3.out (HI.out x) HZ.out (HO.out x) ?_))
  clear hz0 H2
  have hs6 : ((((w.alloc (.cells (wA x) A4W)).alloc (.cells (wA 0) A4W)).alloc (.cells (wA 0) A4W)).setRow (w.heap.size + 1 + 1) (wA x)).heap[w.heap.size + 1 + 1]? = some (.cells (wA x) A4W (0, 0)) := setRow_heap _ _ _ _ _ _ H3.out
  have hx6 : ((((w.alloc (.cells (wA x) A4W)).alloc (.cells (wA 0) A4W)).alloc (.cells (wA 0) A4W)).setRow (w.heap.size + 1 + 1) (wA x)).heap[w.heap.size]? = some (.cells (wA x) A4W (0, 0)) := (setRow_other _ _ _ _ (by omega)).trans H4.out
  have hr6 : ((((w.alloc (.cells (wA x) A4W)).alloc (.cells (wA 0) A4W)).alloc (.cells (wA 0) A4W)).setRow (w.heap.size + 1 + 1) (wA x)).heap[w.heap.size + 1]? = some (.cells (wA 0) A4W (0, 0)) := (setRow_other _ _ _ _ (by omega)).trans H5.out
  have hb6 : Below w.heap.size w ((((w.alloc (.cells (wA x) A4W)).alloc (.cells (wA 0) A4W)).alloc (.cells (wA 0) A4W)).setRow (w.heap.size + 1 + 1) (wA x)) := below_setRow HB.out (by omega) _
  have HS6 := hid hs6; have HX6 := hid hx6; have HR6 := hid hr6; have HB6 := hid hb6
  clear hs6 hx6 hr6 hb6 H3 H4 H5 HB
  generalize (((w.alloc (.cells (wA x) A4W)).alloc (.cells (wA 0) A4W)).alloc (.cells (wA 0) A4W)).setRow (w.heap.size + 1 + 1) (wA x) = w6 at *
  go_wp2
  go_loopg [9] (k - 1) (fun g c wr => ∃ i : Nat, i + g = k - 1 ∧ c = .int .i64 (i : Int) ∧ wr.heap[w.heap.size + 1 + 1]? = some (.cells (wA (x ^ (i + 1))) A4W (0, 0)) ∧ wr.heap[w.heap.size]? = some (.cells (wA x) A4W (0, 0)) ∧ wr.heap[w.heap.size + 1]? = some (.cells (wA 0) A4W (0, 0)) ∧ Below w.heap.size w wr)
  case atStart => exact ⟨0, by omega, rfl, by rw [Nat.zero_add, Nat.pow_one]; exact HS6.out, HX6.out, HR6.out, HB6.out⟩
  case round =>
    clear HS6 HX6 HR6 HB6
    obtain ⟨i, hi, rfl, hs, hx, hr, hb⟩ := hrel
    have HS := hid hs; have HX1 := hid hx; have HR := hid hr; have HB := hid hb; have HII := hid hi
    have hi3 : i ≤ k - 1 := by omega
    clear hs hx hr hb hi
    by_cases hlt : i < k - 1
    · have hxi : (i : Int) < (k : Int) - 1 := by omega
      have hi0 : (0 : Int) ≤ (i : Int) := by omega
      have hxi2 : (i : Int) ≤ 2 := by omega
      have HC := hid (product_any (x ^ (i + 1)) x wr (HP.out (i + 1) (by omega) (by omega)))
      have HZ2 : Hid ((wA (x ^ (i + 1))).size = (wA (x ^ (i + 2))).size) := hid rfl
      rw [← Nat.pow_succ] at HC
      have hwl : w.heap.size + 1 + 1 < wr.heap.size := block_lt HS.out
      go_wp2_with (first
        | fail
        | (with_reducible refine wpList_load_row rfl 65 (.tmp 5) rfl (w.heap.size + 1 + 1) rfl A4W (wA (x ^ (i + 1))) (0, 0) _ HS.out undW rfl (HI.out _) ?_)
        | (with_reducible refine wpList_load_row rfl 65 (.tmp 2) rfl w.heap.size rfl A4W (wA x) (0, 0) _ HX1.out undW rfl (HI.out x) ?_))
      refine HC.out.mono ?_
      rintro e w7 ⟨rfl, hb7⟩
      have HS7 := hid ((hb7.block _ hwl).trans HS.out)
      have HX7 := hid ((hb7.block _ (by omega)).trans HX1.out)
      have HR7 := hid ((hb7.block _ (by omega)).trans HR.out)
      have HB7 := hid (HB.out.trans (hb7.mono (by omega)))
      clear hb7
      go_wp2_with (with_reducible refine wpList_store_row rfl 65 (.tmp 5) _ rfl (w.heap.size + 1 + 1) (wA (x ^ (i + 1 + 1))) rfl rfl A4W (wA (x ^ (i + 1))) HS7.out (HI.out _) HZ2.out (HO.out _) ?_)
      have hi := HII.out
      go_roundg (k - 1 - i - 1)
      case measure => omega
      case rel => exact ⟨i + 1, by omega, by go_num, setRow_heap _ _ _ _ _ _ HS7.out, (setRow_other _ _ _ _ (by omega)).trans HX7.out, (setRow_other _ _ _ _ (by omega)).trans HR7.out, below_setRow HB7.out (by omega) _⟩
    · have hik : i + 1 = k := by omega
      rw [hik] at HS
      have hxi : ¬ (i : Int) < (k : Int) - 1 := by omega
      have HZ3 : Hid ((wA 0).size = (wA (x ^ k)).size) := hid rfl
      clear hik
      go_wp2_with (first
        | (with_reducible refine wpList_load_row rfl 65 (.tmp 5) rfl (w.heap.size + 1 + 1) rfl A4W (wA (x ^ k)) (0, 0) _ HS.out undW rfl (HI.out _) ?_)
        | (with_reducible refine wpList_store_row rfl 65 (.tmp 4) _ rfl (w.heap.size + 1) (wA (x ^ k)) rfl rfl A4W (wA 0) HR.out (HI.out _) HZ3.out (HO.out _) ?_))
      refine bodyPost_ret (v := .agg (wA (x ^ k))) (results_cell_row rfl _ _ (w.heap.size + 1) A4W (wA (x ^ k)) (0, 0) _ rfl (setRow_heap _ _ _ _ _ _ HR.out) undW rfl (HI.out _)) rfl ⟨rfl, ?_⟩
      exact below_setRow HB.out (by omega) _
end Go.Proofs.YtokggppfobbblaaDoor
