/-
  The document's product of a key and a point: the ladder.
-/
import Derived.Test.YtodimbmjbjioaaaRef07a
import Derived.Test.YtodimbmjbjioaaaFFc
import Derived.Test.YtodimbmjbjioaaaDhS
namespace Go.Proofs.Ytodimbmjbjioaaa
open Go.RowKit
set_option linter.unusedVariables false
set_option linter.unusedSimpArgs false

abbrev TB : TypeId := 38
/-- What the ladder holds: two rows of two numbers, the key's bytes, and numbers besides. -/
def Lq (w0 w : World) (bx bz : Nat) (cx cz : Array Value) (kb ko kc : Nat) (ks : List UInt8) (l : List (Option Addr × Nat × Nat)) : Prop :=
  w.heap[bx]? = some (.cells cx TB (0, 0)) ∧ w.heap[bz]? = some (.cells cz TB (0, 0)) ∧ Sq w w.heap.size (some ⟨kb, ko, none⟩) kc (bvs ks) ∧ Bgs w l ∧ Below w0.heap.size w0 w ∧ w0.heap.size ≤ bx ∧ w0.heap.size ≤ bz ∧ bx ≠ bz
section
variable {w0 w w' : World} {bx bz : Nat} {cx cz : Array Value} {kb ko kc : Nat} {ks : List UInt8} {l : List (Option Addr × Nat × Nat)}
theorem Lq.call (h : Lq w0 w bx bz cx cz kb ko kc ks l) (hb : Below w.heap.size w w') : Lq w0 w' bx bz cx cz kb ko kc ks l := by
  obtain ⟨h1, h2, h3, h4, h5, h6, h7, h8⟩ := h
  exact ⟨block_below hb (block_lt h1) h1, block_below hb (block_lt h2) h2, h3.on6 hb, h4.on hb, h5.trans (hb.mono h5.size), h6, h7, h8⟩
theorem Lq.more (h : Lq w0 w bx bz cx cz kb ko kc ks l) {A : Option Addr} {c n : Nat} (hs : Sq w w.heap.size A c (ivs (dg n))) : Lq w0 w bx bz cx cz kb ko kc ks ((A, c, n) :: l) := by
  obtain ⟨h1, h2, h3, h4, h5⟩ := h
  exact ⟨h1, h2, h3, ⟨hs, h4⟩, h5⟩
theorem Lq.made (h : Lq w0 w bx bz cx cz kb ko kc ks l) (hb : Below w.heap.size w w') {A : Option Addr} {c n : Nat} (hs : Sq w' w'.heap.size A c (ivs (dg n))) : Lq w0 w' bx bz cx cz kb ko kc ks ((A, c, n) :: l) := (h.call hb).more hs
theorem Lq.setx (h : Lq w0 w bx bz cx cz kb ko kc ks l) (hn : NoInt cx) (i : Nat) (v : Value) : Lq w0 (w.setCell ⟨bx, i, none⟩ v) bx bz (cx.setIfInBounds i v) cz kb ko kc ks l := by
  obtain ⟨h1, h2, h3, h4, h5, h6, h7, h8⟩ := h
  exact ⟨block_set h1 i v, (block_grown h2 (grown_setCell w bx i none v) (by simpa using fun e => h8 e.symm)), by rw [size_setC]; exact h3.far (bvs_int _) h1 hn i v, h4.set h1 hn i v, h5.setCell (by simpa using h6) _, h6, h7, h8⟩
theorem Lq.setz (h : Lq w0 w bx bz cx cz kb ko kc ks l) (hn : NoInt cz) (i : Nat) (v : Value) : Lq w0 (w.setCell ⟨bz, i, none⟩ v) bx bz cx (cz.setIfInBounds i v) kb ko kc ks l := by
  obtain ⟨h1, h2, h3, h4, h5, h6, h7, h8⟩ := h
  exact ⟨(block_grown h1 (grown_setCell w bz i none v) (by simpa using h8)), block_set h2 i v, by rw [size_setC]; exact h3.far (bvs_int _) h2 hn i v, h4.set h2 hn i v, h5.setCell (by simpa using h7) _, h6, h7, h8⟩
end

set_option maxRecDepth 100000 in
set_option maxHeartbeats 8000000 in
theorem Mul7_any (A : Option Addr) (key : List UInt8) (c : Nat) (A' : Option Addr) (pt : List UInt8) (c' : Nat) (w : World) (hS : Sq w w.heap.size A c (bvs key)) (hS' : Sq w w.heap.size A' c' (bvs pt)) (hkl : key.length ≤ 1000) (hpl : pt.length ≤ 60) :
    Calls Try.prog 12 #[.slice A key.length c, .slice A' pt.length c'] w fun e w' => ∃ v, e = .returned v ∧ OwnB w' w.heap.size v (leB 32 (ladOut (uF pt) (leN (clampB key))).val) ∧ Below w.heap.size w w' := by
  have HS := hid hS; have HS' := hid hS'
  have CL := hid (fun W h => Clamp7_any A key c W h hkl)
  have FI1 := hid (fun W h => First_any A' pt c' W h hpl)
  have HN : Hid (∀ W, Calls Try.prog 19 #[.int .u64 1] W (BigR W 1)) := hid fun W => Num_any 1 W (by omega)
  have HM : Hid (∀ W, Calls Try.prog 19 #[.int .u64 121665] W (BigR W 121665)) := hid fun W => Num_any 121665 W (by omega)
  obtain ⟨u, hu⟩ : ∃ u, u = uF pt := ⟨_, rfl⟩
  have huv : ofN pt = u.val := by rw [hu]; rfl
  obtain ⟨ks, hks⟩ : ∃ ks, ks = clampB key := ⟨_, rfl⟩
  have hksl : ks.length = 32 := by rw [hks]; exact clampB_length key
  obtain ⟨K, hK⟩ : ∃ K, K = leN ks := ⟨_, rfl⟩
  rw [← hks] at CL
  rw [huv] at FI1
  rw [← hu, ← hks, ← hK]
  obtain ⟨OU, hOU⟩ : ∃ v, v = ladOut u K := ⟨_, rfl⟩
  rw [← hOU]
  have HOU := hid hOU
  have HK := hid hK; have HKL := hid hksl
  have h1v : (1 : FF).val = 1 := by decide +kernel
  have hmv : (121665 : FF).val = 121665 := by decide +kernel
  have h0v : (0 : FF).val = 0 := by decide +kernel
  obtain ⟨one, hone⟩ : ∃ x : FF, x = 1 := ⟨_, rfl⟩
  obtain ⟨cm, hcm⟩ : ∃ x : FF, x = 121665 := ⟨_, rfl⟩
  have HN' : Hid (∀ W, Calls Try.prog 19 #[.int .u64 1] W (BigR W one.val)) := by rw [hone, h1v]; exact HN
  have HM' : Hid (∀ W, Calls Try.prog 19 #[.int .u64 121665] W (BigR W cm.val)) := by rw [hcm, hmv]; exact HM
  have HONE := hid hone; have HCM := hid hcm
  have HZV : Hid ((dg (0 : FF).val).length = 0) := hid (by rw [h0v, dg_zero]; rfl)
  have HZ0 : Hid (ivs (dg (0 : FF).val) = []) := hid (by rw [h0v, dg_zero]; rfl)
  clear hOU hS hS' hu huv hks hksl hK h1v hmv h0v hone hcm HN HM
  go_enter Try.func12, Try.ntmps12
  go_wp2_with fail
  refine (CL.out _ HS.out).mono ?_
  rintro e w1 ⟨A1, kc, rfl, hS1, hb1⟩
  obtain ⟨kb, ko, rfl, -⟩ := hS1.form (by rw [bvs_length, HKL.out]; omega)
  have HS1 := hid hS1; have HSp := hid (HS'.out.on6 hb1); have HB1 := hid hb1
  clear hS1 hb1 HS HS' CL
  go_wp2_with fail
  refine (FI1.out _ HSp.out).mono ?_
  rintro e w2 ⟨Au, cu, rfl, hS2, hb2⟩
  have HSu := hid hS2; have HSk := hid (HS1.out.on6 hb2); have HB2 := hid (HB1.out.trans (hb2.mono HB1.out.size))
  clear hS2 hb2 HS1 HSp HB1 FI1
  go_wp2_with fail
  refine (HN'.out _).mono ?_
  rintro e w3 ⟨Ao, co, rfl, hS3, hb3⟩
  have HL0 : Hid (Lq w ((w3.alloc (.cells #[.slice Ao (dg one.val).length co, .slice Au (dg u.val).length cu] TB)).alloc (.cells #[.slice none 0 0, .slice Ao (dg one.val).length co] TB)) w3.heap.size (w3.heap.size + 1) #[.slice Ao (dg one.val).length co, .slice Au (dg u.val).length cu] #[.slice none (dg (0 : FF).val).length 0, .slice Ao (dg one.val).length co] kb ko kc ks
      [(Ao, co, one.val), (Au, cu, u.val), (none, 0, (0 : FF).val), (Ao, co, one.val), (Au, cu, u.val)]) := by
    have hA : Below w3.heap.size w3 ((w3.alloc (.cells #[.slice Ao (dg one.val).length co, .slice Au (dg u.val).length cu] TB)).alloc (.cells #[.slice none 0 0, .slice Ao (dg one.val).length co] TB)) := ((Below.refl _ _).alloc (Nat.le_refl _) _).alloc (by simp) _
    have hSo := hS3.on6 hA
    have hSu := (HSu.out.on6 hb3).on6 hA
    have hSk := (HSk.out.on6 hb3).on6 hA
    have hB3 := HB2.out.trans (hb3.mono HB2.out.size)
    exact hid ⟨blkA (blkN rfl _ _) _, by rw [HZV.out]; exact blkN (by simp) _ _, hSk, ⟨hSo, hSu, by rw [HZ0.out]; exact Sq.nil, hSo, hSu, trivial⟩, hB3.trans (hA.mono hB3.size), hB3.size, Nat.le_trans hB3.size (by omega), by omega⟩
  clear hS3 hb3 HB2 HSu HSk HN'
  go_wp2
  generalize hw4 : ((w3.alloc (.cells #[.slice Ao (dg one.val).length co, .slice Au (dg u.val).length cu] TB)).alloc (.cells #[.slice none 0 0, .slice Ao (dg one.val).length co] TB)) = w4 at HL0 ⊢
  clear hw4
  obtain ⟨bx, hbx⟩ : ∃ b, b = w3.heap.size := ⟨_, rfl⟩
  obtain ⟨bz, hbz⟩ : ∃ b, b = w3.heap.size + 1 := ⟨_, rfl⟩
  rw [← hbz] at HL0 ⊢
  rw [← hbx] at HL0 ⊢
  clear hbx hbz
  go_loopg [11] 255 (fun g i wr => ∃ (j : Nat) (s : Ld) (A0 A1 B0 B1 : Option Addr) (c0 c1 d0 d1 : Nat), j + g = 255 ∧ i = .int .i64 (254 - (j : Int)) ∧ s = lad u K j ∧ Lq w wr bx bz #[.slice A0 (dg s.x2.val).length c0, .slice A1 (dg s.x3.val).length c1] #[.slice B0 (dg s.z2.val).length d0, .slice B1 (dg s.z3.val).length d1] kb ko kc ks
      [(A0, c0, s.x2.val), (A1, c1, s.x3.val), (B0, d0, s.z2.val), (B1, d1, s.z3.val), (Au, cu, u.val)])
  case atStart =>
    refine ⟨0, ⟨one, 0, u, one⟩, Ao, Au, none, Ao, co, cu, 0, co, rfl, rfl, by rw [HONE.out]; rfl, HL0.out⟩
  case round =>
    clear HL0
    obtain ⟨j, s, A0, A1, B0, B1, c0, c1, d0, d1, hj, rfl, hs, hL⟩ := hrel
    obtain ⟨wq, hwq⟩ : ∃ wq, wq = wr := ⟨_, rfl⟩
    rw [← hwq] at hL ⊢
    obtain ⟨x2, z2, x3, z3⟩ := s
    dsimp only at hL
    have HL := hid hL; have HJ := hid hj; have HSs := hid hs
    have hj255 : j ≤ 255 := by omega
    clear hL hj hs hwq
    by_cases hlt : j < 255
    · obtain ⟨i, hi⟩ : ∃ i : Nat, i = 254 - j := ⟨_, rfl⟩
      have hii : 254 - (j : Int) = (i : Int) := by omega
      rw [hii]
      have hi0 : (0 : Int) ≤ (i : Int) := by omega
      have hil : i ≤ 254 := by omega
      obtain ⟨q, hq⟩ : ∃ q, q = i / 8 := ⟨_, rfl⟩
      obtain ⟨r, hr⟩ : ∃ r, r = i % 8 := ⟨_, rfl⟩
      have hq1 : ((i : Int)).tdiv 8 = (q : Int) := by rw [Int.tdiv_eq_ediv_of_nonneg (by omega)]; omega
      have hq2 : (i : Int) / 8 = (q : Int) := by omega
      have hq3 : IntKind.i64.wrap (q : Int) = (q : Int) := IntWalk.i64_in _ (by omega)
      have hr1 : ((i : Int)).tmod 8 = (r : Int) := by rw [Int.tmod_eq_emod_of_nonneg (by omega)]; omega
      have hr2 : (i : Int) % 8 = (r : Int) := by omega
      have hr3 : IntKind.i64.wrap (r : Int) = (r : Int) := IntWalk.i64_in _ (by omega)
      have hq0 : (0 : Int) ≤ (q : Int) := by omega
      have hq32 : (q : Int) < 32 := by omega
      have hqk : q < ks.length := by rw [HKL.out]; omega
      obtain ⟨y, hy⟩ : ∃ y, y = ks[q] := ⟨_, rfl⟩
      obtain ⟨b', o', hA', -, hcell⟩ := (HL.out.2.2.1.lie).byte hqk
      simp only [Option.some.injEq, Addr.mk.injEq] at hA'
      obtain ⟨rfl, rfl, -⟩ := hA'
      rw [← hy] at hcell
      have hyl := y.toNat_lt
      have hyw : IntKind.i64.wrap (y.toNat : Int) = (y.toNat : Int) := IntWalk.i64_in _ (by omega)
      have hbit : y.toNat / 2 ^ r % 2 = K / 2 ^ i % 2 := by
        have h := leN_bit ks i (by rw [HKL.out]; omega)
        rw [HK.out, ← h, hy, hr]
        simp only [hq]
      have HBIT := hid hbit; have HYL := hid hyl; have HI := hid hi
      clear hy hyl hbit hi hq hr hlt
      go_wp2
      clear hcell
      go_loopg [12, 13] r (fun g bt n wr => ∃ m : Nat, m + g = r ∧ n = .int .i64 (m : Int) ∧ bt = .int .i64 ((y.toNat / 2 ^ m : Nat) : Int) ∧ wr = wq)
      case atStart => exact ⟨0, by omega, rfl, by rw [Nat.pow_zero, Nat.div_one], rfl⟩
      case round =>
        obtain ⟨m, hm, rfl, rfl, hwr⟩ := hrel
        have hwr2 := hwr.symm
        clear hwr
        subst hwr2
        obtain ⟨z, hz⟩ : ∃ z, z = y.toNat / 2 ^ m := ⟨_, rfl⟩
        rw [← hz]
        have hz256 : z < 256 := by rw [hz]; exact Nat.lt_of_le_of_lt (Nat.div_le_self _ _) HYL.out
        by_cases hmr : m < r
        · have hx : (m : Int) < (r : Int) := by omega
          have ht3 : ((z : Int)).tdiv 2 = ((z / 2 : Nat) : Int) := by rw [Int.tdiv_eq_ediv_of_nonneg (by omega)]; omega
          have ht4 : (z : Int) / 2 = ((z / 2 : Nat) : Int) := by omega
          have hnb : z / 2 = y.toNat / 2 ^ (m + 1) := by rw [hz, Nat.div_div_eq_div_mul, Nat.pow_succ]
          obtain ⟨zz, hzz⟩ : ∃ zz, zz = z / 2 := ⟨_, rfl⟩
          rw [← hzz] at ht3 ht4 hnb
          have hw2 : IntKind.i64.wrap (zz : Int) = (zz : Int) := IntWalk.i64_in _ (by omega)
          have HMm := hid hm
          have HNB := hid hnb
          clear hz hzz hm hnb
          go_wp2
          have hm := HMm.out
          go_roundg (r - m - 1)
          case measure => omega
          case rel => exact ⟨m + 1, by omega, by go_num, by rw [← HNB.out], rfl⟩
        · obtain rfl : m = r := by omega
          have hx : ¬ ((m : Nat) : Int) < (m : Int) := by omega
          obtain ⟨t, ht⟩ : ∃ t, t = z % 2 := ⟨_, rfl⟩
          have ht1 : ((z : Int)).tmod 2 = (t : Int) := by rw [Int.tmod_eq_emod_of_nonneg (by omega)]; omega
          have ht2 : (z : Int) % 2 = (t : Int) := by omega
          have ht3 : IntKind.i64.wrap (t : Int) = (t : Int) := IntWalk.i64_in _ (by omega)
          have htK : K / 2 ^ i % 2 = t := by rw [← HBIT.out, ht, hz]
          have htl : t < 2 := by omega
          have HTK := hid htK
          clear hm hz hz256 hmr ht htK
          rcases (by omega : t = 0 ∨ t = 1) with rfl | rfl
          · obtain ⟨a, ha⟩ : ∃ r : FF, r = x2 + z2 := ⟨_, rfl⟩
            have Ca := addF ha
            obtain ⟨b, hb⟩ : ∃ r : FF, r = x2 - z2 := ⟨_, rfl⟩
            have Cb := subF hb
            obtain ⟨c9, hc9⟩ : ∃ r : FF, r = x3 + z3 := ⟨_, rfl⟩
            have Cc9 := addF hc9
            obtain ⟨d9, hd9⟩ : ∃ r : FF, r = x3 - z3 := ⟨_, rfl⟩
            have Cd9 := subF hd9
            obtain ⟨da, hda⟩ : ∃ r : FF, r = d9 * a := ⟨_, rfl⟩
            have Cda := mulF hda
            obtain ⟨cb, hcb⟩ : ∃ r : FF, r = c9 * b := ⟨_, rfl⟩
            have Ccb := mulF hcb
            obtain ⟨aa, haa⟩ : ∃ r : FF, r = a * a := ⟨_, rfl⟩
            have Caa := mulF haa
            obtain ⟨bb, hbb⟩ : ∃ r : FF, r = b * b := ⟨_, rfl⟩
            have Cbb := mulF hbb
            obtain ⟨e9, he9⟩ : ∃ r : FF, r = aa - bb := ⟨_, rfl⟩
            have Ce9 := subF he9
            obtain ⟨sm, hsm⟩ : ∃ r : FF, r = da + cb := ⟨_, rfl⟩
            have Csm := addF hsm
            obtain ⟨df, hdf⟩ : ∃ r : FF, r = da - cb := ⟨_, rfl⟩
            have Cdf := subF hdf
            obtain ⟨xx, hxx⟩ : ∃ r : FF, r = aa * bb := ⟨_, rfl⟩
            have Cxx := mulF hxx
            obtain ⟨t1, ht1⟩ : ∃ r : FF, r = e9 * cm := ⟨_, rfl⟩
            have Ct1 := mulF ht1
            obtain ⟨t2, ht2⟩ : ∃ r : FF, r = aa + t1 := ⟨_, rfl⟩
            have Ct2 := addF ht2
            obtain ⟨zz, hzz⟩ : ∃ r : FF, r = e9 * t2 := ⟨_, rfl⟩
            have Czz := mulF hzz
            obtain ⟨ss, hss⟩ : ∃ r : FF, r = sm * sm := ⟨_, rfl⟩
            have Css := mulF hss
            obtain ⟨dd9, hdd9⟩ : ∃ r : FF, r = df * df := ⟨_, rfl⟩
            have Cdd9 := mulF hdd9
            obtain ⟨ud, hud⟩ : ∃ r : FF, r = u * dd9 := ⟨_, rfl⟩
            have Cud := mulF hud
            have hnew : lad u K (j + 1) = ⟨xx, zz, ss, ud⟩ := by
              show (lad u K j).step u (K / 2 ^ (254 - j) % 2 == 1) = _
              rw [← HI.out, HTK.out, ← HSs.out]
              subst hxx hzz hss hud hdd9 ht2 ht1 hsm hdf he9 haa hbb hda hcb ha hb hc9 hd9
              rw [HCM.out]
              unfold Ld.step Ld.core lX2 lZ2 lE lA lB lS lD
              dsimp only
              try rw [if_neg (by decide)]
              rw [FF_comm (121665 : FF)]
            have HNEW := hid hnew
            clear hnew ha hb hc9 hd9 hda hcb haa hbb he9 hsm hdf hxx ht1 ht2 hzz hss hdd9 hud
            have ht1 : ((z : Int)).tmod 2 = 0 := ht1
            have ht2 : (z : Int) % 2 = 0 := ht2
            have ht3 : IntKind.i64.wrap 0 = 0 := ht3
            have hone0 : IntKind.i64.wrap (1 - 0) = 1 := by decide
            have hone1 : (1 : Int) - 0 = 1 := by decide
            have hone2 : IntKind.i64.wrap 1 = 1 := by decide
            have hB0a : Below wq.heap.size wq wq.drew := (Below.refl _ _).drew
            have SCa : Hid (∀ W, Below wq.heap.size wq W → W.cell? ⟨bx, 0, none⟩ = some (.slice A0 (dg x2.val).length c0) ∧ W.cell? ⟨bz, 0, none⟩ = some (.slice B0 (dg z2.val).length d0)) := hid fun W hW =>
              have h := HL.out.call hW
              ⟨cell_of h.1 0 _ rfl, cell_of h.2.1 0 _ rfl⟩
            have SPa : Hid (∀ W, Below wq.heap.size wq W → Sq W W.heap.size A0 c0 (ivs (dg x2.val)) ∧ Sq W W.heap.size B0 d0 (ivs (dg z2.val))) := hid fun W hW =>
              have h := (HL.out.call hW).2.2.2.1
              ⟨h.1, h.2.2.1⟩
            go_wp2_with fail
            go_region_held3 (fun W => W.cell? ⟨bx, 0, none⟩ = some (.slice A0 (dg x2.val).length c0) ∧ W.cell? ⟨bz, 0, none⟩ = some (.slice B0 (dg z2.val).length d0))
              (first
                | exact SCa.out _ (by assumption))
              (first
                | (go_at_call 20; refine (Ca.out _ _ _ _ _ (SPa.out _ hB0a).1 (SPa.out _ hB0a).2).mono ?_; rintro e wa ⟨Aa, ca, rfl, hSa, hba⟩; have hBa := hB0a.trans (hba.mono hB0a.size)))
            have Ha := hid (HL.out.made hBa hSa)
            clear hB0a SCa SPa hSa hba hBa HL Ca
            have hB0b : Below wa.heap.size wa wa.drew := (Below.refl _ _).drew
            have SCb : Hid (∀ W, Below wa.heap.size wa W → W.cell? ⟨bx, 0, none⟩ = some (.slice A0 (dg x2.val).length c0) ∧ W.cell? ⟨bz, 0, none⟩ = some (.slice B0 (dg z2.val).length d0)) := hid fun W hW =>
              have h := Ha.out.call hW
              ⟨cell_of h.1 0 _ rfl, cell_of h.2.1 0 _ rfl⟩
            have SPb : Hid (∀ W, Below wa.heap.size wa W → Sq W W.heap.size A0 c0 (ivs (dg x2.val)) ∧ Sq W W.heap.size B0 d0 (ivs (dg z2.val))) := hid fun W hW =>
              have h := (Ha.out.call hW).2.2.2.1
              ⟨h.2.1, h.2.2.2.1⟩
            go_wp2_with fail
            go_region_held3 (fun W => W.cell? ⟨bx, 0, none⟩ = some (.slice A0 (dg x2.val).length c0) ∧ W.cell? ⟨bz, 0, none⟩ = some (.slice B0 (dg z2.val).length d0))
              (first
                | exact SCb.out _ (by assumption))
              (first
                | (go_at_call 21; refine (Cb.out _ _ _ _ _ (SPb.out _ hB0b).1 (SPb.out _ hB0b).2).mono ?_; rintro e wb ⟨Ab, cb, rfl, hSb, hbb⟩; have hBb := hB0b.trans (hbb.mono hB0b.size)))
            have Hb := hid (Ha.out.made hBb hSb)
            clear hB0b SCb SPb hSb hbb hBb Ha Cb
            have hB0c9 : Below wb.heap.size wb wb.drew := (Below.refl _ _).drew
            have SCc9 : Hid (∀ W, Below wb.heap.size wb W → W.cell? ⟨bx, 1, none⟩ = some (.slice A1 (dg x3.val).length c1) ∧ W.cell? ⟨bz, 1, none⟩ = some (.slice B1 (dg z3.val).length d1)) := hid fun W hW =>
              have h := Hb.out.call hW
              ⟨cell_of h.1 1 _ rfl, cell_of h.2.1 1 _ rfl⟩
            have SPc9 : Hid (∀ W, Below wb.heap.size wb W → Sq W W.heap.size A1 c1 (ivs (dg x3.val)) ∧ Sq W W.heap.size B1 d1 (ivs (dg z3.val))) := hid fun W hW =>
              have h := (Hb.out.call hW).2.2.2.1
              ⟨h.2.2.2.1, h.2.2.2.2.2.1⟩
            go_wp2_with fail
            go_region_held3 (fun W => W.cell? ⟨bx, 1, none⟩ = some (.slice A1 (dg x3.val).length c1) ∧ W.cell? ⟨bz, 1, none⟩ = some (.slice B1 (dg z3.val).length d1))
              (first
                | exact SCc9.out _ (by assumption))
              (first
                | (go_at_call 20; refine (Cc9.out _ _ _ _ _ (SPc9.out _ hB0c9).1 (SPc9.out _ hB0c9).2).mono ?_; rintro e wc9 ⟨Ac9, cc9, rfl, hSc9, hbc9⟩; have hBc9 := hB0c9.trans (hbc9.mono hB0c9.size)))
            have Hc9 := hid (Hb.out.made hBc9 hSc9)
            clear hB0c9 SCc9 SPc9 hSc9 hbc9 hBc9 Hb Cc9
            have hB0d9 : Below wc9.heap.size wc9 wc9.drew := (Below.refl _ _).drew
            have SCd9 : Hid (∀ W, Below wc9.heap.size wc9 W → W.cell? ⟨bx, 1, none⟩ = some (.slice A1 (dg x3.val).length c1) ∧ W.cell? ⟨bz, 1, none⟩ = some (.slice B1 (dg z3.val).length d1)) := hid fun W hW =>
              have h := Hc9.out.call hW
              ⟨cell_of h.1 1 _ rfl, cell_of h.2.1 1 _ rfl⟩
            have SPd9 : Hid (∀ W, Below wc9.heap.size wc9 W → Sq W W.heap.size A1 c1 (ivs (dg x3.val)) ∧ Sq W W.heap.size B1 d1 (ivs (dg z3.val))) := hid fun W hW =>
              have h := (Hc9.out.call hW).2.2.2.1
              ⟨h.2.2.2.2.1, h.2.2.2.2.2.2.1⟩
            go_wp2_with fail
            go_region_held3 (fun W => W.cell? ⟨bx, 1, none⟩ = some (.slice A1 (dg x3.val).length c1) ∧ W.cell? ⟨bz, 1, none⟩ = some (.slice B1 (dg z3.val).length d1))
              (first
                | exact SCd9.out _ (by assumption))
              (first
                | (go_at_call 21; refine (Cd9.out _ _ _ _ _ (SPd9.out _ hB0d9).1 (SPd9.out _ hB0d9).2).mono ?_; rintro e wd9 ⟨Ad9, cd9, rfl, hSd9, hbd9⟩; have hBd9 := hB0d9.trans (hbd9.mono hB0d9.size)))
            have Hd9 := hid (Hc9.out.made hBd9 hSd9)
            clear hB0d9 SCd9 SPd9 hSd9 hbd9 hBd9 Hc9 Cd9
            go_wp2_with fail
            refine (Cda.out _ _ _ _ _ Hd9.out.2.2.2.1.1 Hd9.out.2.2.2.1.2.2.2.1).mono ?_
            rintro e wda ⟨Ada, cda, rfl, hSda, hbda⟩
            have Hda := hid (Hd9.out.made hbda hSda)
            clear hSda hbda Hd9 Cda
            go_wp2_with fail
            refine (Ccb.out _ _ _ _ _ Hda.out.2.2.2.1.2.2.1 Hda.out.2.2.2.1.2.2.2.1).mono ?_
            rintro e wcb ⟨Acb, ccb, rfl, hScb, hbcb⟩
            have Hcb := hid (Hda.out.made hbcb hScb)
            clear hScb hbcb Hda Ccb
            go_wp2_with fail
            refine (Caa.out _ _ _ _ _ Hcb.out.2.2.2.1.2.2.2.2.2.1 Hcb.out.2.2.2.1.2.2.2.2.2.1).mono ?_
            rintro e waa ⟨Aaa, caa, rfl, hSaa, hbaa⟩
            have Haa := hid (Hcb.out.made hbaa hSaa)
            clear hSaa hbaa Hcb Caa
            go_wp2_with fail
            refine (Cbb.out _ _ _ _ _ Haa.out.2.2.2.1.2.2.2.2.2.1 Haa.out.2.2.2.1.2.2.2.2.2.1).mono ?_
            rintro e wbb ⟨Abb, cbb, rfl, hSbb, hbbb⟩
            have Hbb := hid (Haa.out.made hbbb hSbb)
            clear hSbb hbbb Haa Cbb
            go_wp2_with fail
            refine (Ce9.out _ _ _ _ _ Hbb.out.2.2.2.1.2.1 Hbb.out.2.2.2.1.1).mono ?_
            rintro e we9 ⟨Ae9, ce9, rfl, hSe9, hbe9⟩
            have He9 := hid (Hbb.out.made hbe9 hSe9)
            clear hSe9 hbe9 Hbb Ce9
            go_wp2_with fail
            refine (Csm.out _ _ _ _ _ He9.out.2.2.2.1.2.2.2.2.1 He9.out.2.2.2.1.2.2.2.1).mono ?_
            rintro e wsm ⟨Asm, csm, rfl, hSsm, hbsm⟩
            have Hsm := hid (He9.out.made hbsm hSsm)
            clear hSsm hbsm He9 Csm
            go_wp2_with fail
            refine (Cdf.out _ _ _ _ _ Hsm.out.2.2.2.1.2.2.2.2.2.1 Hsm.out.2.2.2.1.2.2.2.2.1).mono ?_
            rintro e wdf ⟨Adf, cdf, rfl, hSdf, hbdf⟩
            have Hdf := hid (Hsm.out.made hbdf hSdf)
            clear hSdf hbdf Hsm Cdf
            go_wp2_with fail
            refine (Cxx.out _ _ _ _ _ Hdf.out.2.2.2.1.2.2.2.2.1 Hdf.out.2.2.2.1.2.2.2.1).mono ?_
            rintro e wxx ⟨Axx, cxx, rfl, hSxx, hbxx⟩
            have Hxx := hid (Hdf.out.made hbxx hSxx)
            clear hSxx hbxx Hdf Cxx
            have hc1s : wxx.cell? ⟨bx, 0, none⟩ = some (.slice A0 (dg x2.val).length c0) := cell_of Hxx.out.1 0 _ rfl
            have hf1s : wxx.frozen? ⟨bx, 0, none⟩ = false := frozen_of_row _ _ _ _ _ Hxx.out.1
            have HT1 := Hxx.out.setx NoInt.two 0 (.slice Axx (dg xx.val).length cxx)
            have HT1q : Lq w (wxx.setCell ⟨bx, 0, none⟩ (.slice Axx (dg xx.val).length cxx)) bx bz #[.slice Axx (dg xx.val).length cxx, .slice A1 (dg x3.val).length c1] #[.slice B0 (dg z2.val).length d0, .slice B1 (dg z3.val).length d1] kb ko kc ks _ := HT1
            have HT1h := hid HT1q
            clear HT1 HT1q Hxx
            go_wp2_with fail
            generalize hws1 : wxx.setCell ⟨bx, 0, none⟩ (.slice Axx (dg xx.val).length cxx) = ws1 at HT1h ⊢
            clear hws1 hc1s hf1s
            refine (HM'.out _).mono ?_
            rintro e wn ⟨An, cn, rfl, hSn, hbn⟩
            have Hcm := hid (HT1h.out.made hbn hSn)
            clear hSn hbn HT1h
            go_wp2_with fail
            refine (Ct1.out _ _ _ _ _ Hcm.out.2.2.2.1.2.2.2.2.1 Hcm.out.2.2.2.1.1).mono ?_
            rintro e wt1 ⟨At1, ct1, rfl, hSt1, hbt1⟩
            have Ht1 := hid (Hcm.out.made hbt1 hSt1)
            clear hSt1 hbt1 Hcm Ct1
            go_wp2_with fail
            refine (Ct2.out _ _ _ _ _ Ht1.out.2.2.2.1.2.2.2.2.2.2.2.1 Ht1.out.2.2.2.1.1).mono ?_
            rintro e wt2 ⟨At2, ct2, rfl, hSt2, hbt2⟩
            have Ht2 := hid (Ht1.out.made hbt2 hSt2)
            clear hSt2 hbt2 Ht1 Ct2
            go_wp2_with fail
            refine (Czz.out _ _ _ _ _ Ht2.out.2.2.2.1.2.2.2.2.2.2.1 Ht2.out.2.2.2.1.1).mono ?_
            rintro e wzz ⟨Azz, czz, rfl, hSzz, hbzz⟩
            have Hzz := hid (Ht2.out.made hbzz hSzz)
            clear hSzz hbzz Ht2 Czz
            have hc2s : wzz.cell? ⟨bz, 0, none⟩ = some (.slice B0 (dg z2.val).length d0) := cell_of Hzz.out.2.1 0 _ rfl
            have hf2s : wzz.frozen? ⟨bz, 0, none⟩ = false := frozen_of_row _ _ _ _ _ Hzz.out.2.1
            have HT2 := Hzz.out.setz NoInt.two 0 (.slice Azz (dg zz.val).length czz)
            have HT2q : Lq w (wzz.setCell ⟨bz, 0, none⟩ (.slice Azz (dg zz.val).length czz)) bx bz #[.slice Axx (dg xx.val).length cxx, .slice A1 (dg x3.val).length c1] #[.slice Azz (dg zz.val).length czz, .slice B1 (dg z3.val).length d1] kb ko kc ks _ := HT2
            have HT2h := hid HT2q
            clear HT2 HT2q Hzz
            go_wp2_with fail
            generalize hws2 : wzz.setCell ⟨bz, 0, none⟩ (.slice Azz (dg zz.val).length czz) = ws2 at HT2h ⊢
            clear hws2 hc2s hf2s
            -- sum
            refine (Css.out _ _ _ _ _ HT2h.out.2.2.2.1.2.2.2.2.2.2.1 HT2h.out.2.2.2.1.2.2.2.2.2.2.1).mono ?_
            rintro e wss ⟨Ass, css, rfl, hSss, hbss⟩
            have Hss := hid (HT2h.out.made hbss hSss)
            clear hSss hbss HT2h Css
            have hc3s : wss.cell? ⟨bx, 1, none⟩ = some (.slice A1 (dg x3.val).length c1) := cell_of Hss.out.1 1 _ rfl
            have hf3s : wss.frozen? ⟨bx, 1, none⟩ = false := frozen_of_row _ _ _ _ _ Hss.out.1
            have HT3 := Hss.out.setx NoInt.two 1 (.slice Ass (dg ss.val).length css)
            have HT3q : Lq w (wss.setCell ⟨bx, 1, none⟩ (.slice Ass (dg ss.val).length css)) bx bz #[.slice Axx (dg xx.val).length cxx, .slice Ass (dg ss.val).length css] #[.slice Azz (dg zz.val).length czz, .slice B1 (dg z3.val).length d1] kb ko kc ks _ := HT3
            have HT3h := hid HT3q
            clear HT3 HT3q Hss
            go_wp2_with fail
            generalize hws3 : wss.setCell ⟨bx, 1, none⟩ (.slice Ass (dg ss.val).length css) = ws3 at HT3h ⊢
            clear hws3 hc3s hf3s
            refine (Cdd9.out _ _ _ _ _ HT3h.out.2.2.2.1.2.2.2.2.2.2.1 HT3h.out.2.2.2.1.2.2.2.2.2.2.1).mono ?_
            rintro e wdd9 ⟨Add9, cdd9, rfl, hSdd9, hbdd9⟩
            have Hdd9 := hid (HT3h.out.made hbdd9 hSdd9)
            clear hSdd9 hbdd9 HT3h Cdd9
            go_wp2_with fail
            refine (Cud.out _ _ _ _ _ Hdd9.out.2.2.2.1.2.2.2.2.2.2.2.2.2.2.2.2.2.2.2.2.2.2.2.2.2.2.1 Hdd9.out.2.2.2.1.1).mono ?_
            rintro e wud ⟨Aud, cud, rfl, hSud, hbud⟩
            have Hud := hid (Hdd9.out.made hbud hSud)
            clear hSud hbud Hdd9 Cud
            have hc4s : wud.cell? ⟨bz, 1, none⟩ = some (.slice B1 (dg z3.val).length d1) := cell_of Hud.out.2.1 1 _ rfl
            have hf4s : wud.frozen? ⟨bz, 1, none⟩ = false := frozen_of_row _ _ _ _ _ Hud.out.2.1
            have HT4 := Hud.out.setz NoInt.two 1 (.slice Aud (dg ud.val).length cud)
            have HT4q : Lq w (wud.setCell ⟨bz, 1, none⟩ (.slice Aud (dg ud.val).length cud)) bx bz #[.slice Axx (dg xx.val).length cxx, .slice Ass (dg ss.val).length css] #[.slice Azz (dg zz.val).length czz, .slice Aud (dg ud.val).length cud] kb ko kc ks _ := HT4
            have HT4h := hid HT4q
            clear HT4 HT4q Hud
            go_wp2
            generalize hws4 : wud.setCell ⟨bz, 1, none⟩ (.slice Aud (dg ud.val).length cud) = ws4 at HT4h ⊢
            clear hws4 hc4s hf4s
            have hj := HJ.out
            have hi := HI.out
            go_roundg (255 - j - 1)
            case measure => omega
            case rel =>
              refine ⟨j + 1, ⟨xx, zz, ss, ud⟩, Axx, Ass, Azz, Aud, cxx, css, czz, cud, by omega, ?_, HNEW.out.symm, ?_⟩
              · have : (254 : Int) - ((j + 1 : Nat) : Int) = (i : Int) - 1 := by omega
                rw [this]
              · have h := HT4h.out
                exact ⟨h.1, h.2.1, h.2.2.1, ⟨h.2.2.2.1.2.2.2.2.2.2.2.1, h.2.2.2.1.2.2.1, h.2.2.2.1.2.2.2.1, h.2.2.2.1.1, h.2.2.2.1.2.2.2.2.2.2.2.2.2.2.2.2.2.2.2.2.2.2.2.2.2.2.2.1, trivial⟩, h.2.2.2.2⟩
          · obtain ⟨a, ha⟩ : ∃ r : FF, r = x3 + z3 := ⟨_, rfl⟩
            have Ca := addF ha
            obtain ⟨b, hb⟩ : ∃ r : FF, r = x3 - z3 := ⟨_, rfl⟩
            have Cb := subF hb
            obtain ⟨c9, hc9⟩ : ∃ r : FF, r = x2 + z2 := ⟨_, rfl⟩
            have Cc9 := addF hc9
            obtain ⟨d9, hd9⟩ : ∃ r : FF, r = x2 - z2 := ⟨_, rfl⟩
            have Cd9 := subF hd9
            obtain ⟨da, hda⟩ : ∃ r : FF, r = d9 * a := ⟨_, rfl⟩
            have Cda := mulF hda
            obtain ⟨cb, hcb⟩ : ∃ r : FF, r = c9 * b := ⟨_, rfl⟩
            have Ccb := mulF hcb
            obtain ⟨aa, haa⟩ : ∃ r : FF, r = a * a := ⟨_, rfl⟩
            have Caa := mulF haa
            obtain ⟨bb, hbb⟩ : ∃ r : FF, r = b * b := ⟨_, rfl⟩
            have Cbb := mulF hbb
            obtain ⟨e9, he9⟩ : ∃ r : FF, r = aa - bb := ⟨_, rfl⟩
            have Ce9 := subF he9
            obtain ⟨sm, hsm⟩ : ∃ r : FF, r = da + cb := ⟨_, rfl⟩
            have Csm := addF hsm
            obtain ⟨df, hdf⟩ : ∃ r : FF, r = da - cb := ⟨_, rfl⟩
            have Cdf := subF hdf
            obtain ⟨xx, hxx⟩ : ∃ r : FF, r = aa * bb := ⟨_, rfl⟩
            have Cxx := mulF hxx
            obtain ⟨t1, ht1⟩ : ∃ r : FF, r = e9 * cm := ⟨_, rfl⟩
            have Ct1 := mulF ht1
            obtain ⟨t2, ht2⟩ : ∃ r : FF, r = aa + t1 := ⟨_, rfl⟩
            have Ct2 := addF ht2
            obtain ⟨zz, hzz⟩ : ∃ r : FF, r = e9 * t2 := ⟨_, rfl⟩
            have Czz := mulF hzz
            obtain ⟨ss, hss⟩ : ∃ r : FF, r = sm * sm := ⟨_, rfl⟩
            have Css := mulF hss
            obtain ⟨dd9, hdd9⟩ : ∃ r : FF, r = df * df := ⟨_, rfl⟩
            have Cdd9 := mulF hdd9
            obtain ⟨ud, hud⟩ : ∃ r : FF, r = u * dd9 := ⟨_, rfl⟩
            have Cud := mulF hud
            have hnew : lad u K (j + 1) = ⟨ss, ud, xx, zz⟩ := by
              show (lad u K j).step u (K / 2 ^ (254 - j) % 2 == 1) = _
              rw [← HI.out, HTK.out, ← HSs.out]
              subst hxx hzz hss hud hdd9 ht2 ht1 hsm hdf he9 haa hbb hda hcb ha hb hc9 hd9
              rw [HCM.out]
              unfold Ld.step Ld.core Ld.swap lX2 lZ2 lE lA lB lS lD
              dsimp only
              try rw [if_pos (by decide)]
              rw [FF_comm (121665 : FF)]
            have HNEW := hid hnew
            clear hnew ha hb hc9 hd9 hda hcb haa hbb he9 hsm hdf hxx ht1 ht2 hzz hss hdd9 hud
            have ht1 : ((z : Int)).tmod 2 = 1 := ht1
            have ht2 : (z : Int) % 2 = 1 := ht2
            have ht3 : IntKind.i64.wrap 1 = 1 := ht3
            have hone0 : IntKind.i64.wrap (1 - 1) = 0 := by decide
            have hone1 : (1 : Int) - 1 = 0 := by decide
            have hone2 : IntKind.i64.wrap 0 = 0 := by decide
            have hB0a : Below wq.heap.size wq wq.drew := (Below.refl _ _).drew
            have SCa : Hid (∀ W, Below wq.heap.size wq W → W.cell? ⟨bx, 1, none⟩ = some (.slice A1 (dg x3.val).length c1) ∧ W.cell? ⟨bz, 1, none⟩ = some (.slice B1 (dg z3.val).length d1)) := hid fun W hW =>
              have h := HL.out.call hW
              ⟨cell_of h.1 1 _ rfl, cell_of h.2.1 1 _ rfl⟩
            have SPa : Hid (∀ W, Below wq.heap.size wq W → Sq W W.heap.size A1 c1 (ivs (dg x3.val)) ∧ Sq W W.heap.size B1 d1 (ivs (dg z3.val))) := hid fun W hW =>
              have h := (HL.out.call hW).2.2.2.1
              ⟨h.2.1, h.2.2.2.1⟩
            go_wp2_with fail
            go_region_held3 (fun W => W.cell? ⟨bx, 1, none⟩ = some (.slice A1 (dg x3.val).length c1) ∧ W.cell? ⟨bz, 1, none⟩ = some (.slice B1 (dg z3.val).length d1))
              (first
                | exact SCa.out _ (by assumption))
              (first
                | (go_at_call 20; refine (Ca.out _ _ _ _ _ (SPa.out _ hB0a).1 (SPa.out _ hB0a).2).mono ?_; rintro e wa ⟨Aa, ca, rfl, hSa, hba⟩; have hBa := hB0a.trans (hba.mono hB0a.size)))
            have Ha := hid (HL.out.made hBa hSa)
            clear hB0a SCa SPa hSa hba hBa HL Ca
            have hB0b : Below wa.heap.size wa wa.drew := (Below.refl _ _).drew
            have SCb : Hid (∀ W, Below wa.heap.size wa W → W.cell? ⟨bx, 1, none⟩ = some (.slice A1 (dg x3.val).length c1) ∧ W.cell? ⟨bz, 1, none⟩ = some (.slice B1 (dg z3.val).length d1)) := hid fun W hW =>
              have h := Ha.out.call hW
              ⟨cell_of h.1 1 _ rfl, cell_of h.2.1 1 _ rfl⟩
            have SPb : Hid (∀ W, Below wa.heap.size wa W → Sq W W.heap.size A1 c1 (ivs (dg x3.val)) ∧ Sq W W.heap.size B1 d1 (ivs (dg z3.val))) := hid fun W hW =>
              have h := (Ha.out.call hW).2.2.2.1
              ⟨h.2.2.1, h.2.2.2.2.1⟩
            go_wp2_with fail
            go_region_held3 (fun W => W.cell? ⟨bx, 1, none⟩ = some (.slice A1 (dg x3.val).length c1) ∧ W.cell? ⟨bz, 1, none⟩ = some (.slice B1 (dg z3.val).length d1))
              (first
                | exact SCb.out _ (by assumption))
              (first
                | (go_at_call 21; refine (Cb.out _ _ _ _ _ (SPb.out _ hB0b).1 (SPb.out _ hB0b).2).mono ?_; rintro e wb ⟨Ab, cb, rfl, hSb, hbb⟩; have hBb := hB0b.trans (hbb.mono hB0b.size)))
            have Hb := hid (Ha.out.made hBb hSb)
            clear hB0b SCb SPb hSb hbb hBb Ha Cb
            have hB0c9 : Below wb.heap.size wb wb.drew := (Below.refl _ _).drew
            have SCc9 : Hid (∀ W, Below wb.heap.size wb W → W.cell? ⟨bx, 0, none⟩ = some (.slice A0 (dg x2.val).length c0) ∧ W.cell? ⟨bz, 0, none⟩ = some (.slice B0 (dg z2.val).length d0)) := hid fun W hW =>
              have h := Hb.out.call hW
              ⟨cell_of h.1 0 _ rfl, cell_of h.2.1 0 _ rfl⟩
            have SPc9 : Hid (∀ W, Below wb.heap.size wb W → Sq W W.heap.size A0 c0 (ivs (dg x2.val)) ∧ Sq W W.heap.size B0 d0 (ivs (dg z2.val))) := hid fun W hW =>
              have h := (Hb.out.call hW).2.2.2.1
              ⟨h.2.2.1, h.2.2.2.2.1⟩
            go_wp2_with fail
            go_region_held3 (fun W => W.cell? ⟨bx, 0, none⟩ = some (.slice A0 (dg x2.val).length c0) ∧ W.cell? ⟨bz, 0, none⟩ = some (.slice B0 (dg z2.val).length d0))
              (first
                | exact SCc9.out _ (by assumption))
              (first
                | (go_at_call 20; refine (Cc9.out _ _ _ _ _ (SPc9.out _ hB0c9).1 (SPc9.out _ hB0c9).2).mono ?_; rintro e wc9 ⟨Ac9, cc9, rfl, hSc9, hbc9⟩; have hBc9 := hB0c9.trans (hbc9.mono hB0c9.size)))
            have Hc9 := hid (Hb.out.made hBc9 hSc9)
            clear hB0c9 SCc9 SPc9 hSc9 hbc9 hBc9 Hb Cc9
            have hB0d9 : Below wc9.heap.size wc9 wc9.drew := (Below.refl _ _).drew
            have SCd9 : Hid (∀ W, Below wc9.heap.size wc9 W → W.cell? ⟨bx, 0, none⟩ = some (.slice A0 (dg x2.val).length c0) ∧ W.cell? ⟨bz, 0, none⟩ = some (.slice B0 (dg z2.val).length d0)) := hid fun W hW =>
              have h := Hc9.out.call hW
              ⟨cell_of h.1 0 _ rfl, cell_of h.2.1 0 _ rfl⟩
            have SPd9 : Hid (∀ W, Below wc9.heap.size wc9 W → Sq W W.heap.size A0 c0 (ivs (dg x2.val)) ∧ Sq W W.heap.size B0 d0 (ivs (dg z2.val))) := hid fun W hW =>
              have h := (Hc9.out.call hW).2.2.2.1
              ⟨h.2.2.2.1, h.2.2.2.2.2.1⟩
            go_wp2_with fail
            go_region_held3 (fun W => W.cell? ⟨bx, 0, none⟩ = some (.slice A0 (dg x2.val).length c0) ∧ W.cell? ⟨bz, 0, none⟩ = some (.slice B0 (dg z2.val).length d0))
              (first
                | exact SCd9.out _ (by assumption))
              (first
                | (go_at_call 21; refine (Cd9.out _ _ _ _ _ (SPd9.out _ hB0d9).1 (SPd9.out _ hB0d9).2).mono ?_; rintro e wd9 ⟨Ad9, cd9, rfl, hSd9, hbd9⟩; have hBd9 := hB0d9.trans (hbd9.mono hB0d9.size)))
            have Hd9 := hid (Hc9.out.made hBd9 hSd9)
            clear hB0d9 SCd9 SPd9 hSd9 hbd9 hBd9 Hc9 Cd9
            go_wp2_with fail
            refine (Cda.out _ _ _ _ _ Hd9.out.2.2.2.1.1 Hd9.out.2.2.2.1.2.2.2.1).mono ?_
            rintro e wda ⟨Ada, cda, rfl, hSda, hbda⟩
            have Hda := hid (Hd9.out.made hbda hSda)
            clear hSda hbda Hd9 Cda
            go_wp2_with fail
            refine (Ccb.out _ _ _ _ _ Hda.out.2.2.2.1.2.2.1 Hda.out.2.2.2.1.2.2.2.1).mono ?_
            rintro e wcb ⟨Acb, ccb, rfl, hScb, hbcb⟩
            have Hcb := hid (Hda.out.made hbcb hScb)
            clear hScb hbcb Hda Ccb
            go_wp2_with fail
            refine (Caa.out _ _ _ _ _ Hcb.out.2.2.2.1.2.2.2.2.2.1 Hcb.out.2.2.2.1.2.2.2.2.2.1).mono ?_
            rintro e waa ⟨Aaa, caa, rfl, hSaa, hbaa⟩
            have Haa := hid (Hcb.out.made hbaa hSaa)
            clear hSaa hbaa Hcb Caa
            go_wp2_with fail
            refine (Cbb.out _ _ _ _ _ Haa.out.2.2.2.1.2.2.2.2.2.1 Haa.out.2.2.2.1.2.2.2.2.2.1).mono ?_
            rintro e wbb ⟨Abb, cbb, rfl, hSbb, hbbb⟩
            have Hbb := hid (Haa.out.made hbbb hSbb)
            clear hSbb hbbb Haa Cbb
            go_wp2_with fail
            refine (Ce9.out _ _ _ _ _ Hbb.out.2.2.2.1.2.1 Hbb.out.2.2.2.1.1).mono ?_
            rintro e we9 ⟨Ae9, ce9, rfl, hSe9, hbe9⟩
            have He9 := hid (Hbb.out.made hbe9 hSe9)
            clear hSe9 hbe9 Hbb Ce9
            go_wp2_with fail
            refine (Csm.out _ _ _ _ _ He9.out.2.2.2.1.2.2.2.2.1 He9.out.2.2.2.1.2.2.2.1).mono ?_
            rintro e wsm ⟨Asm, csm, rfl, hSsm, hbsm⟩
            have Hsm := hid (He9.out.made hbsm hSsm)
            clear hSsm hbsm He9 Csm
            go_wp2_with fail
            refine (Cdf.out _ _ _ _ _ Hsm.out.2.2.2.1.2.2.2.2.2.1 Hsm.out.2.2.2.1.2.2.2.2.1).mono ?_
            rintro e wdf ⟨Adf, cdf, rfl, hSdf, hbdf⟩
            have Hdf := hid (Hsm.out.made hbdf hSdf)
            clear hSdf hbdf Hsm Cdf
            go_wp2_with fail
            refine (Cxx.out _ _ _ _ _ Hdf.out.2.2.2.1.2.2.2.2.1 Hdf.out.2.2.2.1.2.2.2.1).mono ?_
            rintro e wxx ⟨Axx, cxx, rfl, hSxx, hbxx⟩
            have Hxx := hid (Hdf.out.made hbxx hSxx)
            clear hSxx hbxx Hdf Cxx
            have hc1s : wxx.cell? ⟨bx, 1, none⟩ = some (.slice A1 (dg x3.val).length c1) := cell_of Hxx.out.1 1 _ rfl
            have hf1s : wxx.frozen? ⟨bx, 1, none⟩ = false := frozen_of_row _ _ _ _ _ Hxx.out.1
            have HT1 := Hxx.out.setx NoInt.two 1 (.slice Axx (dg xx.val).length cxx)
            have HT1q : Lq w (wxx.setCell ⟨bx, 1, none⟩ (.slice Axx (dg xx.val).length cxx)) bx bz #[.slice A0 (dg x2.val).length c0, .slice Axx (dg xx.val).length cxx] #[.slice B0 (dg z2.val).length d0, .slice B1 (dg z3.val).length d1] kb ko kc ks _ := HT1
            have HT1h := hid HT1q
            clear HT1 HT1q Hxx
            go_wp2_with fail
            generalize hws1 : wxx.setCell ⟨bx, 1, none⟩ (.slice Axx (dg xx.val).length cxx) = ws1 at HT1h ⊢
            clear hws1 hc1s hf1s
            refine (HM'.out _).mono ?_
            rintro e wn ⟨An, cn, rfl, hSn, hbn⟩
            have Hcm := hid (HT1h.out.made hbn hSn)
            clear hSn hbn HT1h
            go_wp2_with fail
            refine (Ct1.out _ _ _ _ _ Hcm.out.2.2.2.1.2.2.2.2.1 Hcm.out.2.2.2.1.1).mono ?_
            rintro e wt1 ⟨At1, ct1, rfl, hSt1, hbt1⟩
            have Ht1 := hid (Hcm.out.made hbt1 hSt1)
            clear hSt1 hbt1 Hcm Ct1
            go_wp2_with fail
            refine (Ct2.out _ _ _ _ _ Ht1.out.2.2.2.1.2.2.2.2.2.2.2.1 Ht1.out.2.2.2.1.1).mono ?_
            rintro e wt2 ⟨At2, ct2, rfl, hSt2, hbt2⟩
            have Ht2 := hid (Ht1.out.made hbt2 hSt2)
            clear hSt2 hbt2 Ht1 Ct2
            go_wp2_with fail
            refine (Czz.out _ _ _ _ _ Ht2.out.2.2.2.1.2.2.2.2.2.2.1 Ht2.out.2.2.2.1.1).mono ?_
            rintro e wzz ⟨Azz, czz, rfl, hSzz, hbzz⟩
            have Hzz := hid (Ht2.out.made hbzz hSzz)
            clear hSzz hbzz Ht2 Czz
            have hc2s : wzz.cell? ⟨bz, 1, none⟩ = some (.slice B1 (dg z3.val).length d1) := cell_of Hzz.out.2.1 1 _ rfl
            have hf2s : wzz.frozen? ⟨bz, 1, none⟩ = false := frozen_of_row _ _ _ _ _ Hzz.out.2.1
            have HT2 := Hzz.out.setz NoInt.two 1 (.slice Azz (dg zz.val).length czz)
            have HT2q : Lq w (wzz.setCell ⟨bz, 1, none⟩ (.slice Azz (dg zz.val).length czz)) bx bz #[.slice A0 (dg x2.val).length c0, .slice Axx (dg xx.val).length cxx] #[.slice B0 (dg z2.val).length d0, .slice Azz (dg zz.val).length czz] kb ko kc ks _ := HT2
            have HT2h := hid HT2q
            clear HT2 HT2q Hzz
            go_wp2_with fail
            generalize hws2 : wzz.setCell ⟨bz, 1, none⟩ (.slice Azz (dg zz.val).length czz) = ws2 at HT2h ⊢
            clear hws2 hc2s hf2s
            -- sum
            refine (Css.out _ _ _ _ _ HT2h.out.2.2.2.1.2.2.2.2.2.2.1 HT2h.out.2.2.2.1.2.2.2.2.2.2.1).mono ?_
            rintro e wss ⟨Ass, css, rfl, hSss, hbss⟩
            have Hss := hid (HT2h.out.made hbss hSss)
            clear hSss hbss HT2h Css
            have hc3s : wss.cell? ⟨bx, 0, none⟩ = some (.slice A0 (dg x2.val).length c0) := cell_of Hss.out.1 0 _ rfl
            have hf3s : wss.frozen? ⟨bx, 0, none⟩ = false := frozen_of_row _ _ _ _ _ Hss.out.1
            have HT3 := Hss.out.setx NoInt.two 0 (.slice Ass (dg ss.val).length css)
            have HT3q : Lq w (wss.setCell ⟨bx, 0, none⟩ (.slice Ass (dg ss.val).length css)) bx bz #[.slice Ass (dg ss.val).length css, .slice Axx (dg xx.val).length cxx] #[.slice B0 (dg z2.val).length d0, .slice Azz (dg zz.val).length czz] kb ko kc ks _ := HT3
            have HT3h := hid HT3q
            clear HT3 HT3q Hss
            go_wp2_with fail
            generalize hws3 : wss.setCell ⟨bx, 0, none⟩ (.slice Ass (dg ss.val).length css) = ws3 at HT3h ⊢
            clear hws3 hc3s hf3s
            refine (Cdd9.out _ _ _ _ _ HT3h.out.2.2.2.1.2.2.2.2.2.2.1 HT3h.out.2.2.2.1.2.2.2.2.2.2.1).mono ?_
            rintro e wdd9 ⟨Add9, cdd9, rfl, hSdd9, hbdd9⟩
            have Hdd9 := hid (HT3h.out.made hbdd9 hSdd9)
            clear hSdd9 hbdd9 HT3h Cdd9
            go_wp2_with fail
            refine (Cud.out _ _ _ _ _ Hdd9.out.2.2.2.1.2.2.2.2.2.2.2.2.2.2.2.2.2.2.2.2.2.2.2.2.2.2.1 Hdd9.out.2.2.2.1.1).mono ?_
            rintro e wud ⟨Aud, cud, rfl, hSud, hbud⟩
            have Hud := hid (Hdd9.out.made hbud hSud)
            clear hSud hbud Hdd9 Cud
            have hc4s : wud.cell? ⟨bz, 0, none⟩ = some (.slice B0 (dg z2.val).length d0) := cell_of Hud.out.2.1 0 _ rfl
            have hf4s : wud.frozen? ⟨bz, 0, none⟩ = false := frozen_of_row _ _ _ _ _ Hud.out.2.1
            have HT4 := Hud.out.setz NoInt.two 0 (.slice Aud (dg ud.val).length cud)
            have HT4q : Lq w (wud.setCell ⟨bz, 0, none⟩ (.slice Aud (dg ud.val).length cud)) bx bz #[.slice Ass (dg ss.val).length css, .slice Axx (dg xx.val).length cxx] #[.slice Aud (dg ud.val).length cud, .slice Azz (dg zz.val).length czz] kb ko kc ks _ := HT4
            have HT4h := hid HT4q
            clear HT4 HT4q Hud
            go_wp2
            generalize hws4 : wud.setCell ⟨bz, 0, none⟩ (.slice Aud (dg ud.val).length cud) = ws4 at HT4h ⊢
            clear hws4 hc4s hf4s
            have hj := HJ.out
            have hi := HI.out
            go_roundg (255 - j - 1)
            case measure => omega
            case rel =>
              refine ⟨j + 1, ⟨ss, ud, xx, zz⟩, Ass, Axx, Aud, Azz, css, cxx, cud, czz, by omega, ?_, HNEW.out.symm, ?_⟩
              · have : (254 : Int) - ((j + 1 : Nat) : Int) = (i : Int) - 1 := by omega
                rw [this]
              · have h := HT4h.out
                exact ⟨h.1, h.2.1, h.2.2.1, ⟨h.2.2.2.1.2.2.1, h.2.2.2.1.2.2.2.2.2.2.2.1, h.2.2.2.1.1, h.2.2.2.1.2.2.2.1, h.2.2.2.1.2.2.2.2.2.2.2.2.2.2.2.2.2.2.2.2.2.2.2.2.2.2.2.1, trivial⟩, h.2.2.2.2⟩
    · obtain rfl : j = 255 := by omega
      have hx : ¬ (0 : Int) ≤ 254 - ((255 : Nat) : Int) := by omega
      obtain ⟨iv, hiv⟩ : ∃ r, r = FI z2 := ⟨_, rfl⟩
      have hou : OU = x2 * iv := by
        rw [HOU.out, hiv]
        unfold ladOut
        rw [← HSs.out]
      have IV := invF hiv
      have MU := mulF hou
      have BY : Hid (∀ W A c, Sq W W.heap.size A c (ivs (dg OU.val)) → Calls Try.prog 23 #[.slice A (dg OU.val).length c, .int .i64 32] W fun e w' => ∃ v, e = .returned v ∧ OwnB w' W.heap.size v (leB 32 OU.val) ∧ Below W.heap.size W w') := hid fun W A c h =>
        Bytes6_any OU.val 32 A c W h (Nat.lt_trans OU.isLt (by decide +kernel)) (by omega)
      have hB0 : Below wq.heap.size wq wq.drew := (Below.refl _ _).drew
      have SC : Hid (∀ W, Below wq.heap.size wq W → W.cell? ⟨bx, 0, none⟩ = some (.slice A0 (dg x2.val).length c0) ∧ W.cell? ⟨bz, 0, none⟩ = some (.slice B0 (dg z2.val).length d0)) := hid fun W hW =>
        have h := HL.out.call hW
        ⟨cell_of h.1 0 _ rfl, cell_of h.2.1 0 _ rfl⟩
      have SZ : Hid (∀ W, Below wq.heap.size wq W → Sq W W.heap.size B0 d0 (ivs (dg z2.val))) := hid fun W hW => (HL.out.call hW).2.2.2.1.2.2.1
      have SX : Hid (∀ W, Below wq.heap.size wq W → Sq W W.heap.size A0 c0 (ivs (dg x2.val))) := hid fun W hW => (HL.out.call hW).2.2.2.1.1
      have HWB := hid HL.out.2.2.2.2.1
      clear hou hiv hlt
      go_wp2_with fail
      go_region_held3 (fun W => W.cell? ⟨bx, 0, none⟩ = some (.slice A0 (dg x2.val).length c0) ∧ W.cell? ⟨bz, 0, none⟩ = some (.slice B0 (dg z2.val).length d0))
        (first
          | exact SC.out _ (by assumption))
        (first
          | (go_at_call 24; refine (IV.out _ _ _ (SZ.out _ hB0)).mono ?_; rintro e w5 ⟨A5, c5, rfl, hS5, hb5⟩; have hB5 := hB0.trans (hb5.mono hB0.size))
          | (go_at_call 22; refine (MU.out _ _ _ _ _ (SX.out _ hB5) hS5).mono ?_; rintro e w6 ⟨A6, c6, rfl, hS6, hb6⟩; have hB6 := hB5.trans (hb6.mono hB5.size))
          | (go_at_call 23; refine (BY.out _ _ _ hS6).mono ?_; rintro e w7 ⟨v7, rfl, ho7, hb7⟩; have hB7 := hB6.trans (hb7.mono hB6.size); have hOW := own_base ho7 (Nat.le_trans HWB.out.size hB6.size)))
      go_wp2
      go_ret
      exact ⟨_, rfl, hOW, HWB.out.trans (hB7.mono HWB.out.size)⟩
end Go.Proofs.Ytodimbmjbjioaaa
