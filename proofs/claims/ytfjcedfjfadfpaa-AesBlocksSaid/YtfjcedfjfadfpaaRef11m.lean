/-
  The document's layer 11: a block sealed.
-/
import Derived.Test.YtfjcedfjfadfpaaRef11k
import Derived.Test.YtfjcedfjfadfpaaRef11l
namespace Go.Proofs.Ytfjcedfjfadfpaa
open Go.RowKit
set_option linter.unusedVariables false
set_option linter.unusedSimpArgs false

set_option maxRecDepth 100000 in
set_option maxHeartbeats 4000000 in
theorem Block11_any (A A' Ab : Option Addr) (key blk : List UInt8) (n n' nb c c' cb : Nat) (w : World) (hA : Sq w w.heap.size A c (bvs key)) (hA' : Sq w w.heap.size A' c' (bvs blk)) (hkey : key.length = 16) (hblk : blk.length = 16) (hn : n = 16) (hn' : n' = 16) (hnb : nb = 256) (hBox : Ints w w.heap.size Ab cb boxN 256) :
    Calls Try.prog 16 #[.slice A n c, .slice A' n' c', .slice Ab nb cb] w fun e w' => ∃ v, e = .returned v ∧ OwnB w' w.heap.size v (blkL (sealN (bf key) (bf blk))) ∧ Below w.heap.size w w' := by
  subst hn; subst hn'; subst hnb
  have hcap := hA'.cap
  rw [bvs_length, hblk] at hcap
  have KW := hid (Words11_any A Ab 16 256 c cb key w hA hkey rfl rfl hBox)
  have HA := hid hA'; have HBX := hid hBox; have HBLK := hid hblk; have HCAP := hid hcap
  have hmk := mkI16
  clear hA hA' hBox hkey hblk hcap
  go_enter Try.func16, Try.ntmps16
  go_wp2_with fail
  refine KW.out.mono ?_
  rintro e wb ⟨Aw, cw, rfl, hW, hb⟩
  have HW := hid hW; have HB := hid hb
  have HBX1 := hid ((HBX.out.below hb).more hb.size)
  have HL1 : Hid (Lie wb wb.heap.size A' (bvs blk)) := hid ((HA.out.below hb).more hb.size).lie
  have a0 : Hid ((wb.alloc (.cells (bI fun _ => 0) 3)).heap[wb.heap.size]? = some (.cells (bI (fun _ => 0)) 3 (0, 0))) := hid (heap_alloc_new wb _)
  have a1 : Hid (Below wb.heap.size wb (wb.alloc (.cells (bI fun _ => 0) 3))) := hid ((Below.refl _ _).alloc (Nat.le_refl _) _)
  clear hW hb KW HA HBX
  go_wp2
  refine blk11_l1 A' Ab Aw c' cb cw wb.heap.size (bf key) wb _ blk _ _ _ _ _ _ _ _ _ _ _ _ _ _ _ _ _ _ _ _ _ _ _ _ _ _ _ _ _ _ _ _ _ _ _ _ _ _ _ _ _ _ _ _ _ _ _ _ _ _ _ _ _ _ _ _ _ _ _ _ _ _ _ _ _ _ _ _ _ _ _ _ _ _ _ _ _ _ _ _ _ _ _ _ _ _ _ _ _ _ _ _ _ _ _ _ _ _ _ _ _ _ _ _ _ _ _ _ _ _ _ _ _ _ _ _ _ _ _ _ _ _ _ _ _ _ _ _ _ _ _ _ _ _ _ _ _ _ _ _ _ _ _ _ _ _ _ _ _ _ _ _ _ _ _ _ _ _ _ _ _ _ _ _ _ _ _ HBLK.out HL1.out HCAP.out HW.out (bf_lt key) (Nat.le_refl _) a0.out a1.out ?_
  intro w2 u24 u25 u26 u27 u28 u29 u30 u31 u32 u33 u34 u35 u36 u37 u38 u39 u40 u41 u42 u43 u44 u45 k0 k1
  have K0 : Hid (w2.heap[wb.heap.size]? = some (.cells (bI (rd (bf key) (bf blk) 0)) 3 (0, 0))) := hid k0
  have K1 := hid k1
  clear k0 k1 a0 a1
  go_wp2
  refine blk11_l2 A' Ab Aw c' cb cw wb.heap.size (bf key) wb _ (bf blk) _ _ _ _ _ _ _ _ _ _ _ _ _ _ _ _ _ _ _ _ _ _ _ _ _ _ _ _ _ _ _ _ _ _ _ _ _ _ _ _ _ _ _ _ _ _ _ _ _ _ _ _ _ _ _ _ _ _ _ _ _ _ _ _ _ _ _ _ _ _ _ _ _ _ _ _ _ _ _ _ _ _ _ _ _ _ _ _ _ _ _ _ _ _ _ _ _ _ _ _ _ _ _ _ _ _ _ _ _ _ _ _ _ _ _ _ _ _ _ _ _ _ _ _ _ _ _ _ _ _ _ _ _ _ _ _ _ _ _ _ _ _ _ _ _ _ _ _ _ _ _ _ _ _ _ _ _ _ _ _ _ _ _ _ _ _ _ (bf_lt blk) HBX1.out HW.out (bf_lt key) (Nat.le_refl _) K0.out K1.out ?_
  intro w3 u11 u12 u13 u14 u15 u16 u17 u46 u47 u48 u49 u50 u51 u52 u53 u54 u55 u56 u57 u58 u59 u60 u61 u62 u63 u64 u65 u66 u67 u68 u69 u70 u71 u72 u73 u74 u75 u76 u77 u78 u79 u80 u81 u82 u83 u84 u85 u86 u87 u88 u89 u90 u91 u92 u93 u94 u95 u96 u97 u98 u99 u100 u101 u102 u103 u104 u105 u106 u107 u108 u109 u110 u111 u112 u113 u114 u115 u116 u117 u118 u119 u120 u121 u122 u123 u124 u125 u126 u127 u128 u129 u130 u131 u132 u133 u134 u135 u136 u137 u138 u139 u140 u141 u142 u143 u144 u145 u146 u147 u148 u149 u150 u151 u152 u153 u154 u155 u156 u157 u158 k2 k3
  have K2 := hid k2; have K3 := hid k3
  clear k2 k3 K0 K1
  go_wp2
  refine blk11_l8 A' Ab Aw c' cb cw wb.heap.size (bf key) wb w3 (sealN (bf key) (bf blk)) _ _ _ _ _ _ _ _ _ _ _ _ _ _ _ _ _ _ _ _ _ _ _ _ _ _ _ _ _ _ _ _ _ _ _ _ _ _ _ _ _ _ _ _ _ _ _ _ _ _ _ _ _ _ _ _ _ _ _ _ _ _ _ _ _ _ _ _ _ _ _ _ _ _ _ _ _ _ _ _ _ _ _ _ _ _ _ _ _ _ _ _ _ _ _ _ _ _ _ _ _ _ _ _ _ _ _ _ _ _ _ _ _ _ _ _ _ _ _ _ _ _ _ _ _ _ _ _ _ _ _ _ _ _ _ _ _ _ _ _ _ _ _ _ _ _ _ _ _ _ _ _ _ _ _ _ _ _ _ _ _ _ _ _ _ _ (sealN_lt (bf_lt key) (bf_lt blk)) K2.out ?_
  intro w4 u18 u159 u160 u161 u162 u163 u164 u165 u166 u167 u168 u169 u170 ho hb4
  have HO := hid ho; have HB4 := hid hb4
  clear ho hb4
  go_wp2
  go_ret
  exact ⟨_, rfl, own_base HO.out (Nat.le_trans HB.out.size K3.out.size), HB.out.trans ((K3.out.trans (HB4.out.mono K3.out.size)).mono HB.out.size)⟩
end Go.Proofs.Ytfjcedfjfadfpaa
