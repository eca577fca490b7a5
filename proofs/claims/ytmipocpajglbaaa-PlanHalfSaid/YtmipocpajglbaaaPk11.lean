/-
  Texts of this claim in one file: Law15g.
-/
import Derived.Test.YtmipocpajglbaaaPk10
import Derived.Test.YtmipocpajglbaaaPk8
section
namespace Go.Proofs.Ytmipocpajglbaaa
open Go Go.RowKit
set_option linter.unusedVariables false
set_option linter.unusedSimpArgs false
theorem places15_law (x : Int) (n : Int) (l : Int) (w : World) (hx : -9223372036854775808 ≤ x) (kx : x ≤ 9223372036854775807) (hn : -9223372036854775808 ≤ n) (kn : n ≤ 9223372036854775807) (hl : -9223372036854775808 ≤ l) (kl : l ≤ 9223372036854775807) :
    Calls Try.prog 3 #[.int .i64 x, .int .i64 n, .int .i64 l] w fun e w' => e = .returned (.bool true) ∧ Below w.heap.size w w' :=
  places15_any stride_ok place_ok (alive15_any place_ok) x n l w ⟨hx, kx⟩ ⟨hn, kn⟩ ⟨hl, kl⟩
theorem at15_law (a : Int) (b : Int) (m : Nat) (n : Int) (w : World) (ha : -32768 ≤ a) (ka : a ≤ 32767) (hb : -32768 ≤ b) (kb : b ≤ 32767) (hm : m < 2 ^ 64) (hn : -9223372036854775808 ≤ n) (kn : n ≤ 9223372036854775807) :
    Calls Try.prog 4 #[.int .i16 a, .int .i16 b, .float .f64 m, .int .i64 n] w fun e w' => e = .returned (.bool true) ∧ Below w.heap.size w w' :=
  at15_any at_ok off_ok (alive15_any place_ok) a b m n w ⟨ha, ka⟩ ⟨hb, kb⟩ hm ⟨hn, kn⟩
theorem gaps15_law (x : Int) (A : Option Addr) (c : Nat) (l : List Int) (n : Int) (w : World) (hx : -9223372036854775808 ≤ x) (kx : x ≤ 9223372036854775807) (hL : Sq w w.heap.size A c (izs l)) (hN : ∀ y ∈ l, I64 y) (hn : -9223372036854775808 ≤ n) (kn : n ≤ 9223372036854775807) :
    Calls Try.prog 5 #[.int .i64 x, .slice A l.length c, .int .i64 n] w fun e w' => e = .returned (.bool true) ∧ Below w.heap.size w w' :=
  gaps15_any gap_ok far_ok (alive15_any place_ok) x A c l n w ⟨hx, kx⟩ ⟨hn, kn⟩ hN hL
theorem turns15_law (x : Int) (n : Int) (q : Int) (w : World) (hx : -9223372036854775808 ≤ x) (kx : x ≤ 9223372036854775807) (hn : -9223372036854775808 ≤ n) (kn : n ≤ 9223372036854775807) (hq : -9223372036854775808 ≤ q) (kq : q ≤ 9223372036854775807) :
    Calls Try.prog 6 #[.int .i64 x, .int .i64 n, .int .i64 q] w fun e w' => e = .returned (.bool true) ∧ Below w.heap.size w w' :=
  turns15_any turn_ok (alive15_any place_ok) x n q w ⟨hx, kx⟩ ⟨hn, kn⟩ ⟨hq, kq⟩
theorem back15_law (x : Int) (y : Int) (n : Int) (w : World) (hx : -9223372036854775808 ≤ x) (kx : x ≤ 9223372036854775807) (hy : -9223372036854775808 ≤ y) (ky : y ≤ 9223372036854775807) (hn : -9223372036854775808 ≤ n) (kn : n ≤ 9223372036854775807) :
    Calls Try.prog 7 #[.int .i64 x, .int .i64 y, .int .i64 n] w fun e w' => e = .returned (.bool true) ∧ Below w.heap.size w w' :=
  back15_any place_ok at_ok gap_ok (alive15_any place_ok) x y n w ⟨hx, kx⟩ ⟨hy, ky⟩ ⟨hn, kn⟩
theorem half15_law (x : Int) (n : Int) (q : Int) (w : World) (hx : -9223372036854775808 ≤ x) (kx : x ≤ 9223372036854775807) (hn : -9223372036854775808 ≤ n) (kn : n ≤ 9223372036854775807) (hq : -9223372036854775808 ≤ q) (kq : q ≤ 9223372036854775807) :
    Calls Try.prog 8 #[.int .i64 x, .int .i64 n, .int .i64 q] w fun e w' => e = .returned (.bool true) ∧ Below w.heap.size w w' :=
  half15_any turn_ok (alive15_any place_ok) x n q w ⟨hx, kx⟩ ⟨hn, kn⟩ ⟨hq, kq⟩
end Go.Proofs.Ytmipocpajglbaaa
end
