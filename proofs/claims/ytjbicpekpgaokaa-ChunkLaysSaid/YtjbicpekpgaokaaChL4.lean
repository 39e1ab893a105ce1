import Derived.Test.YtjbicpekpgaokaaChL2
import Derived.Test.YtjbicpekpgaokaaChL3
namespace Go.Proofs.Ytjbicpekpgaokaa
open Go.RowKit Go.Sort

theorem chunkLays (x0 x1 x2 x3 x4 : Int) (a5 a7 : Option Addr) (n5 c5 c7 y : Nat) (F5 : Nat → Nat) (x6 : Int) (xs : List Int) (w : World) (h4 : -9223372036854775808 ≤ x4 ∧ x4 ≤ 9223372036854775807)
    (h5 : Rd w a5 n5 F5) (b5 : ∀ j, j < n5 → F5 j < 256) (l5 : n5 ≤ c5) (m5 : n5 ≤ 140737488355328) (h7 : Nums w a7 xs) (hy : y < 256) :
    Calls Try.prog 8 #[.int .i64 x0, .int .i64 x1, .int .i64 x2, .int .i64 x3, .int .i64 x4, .slice a5 n5 c5, .int .i64 x6, .slice a7 xs.length c7, .int .u8 (y : Int)] w fun e w' => e = .returned (.bool true) ∧ Below w.heap.size w w' := by
  obtain ⟨s, g, ii, nn, hnn, hok, hcy⟩ := gpieceT x0 x1 x2 x3 x4 h4
  by_cases hO : OkI s g ii nn
  · obtain ⟨y0, hy0, rfl, rfl, rfl, rfl, hD⟩ := hok hO
    rw [← hD] at hcy
    exact chunkLaysOk y0 hy0 x0 x1 x2 x3 x4 a5 a7 n5 c5 c7 y F5 x6 xs w hcy h5 b5 l5 m5 h7 hy
  · exact chunkLaysNo s g ii nn hnn hO x0 x1 x2 x3 x4 a5 a7 n5 c5 c7 y F5 x6 xs w hcy h5 b5 l5 m5 h7 hy
end Go.Proofs.Ytjbicpekpgaokaa
