import Derived.Test.YtohmoakahfpjpaaDK
namespace Go.Proofs.Ytohmoakahfpjpaa
open Go.RowKit Go.Sort
set_option maxRecDepth 100000
set_option maxHeartbeats 1000000

def sb (c : Int) : ByteArray := strOf ((List.range 160).map (fun _ => byteOf c))
theorem blk_conv {w : World} {g c : Nat} {b : Int} {F : Blk} (h : Blk8 w g 160 F) (e : F = fun _ => byteOf b) : Sem.run Try.prog (convert 26 9 (.slice (some ⟨g, 0, none⟩) 160 c)) w = .ok (.string (sb b)) w := by
  subst e
  exact conv_rd h.rd
def AllK (w0 : World) (b : Int) (e : Ending) (w' : World) : Prop := ∃ g, e = .returned (.slice (some ⟨g, 0, none⟩) 160 160) ∧ Sem.run Try.prog (convert 26 9 (.slice (some ⟨g, 0, none⟩) 160 160)) w' = .ok (.string (sb b)) w' ∧ Below w0.heap.size w0 w'
theorem allK {w0 W : World} (b : Int) (h : Below w0.heap.size w0 W) : Calls Try.prog 10 #[.int .i64 b] W (AllK w0 b) := by
  refine (lall b W).mono ?_
  rintro e w' ⟨g, rfl, k, hb, _⟩
  exact ⟨g, rfl, blk_conv k rfl, h.trans (hb.mono h.size)⟩
attribute [irreducible] sb
end Go.Proofs.Ytohmoakahfpjpaa
