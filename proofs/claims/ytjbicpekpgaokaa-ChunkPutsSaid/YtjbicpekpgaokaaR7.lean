import Derived.Test.YtjbicpekpgaokaaR6
import Derived.Test.YtjbicpekpgaokaaE6
import Derived.Lib.ConvBytes
namespace Go.Proofs.Ytjbicpekpgaokaa
open Go.RowKit Go.Sort
set_option maxRecDepth 100000
set_option maxHeartbeats 2000000

theorem bstr_data (F : Blk) : (bstr F).data.toList = ((List.range 160).map F).map UInt8.ofNat := by
  have h := strOf_list ((List.range 160).map F)
  rw [ByteArray.toList_eq] at h
  exact h
theorem bstr_size (F : Blk) : (bstr F).size = 160 := by
  have h := congrArg List.length (bstr_data F)
  simpa using h
/-- A text of a block's bytes, as bytes. -/
theorem conv_bs (w : World) (F : Blk) (hF : ∀ j, j < 160 → F j < 256) : ∃ c w1, 160 ≤ c ∧ Sem.run Try.prog (convert 9 22 (.string (bstr F))) w = .ok (.slice (some ⟨w.heap.size, 0, none⟩) 160 c) w1 ∧ Rd w1 (some ⟨w.heap.size, 0, none⟩) 160 F ∧ Below w.heap.size w w1 := by
  refine ⟨grownCap w (bstr F).size 0 5, Lib.bytesWorld w 5 (bstr F), ?_, ?_, ?_, ?_⟩
  · have := grownCap_ge w (bstr F).size 0 5
    rw [bstr_size] at this ⊢
    exact this
  · have h := Lib.run_convert_string_bytes (P := Try.prog) w 9 22 5 (bstr F) Try.underlying9 Try.underlying22 Try.underlying5
    rw [bstr_size] at h
    rw [bstr_size]
    exact h
  · refine Rd.mk_ fun j hj => ?_
    rw [Nat.zero_add]
    have h := Lib.bytesWorld_cell w 5 (bstr F) j (by rw [bstr_size]; exact hj)
    rw [h, bstr_data]
    have hb := hF j hj
    have e : ((((List.range 160).map F).map UInt8.ofNat).getD j 0).toNat = F j := by
      rw [List.getD_eq_getElem?_getD, List.getElem?_map, List.getElem?_map, List.getElem?_range hj]
      simp
      omega
    rw [e]
  · exact ⟨rfl, rfl, rfl, by rw [Lib.bytesWorld_size]; omega, fun k hk => Lib.bytesWorld_at_old w _ _ k hk⟩
/-- Pieces of a stripe that is none. -/
theorem rpieces_out {w : World} {r : Nat} (s : Int) (hs : ¬ (0 ≤ s ∧ s < 40)) :
    Calls Try.prog 45 #[.pointer (some ⟨r, 0, none⟩), .int .i64 s] w fun e w' => e = .returned (.slice none 0 0) ∧ w' = w := by
  by_cases h0 : s < 0
  · clear hs
    go_enter Try.func45, Try.ntmps45
    go_wp2_with fail
    go_ret
    exact ⟨rfl, rfl⟩
  · have h1 : (40 : Int) ≤ s := by omega
    clear hs
    go_enter Try.func45, Try.ntmps45
    go_wp2_with fail
    go_ret
    exact ⟨rfl, rfl⟩
end Go.Proofs.Ytjbicpekpgaokaa
