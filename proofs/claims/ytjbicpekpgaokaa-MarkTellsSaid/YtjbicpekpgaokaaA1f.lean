import Derived.Test.YtjbicpekpgaokaaA1
namespace Go.Proofs.Ytjbicpekpgaokaa
open Go.RowKit Go.Sort
set_option maxRecDepth 100000
set_option maxHeartbeats 1000000

theorem rfew (A : Option Addr) (n cap m k : Nat) (F : Nat → Nat) (w : World) (h : Rd w A n F) (hcap : n ≤ cap) (hn : k ≤ 140737488355328) (hm : m ≤ 9223372036854775807) (hk : k = min n m) :
    Calls Try.prog 17 #[.slice A n cap, .int .i64 (m : Int)] w (FewRet k F w) := by
  have HE := Lib.hid (own_empty (t := 5) (base := w.heap.size) (alloc_block w (.cells #[] 5)) (Nat.le_refl _))
  have HB : Hid (Below w.heap.size w (w.alloc (.cells #[] 5))) := Lib.hid ((Below.refl _ _).alloc (Nat.le_refl _) _)
  by_cases hmn : m < n
  · obtain rfl : k = m := by omega
    have HR := Lib.hid (h.less (Nat.le_of_lt hmn))
    have hc1 : (k : Int) ≤ (cap : Int) := by omega
    have hc3 : (0 : Int) ≤ (k : Int) := by omega
    clear h hk
    go_enter Try.func17, Try.ntmps17
    go_wp2_with (at_builtin; refine append_rd _ rfl _ _ 22 rfl Try.underlying22 w.heap.size (.slice (some ⟨w.heap.size, 0, none⟩) 0 0) 0 (fun _ => 0) rfl HE.out A k cap F rfl (HR.out.keep HB.out) (by omega) HB.out.size ?_; intro v' w' own gr _ hne; have HO := Lib.hid own; have HG := Lib.hid gr; have HN := Lib.hid hne; clear own gr hne)
    go_ret
    obtain ⟨g, cp, rfl, hg, hgl, hcp⟩ := own_some HO.out (HN.out (by simp))
    have ho := HO.out
    rw [Nat.zero_add] at ho hcp ⊢
    exact ⟨g, cp, rfl, by simpa using ho, Below.grown HB.out HG.out HB.out.size (fun k hk => by cases hk; exact Nat.le_refl _), hg, hgl, hcp⟩
  · obtain rfl : k = n := by omega
    have HR := Lib.hid h
    have hc1 : (k : Int) ≤ (cap : Int) := by omega
    have hc3 : (0 : Int) ≤ (k : Int) := by omega
    clear h hk
    go_enter Try.func17, Try.ntmps17
    go_wp2_with (at_builtin; refine append_rd _ rfl _ _ 22 rfl Try.underlying22 w.heap.size (.slice (some ⟨w.heap.size, 0, none⟩) 0 0) 0 (fun _ => 0) rfl HE.out A k cap F rfl (HR.out.keep HB.out) (by omega) HB.out.size ?_; intro v' w' own gr _ hne; have HO := Lib.hid own; have HG := Lib.hid gr; have HN := Lib.hid hne; clear own gr hne)
    go_ret
    obtain ⟨g, cp, rfl, hg, hgl, hcp⟩ := own_some HO.out (HN.out (by simp))
    have ho := HO.out
    rw [Nat.zero_add] at ho hcp ⊢
    exact ⟨g, cp, rfl, by simpa using ho, Below.grown HB.out HG.out HB.out.size (fun k hk => by cases hk; exact Nat.le_refl _), hg, hgl, hcp⟩
end Go.Proofs.Ytjbicpekpgaokaa
