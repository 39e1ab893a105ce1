import Derived.Test.YtoofgcdilgfclaaV01
namespace Go.Proofs.Ytoofgcdilgfclaa
open Go.RowKit Go.Sort
set_option maxRecDepth 100000
set_option maxHeartbeats 1000000

/-- bytes.Clone of a slice that is not nil. -/
theorem bclone (a : Addr) (n cap : Nat) (F : Nat → Nat) (w : World) (h : Rd w (some a) n F) (hn : n ≤ 140737488355328) :
    Calls Try.prog 55 #[.slice (some a) n cap] w (FewRet n F w) := by
  have HE := Lib.hid (own_empty (t := 5) (base := w.heap.size) (alloc_block w (.cells #[] 5)) (Nat.le_refl _))
  have HB : Hid (Below w.heap.size w (w.alloc (.cells #[] 5))) := Lib.hid ((Below.refl _ _).alloc (Nat.le_refl _) _)
  have HR := Lib.hid h
  have heq : Sem.run Try.prog (binOp .eql 22 (.slice (some a) n cap) (.slice none 0 0)) w = .ok (.bool false) w := Lib.run_eql_slice_nil w 22 5 (some a) n cap 0 0 Try.underlying22
  clear h
  go_enter Try.func55, Try.ntmps55
  go_wp2_with (at_builtin; refine append_rd _ rfl _ _ 22 rfl Try.underlying22 w.heap.size (.slice (some ⟨w.heap.size, 0, none⟩) 0 0) 0 (fun _ => 0) rfl HE.out (some a) n cap F rfl (HR.out.keep HB.out) (by omega) HB.out.size ?_; intro v' w' own gr _ hne; have HO := Lib.hid own; have HG := Lib.hid gr; have HN := Lib.hid hne; clear own gr hne)
  go_ret
  obtain ⟨g, cp, rfl, hg, hgl, hcp⟩ := own_some HO.out (HN.out (by simp))
  have ho := HO.out
  rw [Nat.zero_add] at ho hcp ⊢
  exact ⟨g, cp, rfl, by simpa using ho, Below.grown HB.out HG.out HB.out.size (fun k hk => by cases hk; exact Nat.le_refl _), hg, hgl, hcp⟩
end Go.Proofs.Ytoofgcdilgfclaa
