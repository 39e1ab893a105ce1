import Derived.Test.YtanlaannkdiieaaPkM
namespace Go.Proofs.Ytanlaannkdiieaa.Pk
open Go.RowKit Go.Sort

theorem lookNil (id : Int) (h : I64 id) (w : World) : (Instr.lookup 36 (.map none) (.int .i64 id) true).run Try.prog w = .ok (.tuple #[.int .i64 0, .bool false]) w :=
  Maps.look_nil true law3 Try.underlying36 (zero3 w) (Maps.keyOf_int_mk Try.underlying3 (wf_of h))

theorem num_inj {D : DataW Unit} {k : Lit} {c : Int} {i : Nat} (h : D.atKey k (.lit (.int .i64 0)) = .lit (.int .i64 c)) (h2 : D.atKey k (num 0) = num i) : c = i := by
  have : (num i) = DataW.lit (.int .i64 c) := h2.symm.trans h
  injection this with e
  injection e with e1 e2
  exact e2.symm

def keyAt (id : Int) (S : List It) : Int × Bool := match S.find? (fun x => x.1 == id) with | some x => (x.2, true) | none => (0, false)

theorem keyAt_none {id : Int} {S : List It} (h : hasId id S = false) : keyAt id S = (0, false) := by
  unfold keyAt
  have : S.find? (fun x => x.1 == id) = none := by
    rw [List.find?_eq_none]
    intro x hx he
    have := (hasId_iff id S).2 ⟨x, hx, by simpa using he⟩
    rw [h] at this
    cases this
  rw [this]

theorem keyAt_some {id : Int} {S : List It} (h : (S.map (·.1)).Nodup) {x : It} (hx : x ∈ S) (e : x.1 = id) : keyAt id S = (x.2, true) := by
  induction S with
  | nil => cases hx
  | cons y S ih =>
    rw [List.map_cons, List.nodup_cons] at h
    unfold keyAt
    rw [List.find?_cons]
    rcases List.mem_cons.1 hx with e2 | hx
    · subst e2
      simp [e]
    · have : (y.1 == id) = false := beq_eq_false_iff_ne.2 (fun e3 => h.1 (by rw [e3, ← e]; exact List.mem_map_of_mem hx))
      rw [this]
      exact ih h.2 hx

end Go.Proofs.Ytanlaannkdiieaa.Pk
