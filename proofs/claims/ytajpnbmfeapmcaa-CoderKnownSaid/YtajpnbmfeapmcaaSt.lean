import Derived.Test.YtajpnbmfeapmcaaL
import Derived.Laws.BytesArg
import Derived.Laws.Strings
namespace Go.Proofs.Ytajpnbmfeapmcaa
open Go.RowKit Go.Sort
set_option maxRecDepth 100000
set_option maxHeartbeats 1000000

/-- A row's bytes as a string. -/
def strOf (xs : List Nat) : ByteArray := strOfNums (xs.map Int.ofNat)

theorem strOf_list (xs : List Nat) : (strOf xs).toList = xs.map UInt8.ofNat := by
  unfold strOf
  rw [ByteArray.toList_eq, strOfNums_data, List.map_map]
  rfl
/-- Bytes are told by their string. -/
theorem strOf_inj : ∀ {xs ys : List Nat}, (∀ x ∈ xs, x < 256) → (∀ y ∈ ys, y < 256) → (strOf xs).toList = (strOf ys).toList → xs = ys := by
  intro xs ys hx hy h
  rw [strOf_list, strOf_list] at h
  induction xs generalizing ys with
  | nil => cases ys with
    | nil => rfl
    | cons y ys => cases h
  | cons x xs ih => cases ys with
    | nil => cases h
    | cons y ys =>
      rw [List.map_cons, List.map_cons, List.cons.injEq] at h
      have h1 := congrArg UInt8.toNat h.1
      rw [UInt8.toNat_ofNat', UInt8.toNat_ofNat'] at h1
      have a := hx x (List.mem_cons_self)
      have b := hy y (List.mem_cons_self)
      have e : x = y := by omega
      rw [e, ih (fun z hz => hx z (List.mem_cons_of_mem _ hz)) (fun z hz => hy z (List.mem_cons_of_mem _ hz)) h.2]

/-- A row that came in, converted. -/
theorem RawIn.str {w : World} {a : Option Addr} {xss : List (List Nat)} (h : RawIn w a xss) {i : Nat} {xs : List Nat} (hi : xss[i]? = some xs) (hne : 0 < xs.length) :
    ∃ b o g q cap, a = some ⟨b, o, none⟩ ∧ b < w.heap.size ∧ g < w.heap.size ∧ w.cell? ⟨b, o + i, none⟩ = some (.slice (some ⟨g, q, none⟩) xs.length cap) ∧
      ∀ W : World, (∀ o, W.cell? ⟨g, o, none⟩ = w.cell? ⟨g, o, none⟩) → Sem.run Try.prog (convert 29 9 (.slice (some ⟨g, q, none⟩) xs.length cap)) W = .ok (.string (strOf xs)) W := by
  obtain ⟨b, o, rfl, hb, g, cap, hc, hx⟩ := h i xs hi
  obtain ⟨g', q, rfl, hg, _⟩ := hx 0 _ (List.getElem?_eq_getElem hne)
  refine ⟨b, o, g', q, cap, rfl, hb, hg, hc, fun W hW => ?_⟩
  exact run_convert_bytes_arg W 29 5 Try.underlying29 Try.underlying5 g' q xs.length cap (xs.map Int.ofNat) (by rw [List.length_map]) (fun j hj => by
    obtain ⟨x, hxj⟩ : ∃ x, xs[j]? = some x := ⟨_, List.getElem?_eq_getElem hj⟩
    obtain ⟨g2, q2, e, _, hv⟩ := hx j x hxj
    cases e
    rw [hW, hv, List.getD_eq_getElem?_getD, List.getElem?_map, hxj]; rfl) 9 Try.underlying9
/-- A row, converted. -/
theorem row_str {w : World} {g q n cap : Nat} {F : Nat → Nat} (h : ∀ j, j < n → w.cell? ⟨g, q + j, none⟩ = some (.int .u8 (F j : Nat))) :
    Sem.run Try.prog (convert 29 9 (.slice (some ⟨g, q, none⟩) n cap)) w = .ok (.string (strOf ((List.range n).map F))) w :=
  run_convert_bytes_arg w 29 5 Try.underlying29 Try.underlying5 g q n cap (((List.range n).map F).map Int.ofNat) (by simp) (fun j hj => by
    rw [h j hj, List.getD_eq_getElem?_getD, List.getElem?_map, List.getElem?_map, List.getElem?_range hj]; rfl) 9 Try.underlying9
end Go.Proofs.Ytajpnbmfeapmcaa
