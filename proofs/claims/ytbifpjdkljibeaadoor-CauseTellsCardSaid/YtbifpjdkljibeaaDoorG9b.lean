import Derived.Test.YtbifpjdkljibeaaDoorG9
import Derived.Deep.RegionHeld3
namespace Go.Proofs.YtbifpjdkljibeaaDoor
open Go.RowKit Go.Extern.Stop Go.Stop Go.Extern Go.Extern.Rtype

set_option linter.unusedVariables false
set_option maxRecDepth 100000 in
set_option maxHeartbeats 16000000 in
theorem tellsA {t : TypeId} {x R : Value} {k : GK} {w w2 w4 : World} {an : Option Addr} {cn : Nat} {mc : Int} {F : FuncId} {y0 y1 y2 y3 y4 y11 y12 y13 y14 y15 y16 y17 y18 y19 y20 y21 y22 y23 y24 y25 y26 y27 y28 y29 y30 y31 y32 y33 y34 y35 y36 y37 y38 y39 y40 y41 y42 y43 y44 y45 y46 y47 y48 y49 y50 y51 y52 y53 y54 y55 y56 y57 y58 y59 y60 y61 y62 y63 y64 y65 y66 y67 y68 y69 y70 y71 y72 y73 y74 y75 y76 y77 y78 y79 y80 y81 y82 y83 y84 y85 : Value} {K : Act → World → Prop}
    (HC14 : Hid (∀ w', SX w4 w' w2.heap.size (.int .i64 (codeZ k.cs)) (.slice an (nodesOf k.ns).length cn) (.int .i64 (stripeOf k.st)) (.bool (stripeIs k.st)) (.string ⟨k.tx.toArray⟩) → Calls Tryd.prog 14 #[.iface t x] w' fun e w'' => e = .returned (.int .i64 (codeZ k.cs)) ∧ Below w'.heap.size w' w''))
    (HC18 : Hid (∀ w', SX w4 w' w2.heap.size (.int .i64 (codeZ k.cs)) (.slice an (nodesOf k.ns).length cn) (.int .i64 (stripeOf k.st)) (.bool (stripeIs k.st)) (.string ⟨k.tx.toArray⟩) → Calls Tryd.prog 18 #[.iface t x] w' fun e w'' => ∃ a9 c9, e = .returned (.slice a9 (nodesOf k.ns).length c9) ∧ Nums w'' a9 (nodesOf k.ns) ∧ Below w'.heap.size w' w''))
    (HC21 : Hid (∀ w' a9 c9, SX w4 w' w2.heap.size (.int .i64 (codeZ k.cs)) (.slice an (nodesOf k.ns).length cn) (.int .i64 (stripeOf k.st)) (.bool (stripeIs k.st)) (.string ⟨k.tx.toArray⟩) → Nums w' a9 (nodesOf k.ns) → Calls Tryd.prog 21 #[.slice a9 (nodesOf k.ns).length c9, .slice an (nodesOf k.ns).length cn] w' fun e w'' => e = .returned (.bool true) ∧ Below w'.heap.size w' w''))
    (HC15 : Hid (∀ m w', SX w4 w' w2.heap.size (.int .i64 (codeZ k.cs)) (.slice an (nodesOf k.ns).length cn) (.int .i64 (stripeOf k.st)) (.bool (stripeIs k.st)) (.string ⟨k.tx.toArray⟩) → Calls Tryd.prog 15 #[.iface t x, .int .i64 m] w' fun e w'' => e = .returned (.bool (hasCode m k.cs)) ∧ Below w'.heap.size w' w''))
    (HC22 : Hid (∀ m w', SX w4 w' w2.heap.size (.int .i64 (codeZ k.cs)) (.slice an (nodesOf k.ns).length cn) (.int .i64 (stripeOf k.st)) (.bool (stripeIs k.st)) (.string ⟨k.tx.toArray⟩) → Calls Tryd.prog 22 #[.iface t x, .iface 26 (.int .i64 m)] w' fun e w'' => e = .returned (.bool (hasCode m k.cs)) ∧ Below w'.heap.size w' w''))
    (HCF : Hid (∀ w', SX w4 w' w2.heap.size (.int .i64 (codeZ k.cs)) (.slice an (nodesOf k.ns).length cn) (.int .i64 (stripeOf k.st)) (.bool (stripeIs k.st)) (.string ⟨k.tx.toArray⟩) → Calls Tryd.prog F #[R] w' fun e w'' => e = .returned (.string ⟨k.tx.toArray⟩) ∧ Below w'.heap.size w' w''))
    (HS0 : Hid (SX w4 w4 w2.heap.size (.int .i64 (codeZ k.cs)) (.slice an (nodesOf k.ns).length cn) (.int .i64 (stripeOf k.st)) (.bool (stripeIs k.st)) (.string ⟨k.tx.toArray⟩)))
    (hFF : F = 81 ∨ F = 87 ∨ F = 82 ∨ F = 85 ∨ F = 16) (hm1 : ∀ w', (method 262 t x "Error").run Tryd.prog w' = .ok (F, R) w') (hm2 : ∀ w', (nilAhead 262 t x "Error").run Tryd.prog w' = .ok (some false) w') (hm0 : 0 ≤ mc) (hm12 : mc < 12)
    (hzb : (codeZ k.cs == 0) = false) (hz : codeZ k.cs ≠ 0) (hha : hasCode (codeZ k.cs) k.cs = true)
    (HK : Hid (∀ (a' : Act) (w' : World), Below w4.heap.size w4 w' → (∃ z35 z36 z37 z38 z39 z40 z41 z42 z43 z44 z45 z46 z47 z48 z49 z50 z51 z52 z53 z54 z55 z56 z57 z58 z59 z60 z61 z62 z63 z64 z65 z66 z67 z68 z69 z70 z71 z72 z73 z74 z75 z76 z77 z78 z79 z80 z81 z82 z83 z84 z85 : Value, a' = ⟨#[y0, y1, y2, y3, .bool true, .iface t x, .pointer (some ⟨w2.heap.size, 0, none⟩), .int .i64 (codeZ k.cs), .int .i64 (stripeOf k.st), .bool (stripeIs k.st), .int .i64 (1 + mc), y11, y12, y13, y14, y15, y16, y17, y18, y19, y20, y21, y22, y23, y24, y25, y26, y27, y28, y29, y30, y31, y32, y33, y34, z35, z36, z37, z38, z39, z40, z41, z42, z43, z44, z45, z46, z47, z48, z49, z50, z51, z52, z53, z54, z55, z56, z57, z58, z59, z60, z61, z62, z63, z64, z65, z66, z67, z68, z69, z70, z71, z72, z73, z74, z75, z76, z77, z78, z79, z80, z81, z82, z83, z84, z85], []⟩) → K a' w')) :
    Code.wp Tryd.prog reg11 (Exit.then K (bodyPost Tryd.prog Tryd.f4 fun e w' => e = .returned (.bool true) ∧ Below w.heap.size w w')) ⟨#[y0, y1, y2, y3, y4, .iface t x, .pointer (some ⟨w2.heap.size, 0, none⟩), .int .i64 (codeZ k.cs), .int .i64 (stripeOf k.st), .bool (stripeIs k.st), .int .i64 (1 + mc), y11, y12, y13, y14, y15, y16, y17, y18, y19, y20, y21, y22, y23, y24, y25, y26, y27, y28, y29, y30, y31, y32, y33, y34, y35, y36, y37, y38, y39, y40, y41, y42, y43, y44, y45, y46, y47, y48, y49, y50, y51, y52, y53, y54, y55, y56, y57, y58, y59, y60, y61, y62, y63, y64, y65, y66, y67, y68, y69, y70, y71, y72, y73, y74, y75, y76, y77, y78, y79, y80, y81, y82, y83, y84, y85], []⟩ w4 := by
  have q1 := eqlNil
  have q2 := eqlNilNil
  have hwr : IntKind.i64.wrap (1 + mc) = 1 + mc := IntWalk.i64_in _ (by omega)
  conv => arg 2; whnf
  rcases hFF with rfl | rfl | rfl | rfl | rfl
  all_goals
    go_region_held3 (fun w' => Below w4.heap.size w4 w' ∧ w'.cell? ⟨w2.heap.size, 0, none⟩ = some (.int .i64 (codeZ k.cs)) ∧ w'.cell? ⟨w2.heap.size, 1, none⟩ = some (.slice an (nodesOf k.ns).length cn) ∧ w'.cell? ⟨w2.heap.size, 2, none⟩ = some (.int .i64 (stripeOf k.st)) ∧ w'.cell? ⟨w2.heap.size, 3, none⟩ = some (.bool (stripeIs k.st)) ∧ w'.cell? ⟨w2.heap.size, 4, none⟩ = some (.string ⟨k.tx.toArray⟩))
      (first | exact ⟨HS0.out.1.drew, HS0.out.2⟩ | exact SX.more (by assumption) hbc)
      (first | (go_at_call 14; refine (HC14.out _ (by assumption)).mono ?_; rintro e w5 ⟨rfl, hbc⟩; (try dsimp only)) | (go_at_call 18; refine (HC18.out _ (by assumption)).mono ?_; rintro e w5 ⟨a9, c9, rfl, hnum, hbc⟩; (try dsimp only)) | (go_at_call 21; refine (HC21.out _ _ _ (by assumption) (by assumption)).mono ?_; rintro e w5 ⟨rfl, hbc⟩; (try dsimp only)) | (go_at_call 15; refine (HC15.out _ _ (by assumption)).mono ?_; rintro e w5 ⟨rfl, hbc⟩; (try dsimp only)) | (go_at_call 22; refine (HC22.out _ _ (by assumption)).mono ?_; rintro e w5 ⟨rfl, hbc⟩; (try dsimp only)) | (refine (HCF.out _ (by assumption)).mono ?_; rintro e w5 ⟨rfl, hbc⟩; (try dsimp only)))
    go_wp2_with fail
    exact HK.out _ _ (sx_below (by assumption)) ⟨_, _, _, _, _, _, _, _, _, _, _, _, _, _, _, _, _, _, _, _, _, _, _, _, _, _, _, _, _, _, _, _, _, _, _, _, _, _, _, _, _, _, _, _, _, _, _, _, _, _, _, rfl⟩

end Go.Proofs.YtbifpjdkljibeaaDoor
