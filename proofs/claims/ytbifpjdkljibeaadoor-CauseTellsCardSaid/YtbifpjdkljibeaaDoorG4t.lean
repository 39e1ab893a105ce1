import Derived.Deep.CutBlock
import Derived.Deep.CutRange
import Derived.Test.YtbifpjdkljibeaaDoorG4b
import Derived.Test.YtbifpjdkljibeaaDoorG4c
import Derived.Test.YtbifpjdkljibeaaDoorG4d
import Derived.Test.YtbifpjdkljibeaaDoorG4e
import Derived.Test.YtbifpjdkljibeaaDoorG4f
import Derived.Test.YtbifpjdkljibeaaDoorG4g
import Derived.Test.YtbifpjdkljibeaaDoorG4k
import Derived.Test.YtbifpjdkljibeaaDoorG4a
namespace Go.Proofs.YtbifpjdkljibeaaDoor
open Go.RowKit Go.Extern.Stop Go.Stop Go.Extern Go.Extern.Rtype

/-- The piece of code that begins with that region. -/
def findSeq (n : Nat) : Code → Option Code
  | .loop c => findSeq n c
  | .seq (.region k x y) b => if k = n then some (.seq (.region k x y) b) else findSeq n b
  | .seq a b => match findSeq n a with
    | some c => some c
    | none => findSeq n b
  | .block _ c => findSeq n c
  | .scope c => findSeq n c
  | .cond _ a b => match findSeq n a with
    | some c => some c
    | none => findSeq n b
  | _ => none
def fstOf : Code → Code
  | .seq a _ => a
  | c => c
def sndOf : Code → Code
  | .seq _ b => b
  | c => c
noncomputable def s40 : Code := ((Tryd.f19.body.bind (findSeq 40)).getD .skip)
noncomputable def s42 : Code := ((Tryd.f19.body.bind (findSeq 42)).getD .skip)

set_option linter.unusedVariables false
set_option maxRecDepth 100000 in
set_option maxHeartbeats 8000000 in
theorem outA {a : Option Addr} {xs : List (Int × Int)} {c i d : Nat} {ks : List GK} {w w0 wr : World} {a4 a5 : Option Addr} {c4 c5 : Nat} {y1 y6 y7 y8 y9 y10 y11 y12 y13 y14 y15 y16 y17 y18 y19 y20 y21 y22 y23 y24 y25 y26 y27 y28 y29 y30 y31 y32 y33 y34 y35 y36 y37 y38 y39 y40 y41 y42 y43 y44 y45 y46 y47 y48 y49 y50 y51 y52 y53 y54 y55 y56 y57 y58 y59 y60 y61 y62 y63 y64 y65 y66 y67 y68 y69 y70 y71 y72 y73 y74 y75 y76 y77 y78 y79 y80 y81 y82 y83 y84 y85 y86 y87 y88 y89 y90 y91 y92 y93 y94 y95 y96 y97 y98 y99 y100 y101 y102 y103 y104 y105 y106 y107 y108 y109 y110 y111 y112 y113 y114 y115 y116 y117 y118 y119 y120 y121 y122 y123 y124 y125 y126 y127 y128 y129 y130 y131 y132 y133 y134 y135 y136 y137 y138 y139 y140 y141 y142 y143 y144 y145 y146 y147 y148 y149 y150 y151 y152 y153 y154 y155 y156 y157 y158 y159 y160 y161 y162 y163 y164 y165 y166 y167 y168 y169 y170 y171 y172 y173 y174 y175 y176 y177 y178 y179 y180 y181 y182 y183 y184 y185 y186 y187 y188 y189 y190 y191 y192 y193 y194 y195 y196 y197 y198 y199 y200 y201 y202 y203 y204 y205 y206 y207 y208 y209 y210 y211 y212 y213 y214 y215 y216 y217 y218 y219 y220 y221 y222 y223 y224 y225 y226 y227 y228 y229 y230 y231 y232 y233 y234 y235 y236 y237 : Value} {K K1 : Act → World → Prop}
    (HW : Hid (Below w.heap.size w w0 ∧ w0.heap[w.heap.size]? = some (.cells #[.int .i64 0, .slice none 0 0, .int .i64 0, .bool false, .string ⟨#[]⟩] 48 (0, 0)))) (HG : Hid (GrowP w0 (.slice a4 0 c4) (.slice a5 0 c5) wr i d ks))
    (hi1 : i ≤ xs.length) (hi2 : i ≤ 25) (hl25 : ks.length ≤ i) (hm : ks.length = 0)
    (hK : ∀ (a' : Act) (w' : World), Code.wp Tryd.prog (sndOf s40) (Exit.then K1 (bodyPost Tryd.prog Tryd.f19 (GrowPost w))) a' w' → K a' w')
    (hK1 : ∀ (a' : Act) (w' : World), Code.wp Tryd.prog s42 (bodyPost Tryd.prog Tryd.f19 (GrowPost w)) a' w' → K1 a' w') :
    Code.wp Tryd.prog (fstOf s40) (Exit.then K (Exit.then K1 (bodyPost Tryd.prog Tryd.f19 (GrowPost w)))) ⟨#[.slice a xs.length c, y1, .nilIface, .pointer (some ⟨w.heap.size, 0, none⟩), .slice a4 0 c4, .slice a5 0 c5, y6, y7, y8, y9, y10, y11, y12, y13, y14, y15, y16, y17, y18, y19, y20, y21, y22, y23, y24, y25, y26, y27, y28, y29, y30, y31, y32, y33, y34, y35, y36, y37, y38, y39, y40, y41, y42, y43, y44, y45, y46, y47, y48, y49, y50, y51, y52, y53, y54, y55, y56, y57, y58, y59, y60, y61, y62, y63, y64, y65, y66, y67, y68, y69, y70, y71, y72, y73, y74, y75, y76, y77, y78, y79, y80, y81, y82, y83, y84, y85, y86, y87, y88, y89, y90, y91, y92, y93, y94, y95, y96, y97, y98, y99, y100, y101, y102, y103, y104, y105, y106, y107, y108, y109, y110, y111, y112, y113, y114, y115, y116, y117, y118, y119, y120, y121, y122, y123, y124, y125, y126, y127, y128, y129, y130, y131, y132, y133, y134, y135, y136, y137, y138, y139, y140, y141, y142, y143, y144, y145, y146, y147, y148, y149, y150, y151, y152, y153, y154, y155, y156, y157, y158, y159, y160, y161, y162, y163, y164, y165, y166, y167, y168, y169, y170, y171, y172, y173, y174, y175, y176, y177, y178, y179, y180, y181, y182, y183, y184, y185, y186, y187, y188, y189, y190, y191, y192, y193, y194, y195, y196, y197, y198, y199, y200, y201, y202, y203, y204, y205, y206, y207, y208, y209, y210, y211, y212, y213, y214, y215, y216, y217, y218, y219, y220, y221, y222, y223, y224, y225, y226, y227, y228, y229, y230, y231, y232, y233, y234, y235, y236, y237], []⟩ wr := by
  obtain ⟨i0, hi, hz0, hz1, hz2⟩ := info_parts info24
  obtain ⟨j0, hj, hy0, hy1, hy2⟩ := info_parts info48
  obtain ⟨p0, hp, hq0, hq1, hq2⟩ := info_parts info3
  conv => arg 2; whnf
  conv at hK => enter [a1, w1, 1, 2]; whnf
  conv at hK1 => enter [a1, w1, 1, 2]; whnf
  have hT := HG.out.two
  rw [hm] at hT
  have HT := Lib.hid hT
  have b0 := (hT.below.cell (p := ⟨w.heap.size, 0, none⟩) (heap_lt HW.out.2)).trans (show _ = some (.int .i64 0) by simp [World.cell?, HW.out.2])
  have d0 : wr.frozen? ⟨w.heap.size, 0, none⟩ = false := (hT.below.frozen (p := ⟨w.heap.size, 0, none⟩) (heap_lt HW.out.2)).trans (by simp [World.frozen?, HW.out.2])
  have b1 := (hT.below.cell (p := ⟨w.heap.size, 1, none⟩) (heap_lt HW.out.2)).trans (show _ = some (.slice none 0 0) by simp [World.cell?, HW.out.2])
  have d1 : wr.frozen? ⟨w.heap.size, 1, none⟩ = false := (hT.below.frozen (p := ⟨w.heap.size, 1, none⟩) (heap_lt HW.out.2)).trans (by simp [World.frozen?, HW.out.2])
  have b2 := (hT.below.cell (p := ⟨w.heap.size, 2, none⟩) (heap_lt HW.out.2)).trans (show _ = some (.int .i64 0) by simp [World.cell?, HW.out.2])
  have d2 : wr.frozen? ⟨w.heap.size, 2, none⟩ = false := (hT.below.frozen (p := ⟨w.heap.size, 2, none⟩) (heap_lt HW.out.2)).trans (by simp [World.frozen?, HW.out.2])
  have b3 := (hT.below.cell (p := ⟨w.heap.size, 3, none⟩) (heap_lt HW.out.2)).trans (show _ = some (.bool false) by simp [World.cell?, HW.out.2])
  have d3 : wr.frozen? ⟨w.heap.size, 3, none⟩ = false := (hT.below.frozen (p := ⟨w.heap.size, 3, none⟩) (heap_lt HW.out.2)).trans (by simp [World.frozen?, HW.out.2])
  have b4 := (hT.below.cell (p := ⟨w.heap.size, 4, none⟩) (heap_lt HW.out.2)).trans (show _ = some (.string ⟨#[]⟩) by simp [World.cell?, HW.out.2])
  have d4 : wr.frozen? ⟨w.heap.size, 4, none⟩ = false := (hT.below.frozen (p := ⟨w.heap.size, 4, none⟩) (heap_lt HW.out.2)).trans (by simp [World.frozen?, HW.out.2])
  clear hT
  go_wp2_with fail
  refine bodyPost_ret (v := .tuple #[.nilIface, .agg #[.int .i64 0, .slice none 0 0, .int .i64 0, .bool false, .string ⟨#[]⟩]]) ?_ rfl ?_
  · rw [results_tmp_cell rfl]
    go_simp
  · refine ⟨?_, .inl rfl⟩
    have hbs := HW.out.1.trans (HT.out.below.mono HW.out.1.size)
    repeat (first | (with_reducible refine below_set ?_) | (with_reducible refine Below.drew ?_))
    with_reducible exact hbs

set_option linter.unusedVariables false
set_option maxRecDepth 100000 in
set_option maxHeartbeats 8000000 in
theorem outB {a : Option Addr} {xs : List (Int × Int)} {c i d : Nat} {ks : List GK} {w w0 wr : World} {g4 c4 g5 c5 m : Nat} {y1 y6 y7 y8 y9 y10 y11 y12 y13 y14 y15 y16 y17 y18 y19 y20 y21 y22 y23 y24 y25 y26 y27 y28 y29 y30 y31 y32 y33 y34 y35 y36 y37 y38 y39 y40 y41 y42 y43 y44 y45 y46 y47 y48 y49 y50 y51 y52 y53 y54 y55 y56 y57 y58 y59 y60 y61 y62 y63 y64 y65 y66 y67 y68 y69 y70 y71 y72 y73 y74 y75 y76 y77 y78 y79 y80 y81 y82 y83 y84 y85 y86 y87 y88 y89 y90 y91 y92 y93 y94 y95 y96 y97 y98 y99 y100 y101 y102 y103 y104 y105 y106 y107 y108 y109 y110 y111 y112 y113 y114 y115 y116 y117 y118 y119 y120 y121 y122 y123 y124 y125 y126 y127 y128 y129 y130 y131 y132 y133 y134 y135 y136 y137 y138 y139 y140 y141 y142 y143 y144 y145 y146 y147 y148 y149 y150 y151 y152 y153 y154 y155 y156 y157 y158 y159 y160 y161 y162 y163 y164 y165 y166 y167 y168 y169 y170 y171 y172 y173 y174 y175 y176 y177 y178 y179 y180 y181 y182 y183 y184 y185 y186 y187 y188 y189 y190 y191 y192 y193 y194 y195 y196 y197 y198 y199 y200 y201 y202 y203 y204 y205 y206 y207 y208 y209 y210 y211 y212 y213 y214 y215 y216 y217 y218 y219 y220 y221 y222 y223 y224 y225 y226 y227 y228 y229 y230 y231 y232 y233 y234 y235 y236 y237 : Value} {K K1 : Act → World → Prop}
    (HW : Hid (Below w.heap.size w w0 ∧ w0.heap[w.heap.size]? = some (.cells #[.int .i64 0, .slice none 0 0, .int .i64 0, .bool false, .string ⟨#[]⟩] 48 (0, 0)))) (HG : Hid (GrowP w0 (.slice (some ⟨g4, 0, none⟩) (m + 1) c4) (.slice (some ⟨g5, 0, none⟩) (m + 1) c5) wr i d ks))
    (hi1 : i ≤ xs.length) (hi2 : i ≤ 25) (hl25 : ks.length ≤ i) (hm : ks.length = m + 1)
    (hK : ∀ (a' : Act) (w' : World), Code.wp Tryd.prog (sndOf s40) (Exit.then K1 (bodyPost Tryd.prog Tryd.f19 (GrowPost w))) a' w' → K a' w')
    (hK1 : ∀ (a' : Act) (w' : World), Code.wp Tryd.prog s42 (bodyPost Tryd.prog Tryd.f19 (GrowPost w)) a' w' → K1 a' w') :
    Code.wp Tryd.prog (fstOf s40) (Exit.then K (Exit.then K1 (bodyPost Tryd.prog Tryd.f19 (GrowPost w)))) ⟨#[.slice a xs.length c, y1, .nilIface, .pointer (some ⟨w.heap.size, 0, none⟩), .slice (some ⟨g4, 0, none⟩) (m + 1) c4, .slice (some ⟨g5, 0, none⟩) (m + 1) c5, y6, y7, y8, y9, y10, y11, y12, y13, y14, y15, y16, y17, y18, y19, y20, y21, y22, y23, y24, y25, y26, y27, y28, y29, y30, y31, y32, y33, y34, y35, y36, y37, y38, y39, y40, y41, y42, y43, y44, y45, y46, y47, y48, y49, y50, y51, y52, y53, y54, y55, y56, y57, y58, y59, y60, y61, y62, y63, y64, y65, y66, y67, y68, y69, y70, y71, y72, y73, y74, y75, y76, y77, y78, y79, y80, y81, y82, y83, y84, y85, y86, y87, y88, y89, y90, y91, y92, y93, y94, y95, y96, y97, y98, y99, y100, y101, y102, y103, y104, y105, y106, y107, y108, y109, y110, y111, y112, y113, y114, y115, y116, y117, y118, y119, y120, y121, y122, y123, y124, y125, y126, y127, y128, y129, y130, y131, y132, y133, y134, y135, y136, y137, y138, y139, y140, y141, y142, y143, y144, y145, y146, y147, y148, y149, y150, y151, y152, y153, y154, y155, y156, y157, y158, y159, y160, y161, y162, y163, y164, y165, y166, y167, y168, y169, y170, y171, y172, y173, y174, y175, y176, y177, y178, y179, y180, y181, y182, y183, y184, y185, y186, y187, y188, y189, y190, y191, y192, y193, y194, y195, y196, y197, y198, y199, y200, y201, y202, y203, y204, y205, y206, y207, y208, y209, y210, y211, y212, y213, y214, y215, y216, y217, y218, y219, y220, y221, y222, y223, y224, y225, y226, y227, y228, y229, y230, y231, y232, y233, y234, y235, y236, y237], []⟩ wr := by
  obtain ⟨i0, hi, hz0, hz1, hz2⟩ := info_parts info24
  obtain ⟨j0, hj, hy0, hy1, hy2⟩ := info_parts info48
  obtain ⟨p0, hp, hq0, hq1, hq2⟩ := info_parts info3
  conv => arg 2; whnf
  conv at hK => enter [a1, w1, 1, 2]; whnf
  conv at hK1 => enter [a1, w1, 1, 2]; whnf
  have hT := HG.out.two
  rw [hm] at hT
  obtain ⟨g4', c4', e4, hgl4⟩ := hT.own4.form (by omega)
  cases e4
  obtain ⟨g5', c5', e5, hgl5⟩ := hT.own5.form (by omega)
  cases e5
  have HT := Lib.hid hT
  have b0 := (hT.below.cell (p := ⟨w.heap.size, 0, none⟩) (heap_lt HW.out.2)).trans (show _ = some (.int .i64 0) by simp [World.cell?, HW.out.2])
  have d0 : wr.frozen? ⟨w.heap.size, 0, none⟩ = false := (hT.below.frozen (p := ⟨w.heap.size, 0, none⟩) (heap_lt HW.out.2)).trans (by simp [World.frozen?, HW.out.2])
  have b1 := (hT.below.cell (p := ⟨w.heap.size, 1, none⟩) (heap_lt HW.out.2)).trans (show _ = some (.slice none 0 0) by simp [World.cell?, HW.out.2])
  have d1 : wr.frozen? ⟨w.heap.size, 1, none⟩ = false := (hT.below.frozen (p := ⟨w.heap.size, 1, none⟩) (heap_lt HW.out.2)).trans (by simp [World.frozen?, HW.out.2])
  have b2 := (hT.below.cell (p := ⟨w.heap.size, 2, none⟩) (heap_lt HW.out.2)).trans (show _ = some (.int .i64 0) by simp [World.cell?, HW.out.2])
  have d2 : wr.frozen? ⟨w.heap.size, 2, none⟩ = false := (hT.below.frozen (p := ⟨w.heap.size, 2, none⟩) (heap_lt HW.out.2)).trans (by simp [World.frozen?, HW.out.2])
  have b3 := (hT.below.cell (p := ⟨w.heap.size, 3, none⟩) (heap_lt HW.out.2)).trans (show _ = some (.bool false) by simp [World.cell?, HW.out.2])
  have d3 : wr.frozen? ⟨w.heap.size, 3, none⟩ = false := (hT.below.frozen (p := ⟨w.heap.size, 3, none⟩) (heap_lt HW.out.2)).trans (by simp [World.frozen?, HW.out.2])
  have b4 := (hT.below.cell (p := ⟨w.heap.size, 4, none⟩) (heap_lt HW.out.2)).trans (show _ = some (.string ⟨#[]⟩) by simp [World.cell?, HW.out.2])
  have d4 : wr.frozen? ⟨w.heap.size, 4, none⟩ = false := (hT.below.frozen (p := ⟨w.heap.size, 4, none⟩) (heap_lt HW.out.2)).trans (by simp [World.frozen?, HW.out.2])
  have hkl : ∃ ks0 kl, ks = ks0 ++ [kl] := by
    rcases List.eq_nil_or_concat ks with rfl | ⟨ks0, kl, rfl⟩
    · simp at hm
    · exact ⟨ks0, kl, by simp⟩
  obtain ⟨ks0, kl, rfl⟩ := hkl
  have hm' : ks0.length = m := by simpa using hm
  have hf5 : (ks0.map GK.say).flatten.length = m * 5 := by rw [say_len, hm']
  have hcl : ((ks0 ++ [kl]).map GK.say).flatten = (ks0.map GK.say).flatten ++ kl.say := by simp
  have hvl : ((ks0 ++ [kl]).map (·.v)) = ks0.map (·.v) ++ [kl.v] := by simp
  obtain ⟨an, cn, hkn⟩ := own_form (hT.fits kl (by simp)).nod.1
  obtain ⟨kt, kx, hkv⟩ := (hT.fits kl (by simp)).err.iface
  have a0 : wr.cell? ⟨g4, m, none⟩ = some (.iface kt kx) := by rw [← hkv]; exact owns_cell hT.own4 (by rw [hvl, get_at _ _ m 0 m (by simpa using hm') rfl]; rfl)
  have r0 : wr.cell? ⟨g5, m * 5, none⟩ = some (.int .i64 (codeZ kl.cs)) := owns_cell hT.own5 (by rw [hcl, get_at _ _ (m * 5) 0 (m * 5) hf5 rfl]; rfl)
  have r1 : wr.cell? ⟨g5, m * 5 + 1, none⟩ = some (.slice an (nodesOf kl.ns).length cn) := by rw [← hkn]; exact owns_cell hT.own5 (by rw [hcl, get_at _ _ (m * 5) 1 _ hf5 rfl]; rfl)
  have r2 : wr.cell? ⟨g5, m * 5 + 2, none⟩ = some (.int .i64 (stripeOf kl.st)) := owns_cell hT.own5 (by rw [hcl, get_at _ _ (m * 5) 2 _ hf5 rfl]; rfl)
  have r3 : wr.cell? ⟨g5, m * 5 + 3, none⟩ = some (.bool (stripeIs kl.st)) := owns_cell hT.own5 (by rw [hcl, get_at _ _ (m * 5) 3 _ hf5 rfl]; rfl)
  have r4 : wr.cell? ⟨g5, m * 5 + 4, none⟩ = some (.string ⟨kl.tx.toArray⟩) := owns_cell hT.own5 (by rw [hcl, get_at _ _ (m * 5) 4 _ hf5 rfl]; rfl)
  have HK := Lib.hid (And.intro hkn hkv)
  have hmi : m < 25 := by omega
  have hwm : IntKind.i64.wrap (m : Int) = m := IntWalk.i64_in _ (by omega)
  have hml : (m : Int) < (m : Int) + 1 := by omega
  clear hT hm hm' hf5 hcl hvl hkn hkv hgl4 hgl5
  go_wp2_with fail
  go_region_law (fail)
  all_goals
    go_wp2_with fail
    refine bodyPost_ret (v := .tuple #[.iface kt kx, .agg #[.int .i64 (codeZ kl.cs), .slice an (nodesOf kl.ns).length cn, .int .i64 (stripeOf kl.st), .bool (stripeIs kl.st), .string ⟨kl.tx.toArray⟩]]) ?_ rfl ?_
    · rw [results_tmp_cell rfl]
      go_simp
    · refine ⟨?_, .inr ⟨kl, d, ⟨kt, kx, HK.out.2⟩, by rw [HK.out.1, HK.out.2], (HT.out.fits kl (by simp)).rest48 ?_, ?_, ?_⟩⟩
      · have hbs := HW.out.1.trans (HT.out.below.mono HW.out.1.size)
        repeat (first | (with_reducible refine below_set ?_) | (with_reducible refine Below.drew ?_))
        with_reducible exact hbs
      · have hb3 : wr.heap[w.heap.size]? = _ := (HT.out.below.block w.heap.size (heap_lt HW.out.2)).trans HW.out.2
        repeat (first | (with_reducible refine rest48_set ?_ hb3 _) | (with_reducible refine rest48_drew ?_))
        with_reducible exact rest48_refl wr
      · have := HG.out.nod; simp at this; omega
      · have := HG.out.txt; simp at this; omega

end Go.Proofs.YtbifpjdkljibeaaDoor

namespace Go.Proofs.YtbifpjdkljibeaaDoor
open Go.RowKit Go.Extern.Stop Go.Stop Go.Extern Go.Extern.Rtype

set_option linter.unusedVariables false
set_option maxRecDepth 100000 in
set_option maxHeartbeats 8000000 in
theorem grow19 (a : Option Addr) (xs : List (Int × Int)) (c : Nat) (w : World) (hn : Raws w a xs) :
    Calls Tryd.prog 19 #[.slice a xs.length c] w (GrowPost w) := by
  have HN := Lib.hid hn
  clear hn
  obtain ⟨i0, hi, hz0, hz1, hz2⟩ := info_parts info24
  obtain ⟨j0, hj, hy0, hy1, hy2⟩ := info_parts info48
  obtain ⟨p0, hp, hq0, hq1, hq2⟩ := info_parts info3
  go_enter Tryd.func19, Tryd.ntmps19
  go_wp2_with fail
  have hW0 : Below w.heap.size w (w.alloc (.cells #[.int .i64 0, .slice none 0 0, .int .i64 0, .bool false, .string ⟨#[]⟩] 48)) := alloc_below _ _
  have hB3 : (w.alloc (.cells #[.int .i64 0, .slice none 0 0, .int .i64 0, .bool false, .string ⟨#[]⟩] 48)).heap[w.heap.size]? = some (.cells #[.int .i64 0, .slice none 0 0, .int .i64 0, .bool false, .string ⟨#[]⟩] 48 (0, 0)) := heap_new _ _
  revert hW0 hB3
  generalize w.alloc (.cells #[.int .i64 0, .slice none 0 0, .int .i64 0, .bool false, .string ⟨#[]⟩] 48) = w0
  intro hW0 hB3
  have HW := Lib.hid (And.intro hW0 hB3)
  clear hW0 hB3
  go_loopg [4, 5, 6] 25 (fun q s4 s5 s6 wr => ∃ (i : Nat) (ks : List GK) (d : Nat), s6 = .int .i64 i ∧ i ≤ xs.length ∧ i ≤ 25 ∧ q = 25 - i ∧ Hid (GrowP w0 s4 s5 wr i d ks))
  case atStart =>
    exact ⟨0, [], 0, rfl, Nat.zero_le _, by omega, rfl, Lib.hid (GrowP.start _)⟩
  case round =>
    obtain ⟨i, ks, d, rfl, hi1, hi2, rfl, HG⟩ := hrel
    by_cases hlt : i < xs.length
    · by_cases h25 : i < 25
      · obtain ⟨⟨x1, x2⟩, hz⟩ : ∃ y, xs[i]? = some y := ⟨_, List.getElem?_eq_getElem hlt⟩
        obtain ⟨g, o, rfl, hg, k1, k2⟩ := HN.out i _ hz
        dsimp only at k1 k2
        have hb := HW.out.1.trans (HG.out.two.below.mono HW.out.1.size)
        have c1 : wr.cell? ⟨g, o + i * 2, none⟩ = some (.int .i64 x1) := (hb.cell (p := ⟨g, o + i * 2, none⟩) hg).trans k1
        have c2 : wr.cell? ⟨g, o + i * 2 + 1, none⟩ = some (.int .i64 x2) := (hb.cell (p := ⟨g, o + i * 2 + 1, none⟩) hg).trans k2
        have q1 : (i : Int) < (xs.length : Int) := by omega
        have q2 : (i : Int) < 25 := by omega
        clear k1 k2 hb hz hg
        go_upto_block 1 with fail
        go_cut [4, 5, 7, 8, 9, 10, 11, 12, 14] from 15 to 221 (fun s4 s5 s7 s8 s9 s10 s11 s12 s14 wx => ∃ (ks' : List GK) (d' : Nat), Hid (GrowP w0 s4 s5 wx (i + 1) d' ks'))
        case first =>
          go_wp2_with fail
          refine (pick_any x2 9 (by omega) (by omega) _).mono ?_
          rintro e w' ⟨rfl, rfl⟩
          obtain ⟨n, hn⟩ : ∃ n, x2 % 9 = n := ⟨_, rfl⟩
          have n0 : 0 ≤ n := by omega
          have n9 : n < 9 := by omega
          rw [hn]
          clear hn
          go_wp2_with fail
          refine (pick_any x1 7 (by omega) (by omega) _).mono ?_
          rintro e w' ⟨rfl, rfl⟩
          obtain ⟨k, hk⟩ : ∃ k, x1 % 7 = k := ⟨_, rfl⟩
          have k0 : 0 ≤ k := by omega
          have k7 : k < 7 := by omega
          rw [hk]
          clear hk
          have hl25 : ks.length ≤ i := HG.out.len
          rcases (show k < 3 ∨ (3 ≤ k ∧ ks.length = 0) ∨ (3 ≤ k ∧ ∃ m, ks.length = m + 1) by
            by_cases h : k < 3
            · exact .inl h
            · by_cases h0 : ks.length = 0
              · exact .inr (.inl ⟨by omega, h0⟩)
              · exact .inr (.inr ⟨by omega, ks.length - 1, by omega⟩)) with hA | ⟨hA, hks⟩ | ⟨hA, m, hm⟩
          · obtain ⟨a4, c4, rfl⟩ := own_form HG.out.two.own4
            obtain ⟨a5, c5, rfl⟩ := own_form HG.out.two.own5
            have hl25' : (0 : Int) ≤ (ks.length : Int) := by omega
            go_upto_block 2 with fail
            exact armA2 HW HG hi1 hi2 hlt h25 HN c1 c2 q1 q2 n0 n9 hl25 hA (by assumption) (by assumption)
          · have hd0 : decide ((ks.length : Int) - 1 < 0) = true := decide_eq_true (by omega)
            have hd1 : (ks.length : Int) - 1 < 0 := by omega
            clear hks
            obtain ⟨a4, c4, rfl⟩ := own_form HG.out.two.own4
            obtain ⟨a5, c5, rfl⟩ := own_form HG.out.two.own5
            have hl25' : (0 : Int) ≤ (ks.length : Int) := by omega
            go_upto_block 2 with fail
            exact armB2 HW HG hi1 hi2 hlt h25 HN c1 c2 q1 q2 n0 n9 hl25 hA hd0 hd1 (by assumption) (by assumption)
          · have hg4 : ∃ g4 c4, u4 = .slice (some ⟨g4, 0, none⟩) (m + 1) c4 := by
              have hT := HG.out.two
              rw [hm] at hT
              obtain ⟨g4, c4, e, _⟩ := hT.own4.form (by omega)
              exact ⟨g4, c4, e⟩
            have hg5 : ∃ g5 c5, u5 = .slice (some ⟨g5, 0, none⟩) (m + 1) c5 := by
              have hT := HG.out.two
              rw [hm] at hT
              obtain ⟨g5, c5, e, _⟩ := hT.own5.form (by omega)
              exact ⟨g5, c5, e⟩
            obtain ⟨g4, c4, rfl⟩ := hg4
            obtain ⟨g5, c5, rfl⟩ := hg5
            have HMM := Lib.hid hm
            have hl25' : m < 25 := by omega
            clear hm
            go_upto_block 2 with fail
            rcases (show k = 3 ∨ k = 4 ∨ k = 5 ∨ k = 6 by omega) with rfl | rfl | rfl | rfl
            · exact arm32 HW HG hi1 hi2 hlt h25 HN c1 c2 q1 q2 n0 n9 hl25 HMM.out (by assumption) (by assumption)
            · exact arm42 HW HG hi1 hi2 hlt h25 HN c1 c2 q1 q2 n0 n9 hl25 HMM.out (by assumption) (by assumption)
            · exact arm52 HW HG hi1 hi2 hlt h25 HN c1 c2 q1 q2 n0 n9 hl25 HMM.out (by assumption) (by assumption)
            · exact arm62 HW HG hi1 hi2 hlt h25 HN c1 c2 q1 q2 n0 n9 hl25 HMM.out (by assumption) (by assumption)
        case rest =>
          obtain ⟨ks', d', HP⟩ := hcut
          go_wp2_with fail
          go_roundg (25 - (i + 1))
          case measure => omega
          case rel => exact ⟨i + 1, _, _, by go_num, by omega, by omega, rfl, HP⟩
      · have qe : ¬ (i : Int) < 25 := by omega
        have qe1 : (i : Int) < (xs.length : Int) := by omega
        have hl25 := HG.out.len
        rcases (show ks.length = 0 ∨ ∃ m, ks.length = m + 1 by
          by_cases h0 : ks.length = 0
          · exact .inl h0
          · exact .inr ⟨ks.length - 1, by omega⟩) with hm | ⟨m, hm⟩
        · have hT := HG.out.two
          rw [hm] at hT
          obtain ⟨a4, c4, rfl⟩ := own_form hT.own4
          obtain ⟨a5, c5, rfl⟩ := own_form hT.own5
          clear hT
          go_upto_region 40 with fail
          exact outA HW HG hi1 hi2 hl25 hm (by assumption) (by assumption)
        · have hT := HG.out.two
          rw [hm] at hT
          obtain ⟨g4, c4, rfl, hgl4⟩ := hT.own4.form (by omega)
          obtain ⟨g5, c5, rfl, hgl5⟩ := hT.own5.form (by omega)
          clear hT hgl4 hgl5
          have HMM := Lib.hid hm
          clear hm
          go_upto_region 40 with fail
          exact outB HW HG hi1 hi2 hl25 HMM.out (by assumption) (by assumption)
    · have qe : ¬ (i : Int) < (xs.length : Int) := by omega
      have hl25 := HG.out.len
      rcases (show ks.length = 0 ∨ ∃ m, ks.length = m + 1 by
        by_cases h0 : ks.length = 0
        · exact .inl h0
        · exact .inr ⟨ks.length - 1, by omega⟩) with hm | ⟨m, hm⟩
      · have hT := HG.out.two
        rw [hm] at hT
        obtain ⟨a4, c4, rfl⟩ := own_form hT.own4
        obtain ⟨a5, c5, rfl⟩ := own_form hT.own5
        clear hT
        go_upto_region 40 with fail
        exact outA HW HG hi1 hi2 hl25 hm (by assumption) (by assumption)
      · have hT := HG.out.two
        rw [hm] at hT
        obtain ⟨g4, c4, rfl, hgl4⟩ := hT.own4.form (by omega)
        obtain ⟨g5, c5, rfl, hgl5⟩ := hT.own5.form (by omega)
        clear hT hgl4 hgl5
        have HMM := Lib.hid hm
        clear hm
        go_upto_region 40 with fail
        exact outB HW HG hi1 hi2 hl25 HMM.out (by assumption) (by assumption)

end Go.Proofs.YtbifpjdkljibeaaDoor
