import Derived.Test.YtbifpjdkljibeaaDoorG4a
namespace Go.Proofs.YtbifpjdkljibeaaDoor
open Go.RowKit Go.Extern.Stop Go.Stop Go.Extern Go.Extern.Rtype

set_option linter.unusedVariables false
set_option maxRecDepth 100000 in
set_option maxHeartbeats 16000000 in
theorem arm3 {xs : List (Int × Int)} {g o c i d : Nat} {ks : List GK} {x1 x2 n : Int}  {w w0 wr : World} {g4 c4 g5 c5 m : Nat} {y1 y10 y11 y12 y13 y14 y15 y16 y17 y18 y19 y20 y21 y22 y23 y24 y25 y26 y27 y28 y29 y30 y31 y32 y33 y34 y35 y36 y37 y38 y39 y40 y41 y42 y43 y44 y45 y46 y47 y48 y49 y50 y51 y52 y53 y54 y55 y56 y57 y58 y59 y60 y61 y62 y63 y64 y65 y66 y67 y68 y69 y70 y71 y72 y73 y74 y75 y76 y77 y78 y79 y80 y81 y82 y83 y84 y85 y86 y87 y88 y89 y90 y91 y92 y93 y94 y95 y96 y97 y98 y99 y100 y101 y102 y103 y104 y105 y106 y107 y108 y109 y110 y111 y112 y113 y114 y115 y116 y117 y118 y119 y120 y121 y122 y123 y124 y125 y126 y127 y128 y129 y130 y131 y132 y133 y134 y135 y136 y137 y138 y139 y140 y141 y142 y143 y144 y145 y146 y147 y148 y149 y150 y151 y152 y153 y154 y155 y156 y157 y158 y159 y160 y161 y162 y163 y164 y165 y166 y167 y168 y169 y170 y171 y172 y173 y174 y175 y176 y177 y178 y179 y180 y181 y182 y183 y184 y185 y186 y187 y188 y189 y190 y191 y192 y193 y194 y195 y196 y197 y198 y199 y200 y201 y202 y203 y204 y205 y206 y207 y208 y209 y210 y211 y212 y213 y214 y215 y216 y217 y218 y219 y220 y221 y222 y223 y224 y225 y226 y227 y228 y229 y230 y231 y232 y233 y234 y235 y236 y237 : Value} {K K1 K2 : Act → World → Prop}
    (HW : Hid (Below w.heap.size w w0 ∧ w0.heap[w.heap.size]? = some (.cells #[.int .i64 0, .slice none 0 0, .int .i64 0, .bool false, .string ⟨#[]⟩] 48 (0, 0)))) (HG : Hid (GrowP w0 (.slice (some ⟨g4, 0, none⟩) (m + 1) c4) (.slice (some ⟨g5, 0, none⟩) (m + 1) c5) wr i d ks))
    (hi1 : i ≤ xs.length) (hi2 : i ≤ 25) (hlt : i < xs.length) (h25 : i < 25) (HN : Hid (Raws w (some ⟨g, o, none⟩) xs))
    (c1 : wr.cell? ⟨g, o + i * 2, none⟩ = some (.int .i64 x1)) (c2 : wr.cell? ⟨g, o + i * 2 + 1, none⟩ = some (.int .i64 x2)) (q1 : (i : Int) < (xs.length : Int)) (q2 : (i : Int) < 25) (n0 : 0 ≤ n) (n9 : n < 9) (hl25 : ks.length ≤ i) (hm : ks.length = m + 1)
    (HK : Hid (∀ (a' : Act) (w' : World), (∃ z4 z5 z10 z11 z12 z14 z15 z16 z17 z18 z19 z20 z21 z22 z23 z24 z25 z26 z27 z28 z29 z30 z31 z32 z33 z34 z35 z36 z37 z38 z39 z40 z41 z42 z43 z44 z45 z46 z47 z48 z49 z50 z51 z52 z53 z54 z55 z56 z57 z58 z59 z60 z61 z62 z63 z64 z65 z66 z67 z68 z69 z70 z71 z72 z73 z74 z75 z76 z77 z78 z79 z80 z81 z82 z83 z84 z85 z86 z87 z88 z89 z90 z91 z92 z93 z94 z95 z96 z97 z98 z99 z100 z101 z102 z103 z104 z105 z106 z107 z108 z109 z110 z111 z112 z113 z114 z115 z116 z117 z118 z119 z120 z121 z122 z123 z124 z125 z126 z127 z128 z129 z130 z131 z132 z133 z134 z135 z136 z137 z138 z139 z140 z141 z142 z143 z144 z145 z146 z147 z148 z149 z150 z151 z152 z153 z154 z155 z156 z157 z158 z159 z160 z161 z162 z163 z164 z165 z166 z167 z168 z169 z170 z171 z172 z173 z174 z175 z176 z177 z178 z179 z180 z181 z182 z183 z184 z185 z186 z187 z188 z189 z190 z191 z192 z193 z194 z195 z196 z197 z198 z199 z200 z201 z202 z203 z204 z205 z206 z207 z208 z209 z210 z211 z212 z213 z214 z215 z216 z217 z218 z219 z220 z221 : Value, (∃ (ks' : List GK) (d' : Nat), Hid (GrowP w0 z4 z5 w' (i + 1) d' ks')) ∧ a' = ⟨#[.slice (some ⟨g, o, none⟩) xs.length c, y1, .nilIface, .pointer (some ⟨w.heap.size, 0, none⟩), z4, z5, .int .i64 (i : Int), .int .i64 n, .int .i64 3, .int .i64 (m : Int), z10, z11, z12, y13, z14, z15, z16, z17, z18, z19, z20, z21, z22, z23, z24, z25, z26, z27, z28, z29, z30, z31, z32, z33, z34, z35, z36, z37, z38, z39, z40, z41, z42, z43, z44, z45, z46, z47, z48, z49, z50, z51, z52, z53, z54, z55, z56, z57, z58, z59, z60, z61, z62, z63, z64, z65, z66, z67, z68, z69, z70, z71, z72, z73, z74, z75, z76, z77, z78, z79, z80, z81, z82, z83, z84, z85, z86, z87, z88, z89, z90, z91, z92, z93, z94, z95, z96, z97, z98, z99, z100, z101, z102, z103, z104, z105, z106, z107, z108, z109, z110, z111, z112, z113, z114, z115, z116, z117, z118, z119, z120, z121, z122, z123, z124, z125, z126, z127, z128, z129, z130, z131, z132, z133, z134, z135, z136, z137, z138, z139, z140, z141, z142, z143, z144, z145, z146, z147, z148, z149, z150, z151, z152, z153, z154, z155, z156, z157, z158, z159, z160, z161, z162, z163, z164, z165, z166, z167, z168, z169, z170, z171, z172, z173, z174, z175, z176, z177, z178, z179, z180, z181, z182, z183, z184, z185, z186, z187, z188, z189, z190, z191, z192, z193, z194, z195, z196, z197, z198, z199, z200, z201, z202, z203, z204, z205, z206, z207, z208, z209, z210, z211, z212, z213, z214, z215, z216, z217, z218, z219, z220, z221, y222, y223, y224, y225, y226, y227, y228, y229, y230, y231, y232, y233, y234, y235, y236, y237], []⟩) → K a' w')) :
    Code.wp Tryd.prog blk2 (Exit.inBlock 1 (Exit.then K (Exit.then K1 (Exit.inBlock 0 (Exit.then K2 (bodyPost Tryd.prog Tryd.f19 (GrowPost w))))))) ⟨#[.slice (some ⟨g, o, none⟩) xs.length c, y1, .nilIface, .pointer (some ⟨w.heap.size, 0, none⟩), .slice (some ⟨g4, 0, none⟩) (m + 1) c4, .slice (some ⟨g5, 0, none⟩) (m + 1) c5, .int .i64 (i : Int), .int .i64 n, .int .i64 3, .int .i64 (m : Int), y10, y11, y12, y13, y14, y15, y16, y17, y18, y19, y20, y21, y22, y23, y24, y25, y26, y27, y28, y29, y30, y31, y32, y33, y34, y35, y36, y37, y38, y39, y40, y41, y42, y43, y44, y45, y46, y47, y48, y49, y50, y51, y52, y53, y54, y55, y56, y57, y58, y59, y60, y61, y62, y63, y64, y65, y66, y67, y68, y69, y70, y71, y72, y73, y74, y75, y76, y77, y78, y79, y80, y81, y82, y83, y84, y85, y86, y87, y88, y89, y90, y91, y92, y93, y94, y95, y96, y97, y98, y99, y100, y101, y102, y103, y104, y105, y106, y107, y108, y109, y110, y111, y112, y113, y114, y115, y116, y117, y118, y119, y120, y121, y122, y123, y124, y125, y126, y127, y128, y129, y130, y131, y132, y133, y134, y135, y136, y137, y138, y139, y140, y141, y142, y143, y144, y145, y146, y147, y148, y149, y150, y151, y152, y153, y154, y155, y156, y157, y158, y159, y160, y161, y162, y163, y164, y165, y166, y167, y168, y169, y170, y171, y172, y173, y174, y175, y176, y177, y178, y179, y180, y181, y182, y183, y184, y185, y186, y187, y188, y189, y190, y191, y192, y193, y194, y195, y196, y197, y198, y199, y200, y201, y202, y203, y204, y205, y206, y207, y208, y209, y210, y211, y212, y213, y214, y215, y216, y217, y218, y219, y220, y221, y222, y223, y224, y225, y226, y227, y228, y229, y230, y231, y232, y233, y234, y235, y236, y237], []⟩ wr := by
  obtain ⟨i0, hi, hz0, hz1, hz2⟩ := info_parts info24
  obtain ⟨j0, hj, hy0, hy1, hy2⟩ := info_parts info48
  obtain ⟨p0, hp, hq0, hq1, hq2⟩ := info_parts info3
  conv => arg 2; whnf
  have hT := HG.out.two
  rw [hm] at hT
  rw [hm] at hl25
  have hl25' : m < 25 := by omega
  obtain ⟨g4', c4', e4, hgl4⟩ := hT.own4.form (by omega)
  cases e4
  obtain ⟨g5', c5', e5, hgl5⟩ := hT.own5.form (by omega)
  cases e5
  obtain ⟨VS, hVS⟩ : ∃ VS, ks.map (·.v) = VS := ⟨_, rfl⟩
  obtain ⟨CL, hCL⟩ : ∃ CL, (ks.map GK.say).flatten = CL := ⟨_, rfl⟩
  rw [hVS, hCL] at hT
  have HT := Lib.hid hT
  have HM := Lib.hid (And.intro hm (And.intro hVS (And.intro hCL (And.intro hgl4 hgl5))))
  clear hT hm hVS hCL hgl4 hgl5
  have hA' : decide ((3 : Int) < 3) = false := decide_eq_false (by omega)
  have hd0 : decide ((m : Int) < 0) = false := by simp
  have hA3 : ¬ (3 : Int) < 3 := by omega
  have hwm : IntKind.i64.wrap (m : Int) = m := IntWalk.i64_in _ (by omega)
  go_wp2_with fail
  refine (new12 _ _).mono ?_
  rintro e w1 ⟨rfl, rfl⟩
  try dsimp only
  go_wp2_with (at_builtin; refine wpList_append_lies _ rfl (.tmp 141) (.tmp 143) 29 rfl _ 24 i0 .nilIface 1 16 Tryd.underlying29 hi hz0 hz1 hz2 rfl (by decide) _ (m + 1) _ rfl ((HT.out.more (alloc_below wr _)).more (alloc_below _ _)).own4 ⟨wr.heap.size + 1, 0, none⟩ 1 1 [.iface 64 (.pointer (some ⟨wr.heap.size, 0, none⟩))] rfl rfl (World.news_of_block (heap_new2 _ _ _)) ?c1 (by decide) ?c2 ?c3 ?c4 _ rfl ?_)
  case c1 => intro u hu; rw [List.mem_singleton.1 hu]; rfl
  case c2 => unfold maxLen; omega
  case c3 => omega
  case c4 => exact ((HT.out.more (alloc_below wr _)).more (alloc_below _ _)).size
  intro g6 cap6 w2 ho hg hs hlt2
  try simp only [World.size_alloc] at hs
  try simp only [World.size_alloc] at hlt2
  have hwb : w2.heap[wr.heap.size]? = some (.cells #[.string ⟨#[111, 116, 104, 101, 114]⟩] 66 (0, 0)) := by
    have := hg.block wr.heap.size (by rw [World.size_alloc, World.size_alloc]; omega) (fun e => absurd ((HT.out.own4).lt _ e.symm).2 (Nat.lt_irrefl _))
    rw [this, Below.heap_alloc _ _ _ (by simp)]
    exact heap_new _ _
  have hap : Ap (.slice (some ⟨g6, 0, none⟩) (m + 1 + 1) cap6) (.slice (some ⟨g5, 0, none⟩) (m + 1) c5) wr.heap.size := (HT.out.fresh (Nat.le_refl _)).app4 hs (by omega)
  have H2 := Lib.hid (And.intro (((HT.out.more (alloc_below wr _)).more (alloc_below _ _)).lies4 ho hg (by first | (simpa using hs) | (simp only [World.size_alloc]; exact hs) | exact hs)) (And.intro hwb hap))
  clear ho hg hs hlt2 hwb hap
  go_wp2_with (at_builtin; refine wpList_append_lies _ rfl (.tmp 145) (.tmp 147) 82 rfl _ 48 j0 _ 5 64 Tryd.underlying82 hj hy0 hy1 hy2 rfl (by decide) _ (m + 1) _ rfl (H2.out.1.more (alloc_below w2 _)).own5 ⟨w2.heap.size, 0, none⟩ 1 1 [.int .i64 0, .slice none 0 0, .int .i64 0, .bool false, .string ⟨#[111, 116, 104, 101, 114]⟩] rfl rfl (World.news_of_block (heap_new _ _)) ?d1 (by decide) ?d2 ?d3 ?d4 _ rfl ?_)
  case d1 => intro u hu; simp at hu; rcases hu with rfl | rfl | rfl | rfl | rfl <;> rfl
  case d2 => unfold maxLen; omega
  case d3 => omega
  case d4 => exact (H2.out.1.more (alloc_below w2 _)).size
  intro g7 cap7 w4 ho hg hs hlt2
  try simp only [World.size_alloc] at hs
  try simp only [World.size_alloc] at hlt2
  have h4 := (H2.out.1.more (alloc_below w2 _)).lies5 ho hg (by first | (rw [World.size_alloc]; exact hs) | (rw [World.size_alloc] at hs; rw [World.size_alloc]; exact hs))
  rw [← HM.out.2.1, ← HM.out.2.2.1] at h4
  have hwl := heap_lt H2.out.2.1
  have hwb : w4.heap[wr.heap.size]? = some (.cells #[.string ⟨#[111, 116, 104, 101, 114]⟩] 66 (0, 0)) := by
    rw [hg.block wr.heap.size (by rw [World.size_alloc]; omega) (fun e => H2.out.2.2.2 e.symm), Below.heap_alloc _ _ _ hwl]
    exact H2.out.2.1
  have hap : Ap (.slice (some ⟨g6, 0, none⟩) (m + 1 + 1) cap6) (.slice (some ⟨g7, 0, none⟩) (m + 1 + 1) cap7) wr.heap.size := H2.out.2.2.app5 hs (by omega)
  have hp := GrowP.push (n := m + 1) _ HM.out.1.symm h4 (Fits.text hap hwb) HG.out.nod HG.out.txt HG.out.len (by simp [nodesOf]) (by simp)
  have HP := Lib.hid hp
  clear ho hg hs hlt2 hp h4 hwl hwb hap
  go_wp2_with fail
  exact HK.out _ _ ⟨_, _, _, _, _, _, _, _, _, _, _, _, _, _, _, _, _, _, _, _, _, _, _, _, _, _, _, _, _, _, _, _, _, _, _, _, _, _, _, _, _, _, _, _, _, _, _, _, _, _, _, _, _, _, _, _, _, _, _, _, _, _, _, _, _, _, _, _, _, _, _, _, _, _, _, _, _, _, _, _, _, _, _, _, _, _, _, _, _, _, _, _, _, _, _, _, _, _, _, _, _, _, _, _, _, _, _, _, _, _, _, _, _, _, _, _, _, _, _, _, _, _, _, _, _, _, _, _, _, _, _, _, _, _, _, _, _, _, _, _, _, _, _, _, _, _, _, _, _, _, _, _, _, _, _, _, _, _, _, _, _, _, _, _, _, _, _, _, _, _, _, _, _, _, _, _, _, _, _, _, _, _, _, _, _, _, _, _, _, _, _, _, _, _, _, _, _, _, _, _, _, _, _, _, _, _, _, _, _, _, _, _, _, ⟨_, _, HP⟩, rfl⟩
end Go.Proofs.YtbifpjdkljibeaaDoor
