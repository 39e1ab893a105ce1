import Derived.Test.YtbifpjdkljibeaaDoorG4a
namespace Go.Proofs.YtbifpjdkljibeaaDoor
open Go.RowKit Go.Extern.Stop Go.Stop Go.Extern Go.Extern.Rtype

set_option linter.unusedVariables false
set_option maxRecDepth 100000 in
set_option maxHeartbeats 16000000 in
theorem arm5 {xs : List (Int × Int)} {g o c i d : Nat} {ks : List GK} {x1 x2 n : Int}  {w w0 wr : World} {g4 c4 g5 c5 m : Nat} {y1 y10 y11 y12 y13 y14 y15 y16 y17 y18 y19 y20 y21 y22 y23 y24 y25 y26 y27 y28 y29 y30 y31 y32 y33 y34 y35 y36 y37 y38 y39 y40 y41 y42 y43 y44 y45 y46 y47 y48 y49 y50 y51 y52 y53 y54 y55 y56 y57 y58 y59 y60 y61 y62 y63 y64 y65 y66 y67 y68 y69 y70 y71 y72 y73 y74 y75 y76 y77 y78 y79 y80 y81 y82 y83 y84 y85 y86 y87 y88 y89 y90 y91 y92 y93 y94 y95 y96 y97 y98 y99 y100 y101 y102 y103 y104 y105 y106 y107 y108 y109 y110 y111 y112 y113 y114 y115 y116 y117 y118 y119 y120 y121 y122 y123 y124 y125 y126 y127 y128 y129 y130 y131 y132 y133 y134 y135 y136 y137 y138 y139 y140 y141 y142 y143 y144 y145 y146 y147 y148 y149 y150 y151 y152 y153 y154 y155 y156 y157 y158 y159 y160 y161 y162 y163 y164 y165 y166 y167 y168 y169 y170 y171 y172 y173 y174 y175 y176 y177 y178 y179 y180 y181 y182 y183 y184 y185 y186 y187 y188 y189 y190 y191 y192 y193 y194 y195 y196 y197 y198 y199 y200 y201 y202 y203 y204 y205 y206 y207 y208 y209 y210 y211 y212 y213 y214 y215 y216 y217 y218 y219 y220 y221 y222 y223 y224 y225 y226 y227 y228 y229 y230 y231 y232 y233 y234 y235 y236 y237 : Value} {K K1 K2 : Act → World → Prop}
    (HW : Hid (Below w.heap.size w w0 ∧ w0.heap[w.heap.size]? = some (.cells #[.int .i64 0, .slice none 0 0, .int .i64 0, .bool false, .string ⟨#[]⟩] 48 (0, 0)))) (HG : Hid (GrowP w0 (.slice (some ⟨g4, 0, none⟩) (m + 1) c4) (.slice (some ⟨g5, 0, none⟩) (m + 1) c5) wr i d ks))
    (hi1 : i ≤ xs.length) (hi2 : i ≤ 25) (hlt : i < xs.length) (h25 : i < 25) (HN : Hid (Raws w (some ⟨g, o, none⟩) xs))
    (c1 : wr.cell? ⟨g, o + i * 2, none⟩ = some (.int .i64 x1)) (c2 : wr.cell? ⟨g, o + i * 2 + 1, none⟩ = some (.int .i64 x2)) (q1 : (i : Int) < (xs.length : Int)) (q2 : (i : Int) < 25) (n0 : 0 ≤ n) (n9 : n < 9) (hl25 : ks.length ≤ i) (hm : ks.length = m + 1)
    (HK : Hid (∀ (a' : Act) (w' : World), (∃ z4 z5 z10 z11 z12 z14 z15 z16 z17 z18 z19 z20 z21 z22 z23 z24 z25 z26 z27 z28 z29 z30 z31 z32 z33 z34 z35 z36 z37 z38 z39 z40 z41 z42 z43 z44 z45 z46 z47 z48 z49 z50 z51 z52 z53 z54 z55 z56 z57 z58 z59 z60 z61 z62 z63 z64 z65 z66 z67 z68 z69 z70 z71 z72 z73 z74 z75 z76 z77 z78 z79 z80 z81 z82 z83 z84 z85 z86 z87 z88 z89 z90 z91 z92 z93 z94 z95 z96 z97 z98 z99 z100 z101 z102 z103 z104 z105 z106 z107 z108 z109 z110 z111 z112 z113 z114 z115 z116 z117 z118 z119 z120 z121 z122 z123 z124 z125 z126 z127 z128 z129 z130 z131 z132 z133 z134 z135 z136 z137 z138 z139 z140 z141 z142 z143 z144 z145 z146 z147 z148 z149 z150 z151 z152 z153 z154 z155 z156 z157 z158 z159 z160 z161 z162 z163 z164 z165 z166 z167 z168 z169 z170 z171 z172 z173 z174 z175 z176 z177 z178 z179 z180 z181 z182 z183 z184 z185 z186 z187 z188 z189 z190 z191 z192 z193 z194 z195 z196 z197 z198 z199 z200 z201 z202 z203 z204 z205 z206 z207 z208 z209 z210 z211 z212 z213 z214 z215 z216 z217 z218 z219 z220 z221 : Value, (∃ (ks' : List GK) (d' : Nat), Hid (GrowP w0 z4 z5 w' (i + 1) d' ks')) ∧ a' = ⟨#[.slice (some ⟨g, o, none⟩) xs.length c, y1, .nilIface, .pointer (some ⟨w.heap.size, 0, none⟩), z4, z5, .int .i64 (i : Int), .int .i64 n, .int .i64 5, .int .i64 (m : Int), z10, z11, z12, y13, z14, z15, z16, z17, z18, z19, z20, z21, z22, z23, z24, z25, z26, z27, z28, z29, z30, z31, z32, z33, z34, z35, z36, z37, z38, z39, z40, z41, z42, z43, z44, z45, z46, z47, z48, z49, z50, z51, z52, z53, z54, z55, z56, z57, z58, z59, z60, z61, z62, z63, z64, z65, z66, z67, z68, z69, z70, z71, z72, z73, z74, z75, z76, z77, z78, z79, z80, z81, z82, z83, z84, z85, z86, z87, z88, z89, z90, z91, z92, z93, z94, z95, z96, z97, z98, z99, z100, z101, z102, z103, z104, z105, z106, z107, z108, z109, z110, z111, z112, z113, z114, z115, z116, z117, z118, z119, z120, z121, z122, z123, z124, z125, z126, z127, z128, z129, z130, z131, z132, z133, z134, z135, z136, z137, z138, z139, z140, z141, z142, z143, z144, z145, z146, z147, z148, z149, z150, z151, z152, z153, z154, z155, z156, z157, z158, z159, z160, z161, z162, z163, z164, z165, z166, z167, z168, z169, z170, z171, z172, z173, z174, z175, z176, z177, z178, z179, z180, z181, z182, z183, z184, z185, z186, z187, z188, z189, z190, z191, z192, z193, z194, z195, z196, z197, z198, z199, z200, z201, z202, z203, z204, z205, z206, z207, z208, z209, z210, z211, z212, z213, z214, z215, z216, z217, z218, z219, z220, z221, y222, y223, y224, y225, y226, y227, y228, y229, y230, y231, y232, y233, y234, y235, y236, y237], []⟩) → K a' w')) :
    Code.wp Tryd.prog blk2 (Exit.inBlock 1 (Exit.then K (Exit.then K1 (Exit.inBlock 0 (Exit.then K2 (bodyPost Tryd.prog Tryd.f19 (GrowPost w))))))) ⟨#[.slice (some ⟨g, o, none⟩) xs.length c, y1, .nilIface, .pointer (some ⟨w.heap.size, 0, none⟩), .slice (some ⟨g4, 0, none⟩) (m + 1) c4, .slice (some ⟨g5, 0, none⟩) (m + 1) c5, .int .i64 (i : Int), .int .i64 n, .int .i64 5, .int .i64 (m : Int), y10, y11, y12, y13, y14, y15, y16, y17, y18, y19, y20, y21, y22, y23, y24, y25, y26, y27, y28, y29, y30, y31, y32, y33, y34, y35, y36, y37, y38, y39, y40, y41, y42, y43, y44, y45, y46, y47, y48, y49, y50, y51, y52, y53, y54, y55, y56, y57, y58, y59, y60, y61, y62, y63, y64, y65, y66, y67, y68, y69, y70, y71, y72, y73, y74, y75, y76, y77, y78, y79, y80, y81, y82, y83, y84, y85, y86, y87, y88, y89, y90, y91, y92, y93, y94, y95, y96, y97, y98, y99, y100, y101, y102, y103, y104, y105, y106, y107, y108, y109, y110, y111, y112, y113, y114, y115, y116, y117, y118, y119, y120, y121, y122, y123, y124, y125, y126, y127, y128, y129, y130, y131, y132, y133, y134, y135, y136, y137, y138, y139, y140, y141, y142, y143, y144, y145, y146, y147, y148, y149, y150, y151, y152, y153, y154, y155, y156, y157, y158, y159, y160, y161, y162, y163, y164, y165, y166, y167, y168, y169, y170, y171, y172, y173, y174, y175, y176, y177, y178, y179, y180, y181, y182, y183, y184, y185, y186, y187, y188, y189, y190, y191, y192, y193, y194, y195, y196, y197, y198, y199, y200, y201, y202, y203, y204, y205, y206, y207, y208, y209, y210, y211, y212, y213, y214, y215, y216, y217, y218, y219, y220, y221, y222, y223, y224, y225, y226, y227, y228, y229, y230, y231, y232, y233, y234, y235, y236, y237], []⟩ wr := by
  obtain ⟨i0, hi, hz0, hz1, hz2⟩ := info_parts info24
  obtain ⟨j0, hj, hy0, hy1, hy2⟩ := info_parts info48
  obtain ⟨p0, hp, hq0, hq1, hq2⟩ := info_parts info3
  conv => arg 2; whnf
  have hT := HG.out.two
  rw [hm] at hT
  rw [hm] at hl25
  have hl25' : m < 25 := by omega
  obtain ⟨g4', c4', e4, hgl4⟩ := hT.own4.form (by omega)
  cases e4
  obtain ⟨g5', c5', e5, hgl5⟩ := hT.own5.form (by omega)
  cases e5
  obtain ⟨VS, hVS⟩ : ∃ VS, ks.map (·.v) = VS := ⟨_, rfl⟩
  obtain ⟨CL, hCL⟩ : ∃ CL, (ks.map GK.say).flatten = CL := ⟨_, rfl⟩
  rw [hVS, hCL] at hT
  have HT := Lib.hid hT
  have HM := Lib.hid (And.intro hm (And.intro hVS (And.intro hCL (And.intro hgl4 hgl5))))
  clear hT hm hVS hCL hgl4 hgl5
  have hA' : decide ((5 : Int) < 3) = false := decide_eq_false (by omega)
  have hd0 : decide ((m : Int) < 0) = false := by simp
  have hA3 : ¬ (5 : Int) < 3 := by omega
  have hwm : IntKind.i64.wrap (m : Int) = m := IntWalk.i64_in _ (by omega)
  obtain ⟨ks0, kl, rfl⟩ : ∃ ks0 kl, ks = ks0 ++ [kl] := by
    rcases List.eq_nil_or_concat ks with rfl | ⟨ks0, kl, rfl⟩
    · have := HM.out.1; simp at this
    · exact ⟨ks0, kl, by simp⟩
  have hm : ks0.length = m := by have := HM.out.1; simp at this; exact this
  have hVS : VS = ks0.map (·.v) ++ [kl.v] := by rw [← HM.out.2.1]; simp
  have hCL : CL = (ks0.map GK.say).flatten ++ kl.say := by rw [← HM.out.2.2.1]; simp
  have hf5 : (ks0.map GK.say).flatten.length = m * 5 := by rw [say_len, hm]
  have gv : VS[m]? = some kl.v := by rw [hVS, get_at _ _ m 0 m (by simpa using hm) rfl]; rfl
  have gn : CL[m * 5 + 1]? = some kl.nv := by rw [hCL, get_at _ _ (m * 5) 1 _ hf5 rfl]; rfl
  have gt : CL[m * 5 + 4]? = some (.string ⟨kl.tx.toArray⟩) := by rw [hCL, get_at _ _ (m * 5) 4 _ hf5 rfl]; rfl
  have hkl := HT.out.fits kl (by simp)
  have k4 := owns_cell HT.out.own4 gv
  have HS := Lib.hid (And.intro hm (And.intro hVS (And.intro hCL (And.intro hf5 (And.intro gn (And.intro gt hkl))))))
  clear hm hVS hCL hf5 gv gn gt hkl
  go_wp2_with fail
  refine (ofStripe_err d n _ _ _ _ _ HS.out.2.2.2.2.2.2.err.err).mono ?_
  rintro e w1 ⟨b, rfl, hb1, hw1, hh1, _⟩
  try dsimp only
  have h1 := HT.out.more hw1
  have k5 : w1.cell? ⟨g4, m, none⟩ = some kl.v := by rw [hw1.cell (p := ⟨g4, m, none⟩) HM.out.2.2.2.1.2]; exact k4
  have k6 : w1.frozen? ⟨g4, m, none⟩ = false := owns_free h1.own4
  have hap := HT.out.fresh hb1
  have hk3 : Fits w1 _ (d + 1) (kl.of b n) := Fits.stripe (h1.fits kl (by simp)) hap hh1 n0 (by omega)
  have H1 := Lib.hid (And.intro h1 hk3)
  clear k4 h1 hb1 hw1 hh1 hap hk3
  go_wp2_with (with_reducible refine halt_set ?_)
  have h2 := (H1.out.1.kids (d' := d + 1) (ks' := kl.of b n :: (ks0 ++ [kl])) (fun z hz => by
    rcases List.mem_cons.1 hz with hz | hz
    · rw [hz]; exact H1.out.2
    · exact (H1.out.1.fits z hz).deeper)).put4 (j := m) (.iface 55 (.pointer (some ⟨b, 0, none⟩)))
  clear k5 k6
  obtain ⟨w2, hw2⟩ : ∃ w2, w1.setCell ⟨g4, m, none⟩ (.iface 55 (.pointer (some ⟨b, 0, none⟩))) = w2 := ⟨_, rfl⟩
  rw [hw2] at h2 ⊢
  clear hw2
  have k7 : w2.cell? ⟨g5, m * 5 + 2, none⟩ = some (.int .i64 (stripeOf kl.st)) := owns_cell h2.own5 (by rw [HS.out.2.2.1, get_at _ _ (m * 5) 2 _ HS.out.2.2.2.1 rfl]; rfl)
  have k8 : w2.frozen? ⟨g5, m * 5 + 2, none⟩ = false := owns_free h2.own5
  have H2 := Lib.hid h2
  clear h2
  unfold Halt
  go_wp2_with (with_reducible refine halt_set ?_)
  have h3 := H2.out.put5 (j := m * 5 + 2) (.int .i64 n)
  clear k7 k8
  obtain ⟨w3, hw3⟩ : ∃ w3, w2.setCell ⟨g5, m * 5 + 2, none⟩ (.int .i64 n) = w3 := ⟨_, rfl⟩
  rw [hw3] at h3 ⊢
  clear hw3
  have k9 : w3.cell? ⟨g5, m * 5 + 3, none⟩ = some (.bool (stripeIs kl.st)) := owns_cell h3.own5 (by rw [HS.out.2.2.1, set_at _ _ (m * 5) 2 _ _ HS.out.2.2.2.1 rfl, get_at _ _ (m * 5) 3 _ HS.out.2.2.2.1 rfl]; rfl)
  have k10 : w3.frozen? ⟨g5, m * 5 + 3, none⟩ = false := owns_free h3.own5
  have H3 := Lib.hid h3
  clear h3
  unfold Halt
  go_wp2_with (with_reducible refine halt_set ?_)
  have h4 := H3.out.put5 (j := m * 5 + 3) (.bool true)
  clear k9 k10
  obtain ⟨w4, hw4⟩ : ∃ w4, w3.setCell ⟨g5, m * 5 + 3, none⟩ (.bool true) = w4 := ⟨_, rfl⟩
  rw [hw4] at h4 ⊢
  clear hw4
  have k11 : w4.cell? ⟨g5, m * 5 + 4, none⟩ = some (.string ⟨kl.tx.toArray⟩) := owns_cell h4.own5 (by rw [HS.out.2.2.1, set_at _ _ (m * 5) 2 _ _ HS.out.2.2.2.1 rfl, set_at _ _ (m * 5) 3 _ _ HS.out.2.2.2.1 rfl, get_at _ _ (m * 5) 4 _ HS.out.2.2.2.1 rfl]; rfl)
  have k12 : w4.frozen? ⟨g5, m * 5 + 4, none⟩ = false := owns_free h4.own5
  have H4 := Lib.hid h4
  clear h4
  have hstr : (⟨#[115, 116, 114, 105, 112, 101, 32]⟩ ++ ⟨#[dig n]⟩ ++ ⟨#[58, 32]⟩ ++ ⟨kl.tx.toArray⟩ : ByteArray) = ⟨(tStripe n ++ kl.tx).toArray⟩ := ByteArray.ext (by simp [ByteArray.data_append, tStripe])
  have htl : kl.tx.length ≤ 500 := by have := HG.out.txt; simp at this; omega
  unfold Halt
  go_wp2_with fail
  have hg5 : g5 < w4.drew.heap.size := (H4.out.own5.lt g5 rfl).2
  go_region_with (first | (go_at_call 32; refine (digits32 n n0 (by omega) _).mono ?_; rintro e w5 ⟨rfl, hb5⟩; (try dsimp only); have k13 : w5.cell? ⟨g5, m * 5 + 4, none⟩ = some (.string ⟨kl.tx.toArray⟩) := (hb5.cell (p := ⟨g5, m * 5 + 4, none⟩) hg5).trans k11; have k14 : w5.frozen? ⟨g5, m * 5 + 4, none⟩ = false := (hb5.frozen (p := ⟨g5, m * 5 + 4, none⟩) hg5).trans k12))
  all_goals
    have h6 := (H4.out.more ((Below.refl _ w4).drew.trans hb5)).put5 (j := m * 5 + 4) (.string ⟨(tStripe n ++ kl.tx).toArray⟩)
    have hp := GrowP.swap (kl := kl) (kl.of b n) (h6.kids (fun z hz => h6.fits z (List.mem_cons_of_mem _ hz))) HS.out.1
      (by rw [HS.out.2.1, set_at _ _ m 0 m _ (by simpa using HS.out.1) rfl]; rfl)
      (by rw [HS.out.2.2.1, set_at _ _ (m * 5) 2 _ _ HS.out.2.2.2.1 rfl, set_at _ _ (m * 5) 3 _ _ HS.out.2.2.2.1 rfl, set_at _ _ (m * 5) 4 _ _ HS.out.2.2.2.1 rfl]; rfl)
      (h6.fits _ List.mem_cons_self) HG.out.nod HG.out.txt hl25 (by simp [GK.of, nodesOf]) (by simp [GK.of, tStripe])
    have HP := Lib.hid hp
    clear h6 hp hb5 k13 k14 k11 k12 hg5
    go_wp2_with fail
    exact HK.out _ _ ⟨_, _, _, _, _, _, _, _, _, _, _, _, _, _, _, _, _, _, _, _, _, _, _, _, _, _, _, _, _, _, _, _, _, _, _, _, _, _, _, _, _, _, _, _, _, _, _, _, _, _, _, _, _, _, _, _, _, _, _, _, _, _, _, _, _, _, _, _, _, _, _, _, _, _, _, _, _, _, _, _, _, _, _, _, _, _, _, _, _, _, _, _, _, _, _, _, _, _, _, _, _, _, _, _, _, _, _, _, _, _, _, _, _, _, _, _, _, _, _, _, _, _, _, _, _, _, _, _, _, _, _, _, _, _, _, _, _, _, _, _, _, _, _, _, _, _, _, _, _, _, _, _, _, _, _, _, _, _, _, _, _, _, _, _, _, _, _, _, _, _, _, _, _, _, _, _, _, _, _, _, _, _, _, _, _, _, _, _, _, _, _, _, _, _, _, _, _, _, _, _, _, _, _, _, _, _, _, _, _, _, _, _, _, ⟨_, _, HP⟩, rfl⟩
end Go.Proofs.YtbifpjdkljibeaaDoor
