import Derived.Test.YtbifpjdkljibeaaDoorG4a
import Derived.Deep.CutRange
namespace Go.Proofs.YtbifpjdkljibeaaDoor
open Go.RowKit Go.Extern.Stop Go.Stop Go.Extern Go.Extern.Rtype

set_option linter.unusedVariables false
set_option maxRecDepth 100000 in
set_option maxHeartbeats 16000000 in
theorem arm6 {xs : List (Int × Int)} {g o c i d : Nat} {ks : List GK} {x1 x2 n : Int}  {w w0 wr : World} {g4 c4 g5 c5 m : Nat} {y1 y10 y11 y12 y13 y14 y15 y16 y17 y18 y19 y20 y21 y22 y23 y24 y25 y26 y27 y28 y29 y30 y31 y32 y33 y34 y35 y36 y37 y38 y39 y40 y41 y42 y43 y44 y45 y46 y47 y48 y49 y50 y51 y52 y53 y54 y55 y56 y57 y58 y59 y60 y61 y62 y63 y64 y65 y66 y67 y68 y69 y70 y71 y72 y73 y74 y75 y76 y77 y78 y79 y80 y81 y82 y83 y84 y85 y86 y87 y88 y89 y90 y91 y92 y93 y94 y95 y96 y97 y98 y99 y100 y101 y102 y103 y104 y105 y106 y107 y108 y109 y110 y111 y112 y113 y114 y115 y116 y117 y118 y119 y120 y121 y122 y123 y124 y125 y126 y127 y128 y129 y130 y131 y132 y133 y134 y135 y136 y137 y138 y139 y140 y141 y142 y143 y144 y145 y146 y147 y148 y149 y150 y151 y152 y153 y154 y155 y156 y157 y158 y159 y160 y161 y162 y163 y164 y165 y166 y167 y168 y169 y170 y171 y172 y173 y174 y175 y176 y177 y178 y179 y180 y181 y182 y183 y184 y185 y186 y187 y188 y189 y190 y191 y192 y193 y194 y195 y196 y197 y198 y199 y200 y201 y202 y203 y204 y205 y206 y207 y208 y209 y210 y211 y212 y213 y214 y215 y216 y217 y218 y219 y220 y221 y222 y223 y224 y225 y226 y227 y228 y229 y230 y231 y232 y233 y234 y235 y236 y237 : Value} {K K1 K2 : Act → World → Prop}
    (HW : Hid (Below w.heap.size w w0 ∧ w0.heap[w.heap.size]? = some (.cells #[.int .i64 0, .slice none 0 0, .int .i64 0, .bool false, .string ⟨#[]⟩] 48 (0, 0)))) (HG : Hid (GrowP w0 (.slice (some ⟨g4, 0, none⟩) (m + 1) c4) (.slice (some ⟨g5, 0, none⟩) (m + 1) c5) wr i d ks))
    (hi1 : i ≤ xs.length) (hi2 : i ≤ 25) (hlt : i < xs.length) (h25 : i < 25) (HN : Hid (Raws w (some ⟨g, o, none⟩) xs))
    (c1 : wr.cell? ⟨g, o + i * 2, none⟩ = some (.int .i64 x1)) (c2 : wr.cell? ⟨g, o + i * 2 + 1, none⟩ = some (.int .i64 x2)) (q1 : (i : Int) < (xs.length : Int)) (q2 : (i : Int) < 25) (n0 : 0 ≤ n) (n9 : n < 9) (hl25 : ks.length ≤ i) (hm : ks.length = m + 1)
    (HK : Hid (∀ (a' : Act) (w' : World), (∃ z4 z5 z10 z11 z12 z14 z15 z16 z17 z18 z19 z20 z21 z22 z23 z24 z25 z26 z27 z28 z29 z30 z31 z32 z33 z34 z35 z36 z37 z38 z39 z40 z41 z42 z43 z44 z45 z46 z47 z48 z49 z50 z51 z52 z53 z54 z55 z56 z57 z58 z59 z60 z61 z62 z63 z64 z65 z66 z67 z68 z69 z70 z71 z72 z73 z74 z75 z76 z77 z78 z79 z80 z81 z82 z83 z84 z85 z86 z87 z88 z89 z90 z91 z92 z93 z94 z95 z96 z97 z98 z99 z100 z101 z102 z103 z104 z105 z106 z107 z108 z109 z110 z111 z112 z113 z114 z115 z116 z117 z118 z119 z120 z121 z122 z123 z124 z125 z126 z127 z128 z129 z130 z131 z132 z133 z134 z135 z136 z137 z138 z139 z140 z141 z142 z143 z144 z145 z146 z147 z148 z149 z150 z151 z152 z153 z154 z155 z156 z157 z158 z159 z160 z161 z162 z163 z164 z165 z166 z167 z168 z169 z170 z171 z172 z173 z174 z175 z176 z177 z178 z179 z180 z181 z182 z183 z184 z185 z186 z187 z188 z189 z190 z191 z192 z193 z194 z195 z196 z197 z198 z199 z200 z201 z202 z203 z204 z205 z206 z207 z208 z209 z210 z211 z212 z213 z214 z215 z216 z217 z218 z219 z220 z221 : Value, (∃ (ks' : List GK) (d' : Nat), Hid (GrowP w0 z4 z5 w' (i + 1) d' ks')) ∧ a' = ⟨#[.slice (some ⟨g, o, none⟩) xs.length c, y1, .nilIface, .pointer (some ⟨w.heap.size, 0, none⟩), z4, z5, .int .i64 (i : Int), .int .i64 n, .int .i64 6, .int .i64 (m : Int), z10, z11, z12, y13, z14, z15, z16, z17, z18, z19, z20, z21, z22, z23, z24, z25, z26, z27, z28, z29, z30, z31, z32, z33, z34, z35, z36, z37, z38, z39, z40, z41, z42, z43, z44, z45, z46, z47, z48, z49, z50, z51, z52, z53, z54, z55, z56, z57, z58, z59, z60, z61, z62, z63, z64, z65, z66, z67, z68, z69, z70, z71, z72, z73, z74, z75, z76, z77, z78, z79, z80, z81, z82, z83, z84, z85, z86, z87, z88, z89, z90, z91, z92, z93, z94, z95, z96, z97, z98, z99, z100, z101, z102, z103, z104, z105, z106, z107, z108, z109, z110, z111, z112, z113, z114, z115, z116, z117, z118, z119, z120, z121, z122, z123, z124, z125, z126, z127, z128, z129, z130, z131, z132, z133, z134, z135, z136, z137, z138, z139, z140, z141, z142, z143, z144, z145, z146, z147, z148, z149, z150, z151, z152, z153, z154, z155, z156, z157, z158, z159, z160, z161, z162, z163, z164, z165, z166, z167, z168, z169, z170, z171, z172, z173, z174, z175, z176, z177, z178, z179, z180, z181, z182, z183, z184, z185, z186, z187, z188, z189, z190, z191, z192, z193, z194, z195, z196, z197, z198, z199, z200, z201, z202, z203, z204, z205, z206, z207, z208, z209, z210, z211, z212, z213, z214, z215, z216, z217, z218, z219, z220, z221, y222, y223, y224, y225, y226, y227, y228, y229, y230, y231, y232, y233, y234, y235, y236, y237], []⟩) → K a' w')) :
    Code.wp Tryd.prog blk2 (Exit.inBlock 1 (Exit.then K (Exit.then K1 (Exit.inBlock 0 (Exit.then K2 (bodyPost Tryd.prog Tryd.f19 (GrowPost w))))))) ⟨#[.slice (some ⟨g, o, none⟩) xs.length c, y1, .nilIface, .pointer (some ⟨w.heap.size, 0, none⟩), .slice (some ⟨g4, 0, none⟩) (m + 1) c4, .slice (some ⟨g5, 0, none⟩) (m + 1) c5, .int .i64 (i : Int), .int .i64 n, .int .i64 6, .int .i64 (m : Int), y10, y11, y12, y13, y14, y15, y16, y17, y18, y19, y20, y21, y22, y23, y24, y25, y26, y27, y28, y29, y30, y31, y32, y33, y34, y35, y36, y37, y38, y39, y40, y41, y42, y43, y44, y45, y46, y47, y48, y49, y50, y51, y52, y53, y54, y55, y56, y57, y58, y59, y60, y61, y62, y63, y64, y65, y66, y67, y68, y69, y70, y71, y72, y73, y74, y75, y76, y77, y78, y79, y80, y81, y82, y83, y84, y85, y86, y87, y88, y89, y90, y91, y92, y93, y94, y95, y96, y97, y98, y99, y100, y101, y102, y103, y104, y105, y106, y107, y108, y109, y110, y111, y112, y113, y114, y115, y116, y117, y118, y119, y120, y121, y122, y123, y124, y125, y126, y127, y128, y129, y130, y131, y132, y133, y134, y135, y136, y137, y138, y139, y140, y141, y142, y143, y144, y145, y146, y147, y148, y149, y150, y151, y152, y153, y154, y155, y156, y157, y158, y159, y160, y161, y162, y163, y164, y165, y166, y167, y168, y169, y170, y171, y172, y173, y174, y175, y176, y177, y178, y179, y180, y181, y182, y183, y184, y185, y186, y187, y188, y189, y190, y191, y192, y193, y194, y195, y196, y197, y198, y199, y200, y201, y202, y203, y204, y205, y206, y207, y208, y209, y210, y211, y212, y213, y214, y215, y216, y217, y218, y219, y220, y221, y222, y223, y224, y225, y226, y227, y228, y229, y230, y231, y232, y233, y234, y235, y236, y237], []⟩ wr := by
  obtain ⟨i0, hi, hz0, hz1, hz2⟩ := info_parts info24
  obtain ⟨j0, hj, hy0, hy1, hy2⟩ := info_parts info48
  obtain ⟨p0, hp, hq0, hq1, hq2⟩ := info_parts info3
  conv => arg 2; whnf
  have hT := HG.out.two
  rw [hm] at hT
  rw [hm] at hl25
  have hl25' : m < 25 := by omega
  obtain ⟨g4', c4', e4, hgl4⟩ := hT.own4.form (by omega)
  cases e4
  obtain ⟨g5', c5', e5, hgl5⟩ := hT.own5.form (by omega)
  cases e5
  obtain ⟨VS, hVS⟩ : ∃ VS, ks.map (·.v) = VS := ⟨_, rfl⟩
  obtain ⟨CL, hCL⟩ : ∃ CL, (ks.map GK.say).flatten = CL := ⟨_, rfl⟩
  rw [hVS, hCL] at hT
  have HT := Lib.hid hT
  have HM := Lib.hid (And.intro hm (And.intro hVS (And.intro hCL (And.intro hgl4 hgl5))))
  clear hT hm hVS hCL hgl4 hgl5
  have hA' : decide ((6 : Int) < 3) = false := decide_eq_false (by omega)
  have hd0 : decide ((m : Int) < 0) = false := by simp
  have hA3 : ¬ (6 : Int) < 3 := by omega
  have hwm : IntKind.i64.wrap (m : Int) = m := IntWalk.i64_in _ (by omega)
  have HM5 := Lib.hid hwm
  clear hwm
  go_wp2_with fail
  refine (pick_any x2 4 (by omega) (by omega) _).mono ?_
  rintro e w' ⟨rfl, rfl⟩
  try dsimp only
  obtain ⟨p, hp'⟩ : ∃ p, x2 % 4 = p := ⟨_, rfl⟩
  have p0' : 0 ≤ p := by omega
  have p4 : p < 4 := by omega
  rw [hp']
  clear hp'
  obtain ⟨f, hf, hfm, hfp⟩ : ∃ f : Nat, max (0 : Int) ((m : Int) - p) = f ∧ f ≤ m ∧ m ≤ f + 3 := ⟨(max (0 : Int) ((m : Int) - p)).toNat, by omega, by omega, by omega⟩
  have hcap : m + 1 ≤ c4 := owns_cap HT.out.own4
  have hcap5 : m + 1 ≤ c5 := owns_cap HT.out.own5
  have hcf : ¬ c4 = f := by omega
  have hwp : IntKind.i64.wrap ((m : Int) - p) = (m : Int) - p := IntWalk.i64_in _ (by omega)
  have hif : ∀ x ∈ VS, ∃ t u, x = .iface t u := by
    intro x hx
    rw [← HM.out.2.1] at hx
    obtain ⟨z, hz, rfl⟩ := List.mem_map.1 hx
    exact HT.out.ifaces z hz
  have hVl : VS.length = m + 1 := by have := HT.out.own4.1; omega
  have HV := Lib.hid (And.intro hif hVl)
  clear hif hVl
  go_wp2_with (at_builtin; refine wpList_append_lies _ rfl (.tmp 49) (.tmp 52) 29 rfl wr.heap.size 24 i0 .nilIface 1 16 Tryd.underlying29 hi hz0 hz1 hz2 rfl (by decide) _ 1 [.nilIface] rfl (made_nil wr) ⟨g4, f, none⟩ (m + 1 - f) (c4 - f) (VS.drop f) rfl ?c1 (owns_from (owns_alloc HT.out.own4 _)) ?c2 (by omega) ?c3 ?c4 ?c5 _ rfl ?_)
  case c1 => rw [List.length_drop, HV.out.2, Nat.mul_one]
  case c2 =>
    intro u hu
    obtain ⟨t, x, rfl⟩ := HV.out.1 u (List.mem_of_mem_drop hu)
    rfl
  case c3 => unfold maxLen; omega
  case c4 => omega
  case c5 => simp
  intro g6 cap6 w1 ho hg hs hlt2
  try simp only [World.size_alloc] at hs
  try simp only [World.size_alloc] at hlt2
  have hb1 := below_made hg (Nat.le_refl _)
  have H1 := Lib.hid (And.intro ho hb1)
  clear ho hg hs hlt2 hb1
  have hsz1 := H1.out.2.size
  go_wp2_with (at_builtin; refine wpList_append_lies _ rfl (.tmp 53) (.tmp 54) 29 rfl wr.heap.size 24 i0 .nilIface 1 16 Tryd.underlying29 hi hz0 hz1 hz2 rfl (by decide) _ (1 + (m + 1 - f)) _ rfl (owns_alloc H1.out.1 _) ⟨w1.heap.size, 0, none⟩ 1 1 [.nilIface] rfl rfl (World.news_of_block (heap_new _ _)) ?d1 (by decide) ?d2 ?d3 ?d4 _ rfl ?_)
  case d1 => intro u hu; rw [List.mem_singleton.1 hu]; rfl
  case d2 => unfold maxLen; omega
  case d3 => omega
  case d4 => rw [World.size_alloc]; omega
  intro g7 cap7 w2 ho hg hs hlt2
  try simp only [World.size_alloc] at hs
  try simp only [World.size_alloc] at hlt2
  have hb2 : Below wr.heap.size wr w2 := (H1.out.2.trans ((alloc_below w1 _).mono hsz1)).grown hg (by rw [World.size_alloc]; omega) (fun k hk => (H1.out.1.lt k hk).1)
  have hj := join_row ho (by rw [ho.1]; omega) (fun x hx => by
    rcases List.mem_cons.1 hx with hx | hx
    · exact .inl hx
    · rcases List.mem_append.1 hx with hx | hx
      · exact .inr (HV.out.1 x (List.mem_of_mem_drop hx))
      · exact .inl (List.mem_singleton.1 hx))
  try rw [show ([Value.nilIface] ++ List.drop f VS ++ [Value.nilIface]) = Value.nilIface :: (List.drop f VS ++ [Value.nilIface]) from rfl] at hj
  rw [alive_mid _ (fun x hx => HV.out.1 x (List.mem_of_mem_drop hx))] at hj
  have H2 := Lib.hid (And.intro (HT.out.more hb2) (And.intro hb2 hj))
  clear ho hg hs hlt2 hb2 hj hsz1
  go_wp2_with fail
  refine H2.out.2.2.mono ?_
  intro e w3 hj
  obtain ⟨jv, jns, rfl, ⟨jt, jx, rfl⟩, hjn, hje, hjt, hjc⟩ := hj.fits (ks.drop f) (by rw [← HM.out.2.1, List.map_drop]) (by rw [List.length_drop, HM.out.1]; omega) d (fun z hz => H2.out.1.fits z (List.mem_of_mem_drop hz)) (by intro e; have := congrArg List.length e; rw [List.length_drop, HM.out.1] at this; simp at this; omega)
    (fun k hk _ => hk) (fun k hk => H2.out.1.fresh hk)
  try dsimp only
  have H3 := Lib.hid (And.intro (H2.out.1.more hj.1) (And.intro (H2.out.2.1.trans (hj.1.mono H2.out.2.1.size)) (And.intro hjn (And.intro hje (And.intro hjt hjc)))))
  clear hj hjn hje hjt hjc
  have hks : ∃ kf jr, ks.drop f = kf :: jr := by
    cases h : ks.drop f with
    | nil => have := congrArg List.length h; rw [List.length_drop, HM.out.1] at this; simp at this; omega
    | cons a b => exact ⟨a, b, rfl⟩
  obtain ⟨kf, jr, hjs⟩ := hks
  have hjl : jr.length = m - f := by have := congrArg List.length hjs; rw [List.length_drop, HM.out.1, List.length_cons] at this; omega
  have hCL : CL = ((ks.take f).map GK.say).flatten ++ (kf.say ++ (jr.map GK.say).flatten) := by
    rw [← HM.out.2.2.1]
    conv => lhs; rw [← List.take_append_drop f ks, hjs]
    simp
  have hf5 : ((ks.take f).map GK.say).flatten.length = f * 5 := by rw [say_len, List.length_take, HM.out.1]; congr 1; omega
  have kc0 : w3.cell? ⟨g5, f * 5, none⟩ = some (.int .i64 (codeZ kf.cs)) := owns_cell H3.out.1.own5 (by rw [hCL, get_at _ _ (f * 5) 0 (f * 5) hf5 rfl]; rfl)
  have kc1 : w3.cell? ⟨g5, f * 5 + 1, none⟩ = some kf.nv := owns_cell H3.out.1.own5 (by rw [hCL, get_at _ _ (f * 5) 1 _ hf5 rfl]; rfl)
  have kc2 : w3.cell? ⟨g5, f * 5 + 2, none⟩ = some (.int .i64 (stripeOf kf.st)) := owns_cell H3.out.1.own5 (by rw [hCL, get_at _ _ (f * 5) 2 _ hf5 rfl]; rfl)
  have kc3 : w3.cell? ⟨g5, f * 5 + 3, none⟩ = some (.bool (stripeIs kf.st)) := owns_cell H3.out.1.own5 (by rw [hCL, get_at _ _ (f * 5) 3 _ hf5 rfl]; rfl)
  have kc4 : w3.cell? ⟨g5, f * 5 + 4, none⟩ = some (.string ⟨kf.tx.toArray⟩) := owns_cell H3.out.1.own5 (by rw [hCL, get_at _ _ (f * 5) 4 _ hf5 rfl]; rfl)
  have HJ := Lib.hid (And.intro hjs (And.intro hjl (And.intro hCL hf5)))
  clear hjs hjl hCL hf5
  obtain ⟨an, cn, hkn⟩ := own_form (H3.out.1.fits kf (by have : kf ∈ ks.drop f := by rw [HJ.out.1]; exact List.mem_cons_self
                                                         exact List.mem_of_mem_drop this)).nod.1
  rw [hkn] at kc1
  have HN1 := Lib.hid hkn
  clear hkn
  go_wp2_with fail
  · subst h
    have hks5 : ∀ (w' : World), Below w3.heap.size w3 w' → ∀ (j : Nat) (x : GK), jr[j]? = some x → ∀ q, q < 5 → w'.cell? ⟨g5, (f + 1) * 5 + j * 5 + q, none⟩ = x.say[q]? := by
      intro w' hb j x hx q hq
      rw [hb.cell (p := ⟨g5, (f + 1) * 5 + j * 5 + q, none⟩) (H3.out.1.own5.lt g5 rfl).2]
      have h1 : CL[(f + 1) * 5 + j * 5 + q]? = x.say[q]? := by
        rw [HJ.out.2.2.1, get_at _ _ (f * 5) (5 + (j * 5 + q)) _ HJ.out.2.2.2 (by omega), get_at _ _ 5 (j * 5 + q) _ rfl rfl, flat_get jr j q x hx hq]
      have h2 : ∃ u, x.say[q]? = some u := ⟨_, List.getElem?_eq_getElem (by simp [GK.say]; omega)⟩
      obtain ⟨u, hu⟩ := h2
      rw [hu] at h1 ⊢
      exact owns_cell H3.out.1.own5 h1
    have hfk : kf ∈ ks := List.mem_of_mem_drop (by rw [HJ.out.1]; exact List.mem_cons_self)
    have hfr : ∀ x ∈ jr, x ∈ ks := fun x hx => List.mem_of_mem_drop (by rw [HJ.out.1]; exact List.mem_cons_of_mem _ hx)
    have hjl : jr.length = m - f := HJ.out.2.1
    have hacc : Acc w3 (.slice (some ⟨g4, 0, none⟩) (m + 1) c4) (.slice (some ⟨g5, 0, none⟩) (m + 1) (f + 1)) (w3.alloc (.cells #[.int .i64 (codeZ kf.cs), .slice an (nodesOf kf.ns).length cn, .int .i64 (stripeOf kf.st), .bool (stripeIs kf.st), .string ⟨kf.tx.toArray⟩] 48)) (codeZ kf.cs) (nodesOf kf.ns) (stripeOf kf.st) (stripeIs kf.st) kf.tx := by
      refine ⟨alloc_below _ _, an, cn, heap_new _ _, ?_⟩
      have hk := (H3.out.1.fits kf hfk).nod
      rw [HN1.out] at hk
      exact hk.keep (fun k hk hl => ⟨hk, by omega⟩) (fun k _ hl => Below.heap_alloc _ _ _ hl)
    have HFK := Lib.hid (And.intro hfk (And.intro hfr hks5))
    have HA := Lib.hid hacc
    clear hfk hfr hks5 hacc kc0 kc1 kc2 kc3 kc4
    obtain ⟨w4, hw4⟩ : ∃ w4, w3.alloc (.cells #[.int .i64 (codeZ kf.cs), .slice an (nodesOf kf.ns).length cn, .int .i64 (stripeOf kf.st), .bool (stripeIs kf.st), .string ⟨kf.tx.toArray⟩] 48) = w4 := ⟨_, rfl⟩
    rw [hw4] at HA ⊢
    clear hw4
    go_loopg [14, 66] (m - f) (fun q s14 s66 wx => ∃ (j : Nat) (js : List GK), s66 = .int .i64 j ∧ j ≤ m - f ∧ q = m - f - j ∧ Hid (js = kf :: jr.take j) ∧ Hid (Acc w3 (.slice (some ⟨g4, 0, none⟩) (m + 1) c4) (.slice (some ⟨g5, 0, none⟩) (m + 1) (f + 1)) wx (codeZ (js.map (·.cs)).flatten) (js.map fun z => nodesOf z.ns).flatten (stripeOf (js.map (·.st)).flatten) (stripeIs (js.map (·.st)).flatten) (tAll (js.map (·.tx)))))
    case atStart => exact ⟨0, [kf], rfl, Nat.zero_le _, rfl, Lib.hid rfl, Lib.hid (by simpa [tAll] using HA.out)⟩
    case round =>
      obtain ⟨j, js, rfl, hj1, rfl, HJS, HAC⟩ := hrel
      by_cases hjlt : j < m - f
      · exact absurd hjlt (by omega)
      · have hjd : js = ks.drop f := by rw [HJS.out, HJ.out.1, List.take_of_length_le (by rw [HJ.out.2.1]; omega)]
        have hqj : ¬ (j : Int) < ((m - f : Nat) : Int) := by omega
        have hjm : j = m - f := by omega
        subst hjm
        have hacw := HAC.out
        rw [hjd] at hacw
        obtain ⟨CD, hCD⟩ : ∃ CD, codeZ ((ks.drop f).map (·.cs)).flatten = CD := ⟨_, rfl⟩
        obtain ⟨ND, hND⟩ : ∃ ND, ((ks.drop f).map fun z => nodesOf z.ns).flatten = ND := ⟨_, rfl⟩
        obtain ⟨SP, hSP⟩ : ∃ SP, stripeOf ((ks.drop f).map (·.st)).flatten = SP := ⟨_, rfl⟩
        obtain ⟨SB, hSB⟩ : ∃ SB, stripeIs ((ks.drop f).map (·.st)).flatten = SB := ⟨_, rfl⟩
        obtain ⟨TX, hTX⟩ : ∃ TX, tAll ((ks.drop f).map (·.tx)) = TX := ⟨_, rfl⟩
        rw [hCD, hND, hSP, hSB, hTX] at hacw
        have HQ := Lib.hid (And.intro hCD (And.intro hND (And.intro hSP (And.intro hSB hTX))))
        clear hCD hND hSP hSB hTX
        obtain ⟨f0, ⟨an3, cn3, f1, hnod⟩, f2, f3, f4, _⟩ := hacw.cells
        have HAW := Lib.hid (And.intro hacw hnod)
        have h2 := H3.out.1.more hacw.below
        have HT2 := Lib.hid h2
        clear hacw hnod h2 hjd HAC
        go_wp2_with (at_builtin; refine wpList_append_full _ rfl (.tmp 104) (.tmp 106) 29 rfl 24 i0 .nilIface 1 16 Tryd.underlying29 hi hz0 hz1 hz2 rfl (by decide) ⟨g4, 0, none⟩ f f (VS.take f) rfl ?r1 (owns_front (owns_alloc HT2.out.own4 _)) ⟨wr.heap.size, 0, none⟩ 1 1 [.iface jt jx] rfl rfl (World.news_of_block (heap_new _ _)) (by omega) ?r2 ?r3 ?_)
        case r1 => rw [List.length_take, HV.out.2]; omega
        case r2 => unfold maxLen; omega
        case r3 => omega
        intro v5 w5 ho5 hg5
        obtain ⟨g8, c8, rfl, hge8, _⟩ := ho5.form (by omega)
        have hb5 : Below wr.heap.size wr w5 := grown_low hg5
        have h5 := (HT2.out.more (alloc_below wr _)).app4 (owns_base ho5 (Nat.le_trans HT2.out.size (by simp))) (grownBy_weaker hg5 _) (.inr ⟨g8, rfl, by simpa using hge8⟩)
        have i0' := (hb5.cell (p := ⟨w3.heap.size, 0, none⟩) HAW.out.1.lt).trans f0
        have i1' := (hb5.cell (p := ⟨w3.heap.size, 1, none⟩) HAW.out.1.lt).trans f1
        have i2' := (hb5.cell (p := ⟨w3.heap.size, 2, none⟩) HAW.out.1.lt).trans f2
        have i3' := (hb5.cell (p := ⟨w3.heap.size, 3, none⟩) HAW.out.1.lt).trans f3
        have i4' := (hb5.cell (p := ⟨w3.heap.size, 4, none⟩) HAW.out.1.lt).trans f4
        have H5 := Lib.hid (And.intro h5 (And.intro hb5 hge8))
        clear ho5 hg5 h5 hb5 f0 f1 f2 f3 f4 hge8
        go_wp2_with fail
        have hfc5 : (f : Int) ≤ (f : Int) + 1 := by omega
        have hr4 : (CL.take (f * 5)).length = f * 5 := by rw [take_flat5 HJ.out.2.2.1 HJ.out.2.2.2]; exact HJ.out.2.2.2
        have hr5 : f + 1 ≤ maxLen := by unfold maxLen; omega
        have hr6 : (f + 1) * 64 ≤ 140737488355328 := by omega
        have HR4 := Lib.hid hr4
        clear hr4
        go_region_law (first | (refine step_append_full _ rfl (.tmp 111) (.tmp 113) 82 rfl 48 j0 _ 5 64 Tryd.underlying82 hj hy0 hy1 hy2 rfl (by decide) ⟨g5, 0, none⟩ f f (CL.take (f * 5)) rfl HR4.out (owns_front (owns_alloc H5.out.1.own5 _)) ⟨w5.heap.size, 0, none⟩ 1 1 [_, _, _, _, _] rfl rfl (World.news_of_block (heap_new _ _)) (by omega) hr5 hr6 ?_; intro v6 w6 ho6 hg6; obtain ⟨g9, c9, rfl, hge9, _⟩ := ho6.form (by omega); have H6 := Lib.hid (And.intro ho6 (And.intro hg6 hge9)); clear ho6 hg6 hge9))
        have hb6 : Below w5.heap.size w5 w6 := grown_low (grown_drew H6.out.2.1)
        have hge9 : w5.heap.size + 1 ≤ g9 := by simpa using H6.out.2.2
        have hge8 : wr.heap.size + 1 ≤ g8 := by simpa using H5.out.2.2
        have hsz5 := H5.out.2.1.size
        have h6 := (H5.out.1.more (alloc_below w5 _)).app5 (owns_base H6.out.1 (Nat.le_trans H5.out.1.size (by simp))) (grownBy_weaker (grown_drew H6.out.2.1) _) (.inr ⟨g9, rfl, by simpa using hge9⟩)
        have hl := Acc.last (w6 := w6) (s4' := .slice (some ⟨g8, 0, none⟩) (f + 1) c8) (s5' := .slice (some ⟨g9, 0, none⟩) (f + 1) c9) H3.out.1 H3.out.2.2.1 H3.out.2.2.2.1 H3.out.2.2.2.2.1 H3.out.2.2.2.2.2 HAW.out.1.below (H5.out.2.1.trans (hb6.mono hsz5)) (by rw [HQ.out.2.1]; exact HAW.out.2)
          (fun k hk _ => ⟨fun e => by have e' : g8 = k := Option.some.inj e; omega, fun e => by have e' : g9 = k := Option.some.inj e; omega⟩)
        have hp := GrowP.joined HJ.out.1 HM.out.1 hfm hfp (h6.kids (d' := d + 1) (ks' := ks.take f ++ [_]) (fun z hz => by
            rcases List.mem_append.1 hz with hz | hz
            · exact hl.2 z (List.mem_of_mem_take hz)
            · rw [List.mem_singleton.1 hz]; exact hl.1))
          (by rw [← HM.out.2.1, List.map_take]) (by rw [take_flat5 HJ.out.2.2.1 HJ.out.2.2.2, ← HQ.out.1, ← HQ.out.2.2.1, ← HQ.out.2.2.2.1, ← HQ.out.2.2.2.2]; rfl) (by rw [← HJ.out.1]; exact H3.out.2.2.1) (by rw [← HJ.out.1]) HG.out.nod HG.out.txt hl25
        have HP := Lib.hid hp
        clear hp hl h6 hb6 hge9 hge8 hsz5 i0' i1' i2' i3' i4' hr5 hr6
        go_wp2_with fail
        exact HK.out _ _ ⟨_, _, _, _, _, _, _, _, _, _, _, _, _, _, _, _, _, _, _, _, _, _, _, _, _, _, _, _, _, _, _, _, _, _, _, _, _, _, _, _, _, _, _, _, _, _, _, _, _, _, _, _, _, _, _, _, _, _, _, _, _, _, _, _, _, _, _, _, _, _, _, _, _, _, _, _, _, _, _, _, _, _, _, _, _, _, _, _, _, _, _, _, _, _, _, _, _, _, _, _, _, _, _, _, _, _, _, _, _, _, _, _, _, _, _, _, _, _, _, _, _, _, _, _, _, _, _, _, _, _, _, _, _, _, _, _, _, _, _, _, _, _, _, _, _, _, _, _, _, _, _, _, _, _, _, _, _, _, _, _, _, _, _, _, _, _, _, _, _, _, _, _, _, _, _, _, _, _, _, _, _, _, _, _, _, _, _, _, _, _, _, _, _, _, _, _, _, _, _, _, _, _, _, _, _, _, _, _, _, _, _, _, _, ⟨_, _, HP⟩, rfl⟩
  · have hks5 : ∀ (w' : World), Below w3.heap.size w3 w' → ∀ (j : Nat) (x : GK), jr[j]? = some x → ∀ q, q < 5 → w'.cell? ⟨g5, (f + 1) * 5 + j * 5 + q, none⟩ = x.say[q]? := by
      intro w' hb j x hx q hq
      rw [hb.cell (p := ⟨g5, (f + 1) * 5 + j * 5 + q, none⟩) (H3.out.1.own5.lt g5 rfl).2]
      have h1 : CL[(f + 1) * 5 + j * 5 + q]? = x.say[q]? := by
        rw [HJ.out.2.2.1, get_at _ _ (f * 5) (5 + (j * 5 + q)) _ HJ.out.2.2.2 (by omega), get_at _ _ 5 (j * 5 + q) _ rfl rfl, flat_get jr j q x hx hq]
      have h2 : ∃ u, x.say[q]? = some u := ⟨_, List.getElem?_eq_getElem (by simp [GK.say]; omega)⟩
      obtain ⟨u, hu⟩ := h2
      rw [hu] at h1 ⊢
      exact owns_cell H3.out.1.own5 h1
    have hfk : kf ∈ ks := List.mem_of_mem_drop (by rw [HJ.out.1]; exact List.mem_cons_self)
    have hfr : ∀ x ∈ jr, x ∈ ks := fun x hx => List.mem_of_mem_drop (by rw [HJ.out.1]; exact List.mem_cons_of_mem _ hx)
    have hjl : jr.length = m - f := HJ.out.2.1
    have hacc : Acc w3 (.slice (some ⟨g4, 0, none⟩) (m + 1) c4) (.slice (some ⟨g5, 0, none⟩) (m + 1) c5) (w3.alloc (.cells #[.int .i64 (codeZ kf.cs), .slice an (nodesOf kf.ns).length cn, .int .i64 (stripeOf kf.st), .bool (stripeIs kf.st), .string ⟨kf.tx.toArray⟩] 48)) (codeZ kf.cs) (nodesOf kf.ns) (stripeOf kf.st) (stripeIs kf.st) kf.tx := by
      refine ⟨alloc_below _ _, an, cn, heap_new _ _, ?_⟩
      have hk := (H3.out.1.fits kf hfk).nod
      rw [HN1.out] at hk
      exact hk.keep (fun k hk hl => ⟨hk, by omega⟩) (fun k _ hl => Below.heap_alloc _ _ _ hl)
    have HFK := Lib.hid (And.intro hfk (And.intro hfr hks5))
    have HA := Lib.hid hacc
    clear hfk hfr hks5 hacc kc0 kc1 kc2 kc3 kc4
    obtain ⟨w4, hw4⟩ : ∃ w4, w3.alloc (.cells #[.int .i64 (codeZ kf.cs), .slice an (nodesOf kf.ns).length cn, .int .i64 (stripeOf kf.st), .bool (stripeIs kf.st), .string ⟨kf.tx.toArray⟩] 48) = w4 := ⟨_, rfl⟩
    rw [hw4] at HA ⊢
    clear hw4
    go_loopg [14, 66] (m - f) (fun q s14 s66 wx => ∃ (j : Nat) (js : List GK), s66 = .int .i64 j ∧ j ≤ m - f ∧ q = m - f - j ∧ Hid (js = kf :: jr.take j) ∧ Hid (Acc w3 (.slice (some ⟨g4, 0, none⟩) (m + 1) c4) (.slice (some ⟨g5, 0, none⟩) (m + 1) c5) wx (codeZ (js.map (·.cs)).flatten) (js.map fun z => nodesOf z.ns).flatten (stripeOf (js.map (·.st)).flatten) (stripeIs (js.map (·.st)).flatten) (tAll (js.map (·.tx)))))
    case atStart => exact ⟨0, [kf], rfl, Nat.zero_le _, rfl, Lib.hid rfl, Lib.hid (by simpa [tAll] using HA.out)⟩
    case round =>
      obtain ⟨j, js, rfl, hj1, rfl, HJS, HAC⟩ := hrel
      by_cases hjlt : j < m - f
      · have hqj : (j : Int) < ((m - f : Nat) : Int) := by omega
        obtain ⟨x, hx⟩ : ∃ x, jr[j]? = some x := ⟨_, List.getElem?_eq_getElem (by omega)⟩
        have hc5 := HFK.out.2.2 wr (HAC.out.below) j x hx
        obtain ⟨ax, cx, hkx⟩ := own_form (H3.out.1.fits x (HFK.out.2.1 x (List.mem_of_getElem? hx))).nod.1
        have kx0 : wr.cell? ⟨g5, (f + 1) * 5 + j * 5, none⟩ = some (.int .i64 (codeZ x.cs)) := hc5 0 (by omega)
        have kx1 : wr.cell? ⟨g5, (f + 1) * 5 + j * 5 + 1, none⟩ = some (.slice ax (nodesOf x.ns).length cx) := by rw [← hkx]; exact hc5 1 (by omega)
        have kx2 : wr.cell? ⟨g5, (f + 1) * 5 + j * 5 + 2, none⟩ = some (.int .i64 (stripeOf x.st)) := hc5 2 (by omega)
        have kx3 : wr.cell? ⟨g5, (f + 1) * 5 + j * 5 + 3, none⟩ = some (.bool (stripeIs x.st)) := hc5 3 (by omega)
        have kx4 : wr.cell? ⟨g5, (f + 1) * 5 + j * 5 + 4, none⟩ = some (.string ⟨x.tx.toArray⟩) := hc5 4 (by omega)
        have HX := Lib.hid (And.intro hx hkx)
        clear hx hkx hc5
        go_wp2_with (with_reducible refine halt_alloc (.cells #[.int .i64 (codeZ x.cs), .slice ax (nodesOf x.ns).length cx, .int .i64 (stripeOf x.st), .bool (stripeIs x.st), .string ⟨x.tx.toArray⟩] 48) ?_)
        have hmid : Mid w3 (.slice (some ⟨g4, 0, none⟩) (m + 1) c4) (.slice (some ⟨g5, 0, none⟩) (m + 1) c5) wr.heap.size x (wr.alloc (.cells #[.int .i64 (codeZ x.cs), .slice ax (nodesOf x.ns).length cx, .int .i64 (stripeOf x.st), .bool (stripeIs x.st), .string ⟨x.tx.toArray⟩] 48)) _ _ _ _ _ := ⟨HAC.out.more (alloc_below _ _), HAC.out.lt, by rw [heap_new, ← HX.out.2]; rfl⟩
        clear kx0 kx1 kx2 kx3 kx4
        obtain ⟨v1, hv1⟩ : ∃ v1, wr.alloc (.cells #[.int .i64 (codeZ x.cs), .slice ax (nodesOf x.ns).length cx, .int .i64 (stripeOf x.st), .bool (stripeIs x.st), .string ⟨x.tx.toArray⟩] 48) = v1 := ⟨_, rfl⟩
        obtain ⟨b, hb⟩ : ∃ b, wr.heap.size = b := ⟨_, rfl⟩
        rw [hv1, hb] at hmid
        rw [hv1, hb]
        clear hv1 hb
        have HM1 := Lib.hid hmid
        have e0 := hmid.acc.cells.1
        have e1 := hmid.acc.cells.2.2.2.2.2 0
        have e2 := hmid.cells.1
        clear hmid
        unfold Halt
        go_upto_if 72 with fail
        go_cut [] from 67 to 100 (fun wx => Hid (Mid w3 (.slice (some ⟨g4, 0, none⟩) (m + 1) c4) (.slice (some ⟨g5, 0, none⟩) (m + 1) c5) b x wx (codeZ ((js ++ [x]).map (·.cs)).flatten) (js.map fun z => nodesOf z.ns).flatten (stripeOf (js.map (·.st)).flatten) (stripeIs (js.map (·.st)).flatten) (tAll (js.map (·.tx)))))
        case first =>
          have hcd : ∀ c ∈ (js.map (·.cs)).flatten, 1 ≤ c := by
            intro c hc
            obtain ⟨l, hl, hcl⟩ := List.mem_flatten.1 hc
            obtain ⟨z, hz, rfl⟩ := List.mem_map.1 hl
            rw [HJS.out] at hz
            have hzk : z ∈ ks := by
              rcases List.mem_cons.1 hz with hz | hz
              · rw [hz]; exact HFK.out.1
              · exact HFK.out.2.1 z (List.mem_of_mem_take hz)
            exact ((H3.out.1.fits z hzk).cod c hcl).1
          have hcode := acc_code js x hcd
          clear hcd
          by_cases hz : codeZ (js.map (·.cs)).flatten = 0
          · rw [if_pos hz] at hcode
            have HC := Lib.hid hcode
            clear hcode
            go_wp2_with fail
            go_meet
            case rel => exact Lib.hid (by rw [HC.out]; exact HM1.out.other (HM1.out.acc.put 0 _ (fun v => rfl)))
          · rw [if_neg hz] at hcode
            have HC := Lib.hid hcode
            clear hcode
            go_wp2_with fail
            go_meet
            case rel => exact Lib.hid (by rw [HC.out]; exact HM1.out)
        case rest =>
          have hpe := piece_eq HJ.out.1 HJS.out HX.out.1
          have hpn := Nat.le_trans (piece_nod hpe.2) HG.out.nod
          rw [acc_nodes, List.length_append] at hpn
          have hcut' := hcut.out
          obtain ⟨NJ, hNJ⟩ : ∃ NJ, (js.map fun z => nodesOf z.ns).flatten = NJ := ⟨_, rfl⟩
          rw [hNJ] at hcut' hpn
          have HM2 := Lib.hid hcut'
          have HPE := Lib.hid (And.intro hpe hNJ)
          clear hcut hcut' e0 e1 e2 hpe hNJ
          obtain ⟨e0, ⟨an2, cn2, e3, hnod⟩, _⟩ := HM2.out.acc.cells
          have e1 := HM2.out.acc.cells.2.2.2.2.2 1
          have e2 := HM2.out.cells.2.1
          rw [HX.out.2] at e2
          have hl1 := HM2.out.acc.lt
          have hl2 := heap_lt HM2.out.xlk
          have hxn := (H3.out.1.more (HM2.out.acc.below)).fits x (HFK.out.2.1 x (List.mem_of_getElem? HX.out.1)) |>.nod
          rw [HX.out.2] at hxn
          have HNOD := Lib.hid (And.intro hnod hxn)
          clear hnod hxn
          go_upto_region 17 with fail
          go_cut [] from 67 to 100 (fun wx => Hid (Mid w3 (.slice (some ⟨g4, 0, none⟩) (m + 1) c4) (.slice (some ⟨g5, 0, none⟩) (m + 1) c5) b x wx (codeZ ((js ++ [x]).map (·.cs)).flatten) (NJ ++ nodesOf x.ns) (stripeOf (js.map (·.st)).flatten) (stripeIs (js.map (·.st)).flatten) (tAll (js.map (·.tx)))))
          case first =>
            have hmx1 : NJ.length + (nodesOf x.ns).length ≤ maxLen := by unfold maxLen; omega
            have hmx2 : (NJ.length + (nodesOf x.ns).length) * 8 ≤ 140737488355328 := by omega
            go_region_law (first | (refine step_append_row _ rfl (.tmp 76) (.tmp 78) 44 rfl wc.heap.size 3 p0 (.int .i64 0) 1 8 Tryd.underlying44 hp hq0 hq1 hq2 rfl (by decide) _ 0 [] rfl (made_empty wc) _ 0 NJ.length (NJ.map (Value.int .i64)) rfl (owns_alloc HNOD.out.1.1 _) (ints_oneCell _ _) (by unfold maxLen; omega) (by omega) (by simp) ?_; intro v8 w8 ho8 hg8 hs8; rw [Nat.zero_add, List.nil_append] at ho8; obtain ⟨a8, c8, rfl⟩ := own_form ho8; have hb8 := app_first hg8; have H8 := Lib.hid (And.intro hb8 ho8); have e4 := (hb8.cell (p := ⟨w3.heap.size, 1, none⟩) hl1).trans e3; have e5 := (hb8.cell (p := ⟨b, 1, none⟩) hl2).trans e2; have e6 := (hb8.frozen (p := ⟨w3.heap.size, 1, none⟩) hl1).trans e1; clear ho8 hg8 hs8 hb8) | (refine step_append_row _ rfl (.tmp 79) (.tmp 81) 44 rfl wc.heap.size 3 p0 (.int .i64 0) 1 8 Tryd.underlying44 hp hq0 hq1 hq2 rfl (by decide) _ NJ.length _ rfl H8.out.2 _ 0 (nodesOf x.ns).length ((nodesOf x.ns).map (Value.int .i64)) rfl (owns_low HNOD.out.2.1 H8.out.1) (ints_oneCell _ _) hmx1 hmx2 H8.out.1.size ?_; intro v9 w9 ho9 hg9 hs9; obtain ⟨a9, c9, rfl⟩ := own_form ho9; have hb9 := app_second H8.out.1 H8.out.2 hg9; have H9 := Lib.hid (And.intro hb9 ho9); have e7 := (hb9.cell (p := ⟨w3.heap.size, 1, none⟩) hl1).trans e3; have e8 := (hb9.cell (p := ⟨b, 1, none⟩) hl2).trans e2; have e9 := (hb9.frozen (p := ⟨w3.heap.size, 1, none⟩) hl1).trans e1; clear ho9 hg9 hs9 hb9))
            all_goals
              go_wp2_with fail
              go_meet
              case rel => exact Lib.hid ((HM2.out.more H9.out.1).other ((HM2.out.more H9.out.1).acc.nodes (H3.out.1.nodQ hl1 H9.out.2 (by simp))))
          case rest =>
            have hcut2 := hcut.out
            obtain ⟨sb, hsb⟩ : ∃ sb, stripeIs (js.map (·.st)).flatten = sb := ⟨_, rfl⟩
            rw [hsb] at hcut2
            have HM3 := Lib.hid hcut2
            have HSB := Lib.hid hsb
            clear hcut hcut2 hsb e0 e1 e2 e3 hl1 hl2
            have e0 := HM3.out.acc.cells.2.2.2.1
            have e1 := HM3.out.acc.cells.2.2.2.2.2 2
            have e2 := HM3.out.cells.2.2.1
            have e3 := HM3.out.acc.cells.2.2.1
            go_upto_if 86 with fail
            go_cut [] from 67 to 100 (fun wx => Hid (Mid w3 (.slice (some ⟨g4, 0, none⟩) (m + 1) c4) (.slice (some ⟨g5, 0, none⟩) (m + 1) c5) b x wx (codeZ ((js ++ [x]).map (·.cs)).flatten) (NJ ++ nodesOf x.ns) (stripeOf ((js ++ [x]).map (·.st)).flatten) (stripeIs ((js ++ [x]).map (·.st)).flatten) (tAll (js.map (·.tx)))))
            case first =>
              have hst := acc_st js x
              rw [HSB.out] at hst
              rcases Bool.eq_false_or_eq_true sb with rfl | rfl
              · rw [if_pos rfl, Bool.true_or] at hst
                have HC := Lib.hid hst
                clear hst
                go_wp2_with fail
                go_meet
                case rel => exact Lib.hid (by rw [HC.out.1, HC.out.2]; exact HM3.out)
              · rw [if_neg (by decide), Bool.false_or] at hst
                have HC := Lib.hid hst
                clear hst
                go_wp2_with (with_reducible refine halt_set ?_)
                have hm4 := HM3.out.other (HM3.out.acc.put 2 (.int .i64 (stripeOf x.st)) (fun v => rfl))
                obtain ⟨v4, hv4⟩ : ∃ v4, (wc.setCell ⟨w3.heap.size, 2, none⟩ (.int .i64 (stripeOf x.st))) = v4 := ⟨_, rfl⟩
                rw [hv4] at hm4 ⊢
                clear hv4 e0 e1 e2 e3
                have e0 := hm4.acc.cells.2.2.2.1
                have e1 := hm4.acc.cells.2.2.2.2.2 3
                have e2 := hm4.cells.2.2.2.1
                have HM4 := Lib.hid hm4
                clear hm4
                unfold Halt
                go_wp2_with fail
                go_meet
                case rel => exact Lib.hid (by rw [HC.out.1, HC.out.2]; exact HM4.out.other (HM4.out.acc.put 3 (.bool (stripeIs x.st)) (fun v => rfl)))
            case rest =>
              have hcut' := hcut.out
              have hpt := piece_tx HPE.out.1.2 (by simp)
              have htx := acc_tx js x (by rw [HJS.out]; simp)
              obtain ⟨TJ, hTJ⟩ : ∃ TJ, tAll (js.map (·.tx)) = TJ := ⟨_, rfl⟩
              rw [hTJ] at htx hcut'
              rw [htx] at hpt
              have htl : TJ.length + 2 + x.tx.length ≤ 600 := by
                have h1 := HG.out.txt
                have h2 := HG.out.len
                simp at hpt
                omega
              have HTX := Lib.hid htx
              have HM5' := Lib.hid hcut'
              clear hcut hcut' e0 e1 e2 e3 hpt hTJ htx
              have e0 := HM5'.out.acc.cells.2.2.2.2.1
              have e1 := HM5'.out.acc.cells.2.2.2.2.2 4
              have e2 := HM5'.out.cells.2.2.2.2
              have hstr : (⟨TJ.toArray⟩ ++ ⟨#[59, 32]⟩ ++ ⟨x.tx.toArray⟩ : ByteArray) = ⟨(TJ ++ [59, 32] ++ x.tx).toArray⟩ := ByteArray.ext (by simp [ByteArray.data_append])
              go_wp2_with fail
              go_roundg (m - f - (j + 1))
              case measure => omega
              case rel =>
                refine ⟨j + 1, js ++ [x], by go_num, by omega, by omega, Lib.hid HPE.out.1.1, Lib.hid ?_⟩
                rw [acc_nodes, HPE.out.2, HTX.out, show TJ ++ [59, 32] ++ x.tx = TJ ++ 59 :: 32 :: x.tx by simp]
                exact HM5'.out.acc.put 4 _ (fun v => rfl)
      · have hjd : js = ks.drop f := by rw [HJS.out, HJ.out.1, List.take_of_length_le (by rw [HJ.out.2.1]; omega)]
        have hqj : ¬ (j : Int) < ((m - f : Nat) : Int) := by omega
        have hjm : j = m - f := by omega
        subst hjm
        have hacw := HAC.out
        rw [hjd] at hacw
        obtain ⟨CD, hCD⟩ : ∃ CD, codeZ ((ks.drop f).map (·.cs)).flatten = CD := ⟨_, rfl⟩
        obtain ⟨ND, hND⟩ : ∃ ND, ((ks.drop f).map fun z => nodesOf z.ns).flatten = ND := ⟨_, rfl⟩
        obtain ⟨SP, hSP⟩ : ∃ SP, stripeOf ((ks.drop f).map (·.st)).flatten = SP := ⟨_, rfl⟩
        obtain ⟨SB, hSB⟩ : ∃ SB, stripeIs ((ks.drop f).map (·.st)).flatten = SB := ⟨_, rfl⟩
        obtain ⟨TX, hTX⟩ : ∃ TX, tAll ((ks.drop f).map (·.tx)) = TX := ⟨_, rfl⟩
        rw [hCD, hND, hSP, hSB, hTX] at hacw
        have HQ := Lib.hid (And.intro hCD (And.intro hND (And.intro hSP (And.intro hSB hTX))))
        clear hCD hND hSP hSB hTX
        obtain ⟨f0, ⟨an3, cn3, f1, hnod⟩, f2, f3, f4, _⟩ := hacw.cells
        have HAW := Lib.hid (And.intro hacw hnod)
        have h2 := H3.out.1.more hacw.below
        have HT2 := Lib.hid h2
        clear hacw hnod h2 hjd HAC
        go_wp2_with (at_builtin; refine wpList_append_full _ rfl (.tmp 104) (.tmp 106) 29 rfl 24 i0 .nilIface 1 16 Tryd.underlying29 hi hz0 hz1 hz2 rfl (by decide) ⟨g4, 0, none⟩ f f (VS.take f) rfl ?r1 (owns_front (owns_alloc HT2.out.own4 _)) ⟨wr.heap.size, 0, none⟩ 1 1 [.iface jt jx] rfl rfl (World.news_of_block (heap_new _ _)) (by omega) ?r2 ?r3 ?_)
        case r1 => rw [List.length_take, HV.out.2]; omega
        case r2 => unfold maxLen; omega
        case r3 => omega
        intro v5 w5 ho5 hg5
        obtain ⟨g8, c8, rfl, hge8, _⟩ := ho5.form (by omega)
        have hb5 : Below wr.heap.size wr w5 := grown_low hg5
        have h5 := (HT2.out.more (alloc_below wr _)).app4 (owns_base ho5 (Nat.le_trans HT2.out.size (by simp))) (grownBy_weaker hg5 _) (.inr ⟨g8, rfl, by simpa using hge8⟩)
        have i0' := (hb5.cell (p := ⟨w3.heap.size, 0, none⟩) HAW.out.1.lt).trans f0
        have i1' := (hb5.cell (p := ⟨w3.heap.size, 1, none⟩) HAW.out.1.lt).trans f1
        have i2' := (hb5.cell (p := ⟨w3.heap.size, 2, none⟩) HAW.out.1.lt).trans f2
        have i3' := (hb5.cell (p := ⟨w3.heap.size, 3, none⟩) HAW.out.1.lt).trans f3
        have i4' := (hb5.cell (p := ⟨w3.heap.size, 4, none⟩) HAW.out.1.lt).trans f4
        have H5 := Lib.hid (And.intro h5 (And.intro hb5 hge8))
        clear ho5 hg5 h5 hb5 f0 f1 f2 f3 f4 hge8
        go_wp2_with fail
        have hfc5 : f ≤ c5 := by omega
        have hr4 : (CL.take (f * 5)).length = f * 5 := by rw [take_flat5 HJ.out.2.2.1 HJ.out.2.2.2]; exact HJ.out.2.2.2
        have hr5 : f + 1 ≤ maxLen := by unfold maxLen; omega
        have hr6 : (f + 1) * 64 ≤ 140737488355328 := by omega
        have HR4 := Lib.hid hr4
        clear hr4
        go_region_law (first | (refine step_append_full _ rfl (.tmp 111) (.tmp 113) 82 rfl 48 j0 _ 5 64 Tryd.underlying82 hj hy0 hy1 hy2 rfl (by decide) ⟨g5, 0, none⟩ f f (CL.take (f * 5)) rfl HR4.out (owns_front (owns_alloc H5.out.1.own5 _)) ⟨w5.heap.size, 0, none⟩ 1 1 [_, _, _, _, _] rfl rfl (World.news_of_block (heap_new _ _)) (by omega) hr5 hr6 ?_; intro v6 w6 ho6 hg6; obtain ⟨g9, c9, rfl, hge9, _⟩ := ho6.form (by omega); have H6 := Lib.hid (And.intro ho6 (And.intro hg6 hge9)); clear ho6 hg6 hge9))
        have hb6 : Below w5.heap.size w5 w6 := grown_low (grown_drew H6.out.2.1)
        have hge9 : w5.heap.size + 1 ≤ g9 := by simpa using H6.out.2.2
        have hge8 : wr.heap.size + 1 ≤ g8 := by simpa using H5.out.2.2
        have hsz5 := H5.out.2.1.size
        have h6 := (H5.out.1.more (alloc_below w5 _)).app5 (owns_base H6.out.1 (Nat.le_trans H5.out.1.size (by simp))) (grownBy_weaker (grown_drew H6.out.2.1) _) (.inr ⟨g9, rfl, by simpa using hge9⟩)
        have hl := Acc.last (w6 := w6) (s4' := .slice (some ⟨g8, 0, none⟩) (f + 1) c8) (s5' := .slice (some ⟨g9, 0, none⟩) (f + 1) c9) H3.out.1 H3.out.2.2.1 H3.out.2.2.2.1 H3.out.2.2.2.2.1 H3.out.2.2.2.2.2 HAW.out.1.below (H5.out.2.1.trans (hb6.mono hsz5)) (by rw [HQ.out.2.1]; exact HAW.out.2)
          (fun k hk _ => ⟨fun e => by have e' : g8 = k := Option.some.inj e; omega, fun e => by have e' : g9 = k := Option.some.inj e; omega⟩)
        have hp := GrowP.joined HJ.out.1 HM.out.1 hfm hfp (h6.kids (d' := d + 1) (ks' := ks.take f ++ [_]) (fun z hz => by
            rcases List.mem_append.1 hz with hz | hz
            · exact hl.2 z (List.mem_of_mem_take hz)
            · rw [List.mem_singleton.1 hz]; exact hl.1))
          (by rw [← HM.out.2.1, List.map_take]) (by rw [take_flat5 HJ.out.2.2.1 HJ.out.2.2.2, ← HQ.out.1, ← HQ.out.2.2.1, ← HQ.out.2.2.2.1, ← HQ.out.2.2.2.2]; rfl) (by rw [← HJ.out.1]; exact H3.out.2.2.1) (by rw [← HJ.out.1]) HG.out.nod HG.out.txt hl25
        have HP := Lib.hid hp
        clear hp hl h6 hb6 hge9 hge8 hsz5 i0' i1' i2' i3' i4' hr5 hr6
        go_wp2_with fail
        exact HK.out _ _ ⟨_, _, _, _, _, _, _, _, _, _, _, _, _, _, _, _, _, _, _, _, _, _, _, _, _, _, _, _, _, _, _, _, _, _, _, _, _, _, _, _, _, _, _, _, _, _, _, _, _, _, _, _, _, _, _, _, _, _, _, _, _, _, _, _, _, _, _, _, _, _, _, _, _, _, _, _, _, _, _, _, _, _, _, _, _, _, _, _, _, _, _, _, _, _, _, _, _, _, _, _, _, _, _, _, _, _, _, _, _, _, _, _, _, _, _, _, _, _, _, _, _, _, _, _, _, _, _, _, _, _, _, _, _, _, _, _, _, _, _, _, _, _, _, _, _, _, _, _, _, _, _, _, _, _, _, _, _, _, _, _, _, _, _, _, _, _, _, _, _, _, _, _, _, _, _, _, _, _, _, _, _, _, _, _, _, _, _, _, _, _, _, _, _, _, _, _, _, _, _, _, _, _, _, _, _, _, _, _, _, _, _, _, _, ⟨_, _, HP⟩, rfl⟩
end Go.Proofs.YtbifpjdkljibeaaDoor
