import Derived.Test.YtfhlipalfebfaaaX3
namespace Go.Proofs.Ytfhlipalfebfaaa
open Go.RowKit Go.Sort

set_option maxHeartbeats 8000000 in
set_option maxRecDepth 1000000 in
theorem popArm {ha i j : Nat} {id kk wt : Int} {F : List Nat} {S : List It} {av : Option Addr} {cv : Nat} {w w3 : World} {x0 x1 x2 x3 x4 x8 x12 x14 x15 x16 x17 x18 x19 x20 x21 x22 x23 x24 x25 x26 x27 x28 x29 x30 x31 x32 x33 x34 x35 x36 x37 x38 x39 x40 x41 x42 x43 x44 x45 x46 x47 x48 x49 x50 x51 x52 x53 x54 x55 x56 x57 x58 x59 x60 x61 x62 x63 x64 x65 x66 x67 x68 x69 x70 x71 x72 x73 x74 x75 x76 x77 x78 x79 x80 x81 x82 x83 x84 x85 x86 x87 x88 x89 x90 x91 x92 x93 x94 x95 x96 x97 x98 x99 x100 x101 x102 x103 x104 x105 x106 x107 x108 x109 x110 x111 x112 x113 x114 x115 x116 x117 x118 x119 x120 x121 x122 x123 x124 x125 x126 x127 x128 x129 x130 x131 x132 x133 x134 x135 x136 x137 x138 x139 x140 x141 x142 x143 x144 x145 x146 x147 x148 x149 x150 x151 x152 x153 x154 x155 x156 x157 x158 x159 x160 x161 x162 x163 x164 x165 x166 x167 x168 x169 x170 x171 x172 x173 x174 x175 x176 x177 x178 x179 x180 x181 x182 x183 x184 x185 x186 x187 x188 x189 x190 x191 x192 x193 x194 x195 x196 x197 x198 x199 x200 x201 x202 x203 x204 x205 x206 x207 x208 x209 x210 x211 x212 x213 x214 x215 x216 x217 x218 x219 x220 x11 : Value} {J K' K4 K5 K6 : Act → World → Prop}
    (HB : Hid (Both ha w w3 ha F S (.slice av S.length cv))) (HL : Hid (S.length ≤ i)) (hS80 : S.length < 80) (id0 : 0 ≤ id) (id1 : id < 15) (HKK : Hid (I64 kk)) (wt0 : 0 ≤ wt) (h4 : ¬ wt < 4) (h6 : wt < 6) 
    (h1 : ∀ (a' : Act) (w' : World), (∃ u4 u6 u13 u14 u15 u29 u30 u31 u32 u33 u34 u35 u36 u37 u38 u39 u40 u41 u42 u43 u44 u45 u46 u47 u48 u49 u50 u51 u52 u53 u54 u55 u56 u57 u58 u59 u60 u61 u62 u63 u64 u65 u66 u67 u68 u69 u70 u71 u72 u73 u74 u75 u76 u77 u78 u79 u80 u81 u82 u83 u84 u85 u86 u87 u88 u89 u90 u91 u92 u93 u94 u95 u96 u97 u98 u99 u100 u101 u102 u103 u104 u105 u106 u107 u108 u109 u110 u111 u112 u113 u114 u115 u116 u117 u118 u119 u120 u121 u122 u123 u124 u125 u126 u127 u128 u129 u130 u131 u132 u133 u134 u135 u136 u137 u138 u139 u140 u141 u142 u143 u144 u145 u146 u147 u148 u149 u150 u151 u152 u153 u154 u155 u156 u157 u158 u159 u160 u161 u162 u163 u164 u165 u166 u167 u168 u169 u170 u171 u172 u173 u174 u175 u176 u177 u178 u179 u180 u181 u182 u183 u184 u185 u186 u187 u188 u189 u190 u191 u192 u193 u194 u195 u196 u197 u198 u199 u200 u201 u202 u203 u204 u205 u206 u207 u208 u209 u210 u211 u212 u213 u214 u215 u216 u217 u218 u219 u220 : Value, (∃ (F' : List Nat) (S' : List It) (av' : Option Addr) (cv' : Nat), u6 = Value.slice av' S'.length cv' ∧ Hid (S'.length ≤ i + 1) ∧ Hid (Both ha w w' ha F' S' (Value.slice av' S'.length cv'))) ∧ a' = ⟨#[x0, x1, x2, x3, u4, Value.pointer (some ⟨ha, 0, none⟩), u6, Value.int .i64 (i : Int), x8, Value.int .i64 id, Value.int .i64 kk, x11, x12, u13, u14, u15, x16, x17, x18, x19, x20, x21, x22, x23, x24, x25, x26, x27, x28, u29, u30, u31, u32, u33, u34, u35, u36, u37, u38, u39, u40, u41, u42, u43, u44, u45, u46, u47, u48, u49, u50, u51, u52, u53, u54, u55, u56, u57, u58, u59, u60, u61, u62, u63, u64, u65, u66, u67, u68, u69, u70, u71, u72, u73, u74, u75, u76, u77, u78, u79, u80, u81, u82, u83, u84, u85, u86, u87, u88, u89, u90, u91, u92, u93, u94, u95, u96, u97, u98, u99, u100, u101, u102, u103, u104, u105, u106, u107, u108, u109, u110, u111, u112, u113, u114, u115, u116, u117, u118, u119, u120, u121, u122, u123, u124, u125, u126, u127, u128, u129, u130, u131, u132, u133, u134, u135, u136, u137, u138, u139, u140, u141, u142, u143, u144, u145, u146, u147, u148, u149, u150, u151, u152, u153, u154, u155, u156, u157, u158, u159, u160, u161, u162, u163, u164, u165, u166, u167, u168, u169, u170, u171, u172, u173, u174, u175, u176, u177, u178, u179, u180, u181, u182, u183, u184, u185, u186, u187, u188, u189, u190, u191, u192, u193, u194, u195, u196, u197, u198, u199, u200, u201, u202, u203, u204, u205, u206, u207, u208, u209, u210, u211, u212, u213, u214, u215, u216, u217, u218, u219, u220], []⟩) → J a' w')
    (h2 : ∀ (a' : Act) (w' : World), Met J a' w' → K' a' w') :
    Code.wp Try.prog blk4 (Exit.then K' (Exit.inBlock 1 (Exit.then K4 (Exit.then K5 (Exit.inBlock 0 (Exit.then K6 (bodyPost Try.prog Try.f4 fun e w' => e = .returned (.bool true) ∧ Below w.heap.size w w'))))))) ⟨#[x0, x1, x2, x3, x4, Value.pointer (some ⟨ha, 0, none⟩), Value.slice av S.length cv, Value.int .i64 (i : Int), x8, Value.int .i64 id, Value.int .i64 kk, x11, x12, Value.int .i64 wt, x14, x15, x16, x17, x18, x19, x20, x21, x22, x23, x24, x25, x26, x27, x28, x29, x30, x31, x32, x33, x34, x35, x36, x37, x38, x39, x40, x41, x42, x43, x44, x45, x46, x47, x48, x49, x50, x51, x52, x53, x54, x55, x56, x57, x58, x59, x60, x61, x62, x63, x64, x65, x66, x67, x68, x69, x70, x71, x72, x73, x74, x75, x76, x77, x78, x79, x80, x81, x82, x83, x84, x85, x86, x87, x88, x89, x90, x91, x92, x93, x94, x95, x96, x97, x98, x99, x100, x101, x102, x103, x104, x105, x106, x107, x108, x109, x110, x111, x112, x113, x114, x115, x116, x117, x118, x119, x120, x121, x122, x123, x124, x125, x126, x127, x128, x129, x130, x131, x132, x133, x134, x135, x136, x137, x138, x139, x140, x141, x142, x143, x144, x145, x146, x147, x148, x149, x150, x151, x152, x153, x154, x155, x156, x157, x158, x159, x160, x161, x162, x163, x164, x165, x166, x167, x168, x169, x170, x171, x172, x173, x174, x175, x176, x177, x178, x179, x180, x181, x182, x183, x184, x185, x186, x187, x188, x189, x190, x191, x192, x193, x194, x195, x196, x197, x198, x199, x200, x201, x202, x203, x204, x205, x206, x207, x208, x209, x210, x211, x212, x213, x214, x215, x216, x217, x218, x219, x220], []⟩ w3 := by
  obtain ⟨i0, hi0, hz0, hz1, hz2⟩ := info_parts info26
  conv => arg 2; whnf
  have q := eqlItem
  by_cases hp : 0 < S.length
  · obtain ⟨av', cv', e, hcl, _, _, hcell⟩ := HB.out.sl
    cases e
    obtain ⟨g', o', rfl, hgF, hg', hcs⟩ := hcell hp
    have y0 := (hcs 0 hp).1
    have y1 := (hcs 0 hp).2
    have HH := Lib.hid (hd_pos hp)
    revert y0 y1 HH
    generalize at' S 0 = p0
    obtain ⟨p1, p2⟩ := p0
    intro y0 y1 HH
    rw [Nat.zero_mul, Nat.add_zero] at y0 y1
    dsimp only at y0 y1
    have qp : (0 : Int) < (S.length : Int) := by omega
    have hc1 : 1 ≤ cv := by omega
    have hs1 : 1 ≤ S.length := by omega
    clear hcs hcell
    go_wp2_with fail
    refine (pop1 ha F S S.tail p1 p2 true _ HB.out.st.heap rfl HH.out).mono ?_
    rintro e w7 ⟨rfl, F7, i7, s7⟩
    dsimp only
    have z0 := (s7.turn.cell hg' hgF).trans y0
    have z1 := (s7.turn.cell hg' hgF).trans y1
    have hg7 := Nat.lt_of_lt_of_le hg' s7.turn.size
    have HB7 : Hid (Both ha w w7 ha F7 S.tail (.slice (some ⟨g', o' + 2, none⟩) S.tail.length (cv - 1)) ∧ (cv = 1 → Both ha w w7 ha F7 S.tail (.slice (some ⟨g', o', none⟩) S.tail.length (cv - 1)))) :=
      Lib.hid ⟨⟨HB.out.st.step i7 s7, (HB.out.sl.step s7).tail hp (Or.inl rfl)⟩, fun h => ⟨HB.out.st.step i7 s7, (HB.out.sl.step s7).tail hp (Or.inr (by omega))⟩⟩
    clear i7 s7 y0 y1 hg' hgF HB
    by_cases hcv : cv = 1
    · subst hcv
      go_wp2_with fail
      go_big_quiet (fail)
      go_wp2_with fail
      go_meet
      case rel => exact ⟨F7, S.tail, _, _, by rw [List.length_tail, show S.length - 1 = 0 by omega], Lib.hid (by rw [List.length_tail]; have := HL.out; omega), Lib.hid (((HB7.out.2 (by first | exact trivial | rfl)).of ((Below.refl _ _).alloc (Nat.le_refl _) _)).of (below_drewN _ _))⟩
    · have hcv' : ¬ 1 = cv := by omega
      go_wp2_with fail
      go_big_quiet (fail)
      go_wp2_with fail
      go_meet
      case rel => exact ⟨F7, S.tail, _, _, by rw [List.length_tail], Lib.hid (by rw [List.length_tail]; have := HL.out; omega), Lib.hid ((HB7.out.1.of ((Below.refl _ _).alloc (Nat.le_refl _) _)).of (below_drewN _ _))⟩
  · have HS0 : Hid (S.length = 0) := Lib.hid (by omega)
    have HH := Lib.hid (hd_zero HS0.out)
    have qp : ¬ (0 : Int) < (S.length : Int) := by omega
    go_wp2_with fail
    refine (pop1 ha F S S 0 0 false _ HB.out.st.heap (by rw [List.eq_nil_of_length_eq_zero HS0.out]; rfl) HH.out).mono ?_
    rintro e w7 ⟨rfl, F7, i7, s7⟩
    dsimp only
    have HB7 : Hid (Both ha w w7 ha F7 S (.slice av S.length cv)) := Lib.hid ⟨HB.out.st.step i7 s7, HB.out.sl.step s7⟩
    clear i7 s7 HB
    go_wp2_with fail
    go_big_quiet (fail)
    go_wp2_with fail
    go_meet
    case rel => exact ⟨F7, S, _, _, rfl, Lib.hid (by have := HL.out; omega), Lib.hid ((HB7.out.of ((Below.refl _ _).alloc (Nat.le_refl _) _)).of (below_drewN _ _))⟩
end Go.Proofs.Ytfhlipalfebfaaa
