import Derived.Test.YtfhlipalfebfaaaX3
namespace Go.Proofs.Ytfhlipalfebfaaa
open Go.RowKit Go.Sort

set_option maxHeartbeats 8000000 in
set_option maxRecDepth 1000000 in
theorem dropArm {ha i j : Nat} {id kk wt : Int} {F : List Nat} {S : List It} {av : Option Addr} {cv : Nat} {w w3 : World} {x0 x1 x2 x3 x4 x8 x12 x14 x15 x16 x17 x18 x19 x20 x21 x22 x23 x24 x25 x26 x27 x28 x29 x30 x31 x32 x33 x34 x35 x36 x37 x38 x39 x40 x41 x42 x43 x44 x45 x46 x47 x48 x49 x50 x51 x52 x53 x54 x55 x56 x57 x58 x59 x60 x61 x62 x63 x64 x65 x66 x67 x68 x69 x70 x71 x72 x73 x74 x75 x76 x77 x78 x79 x80 x81 x82 x83 x84 x85 x86 x87 x88 x89 x90 x91 x92 x93 x94 x95 x96 x97 x98 x99 x100 x101 x102 x103 x104 x105 x106 x107 x108 x109 x110 x111 x112 x113 x114 x115 x116 x117 x118 x119 x120 x121 x122 x123 x124 x125 x126 x127 x128 x129 x130 x131 x132 x133 x134 x135 x136 x137 x138 x139 x140 x141 x142 x143 x144 x145 x146 x147 x148 x149 x150 x151 x152 x153 x154 x155 x156 x157 x158 x159 x160 x161 x162 x163 x164 x165 x166 x167 x168 x169 x170 x171 x172 x173 x174 x175 x176 x177 x178 x179 x180 x181 x182 x183 x184 x185 x186 x187 x188 x189 x190 x191 x192 x193 x194 x195 x196 x197 x198 x199 x200 x201 x202 x203 x204 x205 x206 x207 x208 x209 x210 x211 x212 x213 x214 x215 x216 x217 x218 x219 x220 : Value} {J K' K4 K5 K6 : Act → World → Prop}
    (HB : Hid (Both ha w w3 ha F S (.slice av S.length cv))) (HL : Hid (S.length ≤ i)) (hS80 : S.length < 80) (id0 : 0 ≤ id) (id1 : id < 15) (HKK : Hid (I64 kk)) (h6 : ¬ wt < 6) (wt1 : wt < 7) (hj : j < S.length) (hjd : (at' S j).1 = id)
    (h1 : ∀ (a' : Act) (w' : World), (∃ u4 u6 u13 u14 u15 u29 u30 u31 u32 u33 u34 u35 u36 u37 u38 u39 u40 u41 u42 u43 u44 u45 u46 u47 u48 u49 u50 u51 u52 u53 u54 u55 u56 u57 u58 u59 u60 u61 u62 u63 u64 u65 u66 u67 u68 u69 u70 u71 u72 u73 u74 u75 u76 u77 u78 u79 u80 u81 u82 u83 u84 u85 u86 u87 u88 u89 u90 u91 u92 u93 u94 u95 u96 u97 u98 u99 u100 u101 u102 u103 u104 u105 u106 u107 u108 u109 u110 u111 u112 u113 u114 u115 u116 u117 u118 u119 u120 u121 u122 u123 u124 u125 u126 u127 u128 u129 u130 u131 u132 u133 u134 u135 u136 u137 u138 u139 u140 u141 u142 u143 u144 u145 u146 u147 u148 u149 u150 u151 u152 u153 u154 u155 u156 u157 u158 u159 u160 u161 u162 u163 u164 u165 u166 u167 u168 u169 u170 u171 u172 u173 u174 u175 u176 u177 u178 u179 u180 u181 u182 u183 u184 u185 u186 u187 u188 u189 u190 u191 u192 u193 u194 u195 u196 u197 u198 u199 u200 u201 u202 u203 u204 u205 u206 u207 u208 u209 u210 u211 u212 u213 u214 u215 u216 u217 u218 u219 u220 : Value, (∃ (F' : List Nat) (S' : List It) (av' : Option Addr) (cv' : Nat), u6 = Value.slice av' S'.length cv' ∧ Hid (S'.length ≤ i + 1) ∧ Hid (Both ha w w' ha F' S' (Value.slice av' S'.length cv'))) ∧ a' = ⟨#[x0, x1, x2, x3, u4, Value.pointer (some ⟨ha, 0, none⟩), u6, Value.int .i64 (i : Int), x8, Value.int .i64 id, Value.int .i64 kk, Value.int .i64 (j : Int), x12, u13, u14, u15, x16, x17, x18, x19, x20, x21, x22, x23, x24, x25, x26, x27, x28, u29, u30, u31, u32, u33, u34, u35, u36, u37, u38, u39, u40, u41, u42, u43, u44, u45, u46, u47, u48, u49, u50, u51, u52, u53, u54, u55, u56, u57, u58, u59, u60, u61, u62, u63, u64, u65, u66, u67, u68, u69, u70, u71, u72, u73, u74, u75, u76, u77, u78, u79, u80, u81, u82, u83, u84, u85, u86, u87, u88, u89, u90, u91, u92, u93, u94, u95, u96, u97, u98, u99, u100, u101, u102, u103, u104, u105, u106, u107, u108, u109, u110, u111, u112, u113, u114, u115, u116, u117, u118, u119, u120, u121, u122, u123, u124, u125, u126, u127, u128, u129, u130, u131, u132, u133, u134, u135, u136, u137, u138, u139, u140, u141, u142, u143, u144, u145, u146, u147, u148, u149, u150, u151, u152, u153, u154, u155, u156, u157, u158, u159, u160, u161, u162, u163, u164, u165, u166, u167, u168, u169, u170, u171, u172, u173, u174, u175, u176, u177, u178, u179, u180, u181, u182, u183, u184, u185, u186, u187, u188, u189, u190, u191, u192, u193, u194, u195, u196, u197, u198, u199, u200, u201, u202, u203, u204, u205, u206, u207, u208, u209, u210, u211, u212, u213, u214, u215, u216, u217, u218, u219, u220], []⟩) → J a' w')
    (h2 : ∀ (a' : Act) (w' : World), Met J a' w' → K' a' w') :
    Code.wp Try.prog blk4 (Exit.then K' (Exit.inBlock 1 (Exit.then K4 (Exit.then K5 (Exit.inBlock 0 (Exit.then K6 (bodyPost Try.prog Try.f4 fun e w' => e = .returned (.bool true) ∧ Below w.heap.size w w'))))))) ⟨#[x0, x1, x2, x3, x4, Value.pointer (some ⟨ha, 0, none⟩), Value.slice av S.length cv, Value.int .i64 (i : Int), x8, Value.int .i64 id, Value.int .i64 kk, Value.int .i64 (j : Int), x12, Value.int .i64 wt, x14, x15, x16, x17, x18, x19, x20, x21, x22, x23, x24, x25, x26, x27, x28, x29, x30, x31, x32, x33, x34, x35, x36, x37, x38, x39, x40, x41, x42, x43, x44, x45, x46, x47, x48, x49, x50, x51, x52, x53, x54, x55, x56, x57, x58, x59, x60, x61, x62, x63, x64, x65, x66, x67, x68, x69, x70, x71, x72, x73, x74, x75, x76, x77, x78, x79, x80, x81, x82, x83, x84, x85, x86, x87, x88, x89, x90, x91, x92, x93, x94, x95, x96, x97, x98, x99, x100, x101, x102, x103, x104, x105, x106, x107, x108, x109, x110, x111, x112, x113, x114, x115, x116, x117, x118, x119, x120, x121, x122, x123, x124, x125, x126, x127, x128, x129, x130, x131, x132, x133, x134, x135, x136, x137, x138, x139, x140, x141, x142, x143, x144, x145, x146, x147, x148, x149, x150, x151, x152, x153, x154, x155, x156, x157, x158, x159, x160, x161, x162, x163, x164, x165, x166, x167, x168, x169, x170, x171, x172, x173, x174, x175, x176, x177, x178, x179, x180, x181, x182, x183, x184, x185, x186, x187, x188, x189, x190, x191, x192, x193, x194, x195, x196, x197, x198, x199, x200, x201, x202, x203, x204, x205, x206, x207, x208, x209, x210, x211, x212, x213, x214, x215, x216, x217, x218, x219, x220], []⟩ w3 := by
  obtain ⟨i0, hi0, hz0, hz1, hz2⟩ := info_parts info26
  conv => arg 2; whnf
  have HRE : Hid (rem id S = S.take j ++ S.drop (j + 1)) := Lib.hid (by rw [← hjd]; exact rem_at S j hj HB.out.st.heap.nodup)
  have HI := Lib.hid (hasId_some hj hjd)
  obtain ⟨R, hR⟩ : ∃ R, R = S.take j ++ S.drop (j + 1) := ⟨_, rfl⟩
  have HR := Lib.hid hR
  have HRR : Hid (rem id S = R) := Lib.hid (by rw [HRE.out, hR])
  have HRL : Hid (R.length + 1 = S.length) := Lib.hid (by rw [hR, List.length_append, List.length_take, List.length_drop]; omega)
  have hjn0 : ¬ (j : Int) < 0 := by omega
  have h4 : ¬ wt < 4 := by omega
  clear hR HRE hjd
  go_wp2_with fail
  refine (drop1 ha F S R id true (by constructor <;> omega) _ HB.out.st.heap HRR.out HI.out).mono ?_
  rintro e w7 ⟨rfl, F7, i7, s7⟩
  dsimp only
  have HSt : Hid (St ha w w7 ha F7 R) := Lib.hid (HB.out.st.step i7 s7)
  have HSl : Hid (Sl w7 (· ∉ F7) (.slice av S.length cv) S) := Lib.hid (HB.out.sl.step s7)
  clear i7 s7 HB HRR HI
  obtain ⟨av', cv', e, hcl, hcm, _, hcell⟩ := HSl.out
  cases e
  obtain ⟨g, o, rfl, hPg, hg, _⟩ := hcell (by omega)
  have HC := Lib.hid (HSl.out.flat (by omega)).2.2.2.2
  have HBQ : Hid (Below w7.heap.size w7 w7) := Lib.hid (Below.refl _ _)
  have hgx : g < w7.heap.size := hg
  clear hcell hPg hg HSl
  have hjn : ¬ (j : Int) < 0 := by omega
  have hjg : (0 : Int) ≤ (j : Int) := by omega
  have hjg1 : (0 : Int) ≤ (j : Int) + 1 := by omega
  have hjg2 : (j : Int) ≤ (j : Int) + 1 := by omega
  have hcj : j ≤ cv := by omega
  have hcj1 : j + 1 ≤ cv := by omega
  have hjs : j + 1 ≤ S.length := by omega
  by_cases hj0 : 0 < j
  · by_cases hjl : j + 1 < S.length
    · have HE : Hid (flat (S.take j) ++ flat (S.drop (j + 1)) = flat R) := Lib.hid (by rw [HR.out, flat_append])
      have hck : ¬ cv = j + 1 := by omega
      have hck' : ¬ j + 1 = cv := by omega
      go_wp2_with fail
      have hwr : IntKind.i64.wrap ((j : Int) + 1) = (j : Int) + 1 := by rw [IntKind.wrap_i64]; omega
      have hwt : ((j : Int) + 1).toNat = j + 1 := by omega
      have hwl : (j : Int) + 1 ≤ (S.length : Int) := by omega
      go_region_law (first | (refine step_append_lies _ rfl _ _ 33 rfl 0 26 i0 (.agg #[.int .i64 0, .int .i64 0]) 2 16 Try.underlying33 hi0 hz0 hz1 hz2 rfl (by decide) (.slice (some ⟨_, 0, none⟩) 0 0) 0 [] rfl (own_empty (by first | exact heap_new _ _ | exact heap_new2 _ _ _ | exact heap_new3 _ _ _)) ⟨g, o, none⟩ j cv (flat (S.take j)) rfl (by rw [length_flat, List.length_take]; omega) (news_take HC.out (by repeat' (first | exact HBQ.out | (exact BA) | refine Below.drew ?_ | refine Below.alloc ?_ (by first | omega | (simp; done) | (simp; omega)) _)) hgx (by omega)) (flat_one _) (hm := by omega) (h63 := by unfold maxLen; omega) (hbytes := by omega) (hbase := Nat.zero_le _) _ rfl ?_; intro gA capA wA ownA grA liesA ltA; have hA : w7.heap.size ≤ wA.heap.size := Nat.le_trans (by first | omega | (simp; done) | (simp; omega)) grA.size; have BA : Below w7.heap.size w7 wA := Below.grown (by repeat' (first | exact HBQ.out | (exact BA) | refine Below.drew ?_ | refine Below.alloc ?_ (by first | omega | (simp; done) | (simp; omega)) _)) grA (by first | omega | (simp; done) | (simp; omega)) (by intro m hm; simp [Value.ownBlock] at hm; omega); have ownAk : wA.ownsRow 0 26 2 (.slice (some ⟨gA, 0, none⟩) j capA) j (flat (S.take j)) := (by rw [Nat.zero_add] at ownA; exact ownA); have leA : j ≤ capA := own_le ownAk; have gAx : w7.heap.size ≤ gA := (by rcases liesA with e | e; (simp [Value.ownBlock] at e; omega); (first | omega | (simp at e; omega)))) | (refine step_append_lies _ rfl _ _ 33 rfl 0 26 i0 (.agg #[.int .i64 0, .int .i64 0]) 2 16 Try.underlying33 hi0 hz0 hz1 hz2 rfl (by decide) (.slice (some ⟨_, 0, none⟩) j capA) j _ rfl (by first | exact ownAk | exact ownAk.alloc _ | exact (ownAk.alloc _).alloc _) ⟨g, o + (j + 1) * 2, none⟩ (S.length - (j + 1)) (cv - (j + 1)) (flat (S.drop (j + 1))) rfl (by rw [length_flat, List.length_drop]) (news_drop HC.out (by repeat' (first | exact HBQ.out | (exact BA) | refine Below.drew ?_ | refine Below.alloc ?_ (by first | omega | (simp; done) | (simp; omega)) _)) hgx (by omega)) (flat_one _) (hm := by omega) (h63 := by unfold maxLen; omega) (hbytes := by omega) (hbase := Nat.zero_le _) _ rfl ?_; intro gB capB wB ownB grB liesB ltB; have hB : w7.heap.size ≤ wB.heap.size := Nat.le_trans (by first | omega | (simp; done) | (simp; omega)) grB.size; have BB : Below w7.heap.size w7 wB := Below.grown (by repeat' (first | exact HBQ.out | (exact BA) | refine Below.drew ?_ | refine Below.alloc ?_ (by first | omega | (simp; done) | (simp; omega)) _)) grB (by first | omega | (simp; done) | (simp; omega)) (by intro m hm; simp [Value.ownBlock] at hm; omega); have gBx : w7.heap.size ≤ gB := (by rcases liesB with e | e; (simp [Value.ownBlock] at e; omega); (first | omega | (simp at e; omega)))))
      all_goals
        have HSlR : Hid (Sl wB (· ∉ F7) (.slice (some ⟨gB, 0, none⟩) R.length capB) R) := Lib.hid (by
          rw [HE.out] at ownB
          obtain ⟨RR, h2, _⟩ := row_of_owns ownB
          exact Sl.row RR h2 (fun e => by have := HSt.out.heap.lt _ e; omega) (by obtain ⟨cur, hcur, _⟩ := RR.block; exact lt_size hcur))
        have HSZ : Hid (j + (S.length - (j + 1)) = R.length) := Lib.hid (by have := HRL.out; omega)
        have HB8 : Hid (Both ha w wB ha F7 R (.slice (some ⟨gB, 0, none⟩) R.length capB)) := Lib.hid ⟨HSt.out.of BB, HSlR.out⟩
        go_wp2_with fail
        go_meet
        case rel => exact ⟨F7, R, some ⟨gB, 0, none⟩, capB, by rw [HSZ.out], Lib.hid (by have := HRL.out; have := HL.out; omega), HB8⟩
    · have hjl' : S.length = j + 1 := by omega
      have HE : Hid (flat (S.take j) = flat R) := Lib.hid (by rw [HR.out, List.drop_eq_nil_of_le (by omega), List.append_nil])
      have HSZ : Hid (j = R.length) := Lib.hid (by have := HRL.out; omega)
      by_cases hck : cv = j + 1
      · subst hck
        go_wp2_with fail
        have hwr : IntKind.i64.wrap ((j : Int) + 1) = (j : Int) + 1 := by rw [IntKind.wrap_i64]; omega
        have hwt : ((j : Int) + 1).toNat = j + 1 := by omega
        go_region_law ((refine step_append_lies _ rfl _ _ 33 rfl 0 26 i0 (.agg #[.int .i64 0, .int .i64 0]) 2 16 Try.underlying33 hi0 hz0 hz1 hz2 rfl (by decide) (.slice (some ⟨_, 0, none⟩) 0 0) 0 [] rfl (own_empty (by first | exact heap_new _ _ | exact heap_new2 _ _ _ | exact heap_new3 _ _ _)) ⟨g, o, none⟩ j (j + 1) (flat (S.take j)) rfl (by rw [length_flat, List.length_take]; omega) (news_take HC.out (by repeat' (first | exact HBQ.out | (exact BA) | refine Below.drew ?_ | refine Below.alloc ?_ (by first | omega | (simp; done) | (simp; omega)) _)) hgx (by omega)) (flat_one _) (hm := by omega) (h63 := by unfold maxLen; omega) (hbytes := by omega) (hbase := Nat.zero_le _) _ rfl ?_; intro gA capA wA ownA grA liesA ltA; have hA : w7.heap.size ≤ wA.heap.size := Nat.le_trans (by first | omega | (simp; done) | (simp; omega)) grA.size; have BA : Below w7.heap.size w7 wA := Below.grown (by repeat' (first | exact HBQ.out | (exact BA) | refine Below.drew ?_ | refine Below.alloc ?_ (by first | omega | (simp; done) | (simp; omega)) _)) grA (by first | omega | (simp; done) | (simp; omega)) (by intro m hm; simp [Value.ownBlock] at hm; omega); have ownAk : wA.ownsRow 0 26 2 (.slice (some ⟨gA, 0, none⟩) j capA) j (flat (S.take j)) := (by rw [Nat.zero_add] at ownA; exact ownA); have leA : j ≤ capA := own_le ownAk; have gAx : w7.heap.size ≤ gA := (by rcases liesA with e | e; (simp [Value.ownBlock] at e; omega); (first | omega | (simp at e; omega)))))
        all_goals
          have HSlR : Hid (Sl wA (· ∉ F7) (.slice (some ⟨gA, 0, none⟩) R.length capA) R) := Lib.hid (by
            rw [HE.out] at ownAk
            obtain ⟨RR, h2, _⟩ := row_of_owns ownAk
            exact Sl.row RR h2 (fun e => by have := HSt.out.heap.lt _ e; omega) (by obtain ⟨cur, hcur, _⟩ := RR.block; exact lt_size hcur))
          have HB8 : Hid (Both ha w wA ha F7 R (.slice (some ⟨gA, 0, none⟩) R.length capA)) := Lib.hid ⟨HSt.out.of BA, HSlR.out⟩
          go_wp2_with fail
          go_meet
          case rel => exact ⟨F7, R, some ⟨gA, 0, none⟩, capA, by rw [HSZ.out], Lib.hid (by have := HRL.out; have := HL.out; omega), HB8⟩
      · have hck' : ¬ j + 1 = cv := by omega
        go_wp2_with fail
        have hwr : IntKind.i64.wrap ((j : Int) + 1) = (j : Int) + 1 := by rw [IntKind.wrap_i64]; omega
        have hwt : ((j : Int) + 1).toNat = j + 1 := by omega
        go_region_law ((refine step_append_lies _ rfl _ _ 33 rfl 0 26 i0 (.agg #[.int .i64 0, .int .i64 0]) 2 16 Try.underlying33 hi0 hz0 hz1 hz2 rfl (by decide) (.slice (some ⟨_, 0, none⟩) 0 0) 0 [] rfl (own_empty (by first | exact heap_new _ _ | exact heap_new2 _ _ _ | exact heap_new3 _ _ _)) ⟨g, o, none⟩ j cv (flat (S.take j)) rfl (by rw [length_flat, List.length_take]; omega) (news_take HC.out (by repeat' (first | exact HBQ.out | (exact BA) | refine Below.drew ?_ | refine Below.alloc ?_ (by first | omega | (simp; done) | (simp; omega)) _)) hgx (by omega)) (flat_one _) (hm := by omega) (h63 := by unfold maxLen; omega) (hbytes := by omega) (hbase := Nat.zero_le _) _ rfl ?_; intro gA capA wA ownA grA liesA ltA; have hA : w7.heap.size ≤ wA.heap.size := Nat.le_trans (by first | omega | (simp; done) | (simp; omega)) grA.size; have BA : Below w7.heap.size w7 wA := Below.grown (by repeat' (first | exact HBQ.out | (exact BA) | refine Below.drew ?_ | refine Below.alloc ?_ (by first | omega | (simp; done) | (simp; omega)) _)) grA (by first | omega | (simp; done) | (simp; omega)) (by intro m hm; simp [Value.ownBlock] at hm; omega); have ownAk : wA.ownsRow 0 26 2 (.slice (some ⟨gA, 0, none⟩) j capA) j (flat (S.take j)) := (by rw [Nat.zero_add] at ownA; exact ownA); have leA : j ≤ capA := own_le ownAk; have gAx : w7.heap.size ≤ gA := (by rcases liesA with e | e; (simp [Value.ownBlock] at e; omega); (first | omega | (simp at e; omega)))))
        all_goals
          have HSlR : Hid (Sl wA (· ∉ F7) (.slice (some ⟨gA, 0, none⟩) R.length capA) R) := Lib.hid (by
            rw [HE.out] at ownAk
            obtain ⟨RR, h2, _⟩ := row_of_owns ownAk
            exact Sl.row RR h2 (fun e => by have := HSt.out.heap.lt _ e; omega) (by obtain ⟨cur, hcur, _⟩ := RR.block; exact lt_size hcur))
          have HB8 : Hid (Both ha w wA ha F7 R (.slice (some ⟨gA, 0, none⟩) R.length capA)) := Lib.hid ⟨HSt.out.of BA, HSlR.out⟩
          go_wp2_with fail
          go_meet
          case rel => exact ⟨F7, R, some ⟨gA, 0, none⟩, capA, by rw [HSZ.out], Lib.hid (by have := HRL.out; have := HL.out; omega), HB8⟩
  · have hj00 : j = 0 := by omega
    clear hj0
    subst hj00
    by_cases hjl : 1 < S.length
    · have HE : Hid ([] ++ flat (S.drop (0 + 1)) = flat R) := Lib.hid (by rw [HR.out]; rfl)
      have HSZ : Hid (S.length - 1 = R.length) := Lib.hid (by have := HRL.out; omega)
      have hck : ¬ cv = 1 := by omega
      have hck' : ¬ 1 = cv := by omega
      go_wp2_with fail
      have hwr : IntKind.i64.wrap 1 = 1 := by rw [IntKind.wrap_i64]; omega
      have hwl : (1 : Int) ≤ (S.length : Int) := by omega
      go_region_law ((refine step_append_lies _ rfl _ _ 33 rfl 0 26 i0 (.agg #[.int .i64 0, .int .i64 0]) 2 16 Try.underlying33 hi0 hz0 hz1 hz2 rfl (by decide) (.slice (some ⟨_, 0, none⟩) 0 0) 0 _ rfl (own_empty (by first | exact heap_new _ _ | exact heap_new2 _ _ _ | exact heap_new3 _ _ _)) ⟨g, o + (0 + 1) * 2, none⟩ (S.length - (0 + 1)) (cv - (0 + 1)) (flat (S.drop (0 + 1))) rfl (by rw [length_flat, List.length_drop]) (news_drop HC.out (by repeat' (first | exact HBQ.out | (exact BA) | refine Below.drew ?_ | refine Below.alloc ?_ (by first | omega | (simp; done) | (simp; omega)) _)) hgx (by omega)) (flat_one _) (hm := by omega) (h63 := by unfold maxLen; omega) (hbytes := by omega) (hbase := Nat.zero_le _) _ rfl ?_; intro gB capB wB ownB grB liesB ltB; have hB : w7.heap.size ≤ wB.heap.size := Nat.le_trans (by first | omega | (simp; done) | (simp; omega)) grB.size; have BB : Below w7.heap.size w7 wB := Below.grown (by repeat' (first | exact HBQ.out | (exact BA) | refine Below.drew ?_ | refine Below.alloc ?_ (by first | omega | (simp; done) | (simp; omega)) _)) grB (by first | omega | (simp; done) | (simp; omega)) (by intro m hm; simp [Value.ownBlock] at hm; omega); have gBx : w7.heap.size ≤ gB := (by rcases liesB with e | e; (simp [Value.ownBlock] at e; omega); (first | omega | (simp at e; omega)))))
      all_goals
        have HSlR : Hid (Sl wB (· ∉ F7) (.slice (some ⟨gB, 0, none⟩) R.length capB) R) := Lib.hid (by
          rw [HE.out] at ownB
          obtain ⟨RR, h2, _⟩ := row_of_owns ownB
          exact Sl.row RR h2 (fun e => by have := HSt.out.heap.lt _ e; omega) (by obtain ⟨cur, hcur, _⟩ := RR.block; exact lt_size hcur))
        have HB8 : Hid (Both ha w wB ha F7 R (.slice (some ⟨gB, 0, none⟩) R.length capB)) := Lib.hid ⟨HSt.out.of BB, HSlR.out⟩
        go_wp2_with fail
        go_meet
        case rel => exact ⟨F7, R, some ⟨gB, 0, none⟩, capB, by rw [HSZ.out], Lib.hid (by have := HRL.out; have := HL.out; omega), HB8⟩
    · have hjl' : S.length = 1 := by omega
      obtain rfl : R = [] := List.eq_nil_of_length_eq_zero (by have := HRL.out; omega)
      by_cases hck : cv = 1
      · subst hck
        go_wp2_with fail
        have hwr : IntKind.i64.wrap 1 = 1 := by rw [IntKind.wrap_i64]; omega
        go_region_law (fail)
        all_goals
          go_wp2_with fail
          go_meet
          case rel => exact ⟨F7, [], some ⟨_, 0, none⟩, 0, rfl, Lib.hid (Nat.zero_le _), Lib.hid ⟨HSt.out.of (by repeat' (first | exact HBQ.out | (exact BA) | refine Below.drew ?_ | refine Below.alloc ?_ (by first | omega | (simp; done) | (simp; omega)) _)), ⟨_, 0, rfl, Nat.le_refl _, Nat.zero_le _, Or.inr ⟨_, _, rfl⟩, fun h => absurd h (Nat.lt_irrefl _)⟩⟩⟩
      · have hck' : ¬ 1 = cv := by omega
        go_wp2_with fail
        have hwr : IntKind.i64.wrap 1 = 1 := by rw [IntKind.wrap_i64]; omega
        go_region_law (fail)
        all_goals
          go_wp2_with fail
          go_meet
          case rel => exact ⟨F7, [], some ⟨_, 0, none⟩, 0, rfl, Lib.hid (Nat.zero_le _), Lib.hid ⟨HSt.out.of (by repeat' (first | exact HBQ.out | (exact BA) | refine Below.drew ?_ | refine Below.alloc ?_ (by first | omega | (simp; done) | (simp; omega)) _)), ⟨_, 0, rfl, Nat.le_refl _, Nat.zero_le _, Or.inr ⟨_, _, rfl⟩, fun h => absurd h (Nat.lt_irrefl _)⟩⟩⟩
end Go.Proofs.Ytfhlipalfebfaaa
