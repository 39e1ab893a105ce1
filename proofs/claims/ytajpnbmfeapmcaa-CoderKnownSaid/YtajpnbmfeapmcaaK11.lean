import Derived.Test.YtajpnbmfeapmcaaK9
import Derived.Test.YtajpnbmfeapmcaaK10
import Derived.Test.YtajpnbmfeapmcaaI3
namespace Go.Proofs.Ytajpnbmfeapmcaa
open Go.RowKit Go.Sort
set_option maxRecDepth 100000
set_option maxHeartbeats 1000000

/-- Six chunks, in rows of one's own. -/
def EncRet (w : World) (A : Mx) (n : Nat) (e : Ending) (w' : World) : Prop := ∃ b, e = .returned (.tuple #[.slice (some ⟨b, 0, none⟩) n n, .int .i64 0]) ∧ Own w' b n 32 (fun i => b + 1 + i) (fun _ => 32) A ∧ w.heap.size ≤ b ∧ Below w.heap.size w w'

theorem parts_bd {S : Nat → Nat} (hb : ∀ j, j < 128 → S j < 256) : Bd 4 32 (parts S) := fun i hi j hj => hb _ (by omega)

theorem cencode (c f o cap0 h q cap : Nat) (S : Nat → Nat) (w : World) (hc : Cdr w c f o cap0) (hcap : 128 ≤ cap) (hS : ∀ j, j < 128 → w.cell? ⟨h, q + j, none⟩ = some (.int .u8 (S j : Nat))) (hb : ∀ j, j < 128 → S j < 256) :
    Calls Try.prog 11 #[.pointer (some ⟨c, 0, none⟩), .slice (some ⟨h, q, none⟩) 128 cap] w (EncRet w (enc (parts S)) 6) := by
  have HC := Lib.hid hc
  have HS := Lib.hid hS
  have HB := Lib.hid hb
  have hh : h < w.heap.size := cell?_lt (hS 0 (by omega))
  have HM := Lib.hid (cmade c f o cap0 w hc)
  have HK := Lib.hid (mchunk h q cap w)
  clear hc hS hb
  go_enter Try.func11, Try.ntmps11
  go_wp2_with fail
  refine HM.out.mono ?_
  rintro e w' ⟨rfl, hw⟩
  obtain rfl := hw.symm
  go_wp2_with fail
  refine HK.out.mono ?_
  rintro e w1 ⟨rfl, hk1, hk2, b1⟩
  have HB1 := Lib.hid b1
  have HCO := Lib.hid (mcollect w.heap.size (w.heap.size + 1) h q cap hcap w1 hk1 hk2)
  clear hk1 hk2 b1
  go_wp2_with fail
  refine HCO.out.mono ?_
  rintro e w2 ⟨v, rfl, own, b2⟩
  have HO := Lib.hid own
  have HB2 : Hid (Below w.heap.size w w2) := Lib.hid (HB1.out.trans (b2.mono HB1.out.size))
  clear own b2
  obtain ⟨g, cg, rfl⟩ := own_succ HO.out
  have hc2 : Cdr w2.drew c f o cap0 := HC.out.keep HB2.out.drew
  have hc3 : Cdr w2 c f o cap0 := HC.out.keep HB2.out
  have p1 := hc3.ptr
  have p2 := hc3.rows
  have raw4 : RawIn w2.drew (some ⟨g, 0, none⟩) (rowsOf 4 32 (parts S)) := rawIn_of fun i hi => by
    refine ⟨h, q + 32 * i, 32, ?_, fun j hj => ?_⟩
    · rw [← addr_add]
      exact HO.out.cells (g := g) rfl i _ (by simp [hi]; rfl)
    · have := HS.out (i * 32 + j) (by omega)
      rw [show q + 32 * i + j = q + (i * 32 + j) by omega]
      exact (HB2.out.drew.cell (p := ⟨h, q + (i * 32 + j), none⟩) hh).trans this
  have hgr := rowsOf_facts (gr_bd 6 4) (by omega) (by omega) (by omega) (by omega)
  have hpt := rowsOf_facts (parts_bd HB.out) (by omega) (by omega) (by omega) (by omega)
  have mm4 := mmul f (some ⟨o, 0, none⟩) (some ⟨g, 0, none⟩) (rowsOf 6 4 gr) (rowsOf 4 32 (parts S)) cap0 cg 32 w2.drew hc2.fld hc2.raw raw4 hgr.1 hpt.1 hgr.2.1 hpt.2.1 (fun i xs hx => by rw [rowsOf_len]; exact hgr.2.2 i xs hx) hpt.2.2
  rw [rowsOf_len, rowsOf_len] at mm4
  have HMM := Lib.hid mm4
  have HBD := Lib.hid (parts_bd HB.out)
  clear hgr hpt mm4 raw4 hc2 hc3
  go_wp2_with fail
  go_still_tail 9, (by kernel_rfl)
  change wpList _ _ _ _ _ w2.drew
  go_wp2_with fail
  refine HMM.out.mono ?_
  rintro e w5 ⟨rfl, o5, b5⟩
  go_wp2_with fail
  go_ret2
  refine ⟨w2.drew.heap.size, rfl, o5.congr (mm_congr (rowsOf_ent gr) (rowsOf_ent (parts S))), HB2.out.size, HB2.out.drew.trans (b5.mono HB2.out.size)⟩

theorem cencode_no (c f o cap0 n cap : Nat) (a : Option Addr) (w : World) (hc : Cdr w c f o cap0) (hn : n ≠ 128) :
    Calls Try.prog 11 #[.pointer (some ⟨c, 0, none⟩), .slice a n cap] w fun e w' => e = .returned (.tuple #[.slice none 0 0, .int .i64 1]) ∧ w' = w := by
  have HM := Lib.hid (cmade c f o cap0 w hc)
  have e1 : ((n : Int) != 128) = true := by rw [bne_iff_ne]; omega
  clear hc
  go_enter Try.func11, Try.ntmps11
  go_wp2_with fail
  refine HM.out.mono ?_
  rintro e w' ⟨rfl, hw⟩
  obtain rfl := hw.symm
  go_wp2_with fail
  go_ret2
  exact ⟨rfl, rfl⟩
end Go.Proofs.Ytajpnbmfeapmcaa
