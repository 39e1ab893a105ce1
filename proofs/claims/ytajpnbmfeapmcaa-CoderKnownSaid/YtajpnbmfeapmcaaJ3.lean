import Derived.Test.YtajpnbmfeapmcaaJ2
namespace Go.Proofs.Ytajpnbmfeapmcaa
open Go.RowKit Go.Sort
set_option maxRecDepth 100000
set_option maxHeartbeats 4000000

def DetRet (d : Nat) (w : World) (e : Ending) (w' : World) : Prop := e = .returned (.int .u8 (d : Int)) ∧ Below w.heap.size w w'

theorem rdet : ∀ (n : Nat) (o : Option Addr) (ca : Nat) (A : Mx) (w : World), RawC w o n A → Bd n n A → n ≤ 64 →
    Calls Try.prog 55 #[.slice o n ca] w (DetRet (det n A) w) := by
  intro n
  induction n with
  | zero =>
    intro o ca A w h hb hn
    have hd : det 0 A = 1 := rfl
    rw [hd]
    go_enter Try.func55, Try.ntmps55
    go_wp2_with fail
    go_ret
    exact ⟨rfl, Below.refl _ _⟩
  | succ n ih =>
    intro o ca A w h hb hn
    have IH := Lib.hid ih
    clear ih
    have HI := Lib.hid h
    obtain ⟨ab, ao, g, q, cap, rfl, hab, hg, c1, hcap, hv⟩ := h 0 (by omega)
    rw [Nat.add_zero] at c1
    have HV := Lib.hid hv
    have HBD := Lib.hid hb
    clear h hv hb
    obtain ⟨m, hm⟩ : ∃ m, n + 1 = m := ⟨_, rfl⟩
    have HM := Lib.hid hm
    have HD : Hid (det m A = sx m (fun k => mul (A 0 k) (det n (wo A 0 k)))) := Lib.hid (by rw [← hm]; exact det_succ n A)
    rw [hm] at HI HV HBD c1 hn hcap ⊢
    rw [HD.out]
    clear hm
    have m0 : ((m : Int) == 0) = false := beq_eq_false_iff_ne.2 (by have := HM.out; omega)
    have m1 : (0 : Int) < (m : Int) := by have := HM.out; omega
    go_enter Try.func55, Try.ntmps55
    go_wp2_with fail
    go_loopg [3, 4] m (fun q' s3 s4 v => ∃ k : Nat, s4 = .int .i64 (k : Int) ∧ k ≤ m ∧ q' = m - k ∧ s3 = .int .u8 ((sx k (fun k => mul (A 0 k) (det n (wo A 0 k))) : Nat) : Int) ∧ Hid (Below w.heap.size w v))
    case atStart => exact ⟨0, rfl, by omega, rfl, rfl, Lib.hid (Below.refl _ _)⟩
    case round =>
      obtain ⟨k, rfl, hk, rfl, rfl, HB⟩ := hrel
      have HSX : Hid (sx (k + 1) (fun k => mul (A 0 k) (det n (wo A 0 k))) = sx k (fun k => mul (A 0 k) (det n (wo A 0 k))) ^^^ mul (A 0 k) (det n (wo A 0 k)) ∧ sx k (fun k => mul (A 0 k) (det n (wo A 0 k))) < 256) := Lib.hid ⟨sx_succ _ _, sx_lt (fun _ _ => mul_lt _ _)⟩
      by_cases hlt : k < m
      · have hl : (k : Int) < (m : Int) := by omega
        have d1 := (HB.out.cell (p := ⟨ab, ao, none⟩) hab).trans c1
        have d2 := (HB.out.cell (p := ⟨g, q + k, none⟩) hg).trans (HV.out k hlt)
        have hx : A 0 k < 256 := HBD.out 0 (by have := HM.out; omega) k hlt
        obtain ⟨S, hS⟩ : ∃ S, S = sx (k + 1) (fun k => mul (A 0 k) (det n (wo A 0 k))) := ⟨_, rfl⟩
        have HSE := Lib.hid hS
        rw [← hS] at HSX
        clear hS
        generalize sx k (fun k => mul (A 0 k) (det n (wo A 0 k))) = s0 at HSX ⊢
        by_cases h0 : A 0 k = 0
        · have t1 : ((A 0 k : Int) != 0) = false := by rw [h0]; rfl
          have HS0 : Hid (S = s0) := Lib.hid (by rw [HSX.out.1, h0, zero_mul, Nat.xor_zero])
          clear h0
          go_wp2_with fail
          go_roundg (m - (k + 1))
          case measure => omega
          case rel => exact ⟨k + 1, by go_num, by omega, rfl, by rw [← HSE.out, HS0.out], HB⟩
        · have t1 : ((A 0 k : Int) != 0) = true := by rw [bne_iff_ne]; omega
          have hb0 : Below wr.heap.size wr wr.drew := (Below.refl _ _).drew
          have HW := Lib.hid (rwithout (some ⟨ab, ao, none⟩) ca m 0 k A wr.drew ((HI.out.keep HB.out).keep hb0) (by have := HM.out; omega) hlt hn)
          have hz : ((0 : Nat) : Int) = 0 := rfl
          rw [hz, show m - 1 = n by have := HM.out; omega] at HW
          have HBW : Hid (Bd n n (wo A 0 k)) := Lib.hid (by have := HBD.out; rw [← HM.out] at this; exact wo_bd this)
          have hab' : ab < wr.heap.size := Nat.lt_of_lt_of_le hab HB.out.size
          have hg' : g < wr.heap.size := Nat.lt_of_lt_of_le hg HB.out.size
          have hn' : n ≤ 64 := by have := HM.out; omega
          have hxor : bits .xor .u8 (s0 : Int) ((mul (A 0 k) (det n (wo A 0 k)) : Nat) : Int) = (S : Int) := by
            rw [HSX.out.1]; exact bits_xor_u8 _ _ HSX.out.2 (mul_lt _ _)
          clear h0 hz hb0
          generalize A 0 k = x at *
          have HDL := Lib.hid (det_lt n (wo A 0 k))
          have ND := Lib.hid (fun (o5 : Option Addr) (c5 : Nat) (w5 : World) (r5 : RawC w5 o5 n (wo A 0 k)) => IH.out o5 c5 (wo A 0 k) w5 r5 HBW.out hn')
          generalize det n (wo A 0 k) = d at *
          go_wp2_with fail
          have m2 : 0 < m := by have := HM.out; omega
          have m3 : (0 : Int) ≤ (k : Int) := by omega
          go_region_held3 (fun w' => w'.cell? ⟨ab, ao, none⟩ = some (.slice (some ⟨g, q, none⟩) m cap) ∧ w'.cell? ⟨g, q + k, none⟩ = some (.int .u8 (x : Int)))
            (first | go_keep | (refine ⟨?_, ?_⟩ <;> assumption))
            (first | (go_at_call 56; refine HW.out.mono ?_; rintro e w5 ⟨o5, c5, rfl, r5, b5⟩; have h5 : w5.cell? ⟨ab, ao, none⟩ = some (.slice (some ⟨g, q, none⟩) m cap) := (b5.cell (p := ⟨ab, ao, none⟩) hab').trans d1; have h5b : w5.cell? ⟨g, q + k, none⟩ = some (.int .u8 (x : Int)) := (b5.cell (p := ⟨g, q + k, none⟩) hg').trans d2; have HB5 := Lib.hid b5; have HR5 := Lib.hid r5; clear b5 r5) | (go_at_call 55; refine (ND.out o5 c5 w5 HR5.out).mono ?_; rintro e w6 ⟨rfl, b6⟩; have h6 : w6.cell? ⟨ab, ao, none⟩ = some (.slice (some ⟨g, q, none⟩) m cap) := (b6.cell (p := ⟨ab, ao, none⟩) (Nat.lt_of_lt_of_le hab' HB5.out.size)).trans h5; have h6b : w6.cell? ⟨g, q + k, none⟩ = some (.int .u8 (x : Int)) := (b6.cell (p := ⟨g, q + k, none⟩) (Nat.lt_of_lt_of_le hg' HB5.out.size)).trans h5b; have HB6 := Lib.hid b6; clear b6) | (go_at_call 36; refine (rmul x d w6 hx HDL.out).mono ?_; rintro e w7 ⟨rfl, hw⟩; obtain rfl := hw.symm) | fail)
          all_goals
            have HBN : Hid (Below w.heap.size w w6) := Lib.hid ((HB.out.drew).trans ((HB5.out.trans (HB6.out.mono HB5.out.size)).mono HB.out.size))
            go_wp2_with fail
            go_roundg (m - (k + 1))
            case measure => omega
            case rel => exact ⟨k + 1, by go_num, by omega, rfl, by rw [← HSE.out], HBN⟩
      · have hge : ¬ (k : Int) < (m : Int) := by omega
        have e : k = m := by omega
        subst e
        go_wp2_with fail
        go_ret
        exact ⟨rfl, HB.out⟩
end Go.Proofs.Ytajpnbmfeapmcaa
