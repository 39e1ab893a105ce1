import Derived.Test.YtjgbfghkiahfaaaGreatDoorV45
import Derived.Test.YtjgbfghkiahfaaaGreatDoorV35
import Derived.Test.YtjgbfghkiahfaaaGreatDoorV03
import Derived.Test.YtjgbfghkiahfaaaGreatDoorV05
import Derived.Test.YtjgbfghkiahfaaaGreatDoorV07
import Derived.Test.YtjgbfghkiahfaaaGreatDoorV22
import Derived.Deep.RegionHeldLaw
import Derived.Test.YtjgbfghkiahfaaaGreatDoorV08
namespace Go.Proofs.YtjgbfghkiahfaaaGreatDoor
open Go.RowKit Go.Sort
set_option maxRecDepth 100000
set_option maxHeartbeats 2000000

theorem RV.c2' {w : World} {b : Nat} {code boot : Int} {u v : Value} (h : RV w b code boot u v) : w.cell? ⟨b, 2, none⟩ = some u := h.c2
end Go.Proofs.YtjgbfghkiahfaaaGreatDoor
namespace Go.Proofs.YtjgbfghkiahfaaaGreatDoor
open Go.RowKit Go.Sort
set_option maxRecDepth 100000
set_option maxHeartbeats 2000000

end Go.Proofs.YtjgbfghkiahfaaaGreatDoor
namespace Go.Proofs.YtjgbfghkiahfaaaGreatDoor
open Go.RowKit Go.Sort
set_option maxRecDepth 100000
set_option maxHeartbeats 1000000

theorem own_ge' {w : World} {B n s : Nat} {v : Value} {t : TypeId} {xs : List Value} (h : w.ownsRow B t s v n xs) : ∀ k, v.ownBlock = some k → B ≤ k := by
  intro k hk
  rcases h.2 with ⟨rfl, _⟩ | ⟨g, cap', cur, rfl, hb, _⟩
  · simp [Value.ownBlock] at hk
  · simp [Value.ownBlock] at hk; omega
theorem own_some' {w : World} {B k s : Nat} {v : Value} {t : TypeId} {xs : List Value} (h : w.ownsRow B t s v (k + 1) xs) : v ≠ .slice none 0 0 := by
  rcases h.2 with ⟨_, h0⟩ | ⟨g, cap', cur, rfl, _⟩
  · omega
  · intro e; cases e
end Go.Proofs.YtjgbfghkiahfaaaGreatDoor
namespace Go.Proofs.YtjgbfghkiahfaaaGreatDoor
open Go.RowKit Go.Sort
set_option maxRecDepth 100000
set_option maxHeartbeats 1000000

/-- corbelref3.Seal. -/
theorem own_ge8 {w : World} {B g n cap : Nat} {xs : List Value} (h : w.ownsRow B 5 1 (.slice (some ⟨g, 0, none⟩) n cap) n xs) : B ≤ g := by
  obtain ⟨g', cap', e, h1, _⟩ := own_some h (by simp)
  cases e
  exact h1
def RSealRetB (kind n : Nat) (B : Nat → Nat) (w : World) (e : Ending) (w' : World) : Prop :=
  ∃ g cap, e = .returned (.tuple #[.slice (some ⟨g, 0, none⟩) 160 cap, .bool true]) ∧ Blk8 w' g 160 (sealF kind n B) ∧ Below w.heap.size w w' ∧ 160 ≤ cap ∧ w.heap.size ≤ g
def RSealRet (kind n : Nat) (B : Nat → Nat) (w : World) (e : Ending) (w' : World) : Prop :=
  ∃ g cap, e = .returned (.tuple #[.slice (some ⟨g, 0, none⟩) 160 cap, .bool true]) ∧ Rd w' (some ⟨g, 0, none⟩) 160 (sealF kind n B) ∧ Below w.heap.size w w' ∧ 160 ≤ cap
theorem head_cat (kind n : Nat) (B : Nat → Nat) (X : Nat → Nat) (h0 : X 0 = kind) (h1 : X 1 = byteAt n 2 0) (h2 : X 2 = byteAt n 2 1) : ∀ j, j < 3 + n → (if j < 3 then X j else B (j - 3)) = headF kind n B j := by
  intro j hj
  unfold headF
  by_cases e0 : j = 0
  · subst e0; rw [if_pos (by omega), if_pos rfl, h0]
  · rw [if_neg e0]
    by_cases e1 : j = 1
    · subst e1; rw [if_pos (by omega), if_pos rfl, h1]
    · rw [if_neg e1]
      by_cases e2 : j = 2
      · subst e2; rw [if_pos (by omega), if_pos rfl, h2]
      · rw [if_neg e2, if_neg (by omega), if_pos hj]
theorem head_zero {kind n : Nat} (B : Nat → Nat) {m : Nat} (hm : 3 + n ≤ m) : headF kind n B m = 0 := by
  unfold headF
  rw [if_neg (by omega), if_neg (by omega), if_neg (by omega), if_neg (by omega)]
theorem byte4_lit (S : Nat) (h : S < 4294967291) : (#[.int .u8 ((S : Int) / 16777216), .int .u8 ((S : Int) / 65536 % 256), .int .u8 ((S : Int) / 256 % 256), .int .u8 ((S : Int) % 256)] : Array Value).toList = rowL 4 (byteAt S 4) := by
  show _ = [Value.int .u8 ((byteAt S 4 0 : Nat) : Int), Value.int .u8 ((byteAt S 4 1 : Nat) : Int), Value.int .u8 ((byteAt S 4 2 : Nat) : Int), Value.int .u8 ((byteAt S 4 3 : Nat) : Int)]
  have e0 : byteAt S 4 0 = S / 16777216 := by unfold byteAt; show S / 16777216 % 256 = _; omega
  have e1 : byteAt S 4 1 = S / 65536 % 256 := by unfold byteAt; rfl
  have e2 : byteAt S 4 2 = S / 256 % 256 := by unfold byteAt; rfl
  have e3 : byteAt S 4 3 = S % 256 := by unfold byteAt; show S / 1 % 256 = _; omega
  rw [e0, e1, e2, e3]
  rfl
end Go.Proofs.YtjgbfghkiahfaaaGreatDoor
namespace Go.Proofs.YtjgbfghkiahfaaaGreatDoor
open Go.RowKit Go.Sort
set_option maxRecDepth 100000
set_option maxHeartbeats 2000000

/-- append of bytes to a row of one's own, as a step of a region. -/
theorem step_append_rd (w : World) {ops : Array Oper} {o : Oper} {a : Act} {K : Act → World → Prop} {Q : Exit → Act → World → Prop} {E : Prop} (hgd : o.guard = none) (s x : Operand) (t : TypeId)
    (ho : o.op = .call { callee := .builtin .append, args := #[s, x], argTypes := #[t, t] }) (ht : Tryz.prog.underlying t = some (.slice 5))
    (base : Nat) (v : Value) (n : Nat) (F : Nat → Nat) (hs : a.eval s = v) (hown : w.ownsRow base 5 1 v n (rowL n F)) (A : Option Addr) (m c : Nat) (G : Nat → Nat) (hx : a.eval x = .slice A m c) (hr : Rd w A m G)
    (hbytes : n + m ≤ 140737488355328) (hbase : base ≤ w.heap.size)
    (h : ∀ v' w', w'.ownsRow base 5 1 v' (n + m) (rowL (n + m) (fun j => if j < n then F j else G (j - n))) → w.grownBy w' v.ownBlock → (v'.ownBlock = v.ownBlock ∨ v'.ownBlock = some w.heap.size) → (v ≠ .slice none 0 0 → v' ≠ .slice none 0 0) →
      K (a.put o.dst v') w') : if Region.wanted o (yielded ops a.tmps) = true then Oper.wp Tryz.prog o a w K Q else E := by
  have hw : Region.wanted o (yielded ops a.tmps) = true := by simp [Region.wanted, hgd]
  rw [if_pos hw]
  obtain ⟨v', w', hrun, h2, h3, h4, h5⟩ := run_append_rd w base t o.type ht v n F hown A m c G hr hbytes hbase
  unfold Oper.wp
  simp [execOp, ho, resolve, invoke, builtin, hs, hx, hrun, Result.andThen]
  exact h v' w' h2 h3 h4 h5
/-- corbelref7.LayPiece of a piece that may be. -/
def RLayRetB (p : Pc) (w : World) (e : Ending) (w' : World) : Prop := ∃ g cap, e = .returned (.tuple #[.slice (some ⟨g, 0, none⟩) 160 cap, .bool true]) ∧ Blk8 w' g 160 (pcS p) ∧ Below w.heap.size w w' ∧ 160 ≤ cap ∧ w.heap.size ≤ g
def RLayRet (p : Pc) (w : World) (e : Ending) (w' : World) : Prop := ∃ g cap, e = .returned (.tuple #[.slice (some ⟨g, 0, none⟩) 160 cap, .bool true]) ∧ Rd w' (some ⟨g, 0, none⟩) 160 (pcS p) ∧ Below w.heap.size w w' ∧ 160 ≤ cap
end Go.Proofs.YtjgbfghkiahfaaaGreatDoor
namespace Go.Proofs.YtjgbfghkiahfaaaGreatDoor
open Go.RowKit Go.Sort
set_option maxRecDepth 100000
set_option maxHeartbeats 2000000

/-! Rows of bytes of one's own, as lists. -/
def OwnL (w : World) (B : Nat) (v : Value) (L : List Nat) : Prop := w.ownsRow B 5 1 v L.length (rowL L.length (gt L))
theorem OwnL.app {w : World} {B n m : Nat} {v : Value} {F G : Nat → Nat} {L M : List Nat} (hn : L.length = n) (hm : M.length = m) (hF : F = gt L) (hG : G = gt M) (h : w.ownsRow B 5 1 v (n + m) (rowL (n + m) (fun j => if j < n then F j else G (j - n)))) : OwnL w B v (L ++ M) := by
  subst hn hm hF hG
  unfold OwnL
  rw [List.length_append]
  exact own_congr h (fun j _ => (gt_app L M j).symm)
theorem OwnL.keep {w w' : World} {B : Nat} {v : Value} {L : List Nat} (h : OwnL w B v L) (b : Below w.heap.size w w') : OwnL w' B v L := own_keep h b
theorem OwnL.mono {w : World} {B B' : Nat} {v : Value} {L : List Nat} (h : OwnL w B v L) (hb : B' ≤ B) : OwnL w B' v L := by
  refine ⟨h.1, ?_⟩
  rcases h.2 with h0 | ⟨g', cap', cur, e1, hg, r⟩
  · exact Or.inl h0
  · exact Or.inr ⟨g', cap', cur, e1, Nat.le_trans hb hg, r⟩
theorem OwnL.some_ {w : World} {B : Nat} {v : Value} {L : List Nat} (h : OwnL w B v L) (hv : v ≠ .slice none 0 0) : ∃ g cap, v = .slice (some ⟨g, 0, none⟩) L.length cap ∧ Blk8 w g L.length (gt L) ∧ B ≤ g ∧ g < w.heap.size ∧ L.length ≤ cap := by
  obtain ⟨g, cap, rfl, h1, h2, h3⟩ := own_some h hv
  exact ⟨g, cap, rfl, own_blk h, h1, h2, h3⟩
theorem OwnL.of {w : World} {B n : Nat} {v : Value} {F : Nat → Nat} {L : List Nat} (h : w.ownsRow B 5 1 v n (rowL n F)) (hn : L.length = n) (hF : ∀ j, j < n → F j = gt L j) : OwnL w B v L := by
  subst hn
  exact own_congr h hF
theorem append_L {base : Nat} {w0 : World} (w : World) {ops : Array Oper} {rest : List Oper} {o : Oper} {a : Act} {Q : Exit → Act → World → Prop} (hgd : o.guard = none) (s x : Operand) (t : TypeId)
    (ho : o.op = .call { callee := .builtin .append, args := #[s, x], argTypes := #[t, t] }) (ht : Tryz.prog.underlying t = some (.slice 5))
    (v : Value) (L : List Nat) (hs : a.eval s = v) (hown : OwnL w base v L) (A : Option Addr) (m c : Nat) (M : List Nat) (hx : a.eval x = .slice A m c) (hm : M.length = m) (hr : BL w A M)
    (hbytes : L.length + m ≤ 1000000) (hb : Below base w0 w) (hbase : base ≤ w.heap.size)
    (h : ∀ v' w', OwnL w' base v' (L ++ M) → Below base w0 w' → base ≤ w'.heap.size → (v ≠ .slice none 0 0 → v' ≠ .slice none 0 0) → wpList Tryz.prog ops Q rest (a.put o.dst v') w') : wpList Tryz.prog ops Q (o :: rest) a w := by
  subst hm
  refine append_rd w hgd s x t ho ht base v L.length (gt L) hs hown A M.length c (gt M) hx hr.rd (by omega) hbase ?_
  intro v' w' own gr _ hne
  exact h v' w' (OwnL.app rfl rfl rfl rfl own) (Below.grown hb gr hbase (own_ge' hown)) (Nat.le_trans hbase gr.size) hne
theorem step_append_L {base : Nat} {w0 : World} (w : World) {ops : Array Oper} {o : Oper} {a : Act} {K : Act → World → Prop} {Q : Exit → Act → World → Prop} {E : Prop} (hgd : o.guard = none) (s x : Operand) (t : TypeId)
    (ho : o.op = .call { callee := .builtin .append, args := #[s, x], argTypes := #[t, t] }) (ht : Tryz.prog.underlying t = some (.slice 5))
    (v : Value) (L : List Nat) (hs : a.eval s = v) (hown : OwnL w base v L) (A : Option Addr) (m c : Nat) (M : List Nat) (hx : a.eval x = .slice A m c) (hm : M.length = m) (hr : BL w A M)
    (hbytes : L.length + m ≤ 1000000) (hb : Below base w0 w) (hbase : base ≤ w.heap.size)
    (h : ∀ v' w', OwnL w' base v' (L ++ M) → Below base w0 w' → base ≤ w'.heap.size → (v ≠ .slice none 0 0 → v' ≠ .slice none 0 0) → K (a.put o.dst v') w') : if Region.wanted o (yielded ops a.tmps) = true then Oper.wp Tryz.prog o a w K Q else E := by
  subst hm
  refine step_append_rd w hgd s x t ho ht base v L.length (gt L) hs hown A M.length c (gt M) hx hr.rd (by omega) hbase ?_
  intro v' w' own gr _ hne
  exact h v' w' (OwnL.app rfl rfl rfl rfl own) (Below.grown hb gr hbase (own_ge' hown)) (Nat.le_trans hbase gr.size) hne
/-- The text that bytes are. -/
theorem conv_L {w : World} {A : Option Addr} {L : List Nat} (c : Nat) (h : BL w A L) : Sem.run Tryz.prog (convert 36 9 (.slice A L.length c)) w = .ok (.string (strOf L)) w := by
  have := conv_rd (cap := c) h.rd
  rwa [range_gt] at this
theorem str_eqL {L M : List Nat} (hL : By L) (hM : By M) : (strOf L).toList = (strOf M).toList ↔ L = M := ⟨fun e => strOf_inj hL hM e, fun e => by rw [e]⟩
end Go.Proofs.YtjgbfghkiahfaaaGreatDoor
namespace Go.Proofs.YtjgbfghkiahfaaaGreatDoor
open Go.RowKit Go.Sort
set_option maxRecDepth 100000
set_option maxHeartbeats 2000000

/-- slices.Concat of a literal of rows: the row is one's own. -/
def CatOwn (B : Nat) (w0 : World) (L : List Nat) (e : Ending) (w' : World) : Prop := ∃ g cap, e = .returned (.slice (some ⟨g, 0, none⟩) L.length cap) ∧ OwnL w' B (.slice (some ⟨g, 0, none⟩) L.length cap) L ∧ Below B w0 w' ∧ B ≤ w'.heap.size
theorem mconcatO {B : Nat} {w0 : World} (w : World) (cs : List Value) (Ls : List (List Nat)) (hr : RowsB w cs Ls) (K : Nat) (hK : K = Ls.length) (hK2 : K ≤ 1000) (T : List Nat) (hT : T = Ls.flatten) (h1 : 1 ≤ T.length) (h2 : T.length ≤ 1000000) (hB : Below B w0 w) (hl : B ≤ w.heap.size) :
    Calls Tryz.prog 51 #[.slice (some ⟨w.heap.size, 0, none⟩) K K] (w.alloc (.cells cs.toArray 36)) (CatOwn B w0 T) := by
  have h : ∀ (k : Nat) (L : List Nat), Ls[k]? = some L → ∃ (A : Option Addr) (c : Nat), cs.toArray[k]? = some (Value.slice A L.length c) ∧ BL w A L := fun k L e => by
    rw [List.getElem?_toArray]
    exact hr.get k L e
  obtain ⟨cs, rfl⟩ : ∃ x : Array Value, x.toList = cs := ⟨cs.toArray, rfl⟩
  rw [show cs.toList.toArray = cs from rfl] at h ⊢
  subst hT
  subst hK
  have hk := alloc_block w (.cells cs 36)
  have hb : Below w.heap.size w (w.alloc (.cells cs 36)) := (Below.refl _ _).alloc (Nat.le_refl _) _
  have hget : ∀ k, k < Ls.length → Ls[k]? = some (Ls.getD k []) := fun k hk => by rw [List.getD_eq_getElem?_getD, List.getElem?_eq_getElem hk]; rfl
  have hA : ∃ (A : Nat → Option Addr) (C : Nat → Nat), ∀ k, k < Ls.length → cs[k]? = some (.slice (A k) (Ls.getD k []).length (C k)) ∧ BL w (A k) (Ls.getD k []) := by
    refine ⟨fun k => if hk : k < Ls.length then (h k _ (hget k hk)).choose else none, fun k => if hk : k < Ls.length then (h k _ (hget k hk)).choose_spec.choose else 0, fun k hk => ?_⟩
    simp only [dif_pos hk]
    exact (h k _ (hget k hk)).choose_spec.choose_spec
  obtain ⟨A, C, hAC⟩ := hA
  have ht := tot_take Ls Ls.length (Nat.le_refl _)
  rw [List.take_length] at ht
  have := mconcatK w.heap.size Ls.length Ls.length A (fun k => (Ls.getD k []).length) C (fun k => gt (Ls.getD k [])) (gt Ls.flatten) (w.alloc (.cells cs 36)) (by simp) (fun k hk' => (cell_of_block hk).trans (hAC k hk').1) (fun k hk' => ((hAC k hk').2.below hb).rd) (fun k j hk' hj => gt_flat Ls k j hk' hj) hK2 (by rw [ht]; exact h1) (by rw [ht]; exact h2)
  refine this.mono ?_
  rintro e w' ⟨g, cap, rfl, ho, hb2, hg, _, hc⟩
  rw [ht] at ho hc ⊢
  have hsz : B ≤ (w.alloc (.cells cs 36)).heap.size := by simp; omega
  exact ⟨g, cap, rfl, (OwnL.of ho rfl (fun _ _ => rfl)).mono hsz, (hB.alloc hl _).trans (hb2.mono hsz), Nat.le_trans hsz hb2.size⟩
theorem Px.nats {p : Px} (h : p.Right) : ∃ (s g i : Nat) (D : List Nat), p = ⟨(s : Int), (g : Int), (i : Int), D⟩ ∧ D.length = 32 ∧ p.lay = byteL s 1 ++ (byteL g 6 ++ (byteL i 1 ++ D)) := by
  obtain ⟨s, g, i, D⟩ := p
  obtain ⟨a, b, c, d, e, f, k⟩ := h
  dsimp only at a b c d e f k
  obtain ⟨s, rfl⟩ := Int.eq_ofNat_of_zero_le a
  obtain ⟨g, rfl⟩ := Int.eq_ofNat_of_zero_le (show 0 ≤ g by omega)
  obtain ⟨i, rfl⟩ := Int.eq_ofNat_of_zero_le e
  exact ⟨s, g, i, D, rfl, k, rfl⟩
theorem Ix.nats {p : Ix} (h : p.Right) : ∃ (s g : Nat) (D : List Nat), p = ⟨(s : Int), (g : Int), D⟩ ∧ D.length = 128 ∧ p.lay = byteL s 1 ++ (byteL g 6 ++ D) := by
  obtain ⟨s, g, D⟩ := p
  obtain ⟨a, b, c, d, k⟩ := h
  dsimp only at a b c d k
  obtain ⟨s, rfl⟩ := Int.eq_ofNat_of_zero_le a
  obtain ⟨g, rfl⟩ := Int.eq_ofNat_of_zero_le (show 0 ≤ g by omega)
  exact ⟨s, g, D, rfl, k, rfl⟩
theorem layPs_take_len {l : List Px} (h : ∀ x ∈ l, x.Right) {i : Nat} (hi : i ≤ l.length) : (layPs (l.take i)).length = 40 * i := by
  rw [layPs_len (fun x hx => h x (List.mem_of_mem_take hx)), List.length_take, Nat.min_eq_left hi]
theorem layIs_take_len {l : List Ix} (h : ∀ x ∈ l, x.Right) {i : Nat} (hi : i ≤ l.length) : (layIs (l.take i)).length = 135 * i := by
  rw [layIs_len (fun x hx => h x (List.mem_of_mem_take hx)), List.length_take, Nat.min_eq_left hi]
theorem layPs_take {l : List Px} {i : Nat} {x : Px} (h : l[i]? = some x) : layPs (l.take (i + 1)) = layPs (l.take i) ++ x.lay := by
  rw [List.take_add_one, h, ← layPs_snoc]; rfl
theorem layIs_take {l : List Ix} {i : Nat} {x : Ix} (h : l[i]? = some x) : layIs (l.take (i + 1)) = layIs (l.take i) ++ x.lay := by
  rw [List.take_add_one, h, ← layIs_snoc]; rfl
end Go.Proofs.YtjgbfghkiahfaaaGreatDoor
namespace Go.Proofs.YtjgbfghkiahfaaaGreatDoor
open Go.RowKit Go.Sort
set_option maxRecDepth 100000
set_option maxHeartbeats 1000000

/-- corbelhand.Piece: what it answers. -/
def GPRet (s g i : Int) (n : Nat) (x : Int) (w : World) (e : Ending) (w' : World) : Prop := ∃ b, e = .returned (pv s g i (some ⟨b, 0, none⟩) n n) ∧ Blk8 w' b n (bytesF x) ∧ Below w.heap.size w w' ∧ w.heap.size ≤ b
theorem PV.put_s {w : World} {b n c : Nat} {s g i s' : Int} {A : Option Addr} (h : PV w b s g i A n c) : PV (w.setCell ⟨b, 0, none⟩ (.int .i64 s')) b s' g i A n c := by
  unfold PV at h ⊢
  rw [set_block h 0 _]
  rfl
theorem PV.put_g {w : World} {b n c : Nat} {s g i g' : Int} {A : Option Addr} (h : PV w b s g i A n c) : PV (w.setCell ⟨b, 1, none⟩ (.int .i64 g')) b s g' i A n c := by
  unfold PV at h ⊢
  rw [set_block h 1 _]
  rfl
theorem PV.put_i {w : World} {b n c : Nat} {s g i i' : Int} {A : Option Addr} (h : PV w b s g i A n c) : PV (w.setCell ⟨b, 2, none⟩ (.int .i64 i')) b s g i' A n c := by
  unfold PV at h ⊢
  rw [set_block h 2 _]
  rfl
theorem PV.put_d {w : World} {b n c n' c' : Nat} {s g i : Int} {A A' : Option Addr} (h : PV w b s g i A n c) : PV (w.setCell ⟨b, 3, none⟩ (.slice A' n' c')) b s g i A' n' c' := by
  unfold PV at h ⊢
  rw [set_block h 3 _]
  rfl
theorem PV.other {w : World} {b n c b' k : Nat} {s g i : Int} {A : Option Addr} {v : Value} (h : PV w b s g i A n c) (hne : b ≠ b') : PV (w.setCell ⟨b', k, none⟩ v) b s g i A n c := (set_other hne k v).trans h
theorem Blk8.far {w : World} {g n b k : Nat} {F : Nat → Nat} {cs : Array Value} {t : TypeId} {fr : Nat × Nat} {v : Value} (h : Blk8 w g n F) (hb : w.heap[b]? = some (.cells cs t fr)) (ht : t ≠ 5) : Blk8 (w.setCell ⟨b, k, none⟩ v) g n F :=
  h.keep (set_other (by rintro rfl; obtain ⟨cs', h1, _⟩ := h; rw [hb] at h1; cases h1; exact ht rfl) k v)
theorem Blk8.far4 {w : World} {q m : Nat} {D : Nat → Nat} {b n c : Nat} {s g i : Int} {B : Option Addr} (h : Blk8 w q m D) (k : PV w b s g i B n c) {v0 v1 v2 v3 : Value} :
    Blk8 ((((w.setCell ⟨b, 0, none⟩ v0).setCell ⟨b, 1, none⟩ v1).setCell ⟨b, 2, none⟩ v2).setCell ⟨b, 3, none⟩ v3) q m D := by
  have h1 := set_block k 0 v0
  have h2 := set_block h1 1 v1
  have h3 := set_block h2 2 v2
  exact (((h.far k (by decide)).far h1 (by decide)).far h2 (by decide)).far h3 (by decide)
/-- What stands behind the switch. -/
theorem gpiece_end {w w3 : World} {H b n : Nat} {s g i : Int} {x : Int} (hH : w.heap.size = H) (k0 : PV w3 H 0 0 0 none 0 0) (kb : Blk8 w3 b n (bytesF x)) (hb : Below H w w3) (hl : H ≤ b) :
    PV ((((w3.setCell ⟨H, 0, none⟩ (.int .i64 s)).setCell ⟨H, 1, none⟩ (.int .i64 g)).setCell ⟨H, 2, none⟩ (.int .i64 i)).setCell ⟨H, 3, none⟩ (.slice (some ⟨b, 0, none⟩) n n)) H s g i (some ⟨b, 0, none⟩) n n ∧
    GPRet s g i n x w (.returned (pv s g i (some ⟨b, 0, none⟩) n n)) ((((w3.setCell ⟨H, 0, none⟩ (.int .i64 s)).setCell ⟨H, 1, none⟩ (.int .i64 g)).setCell ⟨H, 2, none⟩ (.int .i64 i)).setCell ⟨H, 3, none⟩ (.slice (some ⟨b, 0, none⟩) n n)) :=
  ⟨k0.put, b, rfl, kb.far4 k0, by rw [hH]; exact below_put4 hb (Nat.le_refl _) _ _ _ _, by rw [hH]; exact hl⟩
theorem tdiv24 (x : Int) (h : -9223372036854775808 ≤ x) (h2 : x ≤ 9223372036854775807) : IntKind.i64.wrap (x.tdiv 24) = x.tdiv 24 := by
  refine IntWalk.i64_in _ ?_
  rcases Int.le_total 0 x with h0 | h0
  · rw [Int.tdiv_eq_ediv_of_nonneg h0]; omega
  · have e : x.tdiv 24 = -((-x) / 24) := by
      rw [← Int.tdiv_eq_ediv_of_nonneg (by omega), Int.neg_tdiv, Int.neg_neg]
    rw [e]; omega
end Go.Proofs.YtjgbfghkiahfaaaGreatDoor
namespace Go.Proofs.YtjgbfghkiahfaaaGreatDoor
open Go.RowKit Go.Sort
set_option maxRecDepth 100000
set_option maxHeartbeats 2000000

theorem IV.put_s {w : World} {b n c : Nat} {s g : Int} {A : Option Addr} (h : IV w b s g A n c) (s' : Int) : IV (w.setCell ⟨b, 0, none⟩ (.int .i64 s')) b s' g A n c := set_block h 0 _
theorem IV.put_g {w : World} {b n c : Nat} {s g : Int} {A : Option Addr} (h : IV w b s g A n c) (g' : Int) : IV (w.setCell ⟨b, 1, none⟩ (.int .i64 g')) b s g' A n c := set_block h 1 _
theorem IV.f' {w : World} {b n c : Nat} {s g : Int} {A : Option Addr} (h : IV w b s g A n c) (k : Nat) : w.frozen? ⟨b, k, none⟩ = false := free_of_block h
theorem PV.f' {w : World} {b n c : Nat} {s g i : Int} {A : Option Addr} (h : PV w b s g i A n c) (k : Nat) : w.frozen? ⟨b, k, none⟩ = false := free_of_block h

section
variable {w0 v v' : World} {r H n c : Nat} {s g i : Int} {A : Option Addr} {D : List Nat} {st st' : St}
end
section
variable {w0 v v' : World} {r H n c : Nat} {s g : Int} {A : Option Addr} {D : List Nat} {st st' : St}
end
end Go.Proofs.YtjgbfghkiahfaaaGreatDoor
namespace Go.Proofs.YtjgbfghkiahfaaaGreatDoor
open Go.RowKit Go.Sort
set_option maxRecDepth 100000
set_option maxHeartbeats 4000000

theorem RV.put1 {w : World} {b : Nat} {code boot : Int} {u v : Value} (h : RV w b code boot u v) (y : Int) : RV (w.setCell ⟨b, 1, none⟩ (.int .i64 y)) b code y u v := set_block h 1 _
section
variable {w0 v v' : World} {H : Nat} {code boot : Int} {u1 u2 : Value} {l : List Px} {m : List Ix} {st st' : St}
end
theorem numL_byte {k : Nat} {s : St} (hb : By s.1) (hk : k ≤ 1) : numL (nx k s).1 ≤ 255 := by
  have h1 := numL_lt (nx_by (k := k) hb).1
  have h2 : (256 : Nat) ^ (nx k s).1.length ≤ 256 ^ 1 := Nat.pow_le_pow_right (by decide) (by have := (nx_len k s).1; omega)
  omega
/-- A reply is told, or none. -/
def ReadR (o : Option Rx) (w : World) (e : Ending) (w' : World) : Prop := ∃ v, e = .returned (.tuple #[v, .int .i64 (if o.isSome then 0 else 2)]) ∧ RVal w' v (o.getD Rx.no) ∧ Below w.heap.size w w'
end Go.Proofs.YtjgbfghkiahfaaaGreatDoor
namespace Go.Proofs.YtjgbfghkiahfaaaGreatDoor
open Go.RowKit Go.Sort
set_option maxRecDepth 100000
set_option maxHeartbeats 1000000

end Go.Proofs.YtjgbfghkiahfaaaGreatDoor
namespace Go.Proofs.YtjgbfghkiahfaaaGreatDoor
open Go.RowKit Go.Sort
set_option maxRecDepth 100000
set_option maxHeartbeats 2000000

theorem Blk8.farB {w : World} {g n b k : Nat} {F : Nat → Nat} {cs : Array Value} {t : TypeId} {fr : Nat × Nat} {v : Value} (h : Blk8 w g n F) (hb : w.heap[b]? = some (.cells cs t fr)) (ht : t ≠ 5) : Blk8 (w.setCell ⟨b, k, none⟩ v) g n F :=
  h.keep (set_other (by rintro rfl; obtain ⟨cs', h1, _⟩ := h; rw [hb] at h1; cases h1; exact ht rfl) k v)
/-- corbelref7.piece. -/
def RPcRet (B : Nat → Nat) (L : Nat) (w : World) (e : Ending) (w' : World) : Prop :=
  ∃ g c, e = .returned (pv (B 0 : Nat) (numF (fun j => B (1 + j)) 6 : Nat) (B 7 : Nat) (some ⟨g, 0, none⟩) (L - 8) c) ∧ Blk8 w' g (L - 8) (fun j => B (8 + j)) ∧ Below w.heap.size w w'
end Go.Proofs.YtjgbfghkiahfaaaGreatDoor
namespace Go.Proofs.YtjgbfghkiahfaaaGreatDoor
open Go.RowKit Go.Sort
set_option maxRecDepth 100000
set_option maxHeartbeats 1000000

end Go.Proofs.YtjgbfghkiahfaaaGreatDoor
namespace Go.Proofs.YtjgbfghkiahfaaaGreatDoor
open Go.RowKit Go.Sort
set_option maxRecDepth 100000
set_option maxHeartbeats 4000000

end Go.Proofs.YtjgbfghkiahfaaaGreatDoor
namespace Go.Proofs.YtjgbfghkiahfaaaGreatDoor
open Go.RowKit Go.Sort
set_option maxRecDepth 100000
set_option maxHeartbeats 2000000

end Go.Proofs.YtjgbfghkiahfaaaGreatDoor
namespace Go.Proofs.YtjgbfghkiahfaaaGreatDoor
open Go.RowKit Go.Sort
set_option maxRecDepth 100000
set_option maxHeartbeats 2000000

/-! The reference's intents. -/
/-- SameIntent. -/
theorem rsameI (s g s' g' : Int) (A A' : Option Addr) (n c n' c' : Nat) (D D' : Nat → Nat) (w : World) (h1 : Rd w A n D) (h2 : Rd w A' n' D') (b1 : ∀ j, j < n → D j < 256) (b2 : ∀ j, j < n' → D' j < 256)
    (t : Bool) (ht : t = true ↔ s = s' ∧ g = g' ∧ n = n' ∧ ∀ j, j < n → D j = D' j) :
    Calls Tryz.prog 28 #[iv s g A n c, iv s' g' A' n' c'] w fun e w' => e = .returned (.bool t) ∧ Below w.heap.size w w' := by
  have HT := Lib.hid ht
  obtain ⟨w1, hw1⟩ : ∃ w1, (w.alloc (.cells #[.int .i64 s, .int .i64 g, .slice A n c] 56)).alloc (.cells #[.int .i64 s', .int .i64 g', .slice A' n' c'] 56) = w1 := ⟨_, rfl⟩
  have HB1 : Hid (Below w.heap.size w w1) := Lib.hid (by rw [← hw1]; exact ((Below.refl _ _).alloc (Nat.le_refl _) _).alloc (by simp) _)
  have HW1 := Lib.hid hw1
  have v1 := conv_rd (cap := c) (h1.keep HB1.out)
  have v2 := conv_rd (cap := c') (h2.keep HB1.out)
  have HST := Lib.hid (str_eq b1 b2)
  generalize strOf ((List.range n).map D) = s1 at *
  generalize strOf ((List.range n').map D') = s2 at *
  rw [← hw1] at v1 v2
  clear ht h1 h2 b1 b2 hw1
  unfold iv
  by_cases hs : s = s'
  · have e1 : (s == s') = true := beq_iff_eq.2 hs
    have HS := Lib.hid hs
    clear hs
    by_cases hg : g = g'
    · have e2 : (g == g') = true := beq_iff_eq.2 hg
      have HG := Lib.hid hg
      clear hg
      have e4 : (s1.toList == s2.toList) = t := by
        cases ht' : t with
        | true => exact beq_iff_eq.2 (HST.out.2 (HT.out.1 ht').2.2)
        | false => exact beq_eq_false_iff_ne.2 (fun e => by have := HT.out.2 ⟨HS.out, HG.out, HST.out.1 e⟩; rw [ht'] at this; cases this)
      go_enter Tryz.func28, Tryz.ntmps28
      go_wp2_with fail
      go_ret
      rw [HW1.out]
      exact ⟨rfl, HB1.out⟩
    · have e2 : (g == g') = false := beq_eq_false_iff_ne.2 hg
      obtain rfl : t = false := not_true HT.out (fun h => hg h.2.1)
      clear hg
      go_enter Tryz.func28, Tryz.ntmps28
      go_wp2_with fail
      go_ret
      rw [HW1.out]
      exact ⟨rfl, HB1.out⟩
  · have e1 : (s == s') = false := beq_eq_false_iff_ne.2 hs
    obtain rfl : t = false := not_true HT.out (fun h => hs h.1)
    clear hs
    go_enter Tryz.func28, Tryz.ntmps28
    go_wp2_with fail
    go_ret
    rw [HW1.out]
    exact ⟨rfl, HB1.out⟩

theorem rsameIV {w : World} {v v' : Value} {x y : It} (h : ItV w v x) (h' : ItV w v' y) (hx : ∀ j, j < 128 → x.D j < 256) (hy : ∀ j, j < 128 → y.D j < 256) (t : Bool) (ht : t = true ↔ x.Alike y) :
    Calls Tryz.prog 28 #[v, v'] w fun e w' => e = .returned (.bool t) ∧ Below w.heap.size w w' := by
  obtain ⟨A, c, rfl, d⟩ := h
  obtain ⟨A', c', rfl, d'⟩ := h'
  refine rsameI _ _ _ _ A A' 128 c 128 c' x.D y.D w d.rd d'.rd hx hy t ⟨fun h => ?_, fun h => ht.2 ⟨by omega, by omega, h.2.2.2⟩⟩
  obtain ⟨a, b, e⟩ := ht.1 h
  exact ⟨by omega, by omega, rfl, e⟩
/-- LayIntent. -/
def RILay (no : Nat) (x : It) (w : World) (e : Ending) (w' : World) : Prop := ∃ g cap, e = .returned (.slice (some ⟨g, 0, none⟩) 160 cap) ∧ Blk8 w' g 160 (itS no x) ∧ Below w.heap.size w w' ∧ 160 ≤ cap ∧ w.heap.size ≤ g
end Go.Proofs.YtjgbfghkiahfaaaGreatDoor
namespace Go.Proofs.YtjgbfghkiahfaaaGreatDoor
open Go.RowKit Go.Sort
set_option maxRecDepth 100000
set_option maxHeartbeats 2000000

theorem list_D {D E : List Nat} : (D.length = E.length ∧ ∀ j, j < D.length → gt D j = gt E j) ↔ D = E := ⟨fun h => gt_ext h.1 h.2, fun h => by subst h; exact ⟨rfl, fun _ _ => rfl⟩⟩
theorem take_step {α : Type} {l m : List α} {i : Nat} {x y : α} (hx : l[i]? = some x) (hy : m[i]? = some y) (h : l.take i = m.take i) (e : x = y) : l.take (i + 1) = m.take (i + 1) := by
  rw [List.take_add_one, List.take_add_one, hx, hy, h, e]

theorem isameX {w : World} {v v' : Value} {p q : Ix} (h : IxV w v p) (h' : IxV w v' q) (t : Bool) (ht : t = true ↔ p = q) :
    Calls Tryz.prog 108 #[v, v'] w fun e w' => e = .returned (.bool t) ∧ Below w.heap.size w w' := by
  obtain ⟨A, c, rfl, h1, b1⟩ := h
  obtain ⟨A', c', rfl, h2, b2⟩ := h'
  refine isame _ _ _ _ A A' p.D.length c q.D.length c' (gt p.D) (gt q.D) w h1.rd h2.rd (fun j _ => b1.gt j) (fun j _ => b2.gt j) t (ht.trans ⟨fun e => by subst e; exact ⟨rfl, rfl, list_D.2 rfl⟩, fun e => ?_⟩)
  obtain ⟨e0, e1, e9⟩ := e
  obtain ⟨x0, x1, D⟩ := p
  obtain ⟨y0, y1, E⟩ := q
  dsimp only at e0 e1 e9
  have := list_D.1 e9
  subst e0 e1 this
  rfl

theorem rsameIX {w : World} {v v' : Value} {p q : Ix} (h : IxV w v p) (h' : IxV w v' q) (t : Bool) (ht : t = true ↔ p = q) :
    Calls Tryz.prog 28 #[v, v'] w fun e w' => e = .returned (.bool t) ∧ Below w.heap.size w w' := by
  obtain ⟨A, c, rfl, h1, b1⟩ := h
  obtain ⟨A', c', rfl, h2, b2⟩ := h'
  refine rsameI _ _ _ _ A A' p.D.length c q.D.length c' (gt p.D) (gt q.D) w h1.rd h2.rd (fun j _ => b1.gt j) (fun j _ => b2.gt j) t (ht.trans ⟨fun e => by subst e; exact ⟨rfl, rfl, list_D.2 rfl⟩, fun e => ?_⟩)
  obtain ⟨e0, e1, e9⟩ := e
  obtain ⟨x0, x1, D⟩ := p
  obtain ⟨y0, y1, E⟩ := q
  dsimp only at e0 e1 e9
  have := list_D.1 e9
  subst e0 e1 this
  rfl

end Go.Proofs.YtjgbfghkiahfaaaGreatDoor
