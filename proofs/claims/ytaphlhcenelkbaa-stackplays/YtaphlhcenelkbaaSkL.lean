/- Stacks by their frames alone: what each call answers and leaves; awake; StackNil. -/
import Derived.Test.YtaphlhcenelkbaaSkK
namespace Go.Proofs.Ytaphlhcenelkbaa
open Go.RowKit Go.Maps

/-- block sb is a stack with these frames, its blocks of S, none of which W has; of W nothing is turned -/
structure One (k : Bool) (W w : World) (S : Nat → Prop) (sb : Nat) (ps : List PF) : Prop where
  st : ∃ fv fs, SkAt k w S sb fv fs ∧ fs.map Fr.p = ps
  lo : ∀ j, S j → W.heap.size ≤ j
  bl : Below W.heap.size W w
theorem One.bel {k : Bool} {W w w' : World} {S : Nat → Prop} {sb : Nat} {ps : List PF} (h : One k W w S sb ps) (hb : Below w.heap.size w w') : One k W w' S sb ps := by
  obtain ⟨⟨fv, fs, h1, h2⟩, lo, bl⟩ := h
  exact ⟨⟨fv, fs, h1.below hb, h2⟩, lo, Below.step bl hb⟩
theorem One.sz {k : Bool} {W w : World} {S : Nat → Prop} {sb : Nat} {ps : List PF} (h : One k W w S sb ps) : ∀ j, S j → j < w.heap.size := by
  obtain ⟨⟨fv, fs, h1, h2⟩, lo, bl⟩ := h
  exact h1.sz
/-- what a call that turns a stack leaves, by the frames alone -/
def OneN (k : Bool) (W w : World) (S : Nat → Prop) (sb : Nat) (w' : World) (ps : List PF) : Prop := ∃ S', One k W w' S' sb ps ∧ Tch S w w' ∧ ∀ j, S' j → S j ∨ w.heap.size ≤ j
theorem One.step {k : Bool} {W w w' : World} {S : Nat → Prop} {sb : Nat} {ps ps' : List PF} (h : One k W w S sb ps) (hn : SkP k S w w' sb ps') : OneN k W w S sb w' ps' := by
  obtain ⟨fs, ⟨⟨fv, h1⟩, T⟩, e⟩ := hn
  have hz := h.bl.size
  exact ⟨_, ⟨⟨fv, fs, h1, e⟩, fun j hj => hj.elim (h.lo j) (fun x => by omega), h.bl.trans (T.below hz (fun j hj => h.lo j hj))⟩, T, fun j hj => hj.imp id (fun x => x.1)⟩
theorem one_new (W w : World) (hb : Below W.heap.size W w) : Calls Try.prog 8 #[] w fun e w' => e = .returned (.pointer (some ⟨w.heap.size, 0, none⟩)) ∧ One true W w' (fun j => j = w.heap.size) w.heap.size [] ∧ Below w.heap.size w w' :=
  (new_s w).mono (fun e w' x => ⟨x.1, ⟨⟨_, [], x.2.1, rfl⟩, fun j hj => by have := hb.size; omega, Below.step hb x.2.2⟩, x.2.2⟩)
section
variable {W w : World} {S : Nat → Prop} {sb : Nat} {ps : List PF} (h : One true W w S sb ps)
include h
theorem one_ent (l m : Int) : Calls Try.prog 15 #[.pointer (some ⟨sb, 0, none⟩), .int .i64 l, .int .i64 m] w fun e w' => e = .returned (.int .i64 (enE ps l m)) ∧ OneN true W w S sb w' (enP ps l m) := by
  obtain ⟨fv, fs, h1, rfl⟩ := h.st
  exact (ent_c h1 l m).mono (fun e w' x => ⟨x.1, h.step x.2⟩)
theorem one_lev : Calls Try.prog 16 #[.pointer (some ⟨sb, 0, none⟩)] w fun e w' => e = .returned (.int .i64 (lvE ps)) ∧ OneN true W w S sb w' ps.tail := by
  obtain ⟨fv, fs, h1, rfl⟩ := h.st
  exact (lev_c h1).mono (fun e w' x => ⟨x.1, h.step x.2⟩)
theorem one_put (v : Bool × Int) : Calls Try.prog 17 #[.pointer (some ⟨sb, 0, none⟩), vlV v] w fun e w' => e = .returned (.int .i64 (puE ps)) ∧ OneN true W w S sb w' (puP v ps) := by
  obtain ⟨fv, fs, h1, rfl⟩ := h.st
  exact (putK_c h1 v).mono (fun e w' x => ⟨x.1, h.step x.2⟩)
theorem one_take : Calls Try.prog 21 #[.pointer (some ⟨sb, 0, none⟩)] w fun e w' => e = .returned (.tuple #[oV (tkO ps), .int .i64 (tkE ps)]) ∧ OneN true W w S sb w' (tkP ps) := by
  obtain ⟨fv, fs, h1, rfl⟩ := h.st
  exact (takeK_c h1).mono (fun e w' x => ⟨x.1, h.step x.2⟩)
theorem one_frm : Calls Try.prog 10 #[.pointer (some ⟨sb, 0, none⟩)] w fun e w' => e = .returned (.int .i64 (ps.length : Int)) ∧ Below w.heap.size w w' := by
  obtain ⟨fv, fs, h1, rfl⟩ := h.st
  rw [List.length_map]
  exact frm_c h1
theorem one_wrd : Calls Try.prog 11 #[.pointer (some ⟨sb, 0, none⟩)] w fun e w' => e = .returned (.int .i64 (wdP ps : Int)) ∧ Below w.heap.size w w' := by
  obtain ⟨fv, fs, h1, rfl⟩ := h.st
  rw [← wdF_p]
  exact wrd_c h1
end
/-- the operands of the top frame; what Peek, Local, SetLocal answer and leave -/
def dpP : List PF → Nat
  | [] => 0
  | f :: _ => f.xs.length
def peO : List PF → Int → Option (Bool × Int)
  | [], _ => none
  | f :: _, k => pkI f.xs k
def peE : List PF → Int → Int
  | [], _ => 6
  | f :: _, k => oE 35 (pkI f.xs k)
def loO : List PF → Int → Option (Bool × Int)
  | [], _ => none
  | f :: _, i => lcI f.ls i
def loE : List PF → Int → Int
  | [], _ => 6
  | f :: _, i => oE 3 (lcI f.ls i)
def seE : List PF → Int → Int
  | [], _ => 6
  | f :: _, i => if 0 ≤ i ∧ i < (f.ls.length : Int) then 0 else 3
def seP (i : Int) (v : Bool × Int) : List PF → List PF
  | [] => []
  | f :: r => if 0 ≤ i ∧ i < (f.ls.length : Int) then { f with ls := f.ls.set i.toNat v } :: r else f :: r
theorem slE_p (fs : List Fr) (i : Int) : slE fs i = seE (fs.map Fr.p) i := by cases fs <;> rfl
theorem slF_p (fs : List Fr) (i : Int) (v : Bool × Int) : (slF i v fs).map Fr.p = seP i v (fs.map Fr.p) := by
  cases fs with
  | nil => rfl
  | cons f r =>
    show (if 0 ≤ i ∧ i < (f.ls.length : Int) then ({ f with ls := f.ls.set i.toNat v } :: r : List Fr) else f :: r).map Fr.p = if 0 ≤ i ∧ i < (f.ls.length : Int) then _ else _
    split <;> rfl
section
variable {W w : World} {S : Nat → Prop} {sb : Nat} {ps : List PF} (h : One true W w S sb ps)
include h
theorem one_set (i : Int) (v : Bool × Int) : Calls Try.prog 18 #[.pointer (some ⟨sb, 0, none⟩), .int .i64 i, vlV v] w fun e w' => e = .returned (.int .i64 (seE ps i)) ∧ OneN true W w S sb w' (seP i v ps) := by
  obtain ⟨fv, fs, h1, rfl⟩ := h.st
  rw [← slE_p]
  exact (setl_c h1 i v).mono (fun e w' x => ⟨x.1, h.step ⟨_, x.2, slF_p fs i v⟩⟩)
theorem one_dpt : Calls Try.prog 13 #[.pointer (some ⟨sb, 0, none⟩)] w fun e w' => e = .returned (.int .i64 (dpP ps : Int)) ∧ Below w.heap.size w w' := by
  obtain ⟨fv, fs, h1, rfl⟩ := h.st
  have := dpt_c h1
  cases fs <;> exact this
theorem one_peek (k : Int) : Calls Try.prog 22 #[.pointer (some ⟨sb, 0, none⟩), .int .i64 k] w fun e w' => e = .returned (.tuple #[oV (peO ps k), .int .i64 (peE ps k)]) ∧ Below w.heap.size w w' := by
  obtain ⟨fv, fs, h1, rfl⟩ := h.st
  cases fs with
  | nil => exact peek_none h1 k
  | cons f r => exact peek_yes h1 k
theorem one_local (i : Int) : Calls Try.prog 19 #[.pointer (some ⟨sb, 0, none⟩), .int .i64 i] w fun e w' => e = .returned (.tuple #[oV (loO ps i), .int .i64 (loE ps i)]) ∧ Below w.heap.size w w' := by
  obtain ⟨fv, fs, h1, rfl⟩ := h.st
  cases fs with
  | nil => exact local_none h1 i
  | cons f r => exact local_yes h1 i
end
set_option maxRecDepth 100000 in
theorem awake_s (W : World) : Calls Try.prog 7 #[] W fun e w' => e = .returned (.bool true) ∧ Below W.heap.size W w' := by
  have HN : Hid (Calls Try.prog 8 #[] W fun e w' => e = .returned (.pointer (some ⟨W.heap.size, 0, none⟩)) ∧ One true W w' (fun j => j = W.heap.size) W.heap.size [] ∧ Below W.heap.size W w') := one_new W W (Below.refl _ _)
  have HE : Hid (∀ w S, One true W w S W.heap.size [] → Calls Try.prog 15 #[.pointer (some ⟨W.heap.size, 0, none⟩), .int .i64 2, .int .i64 1] w fun e w' => e = .returned (.int .i64 0) ∧ OneN true W w S W.heap.size w' [⟨[], 1, [(false, 0), (false, 0)]⟩]) := fun w S h => one_ent h 2 1
  have HP : Hid (∀ w S, One true W w S W.heap.size [⟨[], 1, [(false, 0), (false, 0)]⟩] → Calls Try.prog 17 #[.pointer (some ⟨W.heap.size, 0, none⟩), .agg #[.bool false, .int .i64 5]] w fun e w' => e = .returned (.int .i64 0) ∧ OneN true W w S W.heap.size w' [⟨[(false, 5)], 1, [(false, 0), (false, 0)]⟩]) := fun w S h => one_put h (false, 5)
  have HW : Hid (∀ w S, One true W w S W.heap.size [⟨[(false, 5)], 1, [(false, 0), (false, 0)]⟩] → Calls Try.prog 11 #[.pointer (some ⟨W.heap.size, 0, none⟩)] w fun e w' => e = .returned (.int .i64 6) ∧ Below w.heap.size w w') := fun w S h => one_wrd h
  go_enter Try.func7, Try.ntmps7
  go_wp2_with (first
    | (go_at_call 11; refine (HW.out _ _ O3.out).mono ?_; rintro e w4 ⟨rfl, hb⟩; have O4 : Hid (One true W w4 S3 W.heap.size [⟨[(false, 5)], 1, [(false, 0), (false, 0)]⟩]) := O3.out.bel hb; clear hb)
    | (go_at_call 17; refine (HP.out _ _ O2.out).mono ?_; rintro e w3 ⟨rfl, S3, o3, t3, u3⟩; have O3 : Hid (One true W w3 S3 W.heap.size [⟨[(false, 5)], 1, [(false, 0), (false, 0)]⟩]) := o3; clear o3 t3 u3)
    | (go_at_call 15; refine (HE.out _ _ O1.out).mono ?_; rintro e w2 ⟨rfl, S2, o2, t2, u2⟩; have O2 : Hid (One true W w2 S2 W.heap.size [⟨[], 1, [(false, 0), (false, 0)]⟩]) := o2; clear o2 t2 u2)
    | (go_at_call 8; refine (HN.out).mono ?_; rintro e w1 ⟨rfl, o1, hb⟩; have O1 : Hid (One true W w1 (fun j => j = W.heap.size) W.heap.size []) := o1; clear o1 hb))
  go_ret
  exact ⟨rfl, O4.out.bl⟩
set_option maxRecDepth 100000 in
set_option maxHeartbeats 1000000 in
theorem StackNil_any (W : World) : Calls Try.prog 6 #[] W fun e w' => e = .returned (.bool true) ∧ Below W.heap.size W w' := by
  have HA : Hid (∀ w : World, Calls Try.prog 7 #[] w fun e w' => e = .returned (.bool true) ∧ Below w.heap.size w w') := awake_s
  have H1 : Hid (∀ w : World, Calls Try.prog 21 #[.pointer none] w fun e w' => e = .returned (.tuple #[.agg #[.bool false, .int .i64 0], .int .i64 2]) ∧ Below w.heap.size w w') := takeK_nil
  have H2 : Hid (∀ w : World, Calls Try.prog 22 #[.pointer none, .int .i64 0] w fun e w' => e = .returned (.tuple #[.agg #[.bool false, .int .i64 0], .int .i64 2]) ∧ Below w.heap.size w w') := peek_nil 0
  have H3 : Hid (∀ w : World, Calls Try.prog 19 #[.pointer none, .int .i64 0] w fun e w' => e = .returned (.tuple #[.agg #[.bool false, .int .i64 0], .int .i64 2]) ∧ Below w.heap.size w w') := local_nil 0
  have H4 : Hid (∀ w : World, Calls Try.prog 15 #[.pointer none, .int .i64 0, .int .i64 0] w fun e w' => e = .returned (.int .i64 2) ∧ Below w.heap.size w w') := ent_nil 0 0
  have H5 : Hid (∀ w : World, Calls Try.prog 16 #[.pointer none] w fun e w' => e = .returned (.int .i64 2) ∧ Below w.heap.size w w') := lev_nil
  have H6 : Hid (∀ w : World, Calls Try.prog 17 #[.pointer none, .agg #[.bool false, .int .i64 0]] w fun e w' => e = .returned (.int .i64 2) ∧ Below w.heap.size w w') := putK_nil (false, 0)
  have H7 : Hid (∀ w : World, Calls Try.prog 18 #[.pointer none, .int .i64 0, .agg #[.bool false, .int .i64 0]] w fun e w' => e = .returned (.int .i64 2) ∧ Below w.heap.size w w') := setl_nil 0 (false, 0)
  have H8 : Hid (∀ w : World, Calls Try.prog 10 #[.pointer none] w fun e w' => e = .returned (.int .i64 0) ∧ Below w.heap.size w w') := frm_nil
  have H9 : Hid (∀ w : World, Calls Try.prog 11 #[.pointer none] w fun e w' => e = .returned (.int .i64 0) ∧ Below w.heap.size w w') := wrd_nil
  have H10 : Hid (∀ w : World, Calls Try.prog 13 #[.pointer none] w fun e w' => e = .returned (.int .i64 0) ∧ Below w.heap.size w w') := fun w => (dpt_nil w).mono (fun e w' x => ⟨x.1, by rw [x.2]; exact Below.refl _ _⟩)
  have B0 : Hid (Below W.heap.size W W) := Below.refl _ _
  go_enter Try.func6, Try.ntmps6
  go_wp2_with (first
    | (go_at_call 13; refine (H10.out _).mono ?_; rintro e w ⟨rfl, hb⟩; have B1 : Hid (Below W.heap.size W w) := Below.step B0.out hb; clear hb B0; have B0 : Hid (Below W.heap.size W w) := B1.out; clear B1)
    | (go_at_call 11; refine (H9.out _).mono ?_; rintro e w ⟨rfl, hb⟩; have B1 : Hid (Below W.heap.size W w) := Below.step B0.out hb; clear hb B0; have B0 : Hid (Below W.heap.size W w) := B1.out; clear B1)
    | (go_at_call 10; refine (H8.out _).mono ?_; rintro e w ⟨rfl, hb⟩; have B1 : Hid (Below W.heap.size W w) := Below.step B0.out hb; clear hb B0; have B0 : Hid (Below W.heap.size W w) := B1.out; clear B1)
    | (go_at_call 18; refine (H7.out _).mono ?_; rintro e w ⟨rfl, hb⟩; have B1 : Hid (Below W.heap.size W w) := Below.step B0.out hb; clear hb B0; have B0 : Hid (Below W.heap.size W w) := B1.out; clear B1)
    | (go_at_call 17; refine (H6.out _).mono ?_; rintro e w ⟨rfl, hb⟩; have B1 : Hid (Below W.heap.size W w) := Below.step B0.out hb; clear hb B0; have B0 : Hid (Below W.heap.size W w) := B1.out; clear B1)
    | (go_at_call 16; refine (H5.out _).mono ?_; rintro e w ⟨rfl, hb⟩; have B1 : Hid (Below W.heap.size W w) := Below.step B0.out hb; clear hb B0; have B0 : Hid (Below W.heap.size W w) := B1.out; clear B1)
    | (go_at_call 15; refine (H4.out _).mono ?_; rintro e w ⟨rfl, hb⟩; have B1 : Hid (Below W.heap.size W w) := Below.step (B0.out.alloc B0.out.size _) hb; clear hb B0; have B0 : Hid (Below W.heap.size W w) := B1.out; clear B1)
    | (go_at_call 19; refine (H3.out _).mono ?_; rintro e w ⟨rfl, hb⟩; have B1 : Hid (Below W.heap.size W w) := Below.step (B0.out.alloc B0.out.size _) hb; clear hb B0; have B0 : Hid (Below W.heap.size W w) := B1.out; clear B1)
    | (go_at_call 22; refine (H2.out _).mono ?_; rintro e w ⟨rfl, hb⟩; have B1 : Hid (Below W.heap.size W w) := Below.step (B0.out.alloc B0.out.size _) hb; clear hb B0; have B0 : Hid (Below W.heap.size W w) := B1.out; clear B1)
    | (go_at_call 21; refine (H1.out _).mono ?_; rintro e w ⟨rfl, hb⟩; have B1 : Hid (Below W.heap.size W w) := Below.step B0.out hb; clear hb B0; have B0 : Hid (Below W.heap.size W w) := B1.out; clear B1)
    | (go_at_call 7; refine (HA.out _).mono ?_; rintro e w ⟨rfl, hb⟩; have B1 : Hid (Below W.heap.size W w) := Below.step B0.out hb; clear hb B0; have B0 : Hid (Below W.heap.size W w) := B1.out; clear B1))
  go_ret
  exact ⟨rfl, B0.out⟩
end Go.Proofs.Ytaphlhcenelkbaa
