/- Plain functions on lists of bytes for layer 2 (types): a type read from a text, written, descriptors; there and back. No Go text is named here. -/
import Derived.Test.YtfbhjfpkhofifaaGreatDoorRefLists
import Derived.Laws.IdiomStrings
import Derived.ArgAppend
namespace Go.Proofs.YtfbhjfpkhofifaaGreatDoor

/-- how many brackets stand at the beginning, and what is behind them -/
def bracks : List UInt8 → Nat × List UInt8
  | [] => (0, [])
  | c :: l => if c = 91 then ((bracks l).1 + 1, (bracks l).2) else (0, c :: l)

/-- up to the first semicolon, and what is behind it -/
def semi : List UInt8 → Option (List UInt8 × List UInt8)
  | [] => none
  | c :: l => if c = 59 then some ([], l) else match semi l with
    | none => none
    | some (a, b) => some (c :: a, b)

/-- a type's dimensions and name -/
def readT (l : List UInt8) : Option ((Nat × List UInt8) × List UInt8) :=
  match (bracks l).2 with
  | [] => none
  | c :: r => if c = 73 then some (((bracks l).1, []), r)
    else if c = 76 then match semi r with
      | none => none
      | some (a, b) => if validL a then some (((bracks l).1, a), b) else none
    else none

def writeT (t : Nat × List UInt8) : List UInt8 := List.replicate t.1 91 ++ (if t.2 = [] then [73] else 76 :: (t.2 ++ [59]))

/-- its name is empty or valid (its dimensions may be too many) -/
def namedT (t : Nat × List UInt8) : Bool := t.2 == [] || validL t.2
def soundT (t : Nat × List UInt8) : Bool := decide (t.1 ≤ 255) && namedT t

theorem bracks_rep (k : Nat) (c : UInt8) (r : List UInt8) (h : c ≠ 91) : bracks (List.replicate k 91 ++ c :: r) = (k, c :: r) := by
  induction k with
  | zero => simp [bracks, h]
  | succ k ih => simp [List.replicate_succ, bracks, ih]

theorem bracks_eq (l : List UInt8) : l = List.replicate (bracks l).1 91 ++ (bracks l).2 := by
  induction l with
  | nil => rfl
  | cons c l ih =>
    unfold bracks
    by_cases h : c = 91
    · simp only [h, if_true, List.replicate_succ, List.cons_append]
      rw [← ih]
    · simp [h]

theorem semi_app (a b : List UInt8) (h : (59 : UInt8) ∉ a) : semi (a ++ 59 :: b) = some (a, b) := by
  induction a with
  | nil => simp [semi]
  | cons c l ih =>
    have hc : c ≠ 59 := fun e => h (by simp [e])
    have := ih (fun m => h (List.mem_cons_of_mem _ m))
    simp [semi, hc, this]

theorem semi_eq {l a b : List UInt8} (h : semi l = some (a, b)) : l = a ++ 59 :: b ∧ (59 : UInt8) ∉ a := by
  induction l generalizing a b with
  | nil => simp [semi] at h
  | cons c l ih =>
    unfold semi at h
    by_cases hc : c = 59
    · simp [hc] at h
      obtain ⟨rfl, rfl⟩ := h
      simp [hc]
    · simp only [hc, if_false] at h
      cases e : semi l with
      | none => rw [e] at h; simp at h
      | some p =>
        obtain ⟨x, y⟩ := p
        rw [e] at h
        simp at h
        obtain ⟨rfl, rfl⟩ := h
        obtain ⟨q1, q2⟩ := ih e
        exact ⟨by rw [q1]; rfl, by simp [q2]; exact fun z => hc z.symm⟩

theorem valid_nosemi {l : List UInt8} (h : validL l = true) : (59 : UInt8) ∉ l := by
  intro m
  rcases valid_bytes h 59 m with e | e
  · simp at e
  · revert e; decide

theorem valid_nil : validL [] = false := by decide

/-- what is written is read again -/
theorem read_write (t : Nat × List UInt8) (r : List UInt8) (h : namedT t = true) : readT (writeT t ++ r) = some (t, r) := by
  obtain ⟨k, a⟩ := t
  by_cases ha : a = []
  · subst ha
    have e : writeT (k, []) ++ r = List.replicate k 91 ++ 73 :: r := by simp [writeT]
    rw [e, readT, bracks_rep k 73 r (by decide)]
    simp
  · have hv : validL a = true := by simpa [namedT, ha] using h
    have e : writeT (k, a) ++ r = List.replicate k 91 ++ 76 :: (a ++ 59 :: r) := by simp [writeT, ha]
    rw [e, readT, bracks_rep k 76 _ (by decide)]
    simp [semi_app a r (valid_nosemi hv), hv]

/-- what is read was written -/
theorem write_read {l : List UInt8} {t : Nat × List UInt8} {r : List UInt8} (h : readT l = some (t, r)) : l = writeT t ++ r ∧ namedT t = true := by
  have hb := bracks_eq l
  unfold readT at h
  cases e : (bracks l).2 with
  | nil => rw [e] at h; simp at h
  | cons c s =>
    rw [e] at h hb
    simp only at h
    by_cases h1 : c = 73
    · simp [h1] at h
      obtain ⟨rfl, rfl⟩ := h
      refine ⟨?_, by simp [namedT]⟩
      conv => lhs; rw [hb]
      simp [writeT, h1]
    · by_cases h2 : c = 76
      · subst h2
        simp only [h1, if_false, if_true] at h
        cases e2 : semi s with
        | none => rw [e2] at h; simp at h
        | some p =>
          obtain ⟨x, y⟩ := p
          rw [e2] at h
          simp only at h
          by_cases hv : validL x = true
          · simp [hv] at h
            obtain ⟨rfl, rfl⟩ := h
            have hx : x ≠ [] := fun z => by rw [z, valid_nil] at hv; simp at hv
            refine ⟨?_, by simp [namedT, hv]⟩
            conv => lhs; rw [hb]
            rw [(semi_eq e2).1]
            simp [writeT, hx]
          · simp [hv] at h
      · simp [h1, h2] at h

theorem writeT_length (t : Nat × List UInt8) : (writeT t).length = t.1 + (if t.2 = [] then 1 else t.2.length + 2) := by
  unfold writeT
  split <;> simp

theorem readT_less {l : List UInt8} {t : Nat × List UInt8} {r : List UInt8} (h : readT l = some (t, r)) : r.length < l.length := by
  rw [(write_read h).1, List.length_append, writeT_length]
  split <;> omega

/-- a written type begins with no closing bracket and is no V alone -/
theorem writeT_head (t : Nat × List UInt8) : ∃ c r, writeT t = c :: r ∧ c ≠ 41 ∧ c ≠ 86 := by
  obtain ⟨k, a⟩ := t
  cases k with
  | zero =>
    by_cases ha : a = []
    · exact ⟨73, [], by simp [writeT, ha], by decide, by decide⟩
    · exact ⟨76, a ++ [59], by simp [writeT, ha], by decide, by decide⟩
  | succ k => exact ⟨91, _, by simp [writeT, List.replicate_succ]; rfl, by decide, by decide⟩

/-- the arguments up to the closing bracket (fuel: bytes), and what is behind it -/
def readArgs : Nat → List UInt8 → Option (List (Nat × List UInt8) × List UInt8)
  | 0, _ => none
  | _ + 1, [] => none
  | f + 1, c :: l => if c = 41 then some ([], l) else match readT (c :: l) with
    | none => none
    | some (t, r) => match readArgs f r with
      | none => none
      | some (ts, r2) => some (t :: ts, r2)

def writeArgs (ts : List (Nat × List UInt8)) : List UInt8 := (ts.map writeT).flatten

theorem args_write (ts : List (Nat × List UInt8)) (r : List UInt8) (f : Nat) (hf : ts.length < f) (h : ∀ t ∈ ts, namedT t = true) : readArgs f (writeArgs ts ++ 41 :: r) = some (ts, r) := by
  induction ts generalizing f with
  | nil =>
    cases f with
    | zero => omega
    | succ f => simp [writeArgs, readArgs]
  | cons t ts ih =>
    cases f with
    | zero => omega
    | succ f =>
      have e : writeArgs (t :: ts) ++ 41 :: r = writeT t ++ (writeArgs ts ++ 41 :: r) := by simp [writeArgs]
      obtain ⟨c, q, hq, hc, _⟩ := writeT_head t
      have hr := read_write t (writeArgs ts ++ 41 :: r) (h t (List.mem_cons_self ..))
      rw [e]
      rw [hq, List.cons_append] at hr ⊢
      rw [readArgs, if_neg hc, hr]
      simp only
      rw [ih f (by simp at hf; omega) (fun x hx => h x (List.mem_cons_of_mem _ hx))]

theorem write_args {f : Nat} {l : List UInt8} {ts : List (Nat × List UInt8)} {r : List UInt8} (h : readArgs f l = some (ts, r)) : l = writeArgs ts ++ 41 :: r ∧ ∀ t ∈ ts, namedT t = true := by
  induction f generalizing l ts r with
  | zero => simp [readArgs] at h
  | succ f ih =>
    cases l with
    | nil => simp [readArgs] at h
    | cons c l =>
      rw [readArgs] at h
      by_cases hc : c = 41
      · simp [hc] at h
        obtain ⟨rfl, rfl⟩ := h
        simp [hc, writeArgs]
      · rw [if_neg hc] at h
        cases e : readT (c :: l) with
        | none => rw [e] at h; simp at h
        | some p =>
          obtain ⟨t, r1⟩ := p
          rw [e] at h
          simp only at h
          cases e2 : readArgs f r1 with
          | none => rw [e2] at h; simp at h
          | some p2 =>
            obtain ⟨us, r2⟩ := p2
            rw [e2] at h
            simp at h
            obtain ⟨rfl, rfl⟩ := h
            obtain ⟨q1, q2⟩ := ih e2
            obtain ⟨p1, p2⟩ := write_read e
            refine ⟨?_, fun x hx => ?_⟩
            · rw [p1, q1]; simp [writeArgs]
            · rcases List.mem_cons.1 hx with rfl | hx
              · exact p2
              · exact q2 x hx

/-- what stands behind the closing bracket: nothing is answered (none), or a type -/
def readRet (l : List UInt8) : Option (Option (Nat × List UInt8)) :=
  if l = [86] then some none else match readT l with
    | some (t, []) => some (some t)
    | _ => none
def writeRet : Option (Nat × List UInt8) → List UInt8
  | none => [86]
  | some t => writeT t

/-- a descriptor: its arguments and what it answers -/
def readD (l : List UInt8) : Option (List (Nat × List UInt8) × Option (Nat × List UInt8)) :=
  match l with
  | 40 :: r => match readArgs (r.length + 1) r with
    | none => none
    | some (ts, q) => match readRet q with
      | none => none
      | some x => some (ts, x)
  | _ => none
def writeD (d : List (Nat × List UInt8) × Option (Nat × List UInt8)) : List UInt8 := 40 :: (writeArgs d.1 ++ 41 :: writeRet d.2)
def namedD (d : List (Nat × List UInt8) × Option (Nat × List UInt8)) : Prop := (∀ t ∈ d.1, namedT t = true) ∧ ∀ t, d.2 = some t → namedT t = true

theorem writeArgs_length (ts : List (Nat × List UInt8)) : ts.length ≤ (writeArgs ts).length := by
  induction ts with
  | nil => simp
  | cons t ts ih =>
    have e : writeArgs (t :: ts) = writeT t ++ writeArgs ts := by simp [writeArgs]
    rw [e, List.length_append, writeT_length, List.length_cons]
    split <;> omega

theorem ret_write (x : Option (Nat × List UInt8)) (h : ∀ t, x = some t → namedT t = true) : readRet (writeRet x) = some x := by
  cases x with
  | none => simp [writeRet, readRet]
  | some t =>
    obtain ⟨c, r, hq, _, hv⟩ := writeT_head t
    have hr := read_write t [] (h t rfl)
    rw [List.append_nil] at hr
    unfold writeRet readRet
    have hne : writeT t ≠ [86] := by rw [hq]; intro z; simp at z; exact hv z.1
    rw [if_neg hne, hr]

theorem write_ret {l : List UInt8} {x : Option (Nat × List UInt8)} (h : readRet l = some x) : l = writeRet x ∧ ∀ t, x = some t → namedT t = true := by
  unfold readRet at h
  by_cases hl : l = [86]
  · simp [hl] at h
    subst h
    exact ⟨hl, fun t z => by simp at z⟩
  · rw [if_neg hl] at h
    cases e : readT l with
    | none => rw [e] at h; simp at h
    | some p =>
      obtain ⟨t, r⟩ := p
      rw [e] at h
      cases r with
      | cons a b => simp at h
      | nil =>
        simp at h
        subst h
        obtain ⟨q1, q2⟩ := write_read e
        refine ⟨by rw [q1]; simp [writeRet], fun u z => ?_⟩
        simp at z
        rw [← z]; exact q2

theorem readD_write (d : List (Nat × List UInt8) × Option (Nat × List UInt8)) (h : namedD d) : readD (writeD d) = some d := by
  obtain ⟨ts, x⟩ := d
  have hl := writeArgs_length ts
  simp only [writeD, readD]
  rw [args_write ts (writeRet x) _ (by simp; omega) h.1]
  simp only
  rw [ret_write x h.2]

theorem writeD_read {l : List UInt8} {d : List (Nat × List UInt8) × Option (Nat × List UInt8)} (h : readD l = some d) : l = writeD d ∧ namedD d := by
  unfold readD at h
  split at h
  · rename_i r
    cases e : readArgs (r.length + 1) r with
    | none => rw [e] at h; simp at h
    | some p =>
      obtain ⟨ts, q⟩ := p
      rw [e] at h
      simp only at h
      cases e2 : readRet q with
      | none => rw [e2] at h; simp at h
      | some x =>
        rw [e2] at h
        simp at h
        subst h
        obtain ⟨a1, a2⟩ := write_args e
        obtain ⟨b1, b2⟩ := write_ret e2
        exact ⟨by rw [a1, b1]; rfl, a2, b2⟩
  · simp at h

end Go.Proofs.YtfbhjfpkhofifaaGreatDoor

namespace Go.Proofs.YtfbhjfpkhofifaaGreatDoor
open Go.RowKit

/-- a sound type, as numbers and bytes -/
def sndB (d : Int) (l : List UInt8) : Bool := decide (0 ≤ d) && decide (d ≤ 255) && (l.isEmpty || validL l)

/-- OK or ErrForm -/
def chkI (b : Bool) : Int := if b then 0 else 1

theorem Below.step {w w1 w2 : World} (h1 : Below w.heap.size w w1) (h2 : Below w1.heap.size w1 w2) : Below w.heap.size w w2 := h1.trans (h2.mono h1.size)

theorem Tryz.info5 : (Tryz.prog.info? 5).map (fun i => (i.zero, i.size, i.bytes)) = some (some (.int .u8 0), 1, 1) := by kernel_rfl

/-- while the brackets are laid: the row of bytes, the type's own block, what was there before -/
structure Brk (G k j : Nat) (s : ByteArray) (w wr : World) : Prop where
  own : ∃ Y, wr.ownsRow (w.heap.size + 1) 5 1 (.slice (some ⟨G, 0, none⟩) k k) k Y ∧ Y.take j = List.replicate j (.int .u8 91)
  c0 : wr.cell? ⟨w.heap.size, 0, none⟩ = some (.int .i64 k)
  c1 : wr.cell? ⟨w.heap.size, 1, none⟩ = some (.string s)
  bel : Below w.heap.size w wr

theorem Brk.put {G k j : Nat} {s : ByteArray} {w wr : World} (h : Brk G k j s w wr) (hj : j < k) : Brk G k (j + 1) s w (wr.setCell ⟨G, j, none⟩ (.int .u8 91)) := by
  obtain ⟨⟨Y, ho, ht⟩, c0, c1, hb⟩ := h
  have hs := ho.stored j (.int .u8 91)
  have hG := (ho.lt G rfl).1
  have hl : Y.length = k := by have := ho.1; omega
  refine ⟨⟨_, hs.1, ?_⟩, hs.2.cell c0 (by simp; omega), hs.2.cell c1 (by simp; omega), hb.setCell (by show w.heap.size ≤ G; omega) _⟩
  rw [List.take_set, List.take_succ_eq_append_getElem (by omega), ht, List.set_append_right _ _ (by simp)]
  simp [List.replicate_succ']

theorem Brk.text {G k : Nat} {s : ByteArray} {w wr : World} (h : Brk G k k s w wr) : (convert 109 9 (.slice (some ⟨G, 0, none⟩) k k)).run Tryz.prog wr = .ok (.string ⟨(List.replicate k (91 : UInt8)).toArray⟩) wr := by
  obtain ⟨⟨Y, ho, ht⟩, _, _, _⟩ := h
  have hl : Y.length = k := by have := ho.1; omega
  have hY : Y = List.replicate k (.int .u8 91) := by rw [← hl, List.take_length, hl] at ht; exact ht
  have := run_convert_bytes_back (P := Tryz.prog) wr 109 9 5 ⟨G, 0, none⟩ k (List.replicate k (91 : UInt8)) Tryz.underlying109 Tryz.underlying5 Tryz.underlying9 (fun j hj => by
    rw [Addr.add_lit, Nat.zero_add, ho.cellAt j (by simp at hj; omega), hY, List.getElem?_replicate, if_pos (by simpa using hj)]
    simp)
  rw [List.length_replicate] at this
  exact this

end Go.Proofs.YtfbhjfpkhofifaaGreatDoor

namespace Go.Proofs.YtfbhjfpkhofifaaGreatDoor
open Go.RowKit

theorem snd_nat {d : Int} {l : List UInt8} (h : sndB d l = true) : ∃ k : Nat, d = k ∧ k ≤ 255 := by
  unfold sndB at h
  simp at h
  exact ⟨d.toNat, by omega, by omega⟩
theorem snd_len {d : Int} {l : List UInt8} (h : sndB d l = true) : l.length ≤ 60 := by
  unfold sndB at h
  simp only [Bool.and_eq_true, Bool.or_eq_true] at h
  rcases h.2 with e | e
  · rw [List.isEmpty_iff.1 e]; simp
  · exact valid_len e

/-- the text of a type, or nothing -/
def textS (d : Int) (l : List UInt8) : List UInt8 := if sndB d l then writeT (d.toNat, l) else []

/-- the error of ArrayOf, of Component -/
def arrE (d : Int) (l : List UInt8) : Int := if sndB d l then (if d = 255 then 5 else 0) else 1
def cmpE (d : Int) (l : List UInt8) : Int := if sndB d l then (if d = 0 then 6 else 0) else 1
/-- beside an error: the zero type -/
def outD (e x : Int) : Int := if e = 0 then x else 0
def outS (e : Int) (s : ByteArray) : ByteArray := if e = 0 then s else ⟨#[]⟩

def chkE (d : Int) (l : List UInt8) : Int := chkI (sndB d l)

/-- the error of RefText, and its text -/
def refE (d : Int) (l : List UInt8) : Int := if sndB d l then (if d = 0 ∧ l = [] then 2 else 0) else 1
def refS (d : Int) (l : List UInt8) : List UInt8 := if refE d l = 0 then (if d = 0 then l else writeT (d.toNat, l)) else []

end Go.Proofs.YtfbhjfpkhofifaaGreatDoor

namespace Go.Proofs.YtfbhjfpkhofifaaGreatDoor
open Go.RowKit

theorem semi_none (l : List UInt8) (h : (59 : UInt8) ∉ l) : semi l = none := by
  induction l with
  | nil => rfl
  | cons c l ih =>
    have hc : c ≠ 59 := fun e => h (by simp [e])
    simp [semi, hc, ih (fun m => h (List.mem_cons_of_mem _ m))]

theorem drop_cons (s : ByteArray) (i : Nat) (h : i < s.size) : s.data.toList.drop i = s[i] :: s.data.toList.drop (i + 1) := by
  rw [List.drop_eq_getElem_cons (by simpa using h)]
  congr 1
theorem drop_end (s : ByteArray) (i : Nat) (h : s.size ≤ i) : s.data.toList.drop i = [] := List.drop_of_length_le (by simpa using h)

theorem byte_eq (s : ByteArray) (i : Nat) (h : i < s.size) (c : UInt8) : (((s[i]).toNat : Int) == (c.toNat : Int)) = decide (s[i] = c) := by
  rw [Bool.eq_iff_iff]
  simp only [beq_iff_eq, decide_eq_true_eq, Int.ofNat_inj]
  exact UInt8.toNat_inj

/-- while a type is read: its own block (dimensions, name), the answer's block, what was there before -/
structure Rd (w : World) (x : Int) (nm : ByteArray) (wr : World) : Prop where
  t : wr.heap[w.heap.size + 1]? = some (.cells #[.int .i64 x, .string nm] 58 (0, 0))
  r : wr.heap[w.heap.size]? = some (.cells #[.int .i64 0, .string ⟨#[]⟩] 58 (0, 0))
  bel : Below w.heap.size w wr

theorem Rd.cells {w wr : World} {x : Int} {nm : ByteArray} (h : Rd w x nm wr) :
    wr.cell? ⟨w.heap.size + 1, 0, none⟩ = some (.int .i64 x) ∧ wr.cell? ⟨w.heap.size + 1, 1, none⟩ = some (.string nm) ∧ wr.cell? ⟨w.heap.size, 0, none⟩ = some (.int .i64 0) ∧ wr.cell? ⟨w.heap.size, 1, none⟩ = some (.string ⟨#[]⟩) ∧
    wr.frozen? ⟨w.heap.size + 1, 0, none⟩ = false ∧ wr.frozen? ⟨w.heap.size + 1, 1, none⟩ = false ∧ wr.frozen? ⟨w.heap.size, 0, none⟩ = false ∧ wr.frozen? ⟨w.heap.size, 1, none⟩ = false := by
  refine ⟨?_, ?_, ?_, ?_, ?_, ?_, ?_, ?_⟩
  · rw [cell_of_row _ (w.heap.size + 1) 0 _ 58 (0, 0) h.t]; rfl
  · rw [cell_of_row _ (w.heap.size + 1) 1 _ 58 (0, 0) h.t]; rfl
  · rw [cell_of_row _ w.heap.size 0 _ 58 (0, 0) h.r]; rfl
  · rw [cell_of_row _ w.heap.size 1 _ 58 (0, 0) h.r]; rfl
  all_goals simp [World.frozen?, h.t, h.r]

theorem Rd.dims {w wr : World} {x : Int} {nm : ByteArray} (h : Rd w x nm wr) (y : Int) : Rd w y nm (wr.setCell ⟨w.heap.size + 1, 0, none⟩ (.int .i64 y)) :=
  ⟨by rw [heap_setCell_same wr (w.heap.size + 1) 0 _ 58 _ h.t]; rfl, by rw [heap_setCell_other wr ⟨w.heap.size + 1, 0, none⟩ _ _ (by simp)]; exact h.r, h.bel.setCell (by show w.heap.size ≤ w.heap.size + 1; omega) _⟩
theorem Rd.name {w wr : World} {x : Int} {nm : ByteArray} (h : Rd w x nm wr) (s : ByteArray) : Rd w x s (wr.setCell ⟨w.heap.size + 1, 1, none⟩ (.string s)) :=
  ⟨by rw [heap_setCell_same wr (w.heap.size + 1) 1 _ 58 _ h.t]; rfl, by rw [heap_setCell_other wr ⟨w.heap.size + 1, 1, none⟩ _ _ (by simp)]; exact h.r, h.bel.setCell (by show w.heap.size ≤ w.heap.size + 1; omega) _⟩
theorem Rd.keep {w wr w1 : World} {x : Int} {nm : ByteArray} (h : Rd w x nm wr) (hb : Below wr.heap.size wr w1) : Rd w x nm w1 :=
  ⟨by rw [hb.block _ (Array.getElem?_eq_some_iff.1 h.t).1]; exact h.t, by rw [hb.block _ (Array.getElem?_eq_some_iff.1 h.r).1]; exact h.r, h.bel.trans (hb.mono h.bel.size)⟩

/-- what read answers -/
def ReadPost (s : ByteArray) (a : Nat) (e : Ending) : Prop := match readT (s.data.toList.drop a) with
  | some (t, r) => e = .returned (.tuple #[.agg #[.int .i64 t.1, .string ⟨t.2.toArray⟩], .int .i64 ((s.size : Int) - r.length)])
  | none => ∃ x y, e = .returned (.tuple #[.agg #[.int .i64 x, .string y], .int .i64 (-1)])

theorem post_none {s : ByteArray} {a : Nat} {x : Int} {y : ByteArray} (h : readT (s.data.toList.drop a) = none) : ReadPost s a (.returned (.tuple #[.agg #[.int .i64 x, .string y], .int .i64 (-1)])) := by
  unfold ReadPost; rw [h]; exact ⟨x, y, rfl⟩
theorem post_some {s : ByteArray} {a : Nat} {k : Nat} {nm r : List UInt8} {p : Int} (h : readT (s.data.toList.drop a) = some ((k, nm), r)) (hp : p = (s.size : Int) - r.length) :
    ReadPost s a (.returned (.tuple #[.agg #[.int .i64 k, .string ⟨nm.toArray⟩], .int .i64 p])) := by
  unfold ReadPost; rw [h, hp]

theorem read_nil {l : List UInt8} {j : Nat} (hb : bracks l = (j, [])) : readT l = none := by unfold readT; rw [hb]
theorem read_int {l r : List UInt8} {j : Nat} (hb : bracks l = (j, 73 :: r)) : readT l = some ((j, []), r) := by unfold readT; rw [hb]; rfl
theorem read_cls {l r x y : List UInt8} {j : Nat} (hb : bracks l = (j, 76 :: r)) (hs : semi r = some (x, y)) (hv : validL x = true) : readT l = some ((j, x), y) := by
  unfold readT; rw [hb]; simp [hs, hv]
theorem read_bad {l r x y : List UInt8} {j : Nat} (hb : bracks l = (j, 76 :: r)) (hs : semi r = some (x, y)) (hv : validL x = false) : readT l = none := by
  unfold readT; rw [hb]; simp [hs, hv]
theorem read_open {l r : List UInt8} {j : Nat} (hb : bracks l = (j, 76 :: r)) (hs : semi r = none) : readT l = none := by
  unfold readT; rw [hb]; simp [hs]
theorem read_other {l r : List UInt8} {c : UInt8} {j : Nat} (hb : bracks l = (j, c :: r)) (h1 : c ≠ 73) (h2 : c ≠ 76) : readT l = none := by
  unfold readT; rw [hb]; simp [h1, h2]

theorem bracks_step (s : ByteArray) (i : Nat) (h : i < s.size) (e : s[i] = 91) : bracks (s.data.toList.drop i) = ((bracks (s.data.toList.drop (i + 1))).1 + 1, (bracks (s.data.toList.drop (i + 1))).2) := by
  rw [drop_cons s i h, bracks, if_pos e]
theorem bracks_stop (s : ByteArray) (i : Nat) (h : i < s.size) (e : s[i] ≠ 91) : bracks (s.data.toList.drop i) = (0, s.data.toList.drop i) := by
  rw [drop_cons s i h, bracks, if_neg e]

/-- the end of a way: the answer is laid -/
theorem read_below {w wr : World} {x : Int} {nm : ByteArray} (h : Rd w x nm wr) (u v : Value) : Below w.heap.size w ((wr.setCell ⟨w.heap.size, 0, none⟩ u).setCell ⟨w.heap.size, 1, none⟩ v) :=
  (h.bel.setCell (Nat.le_refl _) _).setCell (Nat.le_refl _) _

set_option maxRecDepth 100000 in
set_option maxHeartbeats 4000000 in
theorem read_any (s : ByteArray) (hs : s.size ≤ 1000000) (a : Nat) (ha : a ≤ s.size) (w : World) :
    Calls Tryz.prog 107 #[.string s, .int .i64 a] w fun e w' => ReadPost s a e ∧ Below w.heap.size w w' := by
  have H0 : Hid (Rd w 0 ⟨#[]⟩ ((w.alloc (.cells #[.int .i64 0, .string ⟨#[]⟩] 58)).alloc (.cells #[.int .i64 0, .string ⟨#[]⟩] 58))) := by
    refine ⟨?_, ?_, ((Below.refl _ _).alloc (Nat.le_refl _) _).alloc (by simp) _⟩
    · have := heap_alloc_new (w.alloc (.cells #[.int .i64 0, .string ⟨#[]⟩] 58)) (.cells #[.int .i64 0, .string ⟨#[]⟩] 58)
      simpa using this
    · rw [Below.heap_alloc _ _ _ (by simp)]; exact heap_alloc_new w _
  have hsz : s.data.toList.length = s.size := by simp
  have HSZ : Hid _ := hsz
  clear hsz
  go_enter Tryz.func107, Tryz.ntmps107
  go_wp2
  go_loopw [1] (fun p wr => ∃ j : Nat, p = .int .i64 ((a + j : Nat) : Int) ∧ a + j ≤ s.size ∧ Hid (Rd w j ⟨#[]⟩ wr) ∧
      Hid (bracks (s.data.toList.drop a) = ((bracks (s.data.toList.drop (a + j))).1 + j, (bracks (s.data.toList.drop (a + j))).2))) (fun p _ => s.size - (intOf p).toNat)
  case atStart => exact ⟨0, rfl, ha, H0, rfl⟩
  case round =>
    clear H0
    obtain ⟨j, rfl, hj, hR, hbr⟩ := hrel
    obtain ⟨c0, c1, c2, c3, f0, f1, f2, f3⟩ := hR.out.cells
    by_cases hlt : a + j < s.size
    · by_cases h91 : s[a + j] = 91
      · have hq : (((s[a + j]).toNat : Int) == 91) = true := by have := byte_eq s (a + j) hlt 91; rw [h91] at this ⊢; rfl
        have HB : Hid (bracks (s.data.toList.drop a) = ((bracks (s.data.toList.drop (a + (j + 1)))).1 + (j + 1), (bracks (s.data.toList.drop (a + (j + 1)))).2)) := by
          rw [Hid, hbr.out, bracks_step s (a + j) hlt h91]
          simp only [Prod.mk.injEq]
          exact ⟨by rw [show a + j + 1 = a + (j + 1) by omega]; omega, by rw [show a + j + 1 = a + (j + 1) by omega]⟩
        have R : Hid (Rd w ((j : Int) + 1) ⟨#[]⟩ (wr.setCell ⟨w.heap.size + 1, 0, none⟩ (.int .i64 ((j : Int) + 1)))) := hR.out.dims _
        clear hR hbr h91
        go_wp2
        go_roundw
        case rel => exact ⟨j + 1, by go_num, by omega, by simpa using R, HB⟩
        case measure => simp [intOf]; omega
      · have hb0 : bracks (s.data.toList.drop a) = (j, s.data.toList.drop (a + j)) := by rw [hbr.out, bracks_stop s (a + j) hlt h91, Nat.zero_add]
        rw [drop_cons s (a + j) hlt] at hb0
        have q91 : (((s[a + j]).toNat : Int) == 91) = false := by have := byte_eq s (a + j) hlt 91; simp only [h91, decide_false] at this; exact this
        by_cases h73 : s[a + j] = 73
        · have q73 : (((s[a + j]).toNat : Int) == 73) = true := by have := byte_eq s (a + j) hlt 73; simp only [h73, decide_true] at this; rw [h73]; rfl
          have HP : Hid _ := post_some (p := ((a + j : Nat) : Int) + 1) (read_int (by rw [h73] at hb0; exact hb0)) (by rw [List.length_drop, HSZ.out]; omega)
          have HB : Hid _ := read_below hR.out (.int .i64 j) (.string ⟨#[]⟩)
          clear hR hbr h91 hb0 h73
          go_wp2
          refine bodyPost_ret (v := .tuple #[.agg #[.int .i64 j, .string ⟨#[]⟩], .int .i64 (((a + j : Nat) : Int) + 1)]) (by simp [results, Tryz.results107, go_sem, *]) rfl ⟨HP.out, HB.out⟩
        · have q73 : (((s[a + j]).toNat : Int) == 73) = false := by have := byte_eq s (a + j) hlt 73; simp only [h73, decide_false] at this; exact this
          by_cases h76 : s[a + j] = 76
          · have q76 : (((s[a + j]).toNat : Int) == 76) = true := by have := byte_eq s (a + j) hlt 76; simp only [h76, decide_true] at this; rw [h76]; rfl
            have n76 : (((s[a + j]).toNat : Int) != 76) = false := by rw [bne, q76]; rfl
            rw [h76] at hb0
            have HB0 : Hid _ := hb0
            clear hbr h91 h73 h76 hb0
            go_wp2
            go_loop [7] (fun iv => ∃ i : Nat, iv = .int .i64 i ∧ a + j + 1 ≤ i ∧ i ≤ s.size ∧ Hid ((59 : UInt8) ∉ (s.data.toList.drop (a + j + 1)).take (i - (a + j + 1)))) (fun iv => s.size - (intOf iv).toNat)
            case atStart => exact ⟨a + j + 1, by go_num, Nat.le_refl _, by omega, by simp [Hid]⟩
            case round =>
              obtain ⟨i, rfl, hi1, hi2, hfr⟩ := hrel
              by_cases hil : i < s.size
              · by_cases h59 : s[i] = 59
                · have q59 : (((s[i]).toNat : Int) == 59) = true := by have := byte_eq s i hil 59; simp only [h59, decide_true] at this; rw [h59]; rfl
                  have hsm : semi (s.data.toList.drop (a + j + 1)) = some ((s.extract (a + j + 1) i).data.toList, s.data.toList.drop (i + 1)) := by
                    have e1 : s.data.toList.drop (a + j + 1) = (s.data.toList.drop (a + j + 1)).take (i - (a + j + 1)) ++ 59 :: s.data.toList.drop (i + 1) := by
                      have e2 : (s.data.toList.drop (a + j + 1)).drop (i - (a + j + 1)) = s.data.toList.drop i := by rw [List.drop_drop]; congr 1; omega
                      have e3 := drop_cons s i hil
                      rw [h59] at e3
                      rw [← e3, ← e2, List.take_append_drop]
                    rw [Lib.extract_data]
                    conv => lhs; rw [e1]
                    exact semi_app _ _ hfr.out
                  have hex : (s.extract (a + j + 1) i).size ≤ maxLen := by simp; unfold maxLen; omega
                  have HV : Hid (∀ w, _) := rValid_any (s.extract (a + j + 1) i) hex
                  have HN : Hid (Rd w j (s.extract (a + j + 1) i) (wr.setCell ⟨w.heap.size + 1, 1, none⟩ (.string (s.extract (a + j + 1) i)))) := hR.out.name _
                  cases hv : validL (s.extract (a + j + 1) i).data.toList with
                  | true =>
                    have HP : Hid _ := post_some (p := (i : Int) + 1) (read_cls HB0.out hsm hv) (by rw [List.length_drop, HSZ.out]; omega)
                    rw [hv] at HV
                    clear hv hsm h59 hfr hR HB0 hex
                    go_wp2_with (go_at_call 26; refine ((HV.out) _).mono ?_; rintro e w2 ⟨rfl, hb2⟩; have R2 : Hid (Rd w j (s.extract (a + j + 1) i) w2) := HN.out.keep hb2; obtain ⟨d0, d1, d2, d3, e0, e1, e2, e3⟩ := R2.out.cells; clear hb2)
                    refine bodyPost_ret (v := .tuple #[.agg #[.int .i64 j, .string (s.extract (a + j + 1) i)], .int .i64 ((i : Int) + 1)]) (by simp [results, Tryz.results107, go_sem, *]) rfl ⟨HP.out, read_below R2.out _ _⟩
                  | false =>
                    have HP : Hid _ := post_none (x := (j : Int)) (y := s.extract (a + j + 1) i) (read_bad HB0.out hsm hv)
                    rw [hv] at HV
                    clear hv hsm h59 hfr hR HB0 hex
                    go_wp2_with (go_at_call 26; refine ((HV.out) _).mono ?_; rintro e w2 ⟨rfl, hb2⟩; have R2 : Hid (Rd w j (s.extract (a + j + 1) i) w2) := HN.out.keep hb2; obtain ⟨d0, d1, d2, d3, e0, e1, e2, e3⟩ := R2.out.cells; clear hb2)
                    refine bodyPost_ret (v := .tuple #[.agg #[.int .i64 j, .string (s.extract (a + j + 1) i)], .int .i64 (-1)]) (by simp [results, Tryz.results107, go_sem, *]) rfl ⟨HP.out, read_below R2.out _ _⟩
                · have q59 : (((s[i]).toNat : Int) == 59) = false := by have := byte_eq s i hil 59; simp only [h59, decide_false] at this; exact this
                  have HF : Hid ((59 : UInt8) ∉ (s.data.toList.drop (a + j + 1)).take (i + 1 - (a + j + 1))) := by
                    have hl : i - (a + j + 1) < (s.data.toList.drop (a + j + 1)).length := by rw [List.length_drop, HSZ.out]; omega
                    rw [Hid, show i + 1 - (a + j + 1) = (i - (a + j + 1)) + 1 by omega, List.take_succ_eq_append_getElem hl]
                    intro m
                    rcases List.mem_append.1 m with m | m
                    · exact hfr.out m
                    · have m2 := List.mem_singleton.1 m
                      rw [List.getElem_drop] at m2
                      have e3 : s.data.toList[a + j + 1 + (i - (a + j + 1))]? = some s[i] := by rw [show a + j + 1 + (i - (a + j + 1)) = i by omega]; exact Lib.Pa.at_eq s i hil
                      rw [List.getElem?_eq_getElem (by simp; omega)] at e3
                      exact h59 (by rw [m2]; exact (Option.some.inj e3).symm)
                  clear h59 hfr hR HB0
                  go_wp2
                  go_round
                  case rel => exact ⟨i + 1, by go_num, by omega, by omega, HF⟩
                  case measure => simp [intOf]; omega
              · have HP : Hid _ := post_none (x := (j : Int)) (y := ⟨#[]⟩) (read_open HB0.out (semi_none _ (by
                  have := hfr.out
                  rw [List.take_of_length_le (by rw [List.length_drop, HSZ.out]; omega)] at this
                  exact this)))
                have HB : Hid _ := read_below hR.out (.int .i64 j) (.string ⟨#[]⟩)
                clear hR hfr HB0
                go_wp2
                refine bodyPost_ret (v := .tuple #[.agg #[.int .i64 j, .string ⟨#[]⟩], .int .i64 (-1)]) (by simp [results, Tryz.results107, go_sem, *]) rfl ⟨HP.out, HB.out⟩
          · have q76 : (((s[a + j]).toNat : Int) == 76) = false := by have := byte_eq s (a + j) hlt 76; simp only [h76, decide_false] at this; exact this
            have n76 : (((s[a + j]).toNat : Int) != 76) = true := by rw [bne, q76]; rfl
            have HP : Hid _ := post_none (x := (j : Int)) (y := ⟨#[]⟩) (read_other hb0 h73 h76)
            have HB : Hid _ := read_below hR.out (.int .i64 j) (.string ⟨#[]⟩)
            clear hR hbr h91 hb0 h73 h76
            go_wp2
            refine bodyPost_ret (v := .tuple #[.agg #[.int .i64 j, .string ⟨#[]⟩], .int .i64 (-1)]) (by simp [results, Tryz.results107, go_sem, *]) rfl ⟨HP.out, HB.out⟩
    · have hend : a + j = s.size := by omega
      have HP : Hid _ := post_none (s := s) (a := a) (x := (j : Int)) (y := ⟨#[]⟩) (read_nil (j := j) (by rw [hbr.out, drop_end s (a + j) (by omega)]; simp [bracks]))
      have HB : Hid _ := read_below hR.out (.int .i64 j) (.string ⟨#[]⟩)
      clear hR hbr hend
      go_wp2
      refine bodyPost_ret (v := .tuple #[.agg #[.int .i64 j, .string ⟨#[]⟩], .int .i64 (-1)]) (by simp [results, Tryz.results107, go_sem, *]) rfl ⟨HP.out, HB.out⟩

end Go.Proofs.YtfbhjfpkhofifaaGreatDoor

namespace Go.Proofs.YtfbhjfpkhofifaaGreatDoor
open Go.RowKit

theorem cat_bytes (x : ByteArray) (p : List UInt8) : (x ++ ⟨#[47]⟩ ++ ⟨p.toArray⟩ : ByteArray).data.toList = x.data.toList ++ 47 :: p := by
  simp [ByteArray.data_append]
theorem cat_len (x : ByteArray) (p : List UInt8) : (x ++ ⟨#[47]⟩ ++ ⟨p.toArray⟩ : ByteArray).size = x.size + 1 + p.length := by
  rw [ByteArray.size_append, ByteArray.size_append, mk_size]; rfl

theorem join_take_len (ps : List (List UInt8)) (k : Nat) : (Lib.join (ps.take k) [47]).length ≤ ps.length - 1 + Lib.lens ps := by
  by_cases h2 : ps.take k = []
  · rw [h2]; simp [Lib.join_nil]
  · rw [join_length_eq _ h2]
    have h1 := lens_take ps k
    have h3 : (ps.take k).length ≤ ps.length := by rw [List.length_take]; omega
    omega

end Go.Proofs.YtfbhjfpkhofifaaGreatDoor

namespace Go.Proofs.YtfbhjfpkhofifaaGreatDoor
open Go.RowKit

/-- the mark of list i -/
def sgB (i : Nat) : ByteArray := ⟨#[35, UInt8.ofNat i, 0]⟩
def sgV (i : Nat) : Value := .string (sgB i)

theorem sign_conv (i : Nat) (hi : i < 256) (w : World) :
    (convert 109 9 (.slice (some ⟨w.heap.size, 0, none⟩) 3 3)).run Tryz.prog (w.alloc (.cells #[.int .u8 35, .int .u8 (i : Int), .int .u8 0] 5)) = .ok (sgV i) (w.alloc (.cells #[.int .u8 35, .int .u8 (i : Int), .int .u8 0] 5)) := by
  have hm : (UInt8.ofNat i).toNat = i := by simp; omega
  exact run_convert_bytes_back (P := Tryz.prog) (w.alloc (.cells #[.int .u8 35, .int .u8 (i : Int), .int .u8 0] 5)) 109 9 5 ⟨w.heap.size, 0, none⟩ 3 [35, UInt8.ofNat i, 0] Tryz.underlying109 Tryz.underlying5 Tryz.underlying9 (fun j hj => by
    match j, hj with
    | 0, _ => rw [Addr.add_lit, cell_of_row _ w.heap.size 0 _ 5 (0, 0) (heap_alloc_new w _)]; rfl
    | 1, _ => rw [Addr.add_lit, cell_of_row _ w.heap.size 1 _ 5 (0, 0) (heap_alloc_new w _)]; simp [hm]
    | 2, _ => rw [Addr.add_lit, cell_of_row _ w.heap.size 2 _ 5 (0, 0) (heap_alloc_new w _)]; rfl)

theorem addr_zero (a : Addr) : a.add 0 = a := by
  obtain ⟨b, o, sp⟩ := a
  unfold Addr.add
  split <;> simp_all

theorem own_below {w w' : World} {B base : Nat} {e : TypeId} {size : Nat} {v : Value} {n : Nat} {xs : List Value} (h : w.ownsRow base e size v n xs) (hb : Below B w w') (hB : w.heap.size ≤ B) : w'.ownsRow base e size v n xs := by
  refine ⟨h.1, ?_⟩
  rcases h.2 with hn | ⟨g, cap, cur, rfl, hb1, hgg, rest⟩
  · exact .inl hn
  · refine .inr ⟨g, cap, cur, rfl, hb1, ?_, rest⟩
    rw [hb.block g (Nat.lt_of_lt_of_le (Array.getElem?_eq_some_iff.1 hgg).1 hB)]
    exact hgg

theorem grownBy_trans {w w1 w2 : World} {r r' : Option Nat} (h1 : w.grownBy w1 r) (h2 : w1.grownBy w2 r') (hr : ∀ b, r' = some b → r = some b ∨ w.heap.size ≤ b) : w.grownBy w2 r :=
  ⟨h2.os.trans h1.os, h2.tape.trans h1.tape, h2.output.trans h1.output, Nat.le_trans h1.size h2.size, fun k hk hne => by
    have a := h1.block k hk hne
    have b := h2.block k (Nat.lt_of_lt_of_le hk h1.size) (fun e => by
      rcases hr k e.symm with q | q
      · exact hne q.symm
      · omega)
    exact b.trans a⟩

theorem grownBy_below {w w1 : World} {r : Option Nat} (h : Below w.heap.size w w1) : w.grownBy w1 r :=
  ⟨h.os, h.tape, h.output, h.size, fun k hk _ => h.block k hk⟩

/-- an append of one cell to an owned row: what it leaves; a shorter view of the same row is kept -/
theorem wpList_append_keep {P : Program} (w : World) {ops : Array Oper} {rest : List Oper} {o : Oper} {a : Act} {Q : Exit → Act → World → Prop} (hgd : o.guard = none) (s x : Operand) (t : TypeId)
    (ho : o.op = Op.call { callee := Callee.builtin Builtin.append, args := #[s, x], argTypes := #[t, t] })
    (e : TypeId) (i : TypeInfo) (z : Value) (bytes : Nat) (ht : P.underlying t = some (.slice e)) (hi : P.info? e = some i) (hz : i.zero = some z) (hsize : i.size = 1) (hby : i.bytes = bytes) (hzs : z.cells.size = 1)
    (base g n cap : Nat) (xs : List Value) (hs : a.eval s = .slice (some ⟨g, 0, none⟩) n cap) (hown : w.ownsRow base e 1 (.slice (some ⟨g, 0, none⟩) n cap) n xs)
    (ad : Addr) (c : Nat) (u : Value) (hx : a.eval x = .slice (some ad) 1 c) (hu : w.cell? ad = some u) (hu1 : u.oneCell' = true)
    (b1 : n + 1 ≤ maxLen) (b2 : (n + 1) * bytes ≤ 140737488355328) (hbase : base ≤ w.heap.size)
    (h : ∀ g' cap' w', w'.ownsRow base e 1 (.slice (some ⟨g', 0, none⟩) (n + 1) cap') (n + 1) (xs ++ [u]) → w.grownBy w' (some g) → (g' = g ∨ (w.heap.size ≤ g')) →
      (∀ m c2 ys, m ≤ n → w.ownsRow base e 1 (.slice (some ⟨g, 0, none⟩) m c2) m ys → w'.ownsRow base e 1 (.slice (some ⟨g, 0, none⟩) m c2) m ys) →
      wpList P ops Q rest (a.put o.dst (.slice (some ⟨g', 0, none⟩) (n + 1) cap')) w') : wpList P ops Q (o :: rest) a w := by
  have hown' := hown
  obtain ⟨hl, hw⟩ := hown
  rcases hw with ⟨hv, _⟩ | ⟨g1, cap1, cur, hv, hb, hg, hn, hm, hcs, htk⟩
  · simp at hv
  · simp only [Value.slice.injEq, Option.some.injEq, Addr.mk.injEq, and_true, true_and] at hv
    obtain ⟨rfl, rfl⟩ := hv
    simp only [Nat.mul_one] at hl hcs htk
    refine wpList_append_arg w hgd s x t ho e i z 1 bytes ht hi hz hsize hby hzs (by decide) g 0 n cap xs hs (by omega) (fun j y hj => ?_) ad 1 c [u] hx rfl (fun j y hj => ?_) (fun y hy => ?_) (fun hr j hj => ?_) b1 b2 (fun hr => ?_) (fun _ v' w' ho' hgb => ?_)
    · have := hown'.cells (g := g) rfl j y hj
      rw [Addr.add_lit] at this
      exact this
    · match j, hj with
      | 0, hj => simp at hj; subst hj; rw [addr_zero]; exact hu
    · simp at hy; subst hy; exact hu1
    · simp at hj
      subst hj
      have hlt : n < cur.size := by omega
      constructor
      · rw [Nat.mul_one, Nat.zero_add, Nat.add_zero, cell_of_row w g n cur e (0, 0) hg]; simp [hlt]
      · have : w.frozen? ⟨g, 0 + n * 1 + 0, none⟩ = false := by simp [World.frozen?, hg]
        exact this
    · have hlt : n < cur.size := by omega
      have he : (w.setCells g (0 + n * 1) [u]) = w.setCell ⟨g, n, none⟩ u := by simp [World.setCells]
      rw [he]
      have hsame := heap_setCell_same w g n cur e u hg
      have hgb : w.grownBy (w.setCell ⟨g, n, none⟩ u) (some g) := ⟨rfl, rfl, rfl, by simp, fun k _ hk => heap_setCell_other w ⟨g, n, none⟩ k u (fun q => hk (by simp [q]))⟩
      refine h g cap _ ⟨by simp; omega, .inr ⟨g, cap, cur.setIfInBounds n u, rfl, hb, hsame, hr, hm, by simp; omega, ?_⟩⟩ hgb (.inl rfl) (fun m c2 ys hmn q => ?_)
      · rw [Nat.mul_one, Array.toList_setIfInBounds, List.take_set, List.take_succ_eq_append_getElem (by simpa using hlt), htk]
        rw [List.set_append_right _ _ (by omega), hl, Nat.sub_self]
        rfl
      · obtain ⟨q1, q2⟩ := q
        rcases q2 with ⟨qv, _⟩ | ⟨g3, cap3, cur3, qv, qb, qg, qn, qm, qcs, qtk⟩
        · simp at qv
        · simp only [Value.slice.injEq, Option.some.injEq, Addr.mk.injEq, and_true, true_and] at qv
          obtain ⟨rfl, rfl⟩ := qv
          rw [hg] at qg
          simp only [Option.some.injEq, Obj.cells.injEq, and_true] at qg
          subst qg
          refine ⟨q1, .inr ⟨g, c2, cur.setIfInBounds n u, rfl, qb, hsame, qn, qm, by simpa using qcs, ?_⟩⟩
          rw [Array.toList_setIfInBounds, List.take_set, qtk, List.set_eq_of_length_le (by omega)]
    · obtain ⟨hl2, hw2⟩ := ho'
      rcases hw2 with ⟨rfl, h0⟩ | ⟨g2, cap2, cur2, rfl, hb2, hg2, hn2, hm2, hcs2, htk2⟩
      · omega
      · refine h g2 cap2 w' ⟨hl2, .inr ⟨g2, cap2, cur2, rfl, Nat.le_trans hbase hb2, hg2, hn2, hm2, hcs2, htk2⟩⟩ ⟨hgb.os, hgb.tape, hgb.output, hgb.size, fun k hk _ => hgb.block k hk (by simp)⟩ (.inr hb2) (fun m c2 ys _ q => q.kept hgb (by simp [Value.ownBlock]))

end Go.Proofs.YtfbhjfpkhofifaaGreatDoor

