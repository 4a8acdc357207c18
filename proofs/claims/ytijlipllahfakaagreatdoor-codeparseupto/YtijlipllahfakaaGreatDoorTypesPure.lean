/- Plain functions on lists of bytes for layer 2 (types): a type read from a text, written, descriptors; there and back. No Go text is named here. -/
import Derived.Test.YtijlipllahfakaaGreatDoorCompare
namespace Go.Proofs.YtijlipllahfakaaGreatDoor

/-- how many brackets stand at the beginning, and what is behind them -/
def bracks : List UInt8 → Nat × List UInt8
  | [] => (0, [])
  | c :: l => if c = 91 then ((bracks l).1 + 1, (bracks l).2) else (0, c :: l)

/-- up to the first semicolon, and what is behind it -/
def semi : List UInt8 → Option (List UInt8 × List UInt8)
  | [] => none
  | c :: l => if c = 59 then some ([], l) else match semi l with
    | none => none
    | some (a, b) => some (c :: a, b)

/-- a type's dimensions and name -/
def readT (l : List UInt8) : Option ((Nat × List UInt8) × List UInt8) :=
  match (bracks l).2 with
  | [] => none
  | c :: r => if c = 73 then some (((bracks l).1, []), r)
    else if c = 76 then match semi r with
      | none => none
      | some (a, b) => if validL a then some (((bracks l).1, a), b) else none
    else none

def writeT (t : Nat × List UInt8) : List UInt8 := List.replicate t.1 91 ++ (if t.2 = [] then [73] else 76 :: (t.2 ++ [59]))

/-- its name is empty or valid (its dimensions may be too many) -/
def namedT (t : Nat × List UInt8) : Bool := t.2 == [] || validL t.2
def soundT (t : Nat × List UInt8) : Bool := decide (t.1 ≤ 255) && namedT t

theorem bracks_rep (k : Nat) (c : UInt8) (r : List UInt8) (h : c ≠ 91) : bracks (List.replicate k 91 ++ c :: r) = (k, c :: r) := by
  induction k with
  | zero => simp [bracks, h]
  | succ k ih => simp [List.replicate_succ, bracks, ih]

theorem bracks_eq (l : List UInt8) : l = List.replicate (bracks l).1 91 ++ (bracks l).2 := by
  induction l with
  | nil => rfl
  | cons c l ih =>
    unfold bracks
    by_cases h : c = 91
    · simp only [h, if_true, List.replicate_succ, List.cons_append]
      rw [← ih]
    · simp [h]

theorem semi_app (a b : List UInt8) (h : (59 : UInt8) ∉ a) : semi (a ++ 59 :: b) = some (a, b) := by
  induction a with
  | nil => simp [semi]
  | cons c l ih =>
    have hc : c ≠ 59 := fun e => h (by simp [e])
    have := ih (fun m => h (List.mem_cons_of_mem _ m))
    simp [semi, hc, this]

theorem semi_eq {l a b : List UInt8} (h : semi l = some (a, b)) : l = a ++ 59 :: b ∧ (59 : UInt8) ∉ a := by
  induction l generalizing a b with
  | nil => simp [semi] at h
  | cons c l ih =>
    unfold semi at h
    by_cases hc : c = 59
    · simp [hc] at h
      obtain ⟨rfl, rfl⟩ := h
      simp [hc]
    · simp only [hc, if_false] at h
      cases e : semi l with
      | none => rw [e] at h; simp at h
      | some p =>
        obtain ⟨x, y⟩ := p
        rw [e] at h
        simp at h
        obtain ⟨rfl, rfl⟩ := h
        obtain ⟨q1, q2⟩ := ih e
        exact ⟨by rw [q1]; rfl, by simp [q2]; exact fun z => hc z.symm⟩

theorem valid_nosemi {l : List UInt8} (h : validL l = true) : (59 : UInt8) ∉ l := by
  intro m
  rcases valid_bytes h 59 m with e | e
  · simp at e
  · revert e; decide

theorem valid_nil : validL [] = false := by decide

/-- what is written is read again -/
theorem read_write (t : Nat × List UInt8) (r : List UInt8) (h : namedT t = true) : readT (writeT t ++ r) = some (t, r) := by
  obtain ⟨k, a⟩ := t
  by_cases ha : a = []
  · subst ha
    have e : writeT (k, []) ++ r = List.replicate k 91 ++ 73 :: r := by simp [writeT]
    rw [e, readT, bracks_rep k 73 r (by decide)]
    simp
  · have hv : validL a = true := by simpa [namedT, ha] using h
    have e : writeT (k, a) ++ r = List.replicate k 91 ++ 76 :: (a ++ 59 :: r) := by simp [writeT, ha]
    rw [e, readT, bracks_rep k 76 _ (by decide)]
    simp [semi_app a r (valid_nosemi hv), hv]

/-- what is read was written -/
theorem write_read {l : List UInt8} {t : Nat × List UInt8} {r : List UInt8} (h : readT l = some (t, r)) : l = writeT t ++ r ∧ namedT t = true := by
  have hb := bracks_eq l
  unfold readT at h
  cases e : (bracks l).2 with
  | nil => rw [e] at h; simp at h
  | cons c s =>
    rw [e] at h hb
    simp only at h
    by_cases h1 : c = 73
    · simp [h1] at h
      obtain ⟨rfl, rfl⟩ := h
      refine ⟨?_, by simp [namedT]⟩
      conv => lhs; rw [hb]
      simp [writeT, h1]
    · by_cases h2 : c = 76
      · subst h2
        simp only [h1, if_false, if_true] at h
        cases e2 : semi s with
        | none => rw [e2] at h; simp at h
        | some p =>
          obtain ⟨x, y⟩ := p
          rw [e2] at h
          simp only at h
          by_cases hv : validL x = true
          · simp [hv] at h
            obtain ⟨rfl, rfl⟩ := h
            have hx : x ≠ [] := fun z => by rw [z, valid_nil] at hv; simp at hv
            refine ⟨?_, by simp [namedT, hv]⟩
            conv => lhs; rw [hb]
            rw [(semi_eq e2).1]
            simp [writeT, hx]
          · simp [hv] at h
      · simp [h1, h2] at h

theorem writeT_length (t : Nat × List UInt8) : (writeT t).length = t.1 + (if t.2 = [] then 1 else t.2.length + 2) := by
  unfold writeT
  split <;> simp

theorem readT_less {l : List UInt8} {t : Nat × List UInt8} {r : List UInt8} (h : readT l = some (t, r)) : r.length < l.length := by
  rw [(write_read h).1, List.length_append, writeT_length]
  split <;> omega

/-- a written type begins with no closing bracket and is no V alone -/
theorem writeT_head (t : Nat × List UInt8) : ∃ c r, writeT t = c :: r ∧ c ≠ 41 ∧ c ≠ 86 := by
  obtain ⟨k, a⟩ := t
  cases k with
  | zero =>
    by_cases ha : a = []
    · exact ⟨73, [], by simp [writeT, ha], by decide, by decide⟩
    · exact ⟨76, a ++ [59], by simp [writeT, ha], by decide, by decide⟩
  | succ k => exact ⟨91, _, by simp [writeT, List.replicate_succ]; rfl, by decide, by decide⟩

/-- the arguments up to the closing bracket (fuel: bytes), and what is behind it -/
def readArgs : Nat → List UInt8 → Option (List (Nat × List UInt8) × List UInt8)
  | 0, _ => none
  | _ + 1, [] => none
  | f + 1, c :: l => if c = 41 then some ([], l) else match readT (c :: l) with
    | none => none
    | some (t, r) => match readArgs f r with
      | none => none
      | some (ts, r2) => some (t :: ts, r2)

def writeArgs (ts : List (Nat × List UInt8)) : List UInt8 := (ts.map writeT).flatten

theorem args_write (ts : List (Nat × List UInt8)) (r : List UInt8) (f : Nat) (hf : ts.length < f) (h : ∀ t ∈ ts, namedT t = true) : readArgs f (writeArgs ts ++ 41 :: r) = some (ts, r) := by
  induction ts generalizing f with
  | nil =>
    cases f with
    | zero => omega
    | succ f => simp [writeArgs, readArgs]
  | cons t ts ih =>
    cases f with
    | zero => omega
    | succ f =>
      have e : writeArgs (t :: ts) ++ 41 :: r = writeT t ++ (writeArgs ts ++ 41 :: r) := by simp [writeArgs]
      obtain ⟨c, q, hq, hc, _⟩ := writeT_head t
      have hr := read_write t (writeArgs ts ++ 41 :: r) (h t (List.mem_cons_self ..))
      rw [e]
      rw [hq, List.cons_append] at hr ⊢
      rw [readArgs, if_neg hc, hr]
      simp only
      rw [ih f (by simp at hf; omega) (fun x hx => h x (List.mem_cons_of_mem _ hx))]

theorem write_args {f : Nat} {l : List UInt8} {ts : List (Nat × List UInt8)} {r : List UInt8} (h : readArgs f l = some (ts, r)) : l = writeArgs ts ++ 41 :: r ∧ ∀ t ∈ ts, namedT t = true := by
  induction f generalizing l ts r with
  | zero => simp [readArgs] at h
  | succ f ih =>
    cases l with
    | nil => simp [readArgs] at h
    | cons c l =>
      rw [readArgs] at h
      by_cases hc : c = 41
      · simp [hc] at h
        obtain ⟨rfl, rfl⟩ := h
        simp [hc, writeArgs]
      · rw [if_neg hc] at h
        cases e : readT (c :: l) with
        | none => rw [e] at h; simp at h
        | some p =>
          obtain ⟨t, r1⟩ := p
          rw [e] at h
          simp only at h
          cases e2 : readArgs f r1 with
          | none => rw [e2] at h; simp at h
          | some p2 =>
            obtain ⟨us, r2⟩ := p2
            rw [e2] at h
            simp at h
            obtain ⟨rfl, rfl⟩ := h
            obtain ⟨q1, q2⟩ := ih e2
            obtain ⟨p1, p2⟩ := write_read e
            refine ⟨?_, fun x hx => ?_⟩
            · rw [p1, q1]; simp [writeArgs]
            · rcases List.mem_cons.1 hx with rfl | hx
              · exact p2
              · exact q2 x hx

/-- what stands behind the closing bracket: nothing is answered (none), or a type -/
def readRet (l : List UInt8) : Option (Option (Nat × List UInt8)) :=
  if l = [86] then some none else match readT l with
    | some (t, []) => some (some t)
    | _ => none
def writeRet : Option (Nat × List UInt8) → List UInt8
  | none => [86]
  | some t => writeT t

/-- a descriptor: its arguments and what it answers -/
def readD (l : List UInt8) : Option (List (Nat × List UInt8) × Option (Nat × List UInt8)) :=
  match l with
  | 40 :: r => match readArgs (r.length + 1) r with
    | none => none
    | some (ts, q) => match readRet q with
      | none => none
      | some x => some (ts, x)
  | _ => none
def writeD (d : List (Nat × List UInt8) × Option (Nat × List UInt8)) : List UInt8 := 40 :: (writeArgs d.1 ++ 41 :: writeRet d.2)
def namedD (d : List (Nat × List UInt8) × Option (Nat × List UInt8)) : Prop := (∀ t ∈ d.1, namedT t = true) ∧ ∀ t, d.2 = some t → namedT t = true

theorem writeArgs_length (ts : List (Nat × List UInt8)) : ts.length ≤ (writeArgs ts).length := by
  induction ts with
  | nil => simp
  | cons t ts ih =>
    have e : writeArgs (t :: ts) = writeT t ++ writeArgs ts := by simp [writeArgs]
    rw [e, List.length_append, writeT_length, List.length_cons]
    split <;> omega

theorem ret_write (x : Option (Nat × List UInt8)) (h : ∀ t, x = some t → namedT t = true) : readRet (writeRet x) = some x := by
  cases x with
  | none => simp [writeRet, readRet]
  | some t =>
    obtain ⟨c, r, hq, _, hv⟩ := writeT_head t
    have hr := read_write t [] (h t rfl)
    rw [List.append_nil] at hr
    unfold writeRet readRet
    have hne : writeT t ≠ [86] := by rw [hq]; intro z; simp at z; exact hv z.1
    rw [if_neg hne, hr]

theorem write_ret {l : List UInt8} {x : Option (Nat × List UInt8)} (h : readRet l = some x) : l = writeRet x ∧ ∀ t, x = some t → namedT t = true := by
  unfold readRet at h
  by_cases hl : l = [86]
  · simp [hl] at h
    subst h
    exact ⟨hl, fun t z => by simp at z⟩
  · rw [if_neg hl] at h
    cases e : readT l with
    | none => rw [e] at h; simp at h
    | some p =>
      obtain ⟨t, r⟩ := p
      rw [e] at h
      cases r with
      | cons a b => simp at h
      | nil =>
        simp at h
        subst h
        obtain ⟨q1, q2⟩ := write_read e
        refine ⟨by rw [q1]; simp [writeRet], fun u z => ?_⟩
        simp at z
        rw [← z]; exact q2

theorem readD_write (d : List (Nat × List UInt8) × Option (Nat × List UInt8)) (h : namedD d) : readD (writeD d) = some d := by
  obtain ⟨ts, x⟩ := d
  have hl := writeArgs_length ts
  simp only [writeD, readD]
  rw [args_write ts (writeRet x) _ (by simp; omega) h.1]
  simp only
  rw [ret_write x h.2]

theorem writeD_read {l : List UInt8} {d : List (Nat × List UInt8) × Option (Nat × List UInt8)} (h : readD l = some d) : l = writeD d ∧ namedD d := by
  unfold readD at h
  split at h
  · rename_i r
    cases e : readArgs (r.length + 1) r with
    | none => rw [e] at h; simp at h
    | some p =>
      obtain ⟨ts, q⟩ := p
      rw [e] at h
      simp only at h
      cases e2 : readRet q with
      | none => rw [e2] at h; simp at h
      | some x =>
        rw [e2] at h
        simp at h
        subst h
        obtain ⟨a1, a2⟩ := write_args e
        obtain ⟨b1, b2⟩ := write_ret e2
        exact ⟨by rw [a1, b1]; rfl, a2, b2⟩
  · simp at h

end Go.Proofs.YtijlipllahfakaaGreatDoor
