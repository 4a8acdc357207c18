/- The document's way of reading words is the plain one: words taken in the list's order. No Go text is named here. -/
import Derived.Laws.Entries
import Derived.Lib.Join
namespace Go.Proofs.YtfbhjfpkhofifaaGreatDoor
open Go

/-- has f this flag? -/
def hasI (f x : Int) : Bool := bits .and .i64 f x != 0
/-- the flags of a list that f has, added up -/
def knownI (f : Int) : List Int → Int
  | [] => 0
  | x :: l => (if hasI f x then x else 0) + knownI f l
/-- the words of the flags that f has -/
def chosenW (f : Int) : List (Int × List UInt8) → List (List UInt8)
  | [] => []
  | p :: l => if hasI f p.1 then p.2 :: chosenW f l else chosenW f l

def wPublic : List UInt8 := [112, 117, 98, 108, 105, 99]
def wPrivate : List UInt8 := [112, 114, 105, 118, 97, 116, 101]
def wProtected : List UInt8 := [112, 114, 111, 116, 101, 99, 116, 101, 100]
def wStatic : List UInt8 := [115, 116, 97, 116, 105, 99]
def wFinal : List UInt8 := [102, 105, 110, 97, 108]
def wSuper : List UInt8 := [115, 117, 112, 101, 114]
def wInterface : List UInt8 := [105, 110, 116, 101, 114, 102, 97, 99, 101]
def wAbstract : List UInt8 := [97, 98, 115, 116, 114, 97, 99, 116]

def clsP : List (Int × List UInt8) := [(1, wPublic), (16, wFinal), (32, wSuper), (512, wInterface), (1024, wAbstract)]
def mthP : List (Int × List UInt8) := [(1, wPublic), (2, wPrivate), (4, wProtected), (8, wStatic), (16, wFinal), (1024, wAbstract)]
def flagsOf (ps : List (Int × List UInt8)) : List Int := ps.map (·.1)

/-- only flags of the list -/
def onlyB (f : Int) (ps : List (Int × List UInt8)) : Bool := decide (knownI f (flagsOf ps) = f)
def textF (f : Int) (ps : List (Int × List UInt8)) : List UInt8 := if onlyB f ps then Lib.join (chosenW f ps) [32] else []
def textE (f : Int) (ps : List (Int × List UInt8)) : Int := if onlyB f ps then 0 else 1

/-- tokens: cut at each blank -/
def toks : List UInt8 → List (List UInt8)
  | [] => [[]]
  | c :: l => if c = 32 then [] :: toks l else match toks l with
    | [] => [[c]]
    | t :: ts => (c :: t) :: ts

theorem toks_ne (l : List UInt8) : toks l ≠ [] := by
  cases l with
  | nil => simp [toks]
  | cons c l =>
    unfold toks
    split
    · simp
    · split <;> simp

theorem toks_app (w l : List UInt8) (h : (32 : UInt8) ∉ w) : toks (w ++ 32 :: l) = w :: toks l := by
  induction w with
  | nil => simp [toks]
  | cons c w ih =>
    have hc : c ≠ 32 := fun e => h (by simp [e])
    have := ih (fun m => h (List.mem_cons_of_mem _ m))
    simp [toks, hc, this]

theorem toks_one (w : List UInt8) (h : (32 : UInt8) ∉ w) : toks w = [w] := by
  induction w with
  | nil => rfl
  | cons c w ih =>
    have hc : c ≠ 32 := fun e => h (by simp [e])
    have := ih (fun m => h (List.mem_cons_of_mem _ m))
    simp [toks, hc, this]

/-- the first token, and what is behind it -/
theorem toks_cons (l : List UInt8) : ∃ w, (32 : UInt8) ∉ w ∧ ((l = w ∧ toks l = [w]) ∨ ∃ r, l = w ++ 32 :: r ∧ toks l = w :: toks r) := by
  induction l with
  | nil => exact ⟨[], by simp, .inl ⟨rfl, rfl⟩⟩
  | cons c l ih =>
    by_cases hc : c = 32
    · subst hc
      exact ⟨[], by simp, .inr ⟨l, rfl, by simp [toks]⟩⟩
    · obtain ⟨w, hw, h⟩ := ih
      refine ⟨c :: w, by simp [hw]; exact fun e => hc e.symm, ?_⟩
      rcases h with ⟨rfl, h2⟩ | ⟨r, rfl, h2⟩
      · exact .inl ⟨rfl, toks_one _ (by simp [hw]; exact fun e => hc e.symm)⟩
      · exact .inr ⟨r, rfl, toks_app (c :: w) r (by simp [hw]; exact fun e => hc e.symm)⟩

theorem join_cons2 (a b : List UInt8) (l : List (List UInt8)) : Lib.join (a :: b :: l) [32] = a ++ 32 :: Lib.join (b :: l) [32] := by simp [Lib.join]
theorem join_one (a : List UInt8) : Lib.join [a] [32] = a := by simp [Lib.join]
theorem join_nil : Lib.join ([] : List (List UInt8)) [32] = [] := by simp [Lib.join]

/-- tokens joined -/
theorem join_toks (l : List UInt8) : Lib.join (toks l) [32] = l := by
  generalize hn : l.length = n
  induction n using Nat.strongRecOn generalizing l with
  | _ n ih =>
    obtain ⟨w, _, ⟨rfl, h⟩ | ⟨r, rfl, h⟩⟩ := toks_cons l
    · rw [h, join_one]
    · rw [h]
      obtain ⟨t, ts, ht⟩ : ∃ t ts, toks r = t :: ts := by
        cases e : toks r with
        | nil => exact absurd e (toks_ne r)
        | cons t ts => exact ⟨t, ts, rfl⟩
      have := ih r.length (by simp at hn; omega) r rfl
      rw [ht] at this ⊢
      rw [join_cons2, this]

theorem toks_join (ws : List (List UInt8)) (hne : ws ≠ []) (h : ∀ w ∈ ws, (32 : UInt8) ∉ w) : toks (Lib.join ws [32]) = ws := by
  induction ws with
  | nil => exact absurd rfl hne
  | cons a l ih =>
    cases l with
    | nil => rw [join_one]; exact toks_one a (h a (List.mem_cons_self ..))
    | cons b l =>
      rw [join_cons2, toks_app a _ (h a (List.mem_cons_self ..)), ih (by simp) (fun w hw => h w (List.mem_cons_of_mem _ hw))]

/-- words taken in the list's order -/
def subW : List (Int × List UInt8) → List (List UInt8) → Option Int
  | _, [] => some 0
  | [], _ :: _ => none
  | p :: ps, t :: ts => if p.2 = t then (subW ps ts).map (p.1 + ·) else subW ps (t :: ts)

/-- the flags that a text writes -/
def readF (ps : List (Int × List UInt8)) (s : List UInt8) : Option Int := if s = [] then some 0 else subW ps (toks s)
def parF (ps : List (Int × List UInt8)) (s : List UInt8) : Int := (readF ps s).getD 0
def parX (ps : List (Int × List UInt8)) (s : List UInt8) : Int := if (readF ps s).isSome then 0 else 4



end Go.Proofs.YtfbhjfpkhofifaaGreatDoor
