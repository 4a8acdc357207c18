/- The law FlagsBack, from its walk and the facts there and back. -/
import Derived.Test.YtdkjapfnilbomaaDoorLawB
namespace Go.Proofs.YtdkjapfnilbomaaDoor
open Go.RowKit

theorem text_size (f : Int) (ps : List (Int × List UInt8)) (hl : ps.length ≤ 100) (h : ∀ p ∈ ps, p.2.length ≤ 20) : (⟨(textF f ps).toArray⟩ : ByteArray).size ≤ 9223372036854775800 := by
  rw [mk_size]
  unfold textF
  split
  · have := join_small f ps h
    omega
  · simp

theorem FlagsBack_any (f : Int) (hf : -9223372036854775808 ≤ f ∧ f ≤ 9223372036854775807) (iface : Bool) (nm s : ByteArray) (hs : s.size ≤ 140737488351232) (w : World) (h : WordsIn w) :
    Calls Tryd.prog 5 #[.int .i64 f, .bool iface, .string nm, .string s] w fun e w' => e = .returned (.bool true) ∧ Below w.heap.size w w' := by
  have r1 : -9223372036854775808 ≤ parF clsP s.data.toList ∧ parF clsP s.data.toList ≤ 9223372036854775807 := by
    rcases back (s := s.data.toList) goodC with ⟨_, ho, _⟩ | ⟨_, e⟩
    · exact only_range small_cls (by decide) ho
    · rw [e]; omega
  have r2 : -9223372036854775808 ≤ parF mthP s.data.toList ∧ parF mthP s.data.toList ≤ 9223372036854775807 := by
    rcases back (s := s.data.toList) goodM with ⟨_, ho, _⟩ | ⟨_, e⟩
    · exact only_range small_mth (by decide) ho
    · rw [e]; omega
  have self : ∀ l : List UInt8, l = s.data.toList → (⟨l.toArray⟩ : ByteArray) = s := fun l e => by rw [e]
  refine back_walk f iface nm s w (chkC f) (chkM f iface (nm.toList == [60, 105, 110, 105, 116, 62])) (fun x => ⟨(textF x clsP).toArray⟩) (fun x => ⟨(textF x mthP).toArray⟩) (fun x => textE x clsP) (fun x => textE x mthP)
    (fun b => parF clsP b.data.toList) (fun b => parF mthP b.data.toList) (fun b => parX clsP b.data.toList) (fun b => parX mthP b.data.toList)
    (awake_any w h) (CheckClass_any f hf) (CheckMethod_any f hf iface nm) ?_ ?_ ?_ ?_ ?_ ?_ ?_ ?_
  · exact fun x w1 hx hb => ClassText_any x (hx.elim (fun e => e ▸ hf) (fun e => by rw [e]; exact r1)) w1 (h.keep hb)
  · exact fun x w1 hx hb => MethodText_any x (hx.elim (fun e => e ▸ hf) (fun e => by rw [e]; exact r2)) w1 (h.keep hb)
  · exact fun b w1 hx hb => ParseClass_any b (hx.elim (fun e => by rw [e]; exact text_size _ _ (by decide) (by decide)) (fun e => by rw [e]; omega)) w1 (h.keep hb)
  · exact fun b w1 hx hb => ParseMethod_any b (hx.elim (fun e => by rw [e]; exact text_size _ _ (by decide) (by decide)) (fun e => by rw [e]; omega)) w1 (h.keep hb)
  · rcases there (f := f) goodC with ⟨a, b, c⟩ | ⟨a, b⟩
    · exact .inl ⟨a, by simpa using b, by simpa using c⟩
    · refine .inr ⟨a, ?_⟩
      rcases chkC_cases f with e | e
      · rw [chkC_only e] at b; cases b
      · exact e
  · rcases there (f := f) goodM with ⟨a, b, c⟩ | ⟨a, b⟩
    · exact .inl ⟨a, by simpa using b, by simpa using c⟩
    · refine .inr ⟨a, ?_⟩
      rcases chkM_cases f iface (nm.toList == [60, 105, 110, 105, 116, 62]) with e | e
      · rw [chkM_only e] at b; cases b
      · exact e
  · rcases back (s := s.data.toList) goodC with ⟨a, _, b, c⟩ | ⟨a, b⟩
    · exact .inl ⟨a, self _ b, c⟩
    · exact .inr ⟨a, b⟩
  · rcases back (s := s.data.toList) goodM with ⟨a, _, b, c⟩ | ⟨a, b⟩
    · exact .inl ⟨a, self _ b, c⟩
    · exact .inr ⟨a, b⟩
end Go.Proofs.YtdkjapfnilbomaaDoor
