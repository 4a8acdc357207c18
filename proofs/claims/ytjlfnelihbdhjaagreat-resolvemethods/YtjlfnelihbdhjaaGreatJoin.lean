import Derived.Test.YtjlfnelihbdhjaaGreatValid
import Derived.Test.YtjlfnelihbdhjaaGreatShelf
import Derived.Lib.Join
namespace Go.Proofs.YtjlfnelihbdhjaaGreat
open Go.RowKit
def IsStrs (w:World) (v:Value) (ps:List (List UInt8)):Prop :=
  ∃ ao cap,v=.slice ao ps.length cap∧ps.length≤cap∧cap≤maxLen ∧
    (ps≠[]→∃ bk o,ao=some ⟨bk,o,none⟩∧bk<w.heap.size∧∀ k p,ps[k]?=some p→w.cell? ⟨bk,o+k,none⟩=some (.string ⟨p.toArray⟩))
theorem IsStrs.keep {w w':World} {v:Value} {ps:List (List UInt8)} (h:IsStrs w v ps) (hb:Below w.heap.size w w'):IsStrs w' v ps:=by
  obtain ⟨ao,cap,rfl,h1,h2,h3⟩:=h
  refine ⟨ao,cap,rfl,h1,h2,fun hne=>?_⟩
  obtain ⟨bk,o,e,hlt,hc⟩:=h3 hne
  exact ⟨bk,o,e,Nat.lt_of_lt_of_le hlt hb.size,fun k p hk=>(hb.cell hlt).trans (hc k p hk)⟩
end Go.Proofs.YtjlfnelihbdhjaaGreat
