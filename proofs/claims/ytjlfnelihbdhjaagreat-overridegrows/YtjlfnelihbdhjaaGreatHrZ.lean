import Derived.Test.YtjlfnelihbdhjaaGreatHrV
import Derived.WalkSmall
namespace Go.Proofs.YtjlfnelihbdhjaaGreat
open Go.RowKit
theorem rds_num {w:World} {av:Option Addr} {n c:Nat} {l:List Nat} {i x:Nat} (h:Rds w (.slice av n c) n 1 (l.map numV)) (hx:l[i]?=some x):∃ bk o,av=some ⟨bk,o,none⟩∧bk<w.heap.size∧w.cell? ⟨bk,o+i,none⟩=some (.int .i64 (x:Int)):=by
  have hl:=h.len
  rw [List.length_map] at hl
  have:=(List.getElem?_eq_some_iff.1 hx).1
  rcases h.val with ⟨_,e2⟩|⟨bk,o,c,e,_,_,h3,h4⟩
  · omega
  · simp only [Value.slice.injEq] at e
    exact ⟨bk,o,e.1,h3,h4 i _ (by rw [List.getElem?_map,hx];rfl)⟩
end Go.Proofs.YtjlfnelihbdhjaaGreat
