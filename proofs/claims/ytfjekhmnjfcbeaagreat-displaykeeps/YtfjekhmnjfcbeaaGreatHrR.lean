import Derived.Test.YtfjekhmnjfcbeaaGreatHrK
namespace Go.Proofs.YtfjekhmnjfcbeaaGreat
open Go.RowKit Go.Maps
structure PlcB (q:Plc):Prop where
  ni:q.c.ni≤1000000
  xi:∀ u∈q.c.xi,u.oneCell'=true
  ms:q.c.ms.length≤1000000
  cd:∀ m∈q.c.ms,(∀ u∈m.xs,u.oneCell'=true)∧m.n≤1000000
  nm:q.c.nm.size≤maxLen
theorem halloc1 (w:World) (o:Obj):(w.alloc o).heap[w.heap.size]?=some o:=by unfold World.alloc;simp
end Go.Proofs.YtfjekhmnjfcbeaaGreat
