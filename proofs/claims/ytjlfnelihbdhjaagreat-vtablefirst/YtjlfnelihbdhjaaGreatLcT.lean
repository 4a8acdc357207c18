import Derived.Test.YtjlfnelihbdhjaaGreatLpB
import Derived.IntWalk
namespace Go.Proofs.YtjlfnelihbdhjaaGreat
open Go.RowKit Go.Maps
theorem ch_tail {ns:List Nd} (h:WO ns) (a:Nat) (ha:a<ns.length):∀ i∈chL ns a,∀ j∈chL ns a,j≤i→j∈chL ns i:=by
  refine ch_ind h (P:=fun a=>∀ i∈chL ns a,∀ j∈chL ns a,j≤i→j∈chL ns i) ?_ (fun a ha h0 hlt ih=>?_) a ha
  · intro i hi j hj _
    rw [chL_zero,List.mem_singleton] at hi
    subst hi
    exact hj
  · intro i hi j hj hle
    have hj0:=hj
    rw [chL_cons h ha h0] at hi hj
    rcases List.mem_cons.1 hi with rfl|hi
    · exact hj0
    · have h1:=ch_le h (spO ns a) (by omega) i hi
      rcases List.mem_cons.1 hj with rfl|hj
      · omega
      · exact ih i hi j hj hle
end Go.Proofs.YtjlfnelihbdhjaaGreat
