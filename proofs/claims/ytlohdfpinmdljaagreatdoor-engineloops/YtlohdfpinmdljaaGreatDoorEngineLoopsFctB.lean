import Derived.Test.YtlohdfpinmdljaaGreatDoorRows
import Derived.RowKit
import GoSem.ClaimGoes
namespace Go.Proofs.YtlohdfpinmdljaaGreatDoor
open Go Go.RowKit
theorem goes_none {P:Program} (h:∀ f,P.goes f=false) (c:OpenClaim) (hs:c.start=.entering):false=c.goesBy P:=by
  have h5:∀ o:Option FuncId,o.any P.goes=false:=fun o=>by
    cases o with
    | none=>rfl
    | some f=>exact h f
  unfold OpenClaim.goesBy Program.goesAt Program.goesFrom
  rw [h5,hs]
  rfl
theorem goes_all {P:Program} (hA:(P.funcs.toList.all fun fn=>!fn.goes)=true) (f:FuncId):P.goes f=false:=by
  have hall:∀ fn∈P.funcs.toList,fn.goes=false:=fun fn h=>by simpa using List.all_eq_true.1 hA fn h
  have h1:P.funcs.any Func.goes=false:=by
    rw [← Array.any_toList,List.any_eq_false]
    intro fn h
    simp [hall fn h]
  have h2:∀ g:Nat,(P.funcs[g]?).any Func.goes=false:=fun g=>by
    cases e:P.funcs[g]? with
    | none=>rfl
    | some fn=>exact hall fn (Array.mem_toList_iff.2 (Array.mem_of_getElem? e))
  unfold Program.goes
  rw [h1,Bool.and_false,Bool.or_false,List.any_eq_false]
  intro g _
  simp [h2 g]
theorem engineLoops_allGoes:(Tryz.prog.funcs.toList.all fun fn=>!fn.goes)=true:=by kernel_rfl
theorem engineLoops_goes:false=Rows.engineLoopsRow.goesBy Tryz.prog:=goes_none (goes_all engineLoops_allGoes) Rows.engineLoopsRow rfl
end Go.Proofs.YtlohdfpinmdljaaGreatDoor
