/- HeapNil: For the one call there is (no parameter), the Go function arbiterlaw20.HeapNil returns true: every call on a nil heap, and New of a nil linker, answers as the document says, and what an empty heap does first is as the document says. -/
import Derived.Test.YtfnmmpkhopochaaGreatRows
import Derived.Test.YtfnmmpkhopochaaGreatHpQ
import Derived.Lib.SmallJoins
import Derived.WalkKit
import Derived.ProofKit
import Derived.OpenShut
import Derived.Carry
set_option maxRecDepth 100000
namespace Go.Proofs.YtfnmmpkhopochaaGreat
open Go.ChangeShapes Go.WideShapes Go.ChangeAt Go.RowKit Go.Joins
theorem heapNil_own:ownKnob Tryz.prog.godebug=none:=by kernel_rfl
theorem heapNil_laidOut:laidOutB Tryz.prog=true:=by kernel_rfl
set_option linter.unusedVariables false in
theorem heapNil_lifted (os:Os) (started:os.Started) (H:Type) (enc:TypeId×Value→H) :
    ReturnsInHanded {} Tryz.checked os 7 .any (Rows.heapNilSpec.pre6 enc Tryz.prog Tryz.f7 Rows.heapNilRow.domain false) (Rows.heapNilSpec.post enc Tryz.prog Tryz.f7 false true false false):=by
  refine returnsInHanded_of_change (C:=Tryz.checked) heapNil_own started (by kernel_rfl) Tryz.func7
    (ChangeSpec.witness6 (enc:=enc) (C:=Tryz.checked) false ⟨#[],#[],[]⟩ 8 (by kernel_rfl) (by kernel_rfl) (by kernel_rfl) (by kernel_rfl)) ?_
  intro W base args ds gs before hval0 hW hcnd _
  have hval:∀ (j:Nat) t v,Tryz.f7.params[j]?=some t→args[j]?=some v→Value.okWide Tryz.prog W .any base t v:=hval0
  have hW':=hW
  obtain ⟨p,q,hA0,hV,rfl,hfz,hnd⟩:=hW
  have hA:DataW.TrodAll enc Tryz.prog W 0 (fun _=>true) true Tryz.f7.params.toList args.toList ds p:=hA0
  rw [Tryz.params7] at hA
  obtain ⟨h1,rfl,rfl⟩:=trodAll_nil hA
  obtain rfl:args=#[]:=by cases args;simp_all
  obtain ⟨rfl,rfl⟩:=trodVars_none hV
  clear hA0 hval0
  simp only [List.append_nil] at hW'
  refine (HeapNil_any W).mono fun e W' ⟨he,bel⟩=>?_
  subst he
  exact ⟨_,rfl,_,_,_,[],[],[],hW',trodAll_mk1 (shut_bool Tryz.underlying4 _),trodAll_mk0,rfl,bel.frame _,fun h=>by cases h⟩
theorem heapNil_and {a b:Bool} (h1:a=true) (h2:b=true):(a&&b)=true:=by rw [h1,h2];rfl
theorem heapNil_k2:mapsRowed Tryz.prog=true:=by kernel_rfl
theorem heapNil_k10:(Rows.heapNilRow.inPlace == Tryz.prog.inPlace 7)=true:=by kernel_rfl
theorem heapNil_k11:(Rows.heapNilRow.unfollowed == Tryz.prog.unfollowed 7)=true:=by kernel_rfl
theorem heapNil_k12:(Rows.heapNilRow.recurses == Tryz.prog.recurses 7)=true:=by kernel_rfl
theorem heapNil_k13:(Rows.heapNilRow.named == Tryz.prog.varsNamed 7)=true:=by kernel_rfl
theorem heapNil_closed:joinedFacts Tryz.prog 7 Tryz.f7 Rows.heapNilSpec Rows.heapNilRow=true:=by
  unfold joinedFacts
  refine heapNil_and (heapNil_and (heapNil_and (heapNil_and (heapNil_and (heapNil_and (heapNil_and (heapNil_and (heapNil_and (heapNil_and (heapNil_and (heapNil_and (heapNil_and (heapNil_and (heapNil_and (heapNil_and (heapNil_and (heapNil_and (heapNil_and (heapNil_and (heapNil_and (heapNil_and (heapNil_and (heapNil_and (heapNil_and (heapNil_and (heapNil_and (heapNil_and (heapNil_and (heapNil_and (heapNil_and ?_ heapNil_laidOut) heapNil_k2) ?_) ?_) ?_) ?_) ?_) ?_) heapNil_k10) heapNil_k11) heapNil_k12) heapNil_k13) ?_) ?_) ?_) ?_) ?_) ?_) ?_) ?_) ?_) ?_) ?_) ?_) ?_) ?_) ?_) ?_) ?_) ?_) ?_
  all_goals kernel_rfl
theorem heapNil_over:Rows.heapNilRow.holds Tryz.pinned (OpenSpec.ofChange Rows.heapNilSpec) :=
  OpenClaim.holds_of_wide 7 Tryz.f7 rfl rfl rfl rfl rfl rfl rfl ⟨rfl,rfl,rfl,rfl,rfl⟩ rfl rfl rfl rfl rfl (by kernel_rfl) Tryz.func7 heapNil_closed
    (of_decide_eq_true (by kernel_rfl)) (by unfold Func.isWrapper;first|(rw [if_pos (by decide +kernel)];kernel_rfl)|(rw [if_neg (by decide +kernel)];exact ⟨rfl,rfl⟩))
    (fun os started H enc _=>heapNil_lifted os started H enc)
theorem heapNil_holds:Rows.HeapNilSaid :=
  heapNil_over
#print axioms heapNil_holds
end Go.Proofs.YtfnmmpkhopochaaGreat
