/- HierDefines: for classes that arrive one after the other each number or error, the classes and the names behind them are those of the document; every call ends and returns true -/
import Derived.Test.YtkclpcmkplbclaaGreatRows
import Derived.Test.YtkclpcmkplbclaaGreatHkI
import Derived.Test.YtkclpcmkplbclaaGreatHkH
import Derived.Lib.SmallJoins
import Derived.WalkKit
import Derived.ProofKit
import Derived.OpenShut
import Derived.Carry
set_option maxRecDepth 100000
namespace Go.Proofs.YtkclpcmkplbclaaGreat
open Go.ChangeShapes Go.WideShapes Go.ChangeAt Go.RowKit Go.Joins
theorem hierDefines_own:ownKnob Tryz.prog.godebug=none:=by kernel_rfl
theorem hierDefines_laidOut:laidOutB Tryz.prog=true:=by kernel_rfl
theorem hierDefines_clss {H:Type} {enc:TypeId×Value→H} {W:World} {v0:Value} {d:DataW H} {p:List MemPlace} (hv:v0.cells.toList=[v0]) (h:DataW.Trod enc Tryz.prog W 0 (fun _=>true) true 22 v0 d p):∃ l:List Cls,IsClss W v0 l:=by
  obtain ⟨fuel,hf⟩:=h
  obtain ⟨v,l,e,r⟩:=read_clss hf
  rw [hv] at e
  simp at e
  subst e
  exact ⟨l,r⟩
set_option linter.unusedVariables false in
theorem hierDefines_lifted (os:Os) (started:os.Started) (H:Type) (enc:TypeId×Value→H) :
    ReturnsInHanded {} Tryz.checked os 11 .any (Rows.hierDefinesSpec.pre6 enc Tryz.prog Tryz.f11 Rows.hierDefinesRow.domain false) (Rows.hierDefinesSpec.post enc Tryz.prog Tryz.f11 false true false false):=by
  refine returnsInHanded_of_change_sized (C:=Tryz.checked) hierDefines_own started (by kernel_rfl) Tryz.func11
    (ChangeSpec.witness6 (enc:=enc) (C:=Tryz.checked) false ⟨#[],#[.slice none 0 0],[]⟩ 8 (by kernel_rfl) (by kernel_rfl) (by kernel_rfl) (by kernel_rfl)) ?_
  intro W base args ds gs before hval0 hW hcnd hsz0 _
  have hsz:(DataW.weightsEach Tryz.prog (Tryz.f11.params.toList++Rows.hierDefinesSpec.plain.varTypes Tryz.prog) (ds++gs)).all (· ≤ reachBytes)=true:=hsz0
  clear hsz0
  have hval:∀ (j:Nat) t v,Tryz.f11.params[j]?=some t→args[j]?=some v→Value.okWide Tryz.prog W .any base t v:=hval0
  have hW':=hW
  obtain ⟨p,q,hA0,hV,rfl,hfz,hnd⟩:=hW
  have hA:DataW.TrodAll enc Tryz.prog W 0 (fun _=>true) true Tryz.f11.params.toList args.toList ds p:=hA0
  rw [Tryz.params11] at hA hval hsz
  obtain ⟨v0,d0,rfl,rfl,h0⟩:=trodAll_one hA
  obtain ⟨rfl,rfl⟩:=trodVars_none hV
  have k0:=h0
  have lt0:∀ x∈p,x.block<W.heap.size:=by obtain ⟨m,hm⟩:=k0;exact DataW.trod_lt m _ _ _ hm
  have hs0:=hval 0 22 v0 rfl rfl
  obtain ⟨l0,hl0⟩:=hierDefines_clss (by obtain ⟨ao,n1,n2,rfl⟩:=okWide_slice Tryz.underlying22 hs0;rfl) h0
  have hz0:∀ c∈l0,ClsZ c:=by
    obtain ⟨fuel,hf⟩:=h0
    have e0:v0.cells.toList=[v0]:=by obtain ⟨ao,n1,n2,rfl⟩:=okWide_slice Tryz.underlying22 hs0;rfl
    rw [e0] at hf
    exact clss_z hf (fun x hx=>of_decide_eq_true (List.all_eq_true.1 hsz x (wtEach (j:=0) (t:=22) (d:=d0) rfl rfl x hx))) hl0
  clear hA0 hval0
  simp only [List.append_nil] at hW'
  refine (HierDefines_any v0 l0 W hl0 hz0).mono fun e W' ⟨he,bel⟩=>?_
  subst he
  exact ⟨_,rfl,_,_,_,[],_,[],hW',trodAll_mk1 (shut_bool Tryz.underlying4 _),trodAll_mk1 (Below.trod hierDefines_laidOut (by kernel_rfl) (of_decide_eq_true (by kernel_rfl)) k0 bel lt0),rfl,bel.frame _,fun h=>by cases h⟩
theorem hierDefines_and {a b:Bool} (h1:a=true) (h2:b=true):(a&&b)=true:=by rw [h1,h2];rfl
theorem hierDefines_k2:mapsRowed Tryz.prog=true:=by kernel_rfl
theorem hierDefines_k10:(Rows.hierDefinesRow.inPlace == Tryz.prog.inPlace 11)=true:=by kernel_rfl
theorem hierDefines_k11:(Rows.hierDefinesRow.unfollowed == Tryz.prog.unfollowed 11)=true:=by kernel_rfl
theorem hierDefines_k12:(Rows.hierDefinesRow.recurses == Tryz.prog.recurses 11)=true:=by kernel_rfl
theorem hierDefines_k13:(Rows.hierDefinesRow.named == Tryz.prog.varsNamed 11)=true:=by kernel_rfl
theorem hierDefines_closed:joinedFacts Tryz.prog 11 Tryz.f11 Rows.hierDefinesSpec Rows.hierDefinesRow=true:=by
  unfold joinedFacts
  refine hierDefines_and (hierDefines_and (hierDefines_and (hierDefines_and (hierDefines_and (hierDefines_and (hierDefines_and (hierDefines_and (hierDefines_and (hierDefines_and (hierDefines_and (hierDefines_and (hierDefines_and (hierDefines_and (hierDefines_and (hierDefines_and (hierDefines_and (hierDefines_and (hierDefines_and (hierDefines_and (hierDefines_and (hierDefines_and (hierDefines_and (hierDefines_and (hierDefines_and (hierDefines_and (hierDefines_and (hierDefines_and (hierDefines_and (hierDefines_and (hierDefines_and ?_ hierDefines_laidOut) hierDefines_k2) ?_) ?_) ?_) ?_) ?_) ?_) hierDefines_k10) hierDefines_k11) hierDefines_k12) hierDefines_k13) ?_) ?_) ?_) ?_) ?_) ?_) ?_) ?_) ?_) ?_) ?_) ?_) ?_) ?_) ?_) ?_) ?_) ?_) ?_
  all_goals kernel_rfl
theorem hierDefines_over:Rows.hierDefinesRow.holds Tryz.pinned (OpenSpec.ofChange Rows.hierDefinesSpec) :=
  OpenClaim.holds_of_wide 11 Tryz.f11 rfl rfl rfl rfl rfl rfl rfl ⟨rfl,rfl,rfl,rfl,rfl⟩ rfl rfl rfl rfl rfl (by kernel_rfl) Tryz.func11 hierDefines_closed
    (of_decide_eq_true (by kernel_rfl)) (by unfold Func.isWrapper;first|(rw [if_pos (by decide +kernel)];kernel_rfl)|(rw [if_neg (by decide +kernel)];exact ⟨rfl,rfl⟩))
    (fun os started H enc _=>hierDefines_lifted os started H enc)
theorem hierDefines_holds:Rows.HierDefinesSaid :=
  hierDefines_over
#print axioms hierDefines_holds
end Go.Proofs.YtkclpcmkplbclaaGreat
