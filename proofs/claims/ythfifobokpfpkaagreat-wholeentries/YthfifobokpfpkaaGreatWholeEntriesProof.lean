/- WholeEntries: After every class that arrives, of every class that is no interface and every method of every interface: the interface table has an entry just if the class extends the interface and the method is neither private nor static, and it says what the definitions of invokeinterface and invokevirtual select. -/
import Derived.Test.YthfifobokpfpkaaGreatRows
import Derived.Test.YthfifobokpfpkaaGreatWeB
import Derived.Lib.SmallJoins
import Derived.WalkKit
import Derived.ProofKit
import Derived.OpenShut
import Derived.Carry
set_option maxRecDepth 100000
namespace Go.Proofs.YthfifobokpfpkaaGreat
open Go.ChangeShapes Go.WideShapes Go.ChangeAt Go.RowKit Go.Joins
theorem wholeEntries_own:ownKnob Tryz.prog.godebug=none:=by kernel_rfl
theorem wholeEntries_laidOut:laidOutB Tryz.prog=true:=by kernel_rfl
theorem wholeEntries_clss {H:Type} {enc:TypeId×Value→H} {W:World} {v0:Value} {d:DataW H} {p:List MemPlace} (hv:v0.cells.toList=[v0]) (h:DataW.Trod enc Tryz.prog W 0 (fun _=>true) true 22 v0 d p):∃ l:List Cls,IsClss W v0 l:=by
  obtain ⟨fuel,hf⟩:=h
  obtain ⟨v,l,e,r⟩:=read_clss hf
  rw [hv] at e
  simp at e
  subst e
  exact ⟨l,r⟩
set_option linter.unusedVariables false in
theorem wholeEntries_lifted (os:Os) (started:os.Started) (H:Type) (enc:TypeId×Value→H) :
    ReturnsInHanded {} Tryz.checked os 14 .any (Rows.wholeEntriesSpec.pre6 enc Tryz.prog Tryz.f14 Rows.wholeEntriesRow.domain false) (Rows.wholeEntriesSpec.post enc Tryz.prog Tryz.f14 false true false false):=by
  refine returnsInHanded_of_change (C:=Tryz.checked) wholeEntries_own started (by kernel_rfl) Tryz.func14
    (ChangeSpec.witness6 (enc:=enc) (C:=Tryz.checked) false ⟨#[],#[.slice none 0 0],[]⟩ 8 (by kernel_rfl) (by kernel_rfl) (by kernel_rfl) (by kernel_rfl)) ?_
  intro W base args ds gs before hval0 hW hcnd _
  have hval:∀ (j:Nat) t v,Tryz.f14.params[j]?=some t→args[j]?=some v→Value.okWide Tryz.prog W .any base t v:=hval0
  have hW':=hW
  obtain ⟨p,q,hA0,hV,rfl,hfz,hnd⟩:=hW
  have hA:DataW.TrodAll enc Tryz.prog W 0 (fun _=>true) true Tryz.f14.params.toList args.toList ds p:=hA0
  rw [Tryz.params14] at hA hval
  obtain ⟨v0,d0,rfl,rfl,h0⟩:=trodAll_one hA
  obtain ⟨rfl,rfl⟩:=trodVars_none hV
  have k0:=h0
  have lt0:∀ x∈p,x.block<W.heap.size:=by obtain ⟨m,hm⟩:=k0;exact DataW.trod_lt m _ _ _ hm
  have hs0:=hval 0 22 v0 rfl rfl
  obtain ⟨l0,hl0⟩:=wholeEntries_clss (by obtain ⟨ao,n1,n2,rfl⟩:=okWide_slice Tryz.underlying22 hs0;rfl) h0
  clear hA0 hval0
  simp only [List.append_nil] at hW'
  refine (WholeEntries_any v0 l0 W hl0).mono fun e W' ⟨he,bel⟩=>?_
  subst he
  exact ⟨_,rfl,_,_,_,[],_,[],hW',trodAll_mk1 (shut_bool Tryz.underlying4 _),trodAll_mk1 (Below.trod wholeEntries_laidOut (by kernel_rfl) (of_decide_eq_true (by kernel_rfl)) k0 bel lt0),rfl,bel.frame _,fun h=>by cases h⟩
theorem wholeEntries_and {a b:Bool} (h1:a=true) (h2:b=true):(a&&b)=true:=by rw [h1,h2];rfl
theorem wholeEntries_k2:mapsRowed Tryz.prog=true:=by kernel_rfl
theorem wholeEntries_k10:(Rows.wholeEntriesRow.inPlace == Tryz.prog.inPlace 14)=true:=by kernel_rfl
theorem wholeEntries_k11:(Rows.wholeEntriesRow.unfollowed == Tryz.prog.unfollowed 14)=true:=by kernel_rfl
theorem wholeEntries_k12:(Rows.wholeEntriesRow.recurses == Tryz.prog.recurses 14)=true:=by kernel_rfl
theorem wholeEntries_k13:(Rows.wholeEntriesRow.named == Tryz.prog.varsNamed 14)=true:=by kernel_rfl
theorem wholeEntries_closed:joinedFacts Tryz.prog 14 Tryz.f14 Rows.wholeEntriesSpec Rows.wholeEntriesRow=true:=by
  unfold joinedFacts
  refine wholeEntries_and (wholeEntries_and (wholeEntries_and (wholeEntries_and (wholeEntries_and (wholeEntries_and (wholeEntries_and (wholeEntries_and (wholeEntries_and (wholeEntries_and (wholeEntries_and (wholeEntries_and (wholeEntries_and (wholeEntries_and (wholeEntries_and (wholeEntries_and (wholeEntries_and (wholeEntries_and (wholeEntries_and (wholeEntries_and (wholeEntries_and (wholeEntries_and (wholeEntries_and (wholeEntries_and (wholeEntries_and (wholeEntries_and (wholeEntries_and (wholeEntries_and (wholeEntries_and (wholeEntries_and (wholeEntries_and ?_ wholeEntries_laidOut) wholeEntries_k2) ?_) ?_) ?_) ?_) ?_) ?_) wholeEntries_k10) wholeEntries_k11) wholeEntries_k12) wholeEntries_k13) ?_) ?_) ?_) ?_) ?_) ?_) ?_) ?_) ?_) ?_) ?_) ?_) ?_) ?_) ?_) ?_) ?_) ?_) ?_
  all_goals kernel_rfl
theorem wholeEntries_over:Rows.wholeEntriesRow.holds Tryz.pinned (OpenSpec.ofChange Rows.wholeEntriesSpec) :=
  OpenClaim.holds_of_wide 14 Tryz.f14 rfl rfl rfl rfl rfl rfl rfl ⟨rfl,rfl,rfl,rfl,rfl⟩ rfl rfl rfl rfl rfl (by kernel_rfl) Tryz.func14 wholeEntries_closed
    (of_decide_eq_true (by kernel_rfl)) (by unfold Func.isWrapper;first|(rw [if_pos (by decide +kernel)];kernel_rfl)|(rw [if_neg (by decide +kernel)];exact ⟨rfl,rfl⟩))
    (fun os started H enc _=>wholeEntries_lifted os started H enc)
theorem wholeEntries_holds:Rows.WholeEntriesSaid :=
  wholeEntries_over
#print axioms wholeEntries_holds
end Go.Proofs.YthfifobokpfpkaaGreat
