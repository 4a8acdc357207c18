/- HierKeeps: what is handed to Define may be written over behind the call, and what the world answers is new memory: nothing that was written over turns what it answers; every call ends and returns true -/
import Derived.Test.YtkoogmegdfpopaaGreatRows
import Derived.Test.YtkoogmegdfpopaaGreatZkL
import Derived.Test.YtkoogmegdfpopaaGreatZkP
import Derived.Lib.SmallJoins
import Derived.WalkKit
import Derived.ProofKit
import Derived.OpenShut
import Derived.Carry
set_option maxRecDepth 100000
namespace Go.Proofs.YtkoogmegdfpopaaGreat
open Go.ChangeShapes Go.WideShapes Go.ChangeAt Go.RowKit Go.Joins
theorem hierKeeps_own:ownKnob Tryz.prog.godebug=none:=by kernel_rfl
theorem hierKeeps_laidOut:laidOutB Tryz.prog=true:=by kernel_rfl
theorem hierKeeps_clss {H:Type} {enc:TypeId×Value→H} {W:World} {v0:Value} {d:DataW H} {p:List MemPlace} (hv:v0.cells.toList=[v0]) (h:DataW.Trod enc Tryz.prog W 0 (fun _=>true) true 22 v0 d p):∃ l:List Cls,Zef W v0 l:=by
 obtain ⟨fuel,hf⟩:=h
 obtain ⟨v,l,e,r⟩:=Zhx hf
 rw [hv] at e
 simp at e
 subst e
 exact ⟨l,r⟩
set_option linter.unusedVariables false in
theorem hierKeeps_lifted (os:Os) (started:os.Started) (H:Type) (enc:TypeId×Value→H) :
 ReturnsInHanded {} Tryz.checked os 3 .any (Rows.hierKeepsSpec.pre6 enc Tryz.prog Tryz.f3 Rows.hierKeepsRow.domain false) (Rows.hierKeepsSpec.post enc Tryz.prog Tryz.f3 false true false false):=by
 refine returnsInHanded_of_change_sized (C:=Tryz.checked) hierKeeps_own started (by kernel_rfl) Tryz.func3
  (ChangeSpec.witness6 (enc:=enc) (C:=Tryz.checked) false ⟨#[],#[.slice none 0 0,.int .i64 0],[]⟩ 8 (by kernel_rfl) (by kernel_rfl) (by kernel_rfl) (by kernel_rfl)) ?_
 intro W base args ds gs before hval0 hW hcnd hsz0 _
 have hsz:(DataW.weightsEach Tryz.prog (Tryz.f3.params.toList++Rows.hierKeepsSpec.plain.varTypes Tryz.prog) (ds++gs)).all (· ≤ reachBytes)=true:=hsz0
 clear hsz0
 have hval:∀ (j:Nat) t v,Tryz.f3.params[j]?=some t→args[j]?=some v→Value.okWide Tryz.prog W .any base t v:=hval0
 have hW':=hW
 obtain ⟨p,q,hA0,hV,rfl,hfz,hnd⟩:=hW
 have hA:DataW.TrodAll enc Tryz.prog W 0 (fun _=>true) true Tryz.f3.params.toList args.toList ds p:=hA0
 rw [Tryz.params3] at hA hval hsz
 obtain ⟨v0,vs0,d0,ds0,p0,q0,hargs,rfl,rfl,h0,r0⟩:=trodAll_cons hA
 obtain ⟨v1,vs1,d1,ds1,p1,q1,rfl,rfl,rfl,h1,r1⟩:=trodAll_cons r0
 obtain ⟨rfl,rfl,rfl⟩:=trodAll_nil r1
 obtain rfl:args=#[v0,v1]:=by rw [← Array.toList_inj];exact hargs
 obtain ⟨rfl,rfl⟩:=trodVars_none hV
 have k0:=h0
 have lt0:∀ x∈p0,x.block<W.heap.size:=by obtain ⟨m,hm⟩:=k0;exact DataW.trod_lt m _ _ _ hm
 have hs0:=hval 0 22 v0 rfl rfl
 have k1:=h1
 have lt1:∀ x∈p1,x.block<W.heap.size:=by obtain ⟨m,hm⟩:=k1;exact DataW.trod_lt m _ _ _ hm
 have hs1:=hval 1 3 v1 rfl rfl
 obtain ⟨l0,hl0⟩:=hierKeeps_clss (by obtain ⟨ao,n1,n2,rfl⟩:=okWide_slice Tryz.underlying22 hs0;rfl) h0
 have hz0:∀ c∈l0,ClsY c:=by
  obtain ⟨fuel,hf⟩:=h0
  have e0:v0.cells.toList=[v0]:=by obtain ⟨ao,n1,n2,rfl⟩:=okWide_slice Tryz.underlying22 hs0;rfl
  rw [e0] at hf
  exact clss_y hf (fun x hx=>of_decide_eq_true (List.all_eq_true.1 hsz x (Zhb (j:=0) (t:=22) (d:=d0) rfl rfl x hx))) hl0
 obtain ⟨n1,rfl⟩:=okWide_int Tryz.underlying3 hs1
 clear hA0 hval0
 simp only [List.append_nil] at hW'
 refine (Zcy v0 l0 n1 W hl0 hz0).mono fun e W' ⟨he,bel⟩=>?_
 subst he
 have tr:=(trodAll_cons_mk (Below.trod hierKeeps_laidOut (by kernel_rfl) (of_decide_eq_true (by kernel_rfl)) k0 bel lt0) (trodAll_mk1 (Below.trod hierKeeps_laidOut (by kernel_rfl) (of_decide_eq_true (by kernel_rfl)) k1 bel lt1)))
 try simp only [List.append_nil] at tr
 exact ⟨_,rfl,_,_,_,[],_,[],hW',trodAll_mk1 (shut_bool Tryz.underlying4 _),tr,rfl,bel.frame _,fun h=>by cases h⟩
theorem hierKeeps_and {a b:Bool} (h1:a=true) (h2:b=true):(a&&b)=true:=by rw [h1,h2];rfl
theorem hierKeeps_k2:mapsRowed Tryz.prog=true:=by kernel_rfl
theorem hierKeeps_k10:(Rows.hierKeepsRow.inPlace == Tryz.prog.inPlace 3)=true:=by kernel_rfl
theorem hierKeeps_k11:(Rows.hierKeepsRow.unfollowed == Tryz.prog.unfollowed 3)=true:=by kernel_rfl
theorem hierKeeps_k12:(Rows.hierKeepsRow.recurses == Tryz.prog.recurses 3)=true:=by kernel_rfl
theorem hierKeeps_k13:(Rows.hierKeepsRow.named == Tryz.prog.varsNamed 3)=true:=by kernel_rfl
theorem hierKeeps_closed:joinedFacts Tryz.prog 3 Tryz.f3 Rows.hierKeepsSpec Rows.hierKeepsRow=true:=by
 unfold joinedFacts
 refine hierKeeps_and (hierKeeps_and (hierKeeps_and (hierKeeps_and (hierKeeps_and (hierKeeps_and (hierKeeps_and (hierKeeps_and (hierKeeps_and (hierKeeps_and (hierKeeps_and (hierKeeps_and (hierKeeps_and (hierKeeps_and (hierKeeps_and (hierKeeps_and (hierKeeps_and (hierKeeps_and (hierKeeps_and (hierKeeps_and (hierKeeps_and (hierKeeps_and (hierKeeps_and (hierKeeps_and (hierKeeps_and (hierKeeps_and (hierKeeps_and (hierKeeps_and (hierKeeps_and (hierKeeps_and (hierKeeps_and ?_ hierKeeps_laidOut) hierKeeps_k2) ?_) ?_) ?_) ?_) ?_) ?_) hierKeeps_k10) hierKeeps_k11) hierKeeps_k12) hierKeeps_k13) ?_) ?_) ?_) ?_) ?_) ?_) ?_) ?_) ?_) ?_) ?_) ?_) ?_) ?_) ?_) ?_) ?_) ?_) ?_
 all_goals kernel_rfl
theorem hierKeeps_over:Rows.hierKeepsRow.holds Tryz.pinned (OpenSpec.ofChange Rows.hierKeepsSpec) :=
 OpenClaim.holds_of_wide 3 Tryz.f3 rfl rfl rfl rfl rfl rfl rfl ⟨rfl,rfl,rfl,rfl,rfl⟩ rfl rfl rfl rfl rfl (by kernel_rfl) Tryz.func3 hierKeeps_closed
  (of_decide_eq_true (by kernel_rfl)) (by unfold Func.isWrapper;first|(rw [if_pos (by decide +kernel)];kernel_rfl)|(rw [if_neg (by decide +kernel)];exact ⟨rfl,rfl⟩))
  (fun os started H enc _=>hierKeeps_lifted os started H enc)
theorem hierKeeps_holds:Rows.HierKeepsSaid :=
 hierKeeps_over
#print axioms hierKeeps_holds
end Go.Proofs.YtkoogmegdfpopaaGreat
