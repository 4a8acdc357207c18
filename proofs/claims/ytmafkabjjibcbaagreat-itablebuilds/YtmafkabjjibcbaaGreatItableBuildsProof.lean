/- ItableBuilds: for every list of classes and every number, Roots, Build and Marks of package itable answer what the document's do, error by error -/
import Derived.Test.YtmafkabjjibcbaaGreatRows
import Derived.Test.YtmafkabjjibcbaaGreatSeH
import Derived.Lib.SmallJoins
import Derived.WalkKit
import Derived.ProofKit
import Derived.OpenShut
import Derived.Carry
set_option maxRecDepth 100000
namespace Go.Proofs.YtmafkabjjibcbaaGreat
open Go.ChangeShapes Go.WideShapes Go.ChangeAt Go.RowKit Go.Joins
theorem itableBuilds_own:ownKnob Tryz.prog.godebug=none:=by kernel_rfl
theorem itableBuilds_laidOut:laidOutB Tryz.prog=true:=by kernel_rfl
theorem itableBuilds_clss {H:Type} {enc:TypeId×Value→H} {W:World} {v0:Value} {d:DataW H} {p:List MemPlace} (hv:v0.cells.toList=[v0]) (h:DataW.Trod enc Tryz.prog W 0 (fun _=>true) true 22 v0 d p):∃ l:List Cls,Za2 W v0 l:=by
 obtain ⟨fuel,hf⟩:=h
 obtain ⟨v,l,e,r⟩:=Zko hf
 rw [hv] at e
 simp at e
 subst e
 exact ⟨l,r⟩
set_option linter.unusedVariables false in
theorem itableBuilds_lifted (os:Os) (started:os.Started) (H:Type) (enc:TypeId×Value→H) :
 ReturnsInHanded {} Tryz.checked os 4 .any (Rows.itableBuildsSpec.pre6 enc Tryz.prog Tryz.f4 Rows.itableBuildsRow.domain false) (Rows.itableBuildsSpec.post enc Tryz.prog Tryz.f4 false true false false):=by
 refine returnsInHanded_of_change (C:=Tryz.checked) itableBuilds_own started (by kernel_rfl) Tryz.func4
  (ChangeSpec.witness6 (enc:=enc) (C:=Tryz.checked) false ⟨#[],#[.slice none 0 0,.int .i64 0],[]⟩ 8 (by kernel_rfl) (by kernel_rfl) (by kernel_rfl) (by kernel_rfl)) ?_
 intro W base args ds gs before hval0 hW hcnd _
 have hval:∀ (j:Nat) t v,Tryz.f4.params[j]?=some t→args[j]?=some v→Value.okWide Tryz.prog W .any base t v:=hval0
 have hW':=hW
 obtain ⟨p,q,hA0,hV,rfl,hfz,hnd⟩:=hW
 have hA:DataW.TrodAll enc Tryz.prog W 0 (fun _=>true) true Tryz.f4.params.toList args.toList ds p:=hA0
 rw [Tryz.params4] at hA hval
 obtain ⟨v0,vs0,d0,ds0,p0,q0,hargs,rfl,rfl,h0,r0⟩:=trodAll_cons hA
 obtain ⟨v1,vs1,d1,ds1,p1,q1,rfl,rfl,rfl,h1,r1⟩:=trodAll_cons r0
 obtain ⟨rfl,rfl,rfl⟩:=trodAll_nil r1
 obtain rfl:args=#[v0,v1]:=by rw [← Array.toList_inj];exact hargs
 obtain ⟨rfl,rfl⟩:=trodVars_none hV
 have k0:=h0
 have lt0:∀ x∈p0,x.block<W.heap.size:=by obtain ⟨m,hm⟩:=k0;exact DataW.trod_lt m _ _ _ hm
 have hs0:=hval 0 22 v0 rfl rfl
 have k1:=h1
 have lt1:∀ x∈p1,x.block<W.heap.size:=by obtain ⟨m,hm⟩:=k1;exact DataW.trod_lt m _ _ _ hm
 have hs1:=hval 1 3 v1 rfl rfl
 obtain ⟨l0,hl0⟩:=itableBuilds_clss (by obtain ⟨ao,n1,n2,rfl⟩:=okWide_slice Tryz.underlying22 hs0;rfl) h0
 obtain ⟨n1,rfl⟩:=okWide_int Tryz.underlying3 hs1
 clear hA0 hval0
 simp only [List.append_nil] at hW'
 refine (Zbb v0 l0 n1 W hl0).mono fun e W' ⟨he,bel⟩=>?_
 subst he
 have tr:=(trodAll_cons_mk (Below.trod itableBuilds_laidOut (by kernel_rfl) (of_decide_eq_true (by kernel_rfl)) k0 bel lt0) (trodAll_mk1 (Below.trod itableBuilds_laidOut (by kernel_rfl) (of_decide_eq_true (by kernel_rfl)) k1 bel lt1)))
 try simp only [List.append_nil] at tr
 exact ⟨_,rfl,_,_,_,[],_,[],hW',trodAll_mk1 (shut_bool Tryz.underlying4 _),tr,rfl,bel.frame _,fun h=>by cases h⟩
theorem itableBuilds_and {a b:Bool} (h1:a=true) (h2:b=true):(a&&b)=true:=by rw [h1,h2];rfl
theorem itableBuilds_k2:mapsRowed Tryz.prog=true:=by kernel_rfl
theorem itableBuilds_k10:(Rows.itableBuildsRow.inPlace == Tryz.prog.inPlace 4)=true:=by kernel_rfl
theorem itableBuilds_k11:(Rows.itableBuildsRow.unfollowed == Tryz.prog.unfollowed 4)=true:=by kernel_rfl
theorem itableBuilds_k12:(Rows.itableBuildsRow.recurses == Tryz.prog.recurses 4)=true:=by kernel_rfl
theorem itableBuilds_k13:(Rows.itableBuildsRow.named == Tryz.prog.varsNamed 4)=true:=by kernel_rfl
theorem itableBuilds_closed:joinedFacts Tryz.prog 4 Tryz.f4 Rows.itableBuildsSpec Rows.itableBuildsRow=true:=by
 unfold joinedFacts
 refine itableBuilds_and (itableBuilds_and (itableBuilds_and (itableBuilds_and (itableBuilds_and (itableBuilds_and (itableBuilds_and (itableBuilds_and (itableBuilds_and (itableBuilds_and (itableBuilds_and (itableBuilds_and (itableBuilds_and (itableBuilds_and (itableBuilds_and (itableBuilds_and (itableBuilds_and (itableBuilds_and (itableBuilds_and (itableBuilds_and (itableBuilds_and (itableBuilds_and (itableBuilds_and (itableBuilds_and (itableBuilds_and (itableBuilds_and (itableBuilds_and (itableBuilds_and (itableBuilds_and (itableBuilds_and (itableBuilds_and ?_ itableBuilds_laidOut) itableBuilds_k2) ?_) ?_) ?_) ?_) ?_) ?_) itableBuilds_k10) itableBuilds_k11) itableBuilds_k12) itableBuilds_k13) ?_) ?_) ?_) ?_) ?_) ?_) ?_) ?_) ?_) ?_) ?_) ?_) ?_) ?_) ?_) ?_) ?_) ?_) ?_
 all_goals kernel_rfl
theorem itableBuilds_over:Rows.itableBuildsRow.holds Tryz.pinned (OpenSpec.ofChange Rows.itableBuildsSpec) :=
 OpenClaim.holds_of_wide 4 Tryz.f4 rfl rfl rfl rfl rfl rfl rfl ⟨rfl,rfl,rfl,rfl,rfl⟩ rfl rfl rfl rfl rfl (by kernel_rfl) Tryz.func4 itableBuilds_closed
  (of_decide_eq_true (by kernel_rfl)) (by unfold Func.isWrapper;first|(rw [if_pos (by decide +kernel)];kernel_rfl)|(rw [if_neg (by decide +kernel)];exact ⟨rfl,rfl⟩))
  (fun os started H enc _=>itableBuilds_lifted os started H enc)
theorem itableBuilds_holds:Rows.ItableBuildsSaid :=
 itableBuilds_over
#print axioms itableBuilds_holds
end Go.Proofs.YtmafkabjjibcbaaGreat
