/- ItableLooks: for every list of classes, every number and every method, Lookup of package itable answers what the document's does -/
import Derived.Test.YtmafkabjjibcbaaGreatRows
import Derived.Test.YtmafkabjjibcbaaGreatSeD
import Derived.Lib.SmallJoins
import Derived.WalkKit
import Derived.ProofKit
import Derived.OpenShut
import Derived.Carry
set_option maxRecDepth 100000
namespace Go.Proofs.YtmafkabjjibcbaaGreat
open Go.ChangeShapes Go.WideShapes Go.ChangeAt Go.RowKit Go.Joins
theorem itableLooks_own:ownKnob Tryz.prog.godebug=none:=by kernel_rfl
theorem itableLooks_laidOut:laidOutB Tryz.prog=true:=by kernel_rfl
theorem itableLooks_cM:Tryz.prog.cellsOf 38=2:=by kernel_rfl
theorem itableLooks_clss {H:Type} {enc:TypeId×Value→H} {W:World} {v0:Value} {d:DataW H} {p:List MemPlace} (hv:v0.cells.toList=[v0]) (h:DataW.Trod enc Tryz.prog W 0 (fun _=>true) true 22 v0 d p):∃ l:List Cls,Za4 W v0 l:=by
 obtain ⟨fuel,hf⟩:=h
 obtain ⟨v,l,e,r⟩:=Zkk hf
 rw [hv] at e
 simp at e
 subst e
 exact ⟨l,r⟩
set_option linter.unusedVariables false in
theorem itableLooks_lifted (os:Os) (started:os.Started) (H:Type) (enc:TypeId×Value→H) :
 ReturnsInHanded {} Tryz.checked os 5 .any (Rows.itableLooksSpec.pre6 enc Tryz.prog Tryz.f5 Rows.itableLooksRow.domain false) (Rows.itableLooksSpec.post enc Tryz.prog Tryz.f5 false true false false):=by
 refine returnsInHanded_of_change (C:=Tryz.checked) itableLooks_own started (by kernel_rfl) Tryz.func5
  (ChangeSpec.witness6 (enc:=enc) (C:=Tryz.checked) false ⟨#[],#[.slice none 0 0,.int .i64 0,.agg #[.int .i64 0,.int .i64 0]],[]⟩ 8 (by kernel_rfl) (by kernel_rfl) (by kernel_rfl) (by kernel_rfl)) ?_
 intro W base args ds gs before hval0 hW hcnd _
 have hval:∀ (j:Nat) t v,Tryz.f5.params[j]?=some t→args[j]?=some v→Value.okWide Tryz.prog W .any base t v:=hval0
 have hW':=hW
 obtain ⟨p,q,hA0,hV,rfl,hfz,hnd⟩:=hW
 have hA:DataW.TrodAll enc Tryz.prog W 0 (fun _=>true) true Tryz.f5.params.toList args.toList ds p:=hA0
 rw [Tryz.params5] at hA hval
 obtain ⟨v0,vs0,d0,ds0,p0,q0,hargs,rfl,rfl,h0,r0⟩:=trodAll_cons hA
 obtain ⟨v1,vs1,d1,ds1,p1,q1,rfl,rfl,rfl,h1,r1⟩:=trodAll_cons r0
 obtain ⟨v2,vs2,d2,ds2,p2,q2,rfl,rfl,rfl,h2,r2⟩:=trodAll_cons r1
 obtain ⟨rfl,rfl,rfl⟩:=trodAll_nil r2
 obtain rfl:args=#[v0,v1,v2]:=by rw [← Array.toList_inj];exact hargs
 obtain ⟨rfl,rfl⟩:=trodVars_none hV
 have k0:=h0
 have lt0:∀ x∈p0,x.block<W.heap.size:=by obtain ⟨m,hm⟩:=k0;exact DataW.trod_lt m _ _ _ hm
 have hs0:=hval 0 22 v0 rfl rfl
 have k1:=h1
 have lt1:∀ x∈p1,x.block<W.heap.size:=by obtain ⟨m,hm⟩:=k1;exact DataW.trod_lt m _ _ _ hm
 have hs1:=hval 1 3 v1 rfl rfl
 have k2:=h2
 have lt2:∀ x∈p2,x.block<W.heap.size:=by obtain ⟨m,hm⟩:=k2;exact DataW.trod_lt m _ _ _ hm
 have hs2:=hval 2 38 v2 rfl rfl
 obtain ⟨l0,hl0⟩:=itableLooks_clss (by obtain ⟨ao,n1,n2,rfl⟩:=okWide_slice Tryz.underlying22 hs0;rfl) h0
 obtain ⟨n1,rfl⟩:=okWide_int Tryz.underlying3 hs1
 obtain ⟨a2,b2,y2,z2,m2,rfl,rfl,rfl,hy2,hz2⟩:=open_agg2 Tryz.underlying38 (by kernel_rfl) itableLooks_cM hs2 h2
 obtain ⟨i2,e2,rfl,wi2⟩:=DataW.trod_int Tryz.underlying3 hy2
 obtain ⟨s2,f2,rfl,w2⟩:=DataW.trod_int Tryz.underlying3 hz2
 simp at e2 f2
 subst e2 f2
 clear hA0 hval0
 simp only [List.append_nil] at hW'
 refine (Zch v0 l0 n1 i2 s2 W hl0).mono fun e W' ⟨he,bel⟩=>?_
 subst he
 have tr:=(trodAll_cons_mk (Below.trod itableLooks_laidOut (by kernel_rfl) (of_decide_eq_true (by kernel_rfl)) k0 bel lt0) ((trodAll_cons_mk (Below.trod itableLooks_laidOut (by kernel_rfl) (of_decide_eq_true (by kernel_rfl)) k1 bel lt1) (trodAll_mk1 (Below.trod itableLooks_laidOut (by kernel_rfl) (of_decide_eq_true (by kernel_rfl)) k2 bel lt2)))))
 try simp only [List.append_nil] at tr
 exact ⟨_,rfl,_,_,_,[],_,[],hW',trodAll_mk1 (shut_bool Tryz.underlying4 _),tr,rfl,bel.frame _,fun h=>by cases h⟩
theorem itableLooks_and {a b:Bool} (h1:a=true) (h2:b=true):(a&&b)=true:=by rw [h1,h2];rfl
theorem itableLooks_k2:mapsRowed Tryz.prog=true:=by kernel_rfl
theorem itableLooks_k10:(Rows.itableLooksRow.inPlace == Tryz.prog.inPlace 5)=true:=by kernel_rfl
theorem itableLooks_k11:(Rows.itableLooksRow.unfollowed == Tryz.prog.unfollowed 5)=true:=by kernel_rfl
theorem itableLooks_k12:(Rows.itableLooksRow.recurses == Tryz.prog.recurses 5)=true:=by kernel_rfl
theorem itableLooks_k13:(Rows.itableLooksRow.named == Tryz.prog.varsNamed 5)=true:=by kernel_rfl
theorem itableLooks_closed:joinedFacts Tryz.prog 5 Tryz.f5 Rows.itableLooksSpec Rows.itableLooksRow=true:=by
 unfold joinedFacts
 refine itableLooks_and (itableLooks_and (itableLooks_and (itableLooks_and (itableLooks_and (itableLooks_and (itableLooks_and (itableLooks_and (itableLooks_and (itableLooks_and (itableLooks_and (itableLooks_and (itableLooks_and (itableLooks_and (itableLooks_and (itableLooks_and (itableLooks_and (itableLooks_and (itableLooks_and (itableLooks_and (itableLooks_and (itableLooks_and (itableLooks_and (itableLooks_and (itableLooks_and (itableLooks_and (itableLooks_and (itableLooks_and (itableLooks_and (itableLooks_and (itableLooks_and ?_ itableLooks_laidOut) itableLooks_k2) ?_) ?_) ?_) ?_) ?_) ?_) itableLooks_k10) itableLooks_k11) itableLooks_k12) itableLooks_k13) ?_) ?_) ?_) ?_) ?_) ?_) ?_) ?_) ?_) ?_) ?_) ?_) ?_) ?_) ?_) ?_) ?_) ?_) ?_
 all_goals kernel_rfl
theorem itableLooks_over:Rows.itableLooksRow.holds Tryz.pinned (OpenSpec.ofChange Rows.itableLooksSpec) :=
 OpenClaim.holds_of_wide 5 Tryz.f5 rfl rfl rfl rfl rfl rfl rfl ⟨rfl,rfl,rfl,rfl,rfl⟩ rfl rfl rfl rfl rfl (by kernel_rfl) Tryz.func5 itableLooks_closed
  (of_decide_eq_true (by kernel_rfl)) (by unfold Func.isWrapper;first|(rw [if_pos (by decide +kernel)];kernel_rfl)|(rw [if_neg (by decide +kernel)];exact ⟨rfl,rfl⟩))
  (fun os started H enc _=>itableLooks_lifted os started H enc)
theorem itableLooks_holds:Rows.ItableLooksSaid :=
 itableLooks_over
#print axioms itableLooks_holds
end Go.Proofs.YtmafkabjjibcbaaGreat
