/- ResolveMethods: for every list of classes, every number and every reference, package resolve's Method answers as the document's. No condition. -/
import Derived.Test.YtjlfnelihbdhjaaGreatRows
import Derived.Test.YtjlfnelihbdhjaaGreatLzD
import Derived.Lib.SmallJoins
import Derived.WalkKit
import Derived.ProofKit
import Derived.OpenShut
import Derived.Carry
set_option maxRecDepth 100000
namespace Go.Proofs.YtjlfnelihbdhjaaGreat
open Go.ChangeShapes Go.WideShapes Go.ChangeAt Go.RowKit Go.Joins
theorem resolveMethods_own:ownKnob Tryz.prog.godebug=none:=by kernel_rfl
theorem resolveMethods_laidOut:laidOutB Tryz.prog=true:=by kernel_rfl
theorem resolveMethods_cR:Tryz.prog.cellsOf 54=4:=by kernel_rfl
theorem resolveMethods_clss {H:Type} {enc:TypeId×Value→H} {W:World} {v0:Value} {d:DataW H} {p:List MemPlace} (hv:v0.cells.toList=[v0]) (h:DataW.Trod enc Tryz.prog W 0 (fun _=>true) true 22 v0 d p):∃ l:List Cls,IsClss W v0 l:=by
  obtain ⟨fuel,hf⟩:=h
  obtain ⟨v,l,e,r⟩:=read_clss hf
  rw [hv] at e
  simp at e
  subst e
  exact ⟨l,r⟩
set_option linter.unusedVariables false in
theorem resolveMethods_lifted (os:Os) (started:os.Started) (H:Type) (enc:TypeId×Value→H) :
    ReturnsInHanded {} Tryz.checked os 6 .any (Rows.resolveMethodsSpec.pre6 enc Tryz.prog Tryz.f6 Rows.resolveMethodsRow.domain false) (Rows.resolveMethodsSpec.post enc Tryz.prog Tryz.f6 false true false false):=by
  refine returnsInHanded_of_change (C:=Tryz.checked) resolveMethods_own started (by kernel_rfl) Tryz.func6
    (ChangeSpec.witness6 (enc:=enc) (C:=Tryz.checked) false ⟨#[],#[.slice none 0 0,.int .i64 0,.agg #[.bool false,.string ByteArray.empty,.string ByteArray.empty,.string ByteArray.empty]],[]⟩ 8 (by kernel_rfl) (by kernel_rfl) (by kernel_rfl) (by kernel_rfl)) ?_
  intro W base args ds gs before hval0 hW hcnd _
  have hval:∀ (j:Nat) t v,Tryz.f6.params[j]?=some t→args[j]?=some v→Value.okWide Tryz.prog W .any base t v:=hval0
  have hW':=hW
  obtain ⟨p,q,hA0,hV,rfl,hfz,hnd⟩:=hW
  have hA:DataW.TrodAll enc Tryz.prog W 0 (fun _=>true) true Tryz.f6.params.toList args.toList ds p:=hA0
  rw [Tryz.params6] at hA hval
  obtain ⟨v0,vs0,d0,ds0,p0,q0,hargs,rfl,rfl,h0,r0⟩:=trodAll_cons hA
  obtain ⟨v1,vs1,d1,ds1,p1,q1,rfl,rfl,rfl,h1,r1⟩:=trodAll_cons r0
  obtain ⟨v2,vs2,d2,ds2,p2,q2,rfl,rfl,rfl,h2,r2⟩:=trodAll_cons r1
  obtain ⟨rfl,rfl,rfl⟩:=trodAll_nil r2
  obtain rfl:args=#[v0,v1,v2]:=by rw [← Array.toList_inj];exact hargs
  obtain ⟨rfl,rfl⟩:=trodVars_none hV
  have k0:=h0
  have lt0:∀ x∈p0,x.block<W.heap.size:=by obtain ⟨m,hm⟩:=k0;exact DataW.trod_lt m _ _ _ hm
  have hs0:=hval 0 22 v0 rfl rfl
  have k1:=h1
  have lt1:∀ x∈p1,x.block<W.heap.size:=by obtain ⟨m,hm⟩:=k1;exact DataW.trod_lt m _ _ _ hm
  have hs1:=hval 1 3 v1 rfl rfl
  have k2:=h2
  have lt2:∀ x∈p2,x.block<W.heap.size:=by obtain ⟨m,hm⟩:=k2;exact DataW.trod_lt m _ _ _ hm
  have hs2:=hval 2 54 v2 rfl rfl
  obtain ⟨l0,hl0⟩:=resolveMethods_clss (by obtain ⟨ao,n1,n2,rfl⟩:=okWide_slice Tryz.underlying22 hs0;rfl) h0
  obtain ⟨n1,rfl⟩:=okWide_int Tryz.underlying3 hs1
  obtain ⟨a2,b2,c2,g2,y2,z2,x2,q2,m2,rfl,rfl,rfl,hy2,hz2,hx2,hq2⟩:=open_agg4 Tryz.underlying54 (by kernel_rfl) resolveMethods_cR hs2 h2
  obtain ⟨i2,e2,rfl⟩:=DataW.trod_bool Tryz.underlying4 hy2
  obtain ⟨s2,es2,rfl,ws2⟩:=DataW.trod_string Tryz.underlying9 hz2
  obtain ⟨t2,et2,rfl,wt2⟩:=DataW.trod_string Tryz.underlying9 hx2
  obtain ⟨u2,eu2,rfl,wu2⟩:=DataW.trod_string Tryz.underlying9 hq2
  simp at e2 es2 et2 eu2
  subst e2 es2 et2 eu2
  clear hA0 hval0
  simp only [List.append_nil] at hW'
  refine (ResolveMethods_any v0 l0 n1 i2 s2 t2 u2 W hl0 ws2 wt2 wu2).mono fun e W' ⟨he,bel⟩=>?_
  subst he
  have tr:=(trodAll_cons_mk (Below.trod resolveMethods_laidOut (by kernel_rfl) (of_decide_eq_true (by kernel_rfl)) k0 bel lt0) ((trodAll_cons_mk (Below.trod resolveMethods_laidOut (by kernel_rfl) (of_decide_eq_true (by kernel_rfl)) k1 bel lt1) (trodAll_mk1 (Below.trod resolveMethods_laidOut (by kernel_rfl) (of_decide_eq_true (by kernel_rfl)) k2 bel lt2)))))
  try simp only [List.append_nil] at tr
  exact ⟨_,rfl,_,_,_,[],_,[],hW',trodAll_mk1 (shut_bool Tryz.underlying4 _),tr,rfl,bel.frame _,fun h=>by cases h⟩
theorem resolveMethods_and {a b:Bool} (h1:a=true) (h2:b=true):(a&&b)=true:=by rw [h1,h2];rfl
theorem resolveMethods_k2:mapsRowed Tryz.prog=true:=by kernel_rfl
theorem resolveMethods_k10:(Rows.resolveMethodsRow.inPlace == Tryz.prog.inPlace 6)=true:=by kernel_rfl
theorem resolveMethods_k11:(Rows.resolveMethodsRow.unfollowed == Tryz.prog.unfollowed 6)=true:=by kernel_rfl
theorem resolveMethods_k12:(Rows.resolveMethodsRow.recurses == Tryz.prog.recurses 6)=true:=by kernel_rfl
theorem resolveMethods_k13:(Rows.resolveMethodsRow.named == Tryz.prog.varsNamed 6)=true:=by kernel_rfl
theorem resolveMethods_closed:joinedFacts Tryz.prog 6 Tryz.f6 Rows.resolveMethodsSpec Rows.resolveMethodsRow=true:=by
  unfold joinedFacts
  refine resolveMethods_and (resolveMethods_and (resolveMethods_and (resolveMethods_and (resolveMethods_and (resolveMethods_and (resolveMethods_and (resolveMethods_and (resolveMethods_and (resolveMethods_and (resolveMethods_and (resolveMethods_and (resolveMethods_and (resolveMethods_and (resolveMethods_and (resolveMethods_and (resolveMethods_and (resolveMethods_and (resolveMethods_and (resolveMethods_and (resolveMethods_and (resolveMethods_and (resolveMethods_and (resolveMethods_and (resolveMethods_and (resolveMethods_and (resolveMethods_and (resolveMethods_and (resolveMethods_and (resolveMethods_and (resolveMethods_and ?_ resolveMethods_laidOut) resolveMethods_k2) ?_) ?_) ?_) ?_) ?_) ?_) resolveMethods_k10) resolveMethods_k11) resolveMethods_k12) resolveMethods_k13) ?_) ?_) ?_) ?_) ?_) ?_) ?_) ?_) ?_) ?_) ?_) ?_) ?_) ?_) ?_) ?_) ?_) ?_) ?_
  all_goals kernel_rfl
theorem resolveMethods_over:Rows.resolveMethodsRow.holds Tryz.pinned (OpenSpec.ofChange Rows.resolveMethodsSpec) :=
  OpenClaim.holds_of_wide 6 Tryz.f6 rfl rfl rfl rfl rfl rfl rfl ⟨rfl,rfl,rfl,rfl,rfl⟩ rfl rfl rfl rfl rfl (by kernel_rfl) Tryz.func6 resolveMethods_closed
    (of_decide_eq_true (by kernel_rfl)) (by unfold Func.isWrapper;first|(rw [if_pos (by decide +kernel)];kernel_rfl)|(rw [if_neg (by decide +kernel)];exact ⟨rfl,rfl⟩))
    (fun os started H enc _=>resolveMethods_lifted os started H enc)
theorem resolveMethods_holds:Rows.ResolveMethodsSaid :=
  resolveMethods_over
#print axioms resolveMethods_holds
end Go.Proofs.YtjlfnelihbdhjaaGreat
