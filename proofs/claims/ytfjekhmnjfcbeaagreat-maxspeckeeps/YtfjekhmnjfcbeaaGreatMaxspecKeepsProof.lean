/- MaxspecKeeps: whatever the list of classes, the number and the two texts: lists that are answered are new memory each time; a nil world answers ErrArg: the law returns true (R4, R6). No condition. -/
import Derived.Test.YtfjekhmnjfcbeaaGreatRows
import Derived.Test.YtfjekhmnjfcbeaaGreatMkB
import Derived.Lib.SmallJoins
import Derived.WalkKit
import Derived.ProofKit
import Derived.OpenShut
import Derived.Carry
set_option maxRecDepth 100000
namespace Go.Proofs.YtfjekhmnjfcbeaaGreat
open Go.ChangeShapes Go.WideShapes Go.ChangeAt Go.RowKit Go.Joins
theorem maxspecKeeps_own:ownKnob Tryz.prog.godebug=none:=by kernel_rfl
theorem maxspecKeeps_laidOut:laidOutB Tryz.prog=true:=by kernel_rfl
theorem maxspecKeeps_clss {H:Type} {enc:TypeId×Value→H} {W:World} {v0:Value} {d:DataW H} {p:List MemPlace} (hv:v0.cells.toList=[v0]) (h:DataW.Trod enc Tryz.prog W 0 (fun _=>true) true 22 v0 d p):∃ l:List Cls,IsClss W v0 l:=by
  obtain ⟨fuel,hf⟩:=h
  obtain ⟨v,l,e,r⟩:=read_clss hf
  rw [hv] at e
  simp at e
  subst e
  exact ⟨l,r⟩
set_option linter.unusedVariables false in
theorem maxspecKeeps_lifted (os:Os) (started:os.Started) (H:Type) (enc:TypeId×Value→H) :
    ReturnsInHanded {} Tryz.checked os 6 .any (Rows.maxspecKeepsSpec.pre6 enc Tryz.prog Tryz.f6 Rows.maxspecKeepsRow.domain false) (Rows.maxspecKeepsSpec.post enc Tryz.prog Tryz.f6 false true false false):=by
  refine returnsInHanded_of_change (C:=Tryz.checked) maxspecKeeps_own started (by kernel_rfl) Tryz.func6
    (ChangeSpec.witness6 (enc:=enc) (C:=Tryz.checked) false ⟨#[],#[.slice none 0 0,.int .i64 0,.string ByteArray.empty,.string ByteArray.empty],[]⟩ 8 (by kernel_rfl) (by kernel_rfl) (by kernel_rfl) (by kernel_rfl)) ?_
  intro W base args ds gs before hval0 hW hcnd _
  have hval:∀ (j:Nat) t v,Tryz.f6.params[j]?=some t→args[j]?=some v→Value.okWide Tryz.prog W .any base t v:=hval0
  have hW':=hW
  obtain ⟨p,q,hA0,hV,rfl,hfz,hnd⟩:=hW
  have hA:DataW.TrodAll enc Tryz.prog W 0 (fun _=>true) true Tryz.f6.params.toList args.toList ds p:=hA0
  rw [Tryz.params6] at hA hval
  obtain ⟨v0,vs0,d0,ds0,p0,q0,hargs,rfl,rfl,h0,r0⟩:=trodAll_cons hA
  obtain ⟨v1,vs1,d1,ds1,p1,q1,rfl,rfl,rfl,h1,r1⟩:=trodAll_cons r0
  obtain ⟨v2,vs2,d2,ds2,p2,q2,rfl,rfl,rfl,h2,r2⟩:=trodAll_cons r1
  obtain ⟨v3,vs3,d3,ds3,p3,q3,rfl,rfl,rfl,h3,r3⟩:=trodAll_cons r2
  obtain ⟨rfl,rfl,rfl⟩:=trodAll_nil r3
  obtain rfl:args=#[v0,v1,v2,v3]:=by rw [← Array.toList_inj];exact hargs
  obtain ⟨rfl,rfl⟩:=trodVars_none hV
  have k0:=h0
  have lt0:∀ x∈p0,x.block<W.heap.size:=by obtain ⟨m,hm⟩:=k0;exact DataW.trod_lt m _ _ _ hm
  have hs0:=hval 0 22 v0 rfl rfl
  have k1:=h1
  have lt1:∀ x∈p1,x.block<W.heap.size:=by obtain ⟨m,hm⟩:=k1;exact DataW.trod_lt m _ _ _ hm
  have hs1:=hval 1 3 v1 rfl rfl
  have k2:=h2
  have lt2:∀ x∈p2,x.block<W.heap.size:=by obtain ⟨m,hm⟩:=k2;exact DataW.trod_lt m _ _ _ hm
  have hs2:=hval 2 9 v2 rfl rfl
  have k3:=h3
  have lt3:∀ x∈p3,x.block<W.heap.size:=by obtain ⟨m,hm⟩:=k3;exact DataW.trod_lt m _ _ _ hm
  have hs3:=hval 3 9 v3 rfl rfl
  obtain ⟨l0,hl0⟩:=maxspecKeeps_clss (by obtain ⟨ao,n1,n2,rfl⟩:=okWide_slice Tryz.underlying22 hs0;rfl) h0
  obtain ⟨n1,rfl⟩:=okWide_int Tryz.underlying3 hs1
  obtain ⟨s2,rfl⟩:=okWide_string Tryz.underlying9 hs2
  obtain ⟨u2,e2,_,w2⟩:=DataW.trod_string Tryz.underlying9 h2.choose_spec
  obtain rfl:s2=u2:=by simpa [Value.cells] using e2
  obtain ⟨s3,rfl⟩:=okWide_string Tryz.underlying9 hs3
  obtain ⟨u3,e3,_,w3⟩:=DataW.trod_string Tryz.underlying9 h3.choose_spec
  obtain rfl:s3=u3:=by simpa [Value.cells] using e3
  clear hA0 hval0
  simp only [List.append_nil] at hW'
  refine (MaxspecKeeps_any v0 l0 n1 s2 s3 W hl0 w2 w3).mono fun e W' ⟨he,bel⟩=>?_
  subst he
  have tr:=(trodAll_cons_mk (Below.trod maxspecKeeps_laidOut (by kernel_rfl) (of_decide_eq_true (by kernel_rfl)) k0 bel lt0) ((trodAll_cons_mk (Below.trod maxspecKeeps_laidOut (by kernel_rfl) (of_decide_eq_true (by kernel_rfl)) k1 bel lt1) ((trodAll_cons_mk (Below.trod maxspecKeeps_laidOut (by kernel_rfl) (of_decide_eq_true (by kernel_rfl)) k2 bel lt2) (trodAll_mk1 (Below.trod maxspecKeeps_laidOut (by kernel_rfl) (of_decide_eq_true (by kernel_rfl)) k3 bel lt3)))))))
  try simp only [List.append_nil] at tr
  exact ⟨_,rfl,_,_,_,[],_,[],hW',trodAll_mk1 (shut_bool Tryz.underlying4 _),tr,rfl,bel.frame _,fun h=>by cases h⟩
theorem maxspecKeeps_and {a b:Bool} (h1:a=true) (h2:b=true):(a&&b)=true:=by rw [h1,h2];rfl
theorem maxspecKeeps_k2:mapsRowed Tryz.prog=true:=by kernel_rfl
theorem maxspecKeeps_k10:(Rows.maxspecKeepsRow.inPlace == Tryz.prog.inPlace 6)=true:=by kernel_rfl
theorem maxspecKeeps_k11:(Rows.maxspecKeepsRow.unfollowed == Tryz.prog.unfollowed 6)=true:=by kernel_rfl
theorem maxspecKeeps_k12:(Rows.maxspecKeepsRow.recurses == Tryz.prog.recurses 6)=true:=by kernel_rfl
theorem maxspecKeeps_k13:(Rows.maxspecKeepsRow.named == Tryz.prog.varsNamed 6)=true:=by kernel_rfl
theorem maxspecKeeps_closed:joinedFacts Tryz.prog 6 Tryz.f6 Rows.maxspecKeepsSpec Rows.maxspecKeepsRow=true:=by
  unfold joinedFacts
  refine maxspecKeeps_and (maxspecKeeps_and (maxspecKeeps_and (maxspecKeeps_and (maxspecKeeps_and (maxspecKeeps_and (maxspecKeeps_and (maxspecKeeps_and (maxspecKeeps_and (maxspecKeeps_and (maxspecKeeps_and (maxspecKeeps_and (maxspecKeeps_and (maxspecKeeps_and (maxspecKeeps_and (maxspecKeeps_and (maxspecKeeps_and (maxspecKeeps_and (maxspecKeeps_and (maxspecKeeps_and (maxspecKeeps_and (maxspecKeeps_and (maxspecKeeps_and (maxspecKeeps_and (maxspecKeeps_and (maxspecKeeps_and (maxspecKeeps_and (maxspecKeeps_and (maxspecKeeps_and (maxspecKeeps_and (maxspecKeeps_and ?_ maxspecKeeps_laidOut) maxspecKeeps_k2) ?_) ?_) ?_) ?_) ?_) ?_) maxspecKeeps_k10) maxspecKeeps_k11) maxspecKeeps_k12) maxspecKeeps_k13) ?_) ?_) ?_) ?_) ?_) ?_) ?_) ?_) ?_) ?_) ?_) ?_) ?_) ?_) ?_) ?_) ?_) ?_) ?_
  all_goals kernel_rfl
theorem maxspecKeeps_over:Rows.maxspecKeepsRow.holds Tryz.pinned (OpenSpec.ofChange Rows.maxspecKeepsSpec) :=
  OpenClaim.holds_of_wide 6 Tryz.f6 rfl rfl rfl rfl rfl rfl rfl ⟨rfl,rfl,rfl,rfl,rfl⟩ rfl rfl rfl rfl rfl (by kernel_rfl) Tryz.func6 maxspecKeeps_closed
    (of_decide_eq_true (by kernel_rfl)) (by unfold Func.isWrapper;first|(rw [if_pos (by decide +kernel)];kernel_rfl)|(rw [if_neg (by decide +kernel)];exact ⟨rfl,rfl⟩))
    (fun os started H enc _=>maxspecKeeps_lifted os started H enc)
theorem maxspecKeeps_holds:Rows.MaxspecKeepsSaid :=
  maxspecKeeps_over
#print axioms maxspecKeeps_holds
end Go.Proofs.YtfjekhmnjfcbeaaGreat
