/- HeapMulti: For every type (any dimensions, any name) and every two ints, the Go function arbiterlaw20.HeapMulti returns true: arrays of arrays that were granted are as they were asked for, with the numbers, types, lengths and elements that the document says; what was refused left nothing. -/
import Derived.Test.YtfnmmpkhopochaaGreatRows
import Derived.Test.YtfnmmpkhopochaaGreatHpS
import Derived.Lib.SmallJoins
import Derived.WalkKit
import Derived.ProofKit
import Derived.OpenShut
import Derived.Carry
set_option maxRecDepth 100000
namespace Go.Proofs.YtfnmmpkhopochaaGreat
open Go.ChangeShapes Go.WideShapes Go.ChangeAt Go.RowKit Go.Joins
theorem heapMulti_own:ownKnob Tryz.prog.godebug=none:=by kernel_rfl
theorem heapMulti_laidOut:laidOutB Tryz.prog=true:=by kernel_rfl
theorem heapMulti_cT:Tryz.prog.cellsOf 40=2:=by kernel_rfl
set_option linter.unusedVariables false in
theorem heapMulti_lifted (os:Os) (started:os.Started) (H:Type) (enc:TypeId×Value→H) :
    ReturnsInHanded {} Tryz.checked os 6 .any (Rows.heapMultiSpec.pre6 enc Tryz.prog Tryz.f6 Rows.heapMultiRow.domain false) (Rows.heapMultiSpec.post enc Tryz.prog Tryz.f6 false true false false):=by
  refine returnsInHanded_of_change (C:=Tryz.checked) heapMulti_own started (by kernel_rfl) Tryz.func6
    (ChangeSpec.witness6 (enc:=enc) (C:=Tryz.checked) false ⟨#[],#[.agg #[.int .i64 0,.string ByteArray.empty],.int .i64 0,.int .i64 0],[]⟩ 8 (by kernel_rfl) (by kernel_rfl) (by kernel_rfl) (by kernel_rfl)) ?_
  intro W base args ds gs before hval0 hW hcnd _
  have hval:∀ (j:Nat) t v,Tryz.f6.params[j]?=some t→args[j]?=some v→Value.okWide Tryz.prog W .any base t v:=hval0
  have hW':=hW
  obtain ⟨p,q,hA0,hV,rfl,hfz,hnd⟩:=hW
  have hA:DataW.TrodAll enc Tryz.prog W 0 (fun _=>true) true Tryz.f6.params.toList args.toList ds p:=hA0
  rw [Tryz.params6] at hA hval
  obtain ⟨v0,vs0,d0,ds0,p0,q0,hargs,rfl,rfl,h0,r0⟩:=trodAll_cons hA
  obtain ⟨v1,vs1,d1,ds1,p1,q1,rfl,rfl,rfl,h1,r1⟩:=trodAll_cons r0
  obtain ⟨v2,vs2,d2,ds2,p2,q2,rfl,rfl,rfl,h2,r2⟩:=trodAll_cons r1
  obtain ⟨rfl,rfl,rfl⟩:=trodAll_nil r2
  obtain rfl:args=#[v0,v1,v2]:=by rw [← Array.toList_inj];exact hargs
  obtain ⟨rfl,rfl⟩:=trodVars_none hV
  have k0:=h0
  have lt0:∀ x∈p0,x.block<W.heap.size:=by obtain ⟨m,hm⟩:=k0;exact DataW.trod_lt m _ _ _ hm
  have hs0:=hval 0 40 v0 rfl rfl
  have k1:=h1
  have lt1:∀ x∈p1,x.block<W.heap.size:=by obtain ⟨m,hm⟩:=k1;exact DataW.trod_lt m _ _ _ hm
  have hs1:=hval 1 3 v1 rfl rfl
  have k2:=h2
  have lt2:∀ x∈p2,x.block<W.heap.size:=by obtain ⟨m,hm⟩:=k2;exact DataW.trod_lt m _ _ _ hm
  have hs2:=hval 2 3 v2 rfl rfl
  obtain ⟨a0,b0,y0,z0,m0,rfl,rfl,rfl,hy0,hz0⟩:=open_agg2 Tryz.underlying40 (by kernel_rfl) heapMulti_cT hs0 h0
  obtain ⟨i0,e0,rfl,wi0⟩:=DataW.trod_int Tryz.underlying3 hy0
  obtain ⟨s0,f0,rfl,w0⟩:=DataW.trod_string Tryz.underlying9 hz0
  simp at e0 f0
  subst e0 f0
  obtain ⟨n1,rfl⟩:=okWide_int Tryz.underlying3 hs1
  obtain ⟨n2,rfl⟩:=okWide_int Tryz.underlying3 hs2
  clear hA0 hval0
  simp only [List.append_nil] at hW'
  refine (HeapMulti_any i0 s0 n1 n2 W w0).mono fun e W' ⟨he,bel⟩=>?_
  subst he
  have tr:=(trodAll_cons_mk (Below.trod heapMulti_laidOut (by kernel_rfl) (of_decide_eq_true (by kernel_rfl)) k0 bel lt0) ((trodAll_cons_mk (Below.trod heapMulti_laidOut (by kernel_rfl) (of_decide_eq_true (by kernel_rfl)) k1 bel lt1) (trodAll_mk1 (Below.trod heapMulti_laidOut (by kernel_rfl) (of_decide_eq_true (by kernel_rfl)) k2 bel lt2)))))
  try simp only [List.append_nil] at tr
  exact ⟨_,rfl,_,_,_,[],_,[],hW',trodAll_mk1 (shut_bool Tryz.underlying4 _),tr,rfl,bel.frame _,fun h=>by cases h⟩
theorem heapMulti_and {a b:Bool} (h1:a=true) (h2:b=true):(a&&b)=true:=by rw [h1,h2];rfl
theorem heapMulti_k2:mapsRowed Tryz.prog=true:=by kernel_rfl
theorem heapMulti_k10:(Rows.heapMultiRow.inPlace == Tryz.prog.inPlace 6)=true:=by kernel_rfl
theorem heapMulti_k11:(Rows.heapMultiRow.unfollowed == Tryz.prog.unfollowed 6)=true:=by kernel_rfl
theorem heapMulti_k12:(Rows.heapMultiRow.recurses == Tryz.prog.recurses 6)=true:=by kernel_rfl
theorem heapMulti_k13:(Rows.heapMultiRow.named == Tryz.prog.varsNamed 6)=true:=by kernel_rfl
theorem heapMulti_closed:joinedFacts Tryz.prog 6 Tryz.f6 Rows.heapMultiSpec Rows.heapMultiRow=true:=by
  unfold joinedFacts
  refine heapMulti_and (heapMulti_and (heapMulti_and (heapMulti_and (heapMulti_and (heapMulti_and (heapMulti_and (heapMulti_and (heapMulti_and (heapMulti_and (heapMulti_and (heapMulti_and (heapMulti_and (heapMulti_and (heapMulti_and (heapMulti_and (heapMulti_and (heapMulti_and (heapMulti_and (heapMulti_and (heapMulti_and (heapMulti_and (heapMulti_and (heapMulti_and (heapMulti_and (heapMulti_and (heapMulti_and (heapMulti_and (heapMulti_and (heapMulti_and (heapMulti_and ?_ heapMulti_laidOut) heapMulti_k2) ?_) ?_) ?_) ?_) ?_) ?_) heapMulti_k10) heapMulti_k11) heapMulti_k12) heapMulti_k13) ?_) ?_) ?_) ?_) ?_) ?_) ?_) ?_) ?_) ?_) ?_) ?_) ?_) ?_) ?_) ?_) ?_) ?_) ?_
  all_goals kernel_rfl
theorem heapMulti_over:Rows.heapMultiRow.holds Tryz.pinned (OpenSpec.ofChange Rows.heapMultiSpec) :=
  OpenClaim.holds_of_wide 6 Tryz.f6 rfl rfl rfl rfl rfl rfl rfl ⟨rfl,rfl,rfl,rfl,rfl⟩ rfl rfl rfl rfl rfl (by kernel_rfl) Tryz.func6 heapMulti_closed
    (of_decide_eq_true (by kernel_rfl)) (by unfold Func.isWrapper;first|(rw [if_pos (by decide +kernel)];kernel_rfl)|(rw [if_neg (by decide +kernel)];exact ⟨rfl,rfl⟩))
    (fun os started H enc _=>heapMulti_lifted os started H enc)
theorem heapMulti_holds:Rows.HeapMultiSaid :=
  heapMulti_over
#print axioms heapMulti_holds
end Go.Proofs.YtfnmmpkhopochaaGreat
