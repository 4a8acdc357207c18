/- HeapHolds: For every list of classes, every type, every three ints and every value, the Go function arbiterlaw20.HeapHolds returns true: what was stored in an array is there, nothing else of it or of another array has changed, and a store that is refused changes nothing. -/
import Derived.Test.YtfnmmpkhopochaaGreatRows
import Derived.Test.YtfnmmpkhopochaaGreatHpY
import Derived.Lib.SmallJoins
import Derived.WalkKit
import Derived.ProofKit
import Derived.OpenShut
import Derived.Carry
set_option maxRecDepth 100000
namespace Go.Proofs.YtfnmmpkhopochaaGreat
open Go.ChangeShapes Go.WideShapes Go.ChangeAt Go.RowKit Go.Joins
theorem heapHolds_own:ownKnob Tryz.prog.godebug=none:=by kernel_rfl
theorem heapHolds_laidOut:laidOutB Tryz.prog=true:=by kernel_rfl
theorem heapHolds_cT:Tryz.prog.cellsOf 40=2:=by kernel_rfl
theorem heapHolds_cV:Tryz.prog.cellsOf 38=2:=by kernel_rfl
theorem heapHolds_clss {H:Type} {enc:TypeId×Value→H} {W:World} {v0:Value} {d:DataW H} {p:List MemPlace} (hv:v0.cells.toList=[v0]) (h:DataW.Trod enc Tryz.prog W 0 (fun _=>true) true 22 v0 d p):∃ l:List Cls,IsClss W v0 l:=by
  obtain ⟨fuel,hf⟩:=h
  obtain ⟨v,l,e,r⟩:=read_clss hf
  rw [hv] at e
  simp at e
  subst e
  exact ⟨l,r⟩
set_option linter.unusedVariables false in
theorem heapHolds_lifted (os:Os) (started:os.Started) (H:Type) (enc:TypeId×Value→H) :
    ReturnsInHanded {} Tryz.checked os 4 .any (Rows.heapHoldsSpec.pre6 enc Tryz.prog Tryz.f4 Rows.heapHoldsRow.domain false) (Rows.heapHoldsSpec.post enc Tryz.prog Tryz.f4 false true false false):=by
  refine returnsInHanded_of_change (C:=Tryz.checked) heapHolds_own started (by kernel_rfl) Tryz.func4
    (ChangeSpec.witness6 (enc:=enc) (C:=Tryz.checked) false ⟨#[],#[.slice none 0 0,.agg #[.int .i64 0,.string ByteArray.empty],.int .i64 0,.int .i64 0,.int .i64 0,.agg #[.bool false,.int .i64 0]],[]⟩ 8 (by kernel_rfl) (by kernel_rfl) (by kernel_rfl) (by kernel_rfl)) ?_
  intro W base args ds gs before hval0 hW hcnd _
  have hval:∀ (j:Nat) t v,Tryz.f4.params[j]?=some t→args[j]?=some v→Value.okWide Tryz.prog W .any base t v:=hval0
  have hW':=hW
  obtain ⟨p,q,hA0,hV,rfl,hfz,hnd⟩:=hW
  have hA:DataW.TrodAll enc Tryz.prog W 0 (fun _=>true) true Tryz.f4.params.toList args.toList ds p:=hA0
  rw [Tryz.params4] at hA hval
  obtain ⟨v0,vs0,d0,ds0,p0,q0,hargs,rfl,rfl,h0,r0⟩:=trodAll_cons hA
  obtain ⟨v1,vs1,d1,ds1,p1,q1,rfl,rfl,rfl,h1,r1⟩:=trodAll_cons r0
  obtain ⟨v2,vs2,d2,ds2,p2,q2,rfl,rfl,rfl,h2,r2⟩:=trodAll_cons r1
  obtain ⟨v3,vs3,d3,ds3,p3,q3,rfl,rfl,rfl,h3,r3⟩:=trodAll_cons r2
  obtain ⟨v4,vs4,d4,ds4,p4,q4,rfl,rfl,rfl,h4,r4⟩:=trodAll_cons r3
  obtain ⟨v5,vs5,d5,ds5,p5,q5,rfl,rfl,rfl,h5,r5⟩:=trodAll_cons r4
  obtain ⟨rfl,rfl,rfl⟩:=trodAll_nil r5
  obtain rfl:args=#[v0,v1,v2,v3,v4,v5]:=by rw [← Array.toList_inj];exact hargs
  obtain ⟨rfl,rfl⟩:=trodVars_none hV
  have k0:=h0
  have lt0:∀ x∈p0,x.block<W.heap.size:=by obtain ⟨m,hm⟩:=k0;exact DataW.trod_lt m _ _ _ hm
  have hs0:=hval 0 22 v0 rfl rfl
  have k1:=h1
  have lt1:∀ x∈p1,x.block<W.heap.size:=by obtain ⟨m,hm⟩:=k1;exact DataW.trod_lt m _ _ _ hm
  have hs1:=hval 1 40 v1 rfl rfl
  have k2:=h2
  have lt2:∀ x∈p2,x.block<W.heap.size:=by obtain ⟨m,hm⟩:=k2;exact DataW.trod_lt m _ _ _ hm
  have hs2:=hval 2 3 v2 rfl rfl
  have k3:=h3
  have lt3:∀ x∈p3,x.block<W.heap.size:=by obtain ⟨m,hm⟩:=k3;exact DataW.trod_lt m _ _ _ hm
  have hs3:=hval 3 3 v3 rfl rfl
  have k4:=h4
  have lt4:∀ x∈p4,x.block<W.heap.size:=by obtain ⟨m,hm⟩:=k4;exact DataW.trod_lt m _ _ _ hm
  have hs4:=hval 4 3 v4 rfl rfl
  have k5:=h5
  have lt5:∀ x∈p5,x.block<W.heap.size:=by obtain ⟨m,hm⟩:=k5;exact DataW.trod_lt m _ _ _ hm
  have hs5:=hval 5 38 v5 rfl rfl
  obtain ⟨l0,hl0⟩:=heapHolds_clss (by obtain ⟨ao,n1,n2,rfl⟩:=okWide_slice Tryz.underlying22 hs0;rfl) h0
  obtain ⟨a1,b1,y1,z1,m1,rfl,rfl,rfl,hy1,hz1⟩:=open_agg2 Tryz.underlying40 (by kernel_rfl) heapHolds_cT hs1 h1
  obtain ⟨i1,e1,rfl,wi1⟩:=DataW.trod_int Tryz.underlying3 hy1
  obtain ⟨s1,f1,rfl,w1⟩:=DataW.trod_string Tryz.underlying9 hz1
  simp at e1 f1
  subst e1 f1
  obtain ⟨n2,rfl⟩:=okWide_int Tryz.underlying3 hs2
  obtain ⟨n3,rfl⟩:=okWide_int Tryz.underlying3 hs3
  obtain ⟨n4,rfl⟩:=okWide_int Tryz.underlying3 hs4
  obtain ⟨a5,b5,y5,z5,m5,rfl,rfl,rfl,hy5,hz5⟩:=open_agg2 Tryz.underlying38 (by kernel_rfl) heapHolds_cV hs5 h5
  obtain ⟨i5,e5,rfl⟩:=DataW.trod_bool Tryz.underlying4 hy5
  obtain ⟨s5,f5,rfl,w5⟩:=DataW.trod_int Tryz.underlying3 hz5
  simp at e5 f5
  subst e5 f5
  clear hA0 hval0
  simp only [List.append_nil] at hW'
  refine (HeapHolds_any v0 l0 i1 s1 n2 n3 n4 i5 s5 W hl0 w1).mono fun e W' ⟨he,bel⟩=>?_
  subst he
  have tr:=(trodAll_cons_mk (Below.trod heapHolds_laidOut (by kernel_rfl) (of_decide_eq_true (by kernel_rfl)) k0 bel lt0) ((trodAll_cons_mk (Below.trod heapHolds_laidOut (by kernel_rfl) (of_decide_eq_true (by kernel_rfl)) k1 bel lt1) ((trodAll_cons_mk (Below.trod heapHolds_laidOut (by kernel_rfl) (of_decide_eq_true (by kernel_rfl)) k2 bel lt2) ((trodAll_cons_mk (Below.trod heapHolds_laidOut (by kernel_rfl) (of_decide_eq_true (by kernel_rfl)) k3 bel lt3) ((trodAll_cons_mk (Below.trod heapHolds_laidOut (by kernel_rfl) (of_decide_eq_true (by kernel_rfl)) k4 bel lt4) (trodAll_mk1 (Below.trod heapHolds_laidOut (by kernel_rfl) (of_decide_eq_true (by kernel_rfl)) k5 bel lt5)))))))))))
  try simp only [List.append_nil] at tr
  exact ⟨_,rfl,_,_,_,[],_,[],hW',trodAll_mk1 (shut_bool Tryz.underlying4 _),tr,rfl,bel.frame _,fun h=>by cases h⟩
theorem heapHolds_and {a b:Bool} (h1:a=true) (h2:b=true):(a&&b)=true:=by rw [h1,h2];rfl
theorem heapHolds_k2:mapsRowed Tryz.prog=true:=by kernel_rfl
theorem heapHolds_k10:(Rows.heapHoldsRow.inPlace == Tryz.prog.inPlace 4)=true:=by kernel_rfl
theorem heapHolds_k11:(Rows.heapHoldsRow.unfollowed == Tryz.prog.unfollowed 4)=true:=by kernel_rfl
theorem heapHolds_k12:(Rows.heapHoldsRow.recurses == Tryz.prog.recurses 4)=true:=by kernel_rfl
theorem heapHolds_k13:(Rows.heapHoldsRow.named == Tryz.prog.varsNamed 4)=true:=by kernel_rfl
theorem heapHolds_closed:joinedFacts Tryz.prog 4 Tryz.f4 Rows.heapHoldsSpec Rows.heapHoldsRow=true:=by
  unfold joinedFacts
  refine heapHolds_and (heapHolds_and (heapHolds_and (heapHolds_and (heapHolds_and (heapHolds_and (heapHolds_and (heapHolds_and (heapHolds_and (heapHolds_and (heapHolds_and (heapHolds_and (heapHolds_and (heapHolds_and (heapHolds_and (heapHolds_and (heapHolds_and (heapHolds_and (heapHolds_and (heapHolds_and (heapHolds_and (heapHolds_and (heapHolds_and (heapHolds_and (heapHolds_and (heapHolds_and (heapHolds_and (heapHolds_and (heapHolds_and (heapHolds_and (heapHolds_and ?_ heapHolds_laidOut) heapHolds_k2) ?_) ?_) ?_) ?_) ?_) ?_) heapHolds_k10) heapHolds_k11) heapHolds_k12) heapHolds_k13) ?_) ?_) ?_) ?_) ?_) ?_) ?_) ?_) ?_) ?_) ?_) ?_) ?_) ?_) ?_) ?_) ?_) ?_) ?_
  all_goals kernel_rfl
theorem heapHolds_over:Rows.heapHoldsRow.holds Tryz.pinned (OpenSpec.ofChange Rows.heapHoldsSpec) :=
  OpenClaim.holds_of_wide 4 Tryz.f4 rfl rfl rfl rfl rfl rfl rfl ⟨rfl,rfl,rfl,rfl,rfl⟩ rfl rfl rfl rfl rfl (by kernel_rfl) Tryz.func4 heapHolds_closed
    (of_decide_eq_true (by kernel_rfl)) (by unfold Func.isWrapper;first|(rw [if_pos (by decide +kernel)];kernel_rfl)|(rw [if_neg (by decide +kernel)];exact ⟨rfl,rfl⟩))
    (fun os started H enc _=>heapHolds_lifted os started H enc)
theorem heapHolds_holds:Rows.HeapHoldsSaid :=
  heapHolds_over
#print axioms heapHolds_holds
end Go.Proofs.YtfnmmpkhopochaaGreat
