/- ArraysKeeps: what arrays answers is new memory each time, and a nil world is turned away, of every list and type -/
import Derived.Test.YtkclpcmkplbclaaGreatRows
import Derived.Test.YtkclpcmkplbclaaGreatApG
import Derived.Lib.SmallJoins
import Derived.WalkKit
import Derived.ProofKit
import Derived.OpenShut
import Derived.Carry
set_option maxRecDepth 100000
namespace Go.Proofs.YtkclpcmkplbclaaGreat
open Go.ChangeShapes Go.WideShapes Go.ChangeAt Go.RowKit Go.Joins
theorem arraysKeeps_own:ownKnob Tryz.prog.godebug=none:=by kernel_rfl
theorem arraysKeeps_laidOut:laidOutB Tryz.prog=true:=by kernel_rfl
theorem arraysKeeps_cT:Tryz.prog.cellsOf 24=2:=by kernel_rfl
theorem arraysKeeps_clss {H:Type} {enc:TypeId×Value→H} {W:World} {v0:Value} {d:DataW H} {p:List MemPlace} (hv:v0.cells.toList=[v0]) (h:DataW.Trod enc Tryz.prog W 0 (fun _=>true) true 22 v0 d p):∃ l:List Cls,IsClss W v0 l:=by
  obtain ⟨fuel,hf⟩:=h
  obtain ⟨v,l,e,r⟩:=read_clss hf
  rw [hv] at e
  simp at e
  subst e
  exact ⟨l,r⟩
set_option linter.unusedVariables false in
theorem arraysKeeps_lifted (os:Os) (started:os.Started) (H:Type) (enc:TypeId×Value→H) :
    ReturnsInHanded {} Tryz.checked os 14 .any (Rows.arraysKeepsSpec.pre6 enc Tryz.prog Tryz.f14 Rows.arraysKeepsRow.domain false) (Rows.arraysKeepsSpec.post enc Tryz.prog Tryz.f14 false true false false):=by
  refine returnsInHanded_of_change (C:=Tryz.checked) arraysKeeps_own started (by kernel_rfl) Tryz.func14
    (ChangeSpec.witness6 (enc:=enc) (C:=Tryz.checked) false ⟨#[],#[.slice none 0 0,.agg #[.int .i64 0,.string ByteArray.empty]],[]⟩ 8 (by kernel_rfl) (by kernel_rfl) (by kernel_rfl) (by kernel_rfl)) ?_
  intro W base args ds gs before hval0 hW hcnd _
  have hval:∀ (j:Nat) t v,Tryz.f14.params[j]?=some t→args[j]?=some v→Value.okWide Tryz.prog W .any base t v:=hval0
  have hW':=hW
  obtain ⟨p,q,hA0,hV,rfl,hfz,hnd⟩:=hW
  have hA:DataW.TrodAll enc Tryz.prog W 0 (fun _=>true) true Tryz.f14.params.toList args.toList ds p:=hA0
  rw [Tryz.params14] at hA hval
  obtain ⟨v0,vs0,d0,ds0,p0,q0,hargs,rfl,rfl,h0,r0⟩:=trodAll_cons hA
  obtain ⟨v1,vs1,d1,ds1,p1,q1,rfl,rfl,rfl,h1,r1⟩:=trodAll_cons r0
  obtain ⟨rfl,rfl,rfl⟩:=trodAll_nil r1
  obtain rfl:args=#[v0,v1]:=by rw [← Array.toList_inj];exact hargs
  obtain ⟨rfl,rfl⟩:=trodVars_none hV
  have k0:=h0
  have lt0:∀ x∈p0,x.block<W.heap.size:=by obtain ⟨m,hm⟩:=k0;exact DataW.trod_lt m _ _ _ hm
  have hs0:=hval 0 22 v0 rfl rfl
  have k1:=h1
  have lt1:∀ x∈p1,x.block<W.heap.size:=by obtain ⟨m,hm⟩:=k1;exact DataW.trod_lt m _ _ _ hm
  have hs1:=hval 1 24 v1 rfl rfl
  obtain ⟨l0,hl0⟩:=arraysKeeps_clss (by obtain ⟨ao,n1,n2,rfl⟩:=okWide_slice Tryz.underlying22 hs0;rfl) h0
  obtain ⟨a1,b1,y1,z1,m1,rfl,rfl,rfl,hy1,hz1⟩:=open_agg2 Tryz.underlying24 (by kernel_rfl) arraysKeeps_cT hs1 h1
  obtain ⟨i1,e1,rfl,wi1⟩:=DataW.trod_int Tryz.underlying3 hy1
  obtain ⟨s1,f1,rfl,w1⟩:=DataW.trod_string Tryz.underlying9 hz1
  simp at e1 f1
  subst e1 f1
  clear hA0 hval0
  simp only [List.append_nil] at hW'
  refine (ArraysKeeps_any v0 l0 i1 s1 W hl0 w1).mono fun e W' ⟨he,bel⟩=>?_
  subst he
  have tr:=(trodAll_cons_mk (Below.trod arraysKeeps_laidOut (by kernel_rfl) (of_decide_eq_true (by kernel_rfl)) k0 bel lt0) (trodAll_mk1 (Below.trod arraysKeeps_laidOut (by kernel_rfl) (of_decide_eq_true (by kernel_rfl)) k1 bel lt1)))
  try simp only [List.append_nil] at tr
  exact ⟨_,rfl,_,_,_,[],_,[],hW',trodAll_mk1 (shut_bool Tryz.underlying4 _),tr,rfl,bel.frame _,fun h=>by cases h⟩
theorem arraysKeeps_and {a b:Bool} (h1:a=true) (h2:b=true):(a&&b)=true:=by rw [h1,h2];rfl
theorem arraysKeeps_k2:mapsRowed Tryz.prog=true:=by kernel_rfl
theorem arraysKeeps_k10:(Rows.arraysKeepsRow.inPlace == Tryz.prog.inPlace 14)=true:=by kernel_rfl
theorem arraysKeeps_k11:(Rows.arraysKeepsRow.unfollowed == Tryz.prog.unfollowed 14)=true:=by kernel_rfl
theorem arraysKeeps_k12:(Rows.arraysKeepsRow.recurses == Tryz.prog.recurses 14)=true:=by kernel_rfl
theorem arraysKeeps_k13:(Rows.arraysKeepsRow.named == Tryz.prog.varsNamed 14)=true:=by kernel_rfl
theorem arraysKeeps_closed:joinedFacts Tryz.prog 14 Tryz.f14 Rows.arraysKeepsSpec Rows.arraysKeepsRow=true:=by
  unfold joinedFacts
  refine arraysKeeps_and (arraysKeeps_and (arraysKeeps_and (arraysKeeps_and (arraysKeeps_and (arraysKeeps_and (arraysKeeps_and (arraysKeeps_and (arraysKeeps_and (arraysKeeps_and (arraysKeeps_and (arraysKeeps_and (arraysKeeps_and (arraysKeeps_and (arraysKeeps_and (arraysKeeps_and (arraysKeeps_and (arraysKeeps_and (arraysKeeps_and (arraysKeeps_and (arraysKeeps_and (arraysKeeps_and (arraysKeeps_and (arraysKeeps_and (arraysKeeps_and (arraysKeeps_and (arraysKeeps_and (arraysKeeps_and (arraysKeeps_and (arraysKeeps_and (arraysKeeps_and ?_ arraysKeeps_laidOut) arraysKeeps_k2) ?_) ?_) ?_) ?_) ?_) ?_) arraysKeeps_k10) arraysKeeps_k11) arraysKeeps_k12) arraysKeeps_k13) ?_) ?_) ?_) ?_) ?_) ?_) ?_) ?_) ?_) ?_) ?_) ?_) ?_) ?_) ?_) ?_) ?_) ?_) ?_
  all_goals kernel_rfl
theorem arraysKeeps_over:Rows.arraysKeepsRow.holds Tryz.pinned (OpenSpec.ofChange Rows.arraysKeepsSpec) :=
  OpenClaim.holds_of_wide 14 Tryz.f14 rfl rfl rfl rfl rfl rfl rfl ⟨rfl,rfl,rfl,rfl,rfl⟩ rfl rfl rfl rfl rfl (by kernel_rfl) Tryz.func14 arraysKeeps_closed
    (of_decide_eq_true (by kernel_rfl)) (by unfold Func.isWrapper;first|(rw [if_pos (by decide +kernel)];kernel_rfl)|(rw [if_neg (by decide +kernel)];exact ⟨rfl,rfl⟩))
    (fun os started H enc _=>arraysKeeps_lifted os started H enc)
theorem arraysKeeps_holds:Rows.ArraysKeepsSaid :=
  arraysKeeps_over
#print axioms arraysKeeps_holds
end Go.Proofs.YtkclpcmkplbclaaGreat
