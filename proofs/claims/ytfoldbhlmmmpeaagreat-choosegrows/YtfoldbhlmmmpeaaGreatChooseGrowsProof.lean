/- ChooseGrows: whatever classes are taken in, whatever class arrives then, and whatever call is asked about: a call of package choose whose answer is not ErrRange and not NoClassDef has the same answer (method and error) behind the class that arrives (P12.4): the law returns true. Conditions: none beyond the form of the arguments. -/
import Derived.Test.YtfoldbhlmmmpeaaGreatRows
import Derived.Test.YtfoldbhlmmmpeaaGreatLcG
import Derived.Lib.SmallJoins
import Derived.WalkKit
import Derived.ProofKit
import Derived.OpenShut
import Derived.Carry
set_option maxRecDepth 100000
namespace Go.Proofs.YtfoldbhlmmmpeaaGreat
open Go.ChangeShapes Go.WideShapes Go.ChangeAt Go.RowKit Go.Joins
theorem chooseGrows_own:ownKnob Tryz.prog.godebug=none:=by kernel_rfl
theorem chooseGrows_laidOut:laidOutB Tryz.prog=true:=by kernel_rfl
theorem chooseGrows_cR:Tryz.prog.cellsOf 53=4:=by kernel_rfl
theorem chooseGrows_cT:Tryz.prog.cellsOf 58=2:=by kernel_rfl
theorem chooseGrows_clss {H:Type} {enc:TypeId×Value→H} {W:World} {v0:Value} {d:DataW H} {p:List MemPlace} (hv:v0.cells.toList=[v0]) (h:DataW.Trod enc Tryz.prog W 0 (fun _=>true) true 22 v0 d p):∃ l:List Cls,IsClss W v0 l:=by
  obtain ⟨fuel,hf⟩:=h
  obtain ⟨v,l,e,r⟩:=read_clss hf
  rw [hv] at e
  simp at e
  subst e
  exact ⟨l,r⟩
set_option linter.unusedVariables false in
theorem chooseGrows_lifted (os:Os) (started:os.Started) (H:Type) (enc:TypeId×Value→H) :
    ReturnsInHanded {} Tryz.checked os 11 .any (Rows.chooseGrowsSpec.pre6 enc Tryz.prog Tryz.f11 Rows.chooseGrowsRow.domain false) (Rows.chooseGrowsSpec.post enc Tryz.prog Tryz.f11 false true false false):=by
  refine returnsInHanded_of_change (C:=Tryz.checked) chooseGrows_own started (by kernel_rfl) Tryz.func11
    (ChangeSpec.witness6 (enc:=enc) (C:=Tryz.checked) false ⟨#[],#[.slice none 0 0,.agg #[.string ByteArray.empty,.string ByteArray.empty,.slice none 0 0,.int .i64 0,.int .i64 0,.slice none 0 0],.int .i64 0,.int .i64 0,.agg #[.bool false,.string ByteArray.empty,.string ByteArray.empty,.string ByteArray.empty],.agg #[.int .i64 0,.string ByteArray.empty]],[]⟩ 8 (by kernel_rfl) (by kernel_rfl) (by kernel_rfl) (by kernel_rfl)) ?_
  intro W base args ds gs before hval0 hW hcnd _
  have hval:∀ (j:Nat) t v,Tryz.f11.params[j]?=some t→args[j]?=some v→Value.okWide Tryz.prog W .any base t v:=hval0
  have hW':=hW
  obtain ⟨p,q,hA0,hV,rfl,hfz,hnd⟩:=hW
  have hA:DataW.TrodAll enc Tryz.prog W 0 (fun _=>true) true Tryz.f11.params.toList args.toList ds p:=hA0
  rw [Tryz.params11] at hA hval
  obtain ⟨v0,vs0,d0,ds0,p0,q0,hargs,rfl,rfl,h0,r0⟩:=trodAll_cons hA
  obtain ⟨v1,vs1,d1,ds1,p1,q1,rfl,rfl,rfl,h1,r1⟩:=trodAll_cons r0
  obtain ⟨v2,vs2,d2,ds2,p2,q2,rfl,rfl,rfl,h2,r2⟩:=trodAll_cons r1
  obtain ⟨v3,vs3,d3,ds3,p3,q3,rfl,rfl,rfl,h3,r3⟩:=trodAll_cons r2
  obtain ⟨v4,vs4,d4,ds4,p4,q4,rfl,rfl,rfl,h4,r4⟩:=trodAll_cons r3
  obtain ⟨v5,vs5,d5,ds5,p5,q5,rfl,rfl,rfl,h5,r5⟩:=trodAll_cons r4
  obtain ⟨rfl,rfl,rfl⟩:=trodAll_nil r5
  obtain rfl:args=#[v0,v1,v2,v3,v4,v5]:=by rw [← Array.toList_inj];exact hargs
  obtain ⟨rfl,rfl⟩:=trodVars_none hV
  have k0:=h0
  have lt0:∀ x∈p0,x.block<W.heap.size:=by obtain ⟨m,hm⟩:=k0;exact DataW.trod_lt m _ _ _ hm
  have hs0:=hval 0 22 v0 rfl rfl
  have k1:=h1
  have lt1:∀ x∈p1,x.block<W.heap.size:=by obtain ⟨m,hm⟩:=k1;exact DataW.trod_lt m _ _ _ hm
  have hs1:=hval 1 74 v1 rfl rfl
  have k2:=h2
  have lt2:∀ x∈p2,x.block<W.heap.size:=by obtain ⟨m,hm⟩:=k2;exact DataW.trod_lt m _ _ _ hm
  have hs2:=hval 2 3 v2 rfl rfl
  have k3:=h3
  have lt3:∀ x∈p3,x.block<W.heap.size:=by obtain ⟨m,hm⟩:=k3;exact DataW.trod_lt m _ _ _ hm
  have hs3:=hval 3 3 v3 rfl rfl
  have k4:=h4
  have lt4:∀ x∈p4,x.block<W.heap.size:=by obtain ⟨m,hm⟩:=k4;exact DataW.trod_lt m _ _ _ hm
  have hs4:=hval 4 53 v4 rfl rfl
  have k5:=h5
  have lt5:∀ x∈p5,x.block<W.heap.size:=by obtain ⟨m,hm⟩:=k5;exact DataW.trod_lt m _ _ _ hm
  have hs5:=hval 5 58 v5 rfl rfl
  obtain ⟨l0,hl0⟩:=chooseGrows_clss (by obtain ⟨ao,n1,n2,rfl⟩:=okWide_slice Tryz.underlying22 hs0;rfl) h0
  obtain ⟨kc1,ki1,km1,rfl,kh1⟩:=arg_cls hs1 h1
  obtain ⟨n2,rfl⟩:=okWide_int Tryz.underlying3 hs2
  obtain ⟨n3,rfl⟩:=okWide_int Tryz.underlying3 hs3
  obtain ⟨a4,b4,c4,g4,y4,z4,x4,q4,m4,rfl,rfl,rfl,hy4,hz4,hx4,hq4⟩:=open_agg4 Tryz.underlying53 (by kernel_rfl) chooseGrows_cR hs4 h4
  obtain ⟨i4,e4,rfl⟩:=DataW.trod_bool Tryz.underlying4 hy4
  obtain ⟨s4,es4,rfl,ws4⟩:=DataW.trod_string Tryz.underlying9 hz4
  obtain ⟨t4,et4,rfl,wt4⟩:=DataW.trod_string Tryz.underlying9 hx4
  obtain ⟨u4,eu4,rfl,wu4⟩:=DataW.trod_string Tryz.underlying9 hq4
  simp at e4 es4 et4 eu4
  subst e4 es4 et4 eu4
  obtain ⟨a5,b5,y5,z5,m5,rfl,rfl,rfl,hy5,hz5⟩:=open_agg2 Tryz.underlying58 (by kernel_rfl) chooseGrows_cT hs5 h5
  obtain ⟨i5,e5,rfl,wi5⟩:=DataW.trod_int Tryz.underlying3 hy5
  obtain ⟨s5,f5,rfl,w5⟩:=DataW.trod_string Tryz.underlying9 hz5
  simp at e5 f5
  subst e5 f5
  clear hA0 hval0
  simp only [List.append_nil] at hW'
  refine (ChooseGrows_any v0 l0 kc1 ki1 km1 n2 n3 i4 s4 t4 u4 i5 s5 W hl0 kh1 ws4 wt4 wu4 w5).mono fun e W' ⟨he,bel⟩=>?_
  subst he
  have tr:=(trodAll_cons_mk (Below.trod chooseGrows_laidOut (by kernel_rfl) (of_decide_eq_true (by kernel_rfl)) k0 bel lt0) ((trodAll_cons_mk (Below.trod chooseGrows_laidOut (by kernel_rfl) (of_decide_eq_true (by kernel_rfl)) k1 bel lt1) ((trodAll_cons_mk (Below.trod chooseGrows_laidOut (by kernel_rfl) (of_decide_eq_true (by kernel_rfl)) k2 bel lt2) ((trodAll_cons_mk (Below.trod chooseGrows_laidOut (by kernel_rfl) (of_decide_eq_true (by kernel_rfl)) k3 bel lt3) ((trodAll_cons_mk (Below.trod chooseGrows_laidOut (by kernel_rfl) (of_decide_eq_true (by kernel_rfl)) k4 bel lt4) (trodAll_mk1 (Below.trod chooseGrows_laidOut (by kernel_rfl) (of_decide_eq_true (by kernel_rfl)) k5 bel lt5)))))))))))
  try simp only [List.append_nil] at tr
  exact ⟨_,rfl,_,_,_,[],_,[],hW',trodAll_mk1 (shut_bool Tryz.underlying4 _),tr,rfl,bel.frame _,fun h=>by cases h⟩
theorem chooseGrows_and {a b:Bool} (h1:a=true) (h2:b=true):(a&&b)=true:=by rw [h1,h2];rfl
theorem chooseGrows_k2:mapsRowed Tryz.prog=true:=by kernel_rfl
theorem chooseGrows_k10:(Rows.chooseGrowsRow.inPlace == Tryz.prog.inPlace 11)=true:=by kernel_rfl
theorem chooseGrows_k11:(Rows.chooseGrowsRow.unfollowed == Tryz.prog.unfollowed 11)=true:=by kernel_rfl
theorem chooseGrows_k12:(Rows.chooseGrowsRow.recurses == Tryz.prog.recurses 11)=true:=by kernel_rfl
theorem chooseGrows_k13:(Rows.chooseGrowsRow.named == Tryz.prog.varsNamed 11)=true:=by kernel_rfl
theorem chooseGrows_closed:joinedFacts Tryz.prog 11 Tryz.f11 Rows.chooseGrowsSpec Rows.chooseGrowsRow=true:=by
  unfold joinedFacts
  refine chooseGrows_and (chooseGrows_and (chooseGrows_and (chooseGrows_and (chooseGrows_and (chooseGrows_and (chooseGrows_and (chooseGrows_and (chooseGrows_and (chooseGrows_and (chooseGrows_and (chooseGrows_and (chooseGrows_and (chooseGrows_and (chooseGrows_and (chooseGrows_and (chooseGrows_and (chooseGrows_and (chooseGrows_and (chooseGrows_and (chooseGrows_and (chooseGrows_and (chooseGrows_and (chooseGrows_and (chooseGrows_and (chooseGrows_and (chooseGrows_and (chooseGrows_and (chooseGrows_and (chooseGrows_and (chooseGrows_and ?_ chooseGrows_laidOut) chooseGrows_k2) ?_) ?_) ?_) ?_) ?_) ?_) chooseGrows_k10) chooseGrows_k11) chooseGrows_k12) chooseGrows_k13) ?_) ?_) ?_) ?_) ?_) ?_) ?_) ?_) ?_) ?_) ?_) ?_) ?_) ?_) ?_) ?_) ?_) ?_) ?_
  all_goals kernel_rfl
theorem chooseGrows_over:Rows.chooseGrowsRow.holds Tryz.pinned (OpenSpec.ofChange Rows.chooseGrowsSpec) :=
  OpenClaim.holds_of_wide 11 Tryz.f11 rfl rfl rfl rfl rfl rfl rfl ⟨rfl,rfl,rfl,rfl,rfl⟩ rfl rfl rfl rfl rfl (by kernel_rfl) Tryz.func11 chooseGrows_closed
    (of_decide_eq_true (by kernel_rfl)) (by unfold Func.isWrapper;first|(rw [if_pos (by decide +kernel)];kernel_rfl)|(rw [if_neg (by decide +kernel)];exact ⟨rfl,rfl⟩))
    (fun os started H enc _=>chooseGrows_lifted os started H enc)
theorem chooseGrows_holds:Rows.ChooseGrowsSaid :=
  chooseGrows_over
#print axioms chooseGrows_holds
end Go.Proofs.YtfoldbhlmmmpeaaGreat
