/- OverrideGrows: of every list of classes, every class that arrives later and every two methods: what arrives later turns no answer of Overrides between methods that are there, and All keeps what it had and has at most one method more, of the new class. -/
import Derived.Test.YtjlfnelihbdhjaaGreatRows
import Derived.Test.YtjlfnelihbdhjaaGreatLpC
import Derived.Lib.SmallJoins
import Derived.WalkKit
import Derived.ProofKit
import Derived.OpenShut
import Derived.Carry
set_option maxRecDepth 100000
namespace Go.Proofs.YtjlfnelihbdhjaaGreat
open Go.ChangeShapes Go.WideShapes Go.ChangeAt Go.RowKit Go.Joins
theorem overrideGrows_own:ownKnob Tryz.prog.godebug=none:=by kernel_rfl
theorem overrideGrows_laidOut:laidOutB Tryz.prog=true:=by kernel_rfl
theorem overrideGrows_cM:Tryz.prog.cellsOf 24=2:=by kernel_rfl
theorem overrideGrows_clss {H:Type} {enc:TypeId×Value→H} {W:World} {v0:Value} {d:DataW H} {p:List MemPlace} (hv:v0.cells.toList=[v0]) (h:DataW.Trod enc Tryz.prog W 0 (fun _=>true) true 22 v0 d p):∃ l:List Cls,IsClss W v0 l:=by
  obtain ⟨fuel,hf⟩:=h
  obtain ⟨v,l,e,r⟩:=read_clss hf
  rw [hv] at e
  simp at e
  subst e
  exact ⟨l,r⟩
set_option linter.unusedVariables false in
theorem overrideGrows_lifted (os:Os) (started:os.Started) (H:Type) (enc:TypeId×Value→H) :
    ReturnsInHanded {} Tryz.checked os 5 .any (Rows.overrideGrowsSpec.pre6 enc Tryz.prog Tryz.f5 Rows.overrideGrowsRow.domain false) (Rows.overrideGrowsSpec.post enc Tryz.prog Tryz.f5 false true false false):=by
  refine returnsInHanded_of_change (C:=Tryz.checked) overrideGrows_own started (by kernel_rfl) Tryz.func5
    (ChangeSpec.witness6 (enc:=enc) (C:=Tryz.checked) false ⟨#[],#[.slice none 0 0,.agg #[.string ByteArray.empty,.string ByteArray.empty,.slice none 0 0,.int .i64 0,.int .i64 0,.slice none 0 0],.agg #[.int .i64 0,.int .i64 0],.agg #[.int .i64 0,.int .i64 0]],[]⟩ 8 (by kernel_rfl) (by kernel_rfl) (by kernel_rfl) (by kernel_rfl)) ?_
  intro W base args ds gs before hval0 hW hcnd _
  have hval:∀ (j:Nat) t v,Tryz.f5.params[j]?=some t→args[j]?=some v→Value.okWide Tryz.prog W .any base t v:=hval0
  have hW':=hW
  obtain ⟨p,q,hA0,hV,rfl,hfz,hnd⟩:=hW
  have hA:DataW.TrodAll enc Tryz.prog W 0 (fun _=>true) true Tryz.f5.params.toList args.toList ds p:=hA0
  rw [Tryz.params5] at hA hval
  obtain ⟨v0,vs0,d0,ds0,p0,q0,hargs,rfl,rfl,h0,r0⟩:=trodAll_cons hA
  obtain ⟨v1,vs1,d1,ds1,p1,q1,rfl,rfl,rfl,h1,r1⟩:=trodAll_cons r0
  obtain ⟨v2,vs2,d2,ds2,p2,q2,rfl,rfl,rfl,h2,r2⟩:=trodAll_cons r1
  obtain ⟨v3,vs3,d3,ds3,p3,q3,rfl,rfl,rfl,h3,r3⟩:=trodAll_cons r2
  obtain ⟨rfl,rfl,rfl⟩:=trodAll_nil r3
  obtain rfl:args=#[v0,v1,v2,v3]:=by rw [← Array.toList_inj];exact hargs
  obtain ⟨rfl,rfl⟩:=trodVars_none hV
  have k0:=h0
  have lt0:∀ x∈p0,x.block<W.heap.size:=by obtain ⟨m,hm⟩:=k0;exact DataW.trod_lt m _ _ _ hm
  have hs0:=hval 0 22 v0 rfl rfl
  have k1:=h1
  have lt1:∀ x∈p1,x.block<W.heap.size:=by obtain ⟨m,hm⟩:=k1;exact DataW.trod_lt m _ _ _ hm
  have hs1:=hval 1 48 v1 rfl rfl
  have k2:=h2
  have lt2:∀ x∈p2,x.block<W.heap.size:=by obtain ⟨m,hm⟩:=k2;exact DataW.trod_lt m _ _ _ hm
  have hs2:=hval 2 24 v2 rfl rfl
  have k3:=h3
  have lt3:∀ x∈p3,x.block<W.heap.size:=by obtain ⟨m,hm⟩:=k3;exact DataW.trod_lt m _ _ _ hm
  have hs3:=hval 3 24 v3 rfl rfl
  obtain ⟨l0,hl0⟩:=overrideGrows_clss (by obtain ⟨ao,n1,n2,rfl⟩:=okWide_slice Tryz.underlying22 hs0;rfl) h0
  obtain ⟨kc1,ki1,km1,rfl,kh1⟩:=arg_cls hs1 h1
  obtain ⟨a2,b2,y2,z2,m2,rfl,rfl,rfl,hy2,hz2⟩:=open_agg2 Tryz.underlying24 (by kernel_rfl) overrideGrows_cM hs2 h2
  obtain ⟨i2,e2,rfl,wi2⟩:=DataW.trod_int Tryz.underlying3 hy2
  obtain ⟨s2,f2,rfl,w2⟩:=DataW.trod_int Tryz.underlying3 hz2
  simp at e2 f2
  subst e2 f2
  obtain ⟨a3,b3,y3,z3,m3,rfl,rfl,rfl,hy3,hz3⟩:=open_agg2 Tryz.underlying24 (by kernel_rfl) overrideGrows_cM hs3 h3
  obtain ⟨i3,e3,rfl,wi3⟩:=DataW.trod_int Tryz.underlying3 hy3
  obtain ⟨s3,f3,rfl,w3⟩:=DataW.trod_int Tryz.underlying3 hz3
  simp at e3 f3
  subst e3 f3
  clear hA0 hval0
  simp only [List.append_nil] at hW'
  refine (OverrideGrows_any v0 l0 kc1 ki1 km1 i2 s2 i3 s3 W hl0 kh1).mono fun e W' ⟨he,bel⟩=>?_
  subst he
  have tr:=(trodAll_cons_mk (Below.trod overrideGrows_laidOut (by kernel_rfl) (of_decide_eq_true (by kernel_rfl)) k0 bel lt0) ((trodAll_cons_mk (Below.trod overrideGrows_laidOut (by kernel_rfl) (of_decide_eq_true (by kernel_rfl)) k1 bel lt1) ((trodAll_cons_mk (Below.trod overrideGrows_laidOut (by kernel_rfl) (of_decide_eq_true (by kernel_rfl)) k2 bel lt2) (trodAll_mk1 (Below.trod overrideGrows_laidOut (by kernel_rfl) (of_decide_eq_true (by kernel_rfl)) k3 bel lt3)))))))
  try simp only [List.append_nil] at tr
  exact ⟨_,rfl,_,_,_,[],_,[],hW',trodAll_mk1 (shut_bool Tryz.underlying4 _),tr,rfl,bel.frame _,fun h=>by cases h⟩
theorem overrideGrows_and {a b:Bool} (h1:a=true) (h2:b=true):(a&&b)=true:=by rw [h1,h2];rfl
theorem overrideGrows_k2:mapsRowed Tryz.prog=true:=by kernel_rfl
theorem overrideGrows_k10:(Rows.overrideGrowsRow.inPlace == Tryz.prog.inPlace 5)=true:=by kernel_rfl
theorem overrideGrows_k11:(Rows.overrideGrowsRow.unfollowed == Tryz.prog.unfollowed 5)=true:=by kernel_rfl
theorem overrideGrows_k12:(Rows.overrideGrowsRow.recurses == Tryz.prog.recurses 5)=true:=by kernel_rfl
theorem overrideGrows_k13:(Rows.overrideGrowsRow.named == Tryz.prog.varsNamed 5)=true:=by kernel_rfl
theorem overrideGrows_closed:joinedFacts Tryz.prog 5 Tryz.f5 Rows.overrideGrowsSpec Rows.overrideGrowsRow=true:=by
  unfold joinedFacts
  refine overrideGrows_and (overrideGrows_and (overrideGrows_and (overrideGrows_and (overrideGrows_and (overrideGrows_and (overrideGrows_and (overrideGrows_and (overrideGrows_and (overrideGrows_and (overrideGrows_and (overrideGrows_and (overrideGrows_and (overrideGrows_and (overrideGrows_and (overrideGrows_and (overrideGrows_and (overrideGrows_and (overrideGrows_and (overrideGrows_and (overrideGrows_and (overrideGrows_and (overrideGrows_and (overrideGrows_and (overrideGrows_and (overrideGrows_and (overrideGrows_and (overrideGrows_and (overrideGrows_and (overrideGrows_and (overrideGrows_and ?_ overrideGrows_laidOut) overrideGrows_k2) ?_) ?_) ?_) ?_) ?_) ?_) overrideGrows_k10) overrideGrows_k11) overrideGrows_k12) overrideGrows_k13) ?_) ?_) ?_) ?_) ?_) ?_) ?_) ?_) ?_) ?_) ?_) ?_) ?_) ?_) ?_) ?_) ?_) ?_) ?_
  all_goals kernel_rfl
theorem overrideGrows_over:Rows.overrideGrowsRow.holds Tryz.pinned (OpenSpec.ofChange Rows.overrideGrowsSpec) :=
  OpenClaim.holds_of_wide 5 Tryz.f5 rfl rfl rfl rfl rfl rfl rfl ⟨rfl,rfl,rfl,rfl,rfl⟩ rfl rfl rfl rfl rfl (by kernel_rfl) Tryz.func5 overrideGrows_closed
    (of_decide_eq_true (by kernel_rfl)) (by unfold Func.isWrapper;first|(rw [if_pos (by decide +kernel)];kernel_rfl)|(rw [if_neg (by decide +kernel)];exact ⟨rfl,rfl⟩))
    (fun os started H enc _=>overrideGrows_lifted os started H enc)
theorem overrideGrows_holds:Rows.OverrideGrowsSaid :=
  overrideGrows_over
#print axioms overrideGrows_holds
end Go.Proofs.YtjlfnelihbdhjaaGreat
