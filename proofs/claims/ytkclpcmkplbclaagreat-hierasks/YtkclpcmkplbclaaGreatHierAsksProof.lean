/- HierAsks: Every answer and error of what asks about one or two numbers is the one the document gives. -/
import Derived.Test.YtkclpcmkplbclaaGreatRows
import Derived.Test.YtkclpcmkplbclaaGreatHkG
import Derived.Test.YtkclpcmkplbclaaGreatHkH
import Derived.Lib.SmallJoins
import Derived.WalkKit
import Derived.ProofKit
import Derived.OpenShut
import Derived.Carry
set_option maxRecDepth 100000
namespace Go.Proofs.YtkclpcmkplbclaaGreat
open Go.ChangeShapes Go.WideShapes Go.ChangeAt Go.RowKit Go.Joins
theorem hierAsks_own:ownKnob Tryz.prog.godebug=none:=by kernel_rfl
theorem hierAsks_laidOut:laidOutB Tryz.prog=true:=by kernel_rfl
theorem hierAsks_clss {H:Type} {enc:TypeId×Value→H} {W:World} {v0:Value} {d:DataW H} {p:List MemPlace} (hv:v0.cells.toList=[v0]) (h:DataW.Trod enc Tryz.prog W 0 (fun _=>true) true 22 v0 d p):∃ l:List Cls,IsClss W v0 l:=by
  obtain ⟨fuel,hf⟩:=h
  obtain ⟨v,l,e,r⟩:=read_clss hf
  rw [hv] at e
  simp at e
  subst e
  exact ⟨l,r⟩
set_option linter.unusedVariables false in
theorem hierAsks_lifted (os:Os) (started:os.Started) (H:Type) (enc:TypeId×Value→H) :
    ReturnsInHanded {} Tryz.checked os 10 .any (Rows.hierAsksSpec.pre6 enc Tryz.prog Tryz.f10 Rows.hierAsksRow.domain false) (Rows.hierAsksSpec.post enc Tryz.prog Tryz.f10 false true false false):=by
  refine returnsInHanded_of_change_sized (C:=Tryz.checked) hierAsks_own started (by kernel_rfl) Tryz.func10
    (ChangeSpec.witness6 (enc:=enc) (C:=Tryz.checked) false ⟨#[],#[.slice none 0 0,.int .i64 0,.int .i64 0,.string ByteArray.empty,.string ByteArray.empty],[]⟩ 8 (by kernel_rfl) (by kernel_rfl) (by kernel_rfl) (by kernel_rfl)) ?_
  intro W base args ds gs before hval0 hW hcnd hsz0 _
  have hsz:(DataW.weightsEach Tryz.prog (Tryz.f10.params.toList++Rows.hierAsksSpec.plain.varTypes Tryz.prog) (ds++gs)).all (· ≤ reachBytes)=true:=hsz0
  clear hsz0
  have hval:∀ (j:Nat) t v,Tryz.f10.params[j]?=some t→args[j]?=some v→Value.okWide Tryz.prog W .any base t v:=hval0
  have hW':=hW
  obtain ⟨p,q,hA0,hV,rfl,hfz,hnd⟩:=hW
  have hA:DataW.TrodAll enc Tryz.prog W 0 (fun _=>true) true Tryz.f10.params.toList args.toList ds p:=hA0
  rw [Tryz.params10] at hA hval hsz
  obtain ⟨v0,vs0,d0,ds0,p0,q0,hargs,rfl,rfl,h0,r0⟩:=trodAll_cons hA
  obtain ⟨v1,vs1,d1,ds1,p1,q1,rfl,rfl,rfl,h1,r1⟩:=trodAll_cons r0
  obtain ⟨v2,vs2,d2,ds2,p2,q2,rfl,rfl,rfl,h2,r2⟩:=trodAll_cons r1
  obtain ⟨v3,vs3,d3,ds3,p3,q3,rfl,rfl,rfl,h3,r3⟩:=trodAll_cons r2
  obtain ⟨v4,vs4,d4,ds4,p4,q4,rfl,rfl,rfl,h4,r4⟩:=trodAll_cons r3
  obtain ⟨rfl,rfl,rfl⟩:=trodAll_nil r4
  obtain rfl:args=#[v0,v1,v2,v3,v4]:=by rw [← Array.toList_inj];exact hargs
  obtain ⟨rfl,rfl⟩:=trodVars_none hV
  have k0:=h0
  have lt0:∀ x∈p0,x.block<W.heap.size:=by obtain ⟨m,hm⟩:=k0;exact DataW.trod_lt m _ _ _ hm
  have hs0:=hval 0 22 v0 rfl rfl
  have k1:=h1
  have lt1:∀ x∈p1,x.block<W.heap.size:=by obtain ⟨m,hm⟩:=k1;exact DataW.trod_lt m _ _ _ hm
  have hs1:=hval 1 3 v1 rfl rfl
  have k2:=h2
  have lt2:∀ x∈p2,x.block<W.heap.size:=by obtain ⟨m,hm⟩:=k2;exact DataW.trod_lt m _ _ _ hm
  have hs2:=hval 2 3 v2 rfl rfl
  have k3:=h3
  have lt3:∀ x∈p3,x.block<W.heap.size:=by obtain ⟨m,hm⟩:=k3;exact DataW.trod_lt m _ _ _ hm
  have hs3:=hval 3 9 v3 rfl rfl
  have k4:=h4
  have lt4:∀ x∈p4,x.block<W.heap.size:=by obtain ⟨m,hm⟩:=k4;exact DataW.trod_lt m _ _ _ hm
  have hs4:=hval 4 9 v4 rfl rfl
  obtain ⟨l0,hl0⟩:=hierAsks_clss (by obtain ⟨ao,n1,n2,rfl⟩:=okWide_slice Tryz.underlying22 hs0;rfl) h0
  have hz0:∀ c∈l0,ClsZ c:=by
    obtain ⟨fuel,hf⟩:=h0
    have e0:v0.cells.toList=[v0]:=by obtain ⟨ao,n1,n2,rfl⟩:=okWide_slice Tryz.underlying22 hs0;rfl
    rw [e0] at hf
    exact clss_z hf (fun x hx=>of_decide_eq_true (List.all_eq_true.1 hsz x (wtEach (j:=0) (t:=22) (d:=d0) rfl rfl x hx))) hl0
  obtain ⟨n1,rfl⟩:=okWide_int Tryz.underlying3 hs1
  obtain ⟨n2,rfl⟩:=okWide_int Tryz.underlying3 hs2
  obtain ⟨s3,rfl⟩:=okWide_string Tryz.underlying9 hs3
  obtain ⟨u3,e3,_,w3⟩:=DataW.trod_string Tryz.underlying9 h3.choose_spec
  obtain rfl:s3=u3:=by simpa [Value.cells] using e3
  obtain ⟨s4,rfl⟩:=okWide_string Tryz.underlying9 hs4
  obtain ⟨u4,e4,_,w4⟩:=DataW.trod_string Tryz.underlying9 h4.choose_spec
  obtain rfl:s4=u4:=by simpa [Value.cells] using e4
  clear hA0 hval0
  simp only [List.append_nil] at hW'
  refine (HierAsks_any v0 l0 n1 n2 s3 s4 W hl0 hz0 w3).mono fun e W' ⟨he,bel⟩=>?_
  subst he
  have tr:=(trodAll_cons_mk (Below.trod hierAsks_laidOut (by kernel_rfl) (of_decide_eq_true (by kernel_rfl)) k0 bel lt0) ((trodAll_cons_mk (Below.trod hierAsks_laidOut (by kernel_rfl) (of_decide_eq_true (by kernel_rfl)) k1 bel lt1) ((trodAll_cons_mk (Below.trod hierAsks_laidOut (by kernel_rfl) (of_decide_eq_true (by kernel_rfl)) k2 bel lt2) ((trodAll_cons_mk (Below.trod hierAsks_laidOut (by kernel_rfl) (of_decide_eq_true (by kernel_rfl)) k3 bel lt3) (trodAll_mk1 (Below.trod hierAsks_laidOut (by kernel_rfl) (of_decide_eq_true (by kernel_rfl)) k4 bel lt4)))))))))
  try simp only [List.append_nil] at tr
  exact ⟨_,rfl,_,_,_,[],_,[],hW',trodAll_mk1 (shut_bool Tryz.underlying4 _),tr,rfl,bel.frame _,fun h=>by cases h⟩
theorem hierAsks_and {a b:Bool} (h1:a=true) (h2:b=true):(a&&b)=true:=by rw [h1,h2];rfl
theorem hierAsks_k2:mapsRowed Tryz.prog=true:=by kernel_rfl
theorem hierAsks_k10:(Rows.hierAsksRow.inPlace == Tryz.prog.inPlace 10)=true:=by kernel_rfl
theorem hierAsks_k11:(Rows.hierAsksRow.unfollowed == Tryz.prog.unfollowed 10)=true:=by kernel_rfl
theorem hierAsks_k12:(Rows.hierAsksRow.recurses == Tryz.prog.recurses 10)=true:=by kernel_rfl
theorem hierAsks_k13:(Rows.hierAsksRow.named == Tryz.prog.varsNamed 10)=true:=by kernel_rfl
theorem hierAsks_closed:joinedFacts Tryz.prog 10 Tryz.f10 Rows.hierAsksSpec Rows.hierAsksRow=true:=by
  unfold joinedFacts
  refine hierAsks_and (hierAsks_and (hierAsks_and (hierAsks_and (hierAsks_and (hierAsks_and (hierAsks_and (hierAsks_and (hierAsks_and (hierAsks_and (hierAsks_and (hierAsks_and (hierAsks_and (hierAsks_and (hierAsks_and (hierAsks_and (hierAsks_and (hierAsks_and (hierAsks_and (hierAsks_and (hierAsks_and (hierAsks_and (hierAsks_and (hierAsks_and (hierAsks_and (hierAsks_and (hierAsks_and (hierAsks_and (hierAsks_and (hierAsks_and (hierAsks_and ?_ hierAsks_laidOut) hierAsks_k2) ?_) ?_) ?_) ?_) ?_) ?_) hierAsks_k10) hierAsks_k11) hierAsks_k12) hierAsks_k13) ?_) ?_) ?_) ?_) ?_) ?_) ?_) ?_) ?_) ?_) ?_) ?_) ?_) ?_) ?_) ?_) ?_) ?_) ?_
  all_goals kernel_rfl
theorem hierAsks_over:Rows.hierAsksRow.holds Tryz.pinned (OpenSpec.ofChange Rows.hierAsksSpec) :=
  OpenClaim.holds_of_wide 10 Tryz.f10 rfl rfl rfl rfl rfl rfl rfl ⟨rfl,rfl,rfl,rfl,rfl⟩ rfl rfl rfl rfl rfl (by kernel_rfl) Tryz.func10 hierAsks_closed
    (of_decide_eq_true (by kernel_rfl)) (by unfold Func.isWrapper;first|(rw [if_pos (by decide +kernel)];kernel_rfl)|(rw [if_neg (by decide +kernel)];exact ⟨rfl,rfl⟩))
    (fun os started H enc _=>hierAsks_lifted os started H enc)
theorem hierAsks_holds:Rows.HierAsksSaid :=
  hierAsks_over
#print axioms hierAsks_holds
end Go.Proofs.YtkclpcmkplbclaaGreat
