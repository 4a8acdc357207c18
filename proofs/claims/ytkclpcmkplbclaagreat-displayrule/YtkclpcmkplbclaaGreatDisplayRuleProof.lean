/- DisplayRule: for every list of classes, two numbers and two types the test by display says what the recursive rule says, by as few looks as the document promises; every call ends and returns true -/
import Derived.Test.YtkclpcmkplbclaaGreatRows
import Derived.Test.YtkclpcmkplbclaaGreatDlB
import Derived.Lib.SmallJoins
import Derived.WalkKit
import Derived.ProofKit
import Derived.OpenShut
import Derived.Carry
set_option maxRecDepth 100000
namespace Go.Proofs.YtkclpcmkplbclaaGreat
open Go.ChangeShapes Go.WideShapes Go.ChangeAt Go.RowKit Go.Joins
theorem displayRule_own:ownKnob Tryz.prog.godebug=none:=by kernel_rfl
theorem displayRule_laidOut:laidOutB Tryz.prog=true:=by kernel_rfl
theorem displayRule_cT:Tryz.prog.cellsOf 24=2:=by kernel_rfl
theorem displayRule_clss {H:Type} {enc:TypeId×Value→H} {W:World} {v0:Value} {d:DataW H} {p:List MemPlace} (hv:v0.cells.toList=[v0]) (h:DataW.Trod enc Tryz.prog W 0 (fun _=>true) true 22 v0 d p):∃ l:List Cls,IsClss W v0 l:=by
  obtain ⟨fuel,hf⟩:=h
  obtain ⟨v,l,e,r⟩:=read_clss hf
  rw [hv] at e
  simp at e
  subst e
  exact ⟨l,r⟩
set_option linter.unusedVariables false in
theorem displayRule_lifted (os:Os) (started:os.Started) (H:Type) (enc:TypeId×Value→H) :
    ReturnsInHanded {} Tryz.checked os 3 .any (Rows.displayRuleSpec.pre6 enc Tryz.prog Tryz.f3 Rows.displayRuleRow.domain false) (Rows.displayRuleSpec.post enc Tryz.prog Tryz.f3 false true false false):=by
  refine returnsInHanded_of_change (C:=Tryz.checked) displayRule_own started (by kernel_rfl) Tryz.func3
    (ChangeSpec.witness6 (enc:=enc) (C:=Tryz.checked) false ⟨#[],#[.slice none 0 0,.int .i64 0,.int .i64 0,.agg #[.int .i64 0,.string ByteArray.empty],.agg #[.int .i64 0,.string ByteArray.empty]],[]⟩ 8 (by kernel_rfl) (by kernel_rfl) (by kernel_rfl) (by kernel_rfl)) ?_
  intro W base args ds gs before hval0 hW hcnd _
  have hval:∀ (j:Nat) t v,Tryz.f3.params[j]?=some t→args[j]?=some v→Value.okWide Tryz.prog W .any base t v:=hval0
  have hW':=hW
  obtain ⟨p,q,hA0,hV,rfl,hfz,hnd⟩:=hW
  have hA:DataW.TrodAll enc Tryz.prog W 0 (fun _=>true) true Tryz.f3.params.toList args.toList ds p:=hA0
  rw [Tryz.params3] at hA hval
  obtain ⟨v0,vs0,d0,ds0,p0,q0,hargs,rfl,rfl,h0,r0⟩:=trodAll_cons hA
  obtain ⟨v1,vs1,d1,ds1,p1,q1,rfl,rfl,rfl,h1,r1⟩:=trodAll_cons r0
  obtain ⟨v2,vs2,d2,ds2,p2,q2,rfl,rfl,rfl,h2,r2⟩:=trodAll_cons r1
  obtain ⟨v3,vs3,d3,ds3,p3,q3,rfl,rfl,rfl,h3,r3⟩:=trodAll_cons r2
  obtain ⟨v4,vs4,d4,ds4,p4,q4,rfl,rfl,rfl,h4,r4⟩:=trodAll_cons r3
  obtain ⟨rfl,rfl,rfl⟩:=trodAll_nil r4
  obtain rfl:args=#[v0,v1,v2,v3,v4]:=by rw [← Array.toList_inj];exact hargs
  obtain ⟨rfl,rfl⟩:=trodVars_none hV
  have k0:=h0
  have lt0:∀ x∈p0,x.block<W.heap.size:=by obtain ⟨m,hm⟩:=k0;exact DataW.trod_lt m _ _ _ hm
  have hs0:=hval 0 22 v0 rfl rfl
  have k1:=h1
  have lt1:∀ x∈p1,x.block<W.heap.size:=by obtain ⟨m,hm⟩:=k1;exact DataW.trod_lt m _ _ _ hm
  have hs1:=hval 1 3 v1 rfl rfl
  have k2:=h2
  have lt2:∀ x∈p2,x.block<W.heap.size:=by obtain ⟨m,hm⟩:=k2;exact DataW.trod_lt m _ _ _ hm
  have hs2:=hval 2 3 v2 rfl rfl
  have k3:=h3
  have lt3:∀ x∈p3,x.block<W.heap.size:=by obtain ⟨m,hm⟩:=k3;exact DataW.trod_lt m _ _ _ hm
  have hs3:=hval 3 24 v3 rfl rfl
  have k4:=h4
  have lt4:∀ x∈p4,x.block<W.heap.size:=by obtain ⟨m,hm⟩:=k4;exact DataW.trod_lt m _ _ _ hm
  have hs4:=hval 4 24 v4 rfl rfl
  obtain ⟨l0,hl0⟩:=displayRule_clss (by obtain ⟨ao,n1,n2,rfl⟩:=okWide_slice Tryz.underlying22 hs0;rfl) h0
  obtain ⟨n1,rfl⟩:=okWide_int Tryz.underlying3 hs1
  obtain ⟨n2,rfl⟩:=okWide_int Tryz.underlying3 hs2
  obtain ⟨a3,b3,y3,z3,m3,rfl,rfl,rfl,hy3,hz3⟩:=open_agg2 Tryz.underlying24 (by kernel_rfl) displayRule_cT hs3 h3
  obtain ⟨i3,e3,rfl,wi3⟩:=DataW.trod_int Tryz.underlying3 hy3
  obtain ⟨s3,f3,rfl,w3⟩:=DataW.trod_string Tryz.underlying9 hz3
  simp at e3 f3
  subst e3 f3
  obtain ⟨a4,b4,y4,z4,m4,rfl,rfl,rfl,hy4,hz4⟩:=open_agg2 Tryz.underlying24 (by kernel_rfl) displayRule_cT hs4 h4
  obtain ⟨i4,e4,rfl,wi4⟩:=DataW.trod_int Tryz.underlying3 hy4
  obtain ⟨s4,f4,rfl,w4⟩:=DataW.trod_string Tryz.underlying9 hz4
  simp at e4 f4
  subst e4 f4
  clear hA0 hval0
  simp only [List.append_nil] at hW'
  refine (DisplayRule_any v0 l0 n1 n2 i3 s3 i4 s4 W hl0 w3 w4).mono fun e W' ⟨he,bel⟩=>?_
  subst he
  have tr:=(trodAll_cons_mk (Below.trod displayRule_laidOut (by kernel_rfl) (of_decide_eq_true (by kernel_rfl)) k0 bel lt0) ((trodAll_cons_mk (Below.trod displayRule_laidOut (by kernel_rfl) (of_decide_eq_true (by kernel_rfl)) k1 bel lt1) ((trodAll_cons_mk (Below.trod displayRule_laidOut (by kernel_rfl) (of_decide_eq_true (by kernel_rfl)) k2 bel lt2) ((trodAll_cons_mk (Below.trod displayRule_laidOut (by kernel_rfl) (of_decide_eq_true (by kernel_rfl)) k3 bel lt3) (trodAll_mk1 (Below.trod displayRule_laidOut (by kernel_rfl) (of_decide_eq_true (by kernel_rfl)) k4 bel lt4)))))))))
  try simp only [List.append_nil] at tr
  exact ⟨_,rfl,_,_,_,[],_,[],hW',trodAll_mk1 (shut_bool Tryz.underlying4 _),tr,rfl,bel.frame _,fun h=>by cases h⟩
theorem displayRule_and {a b:Bool} (h1:a=true) (h2:b=true):(a&&b)=true:=by rw [h1,h2];rfl
theorem displayRule_k2:mapsRowed Tryz.prog=true:=by kernel_rfl
theorem displayRule_k10:(Rows.displayRuleRow.inPlace == Tryz.prog.inPlace 3)=true:=by kernel_rfl
theorem displayRule_k11:(Rows.displayRuleRow.unfollowed == Tryz.prog.unfollowed 3)=true:=by kernel_rfl
theorem displayRule_k12:(Rows.displayRuleRow.recurses == Tryz.prog.recurses 3)=true:=by kernel_rfl
theorem displayRule_k13:(Rows.displayRuleRow.named == Tryz.prog.varsNamed 3)=true:=by kernel_rfl
theorem displayRule_closed:joinedFacts Tryz.prog 3 Tryz.f3 Rows.displayRuleSpec Rows.displayRuleRow=true:=by
  unfold joinedFacts
  refine displayRule_and (displayRule_and (displayRule_and (displayRule_and (displayRule_and (displayRule_and (displayRule_and (displayRule_and (displayRule_and (displayRule_and (displayRule_and (displayRule_and (displayRule_and (displayRule_and (displayRule_and (displayRule_and (displayRule_and (displayRule_and (displayRule_and (displayRule_and (displayRule_and (displayRule_and (displayRule_and (displayRule_and (displayRule_and (displayRule_and (displayRule_and (displayRule_and (displayRule_and (displayRule_and (displayRule_and ?_ displayRule_laidOut) displayRule_k2) ?_) ?_) ?_) ?_) ?_) ?_) displayRule_k10) displayRule_k11) displayRule_k12) displayRule_k13) ?_) ?_) ?_) ?_) ?_) ?_) ?_) ?_) ?_) ?_) ?_) ?_) ?_) ?_) ?_) ?_) ?_) ?_) ?_
  all_goals kernel_rfl
theorem displayRule_over:Rows.displayRuleRow.holds Tryz.pinned (OpenSpec.ofChange Rows.displayRuleSpec) :=
  OpenClaim.holds_of_wide 3 Tryz.f3 rfl rfl rfl rfl rfl rfl rfl ⟨rfl,rfl,rfl,rfl,rfl⟩ rfl rfl rfl rfl rfl (by kernel_rfl) Tryz.func3 displayRule_closed
    (of_decide_eq_true (by kernel_rfl)) (by unfold Func.isWrapper;first|(rw [if_pos (by decide +kernel)];kernel_rfl)|(rw [if_neg (by decide +kernel)];exact ⟨rfl,rfl⟩))
    (fun os started H enc _=>displayRule_lifted os started H enc)
theorem displayRule_holds:Rows.DisplayRuleSaid :=
  displayRule_over
#print axioms displayRule_holds
end Go.Proofs.YtkclpcmkplbclaaGreat
