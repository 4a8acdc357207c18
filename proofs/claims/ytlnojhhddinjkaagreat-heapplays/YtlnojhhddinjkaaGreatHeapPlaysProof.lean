/- HeapPlays: a heap asked by a script answers as the document says, object by object and element by element, for every list of classes and every script. -/
import Derived.Test.YtlnojhhddinjkaaGreatRows
import Derived.Test.YtlnojhhddinjkaaGreatHtB
import Derived.Lib.SmallJoins
import Derived.WalkKit
import Derived.ProofKit
import Derived.OpenShut
import Derived.Carry
set_option maxRecDepth 100000
namespace Go.Proofs.YtlnojhhddinjkaaGreat
open Go.ChangeShapes Go.WideShapes Go.ChangeAt Go.RowKit Go.Joins
theorem heapPlays_own:ownKnob Tryz.prog.godebug=none:=by kernel_rfl
theorem heapPlays_laidOut:laidOutB Tryz.prog=true:=by kernel_rfl
theorem heapPlays_clss {H:Type} {enc:TypeId×Value→H} {W:World} {v0:Value} {d:DataW H} {p:List MemPlace} (hv:v0.cells.toList=[v0]) (h:DataW.Trod enc Tryz.prog W 0 (fun _=>true) true 22 v0 d p):∃ l:List Cls,J3 W v0 l:=by
 obtain ⟨fuel,hf⟩:=h
 obtain ⟨v,l,e,r⟩:=Zju hf
 rw [hv] at e
 simp at e
 subst e
 exact ⟨l,r⟩
theorem heapPlays_lstH {H:Type} {enc:TypeId×Value→H} {W:World} {v0:Value} {d:DataW H} {p:List MemPlace} (hv:v0.cells.toList=[v0]) (h:DataW.Trod enc Tryz.prog W 0 (fun _=>true) true 23 v0 d p):∃ l:List OpH,Zhw W v0 l:=by
 obtain ⟨fuel,hf⟩:=h
 obtain ⟨v,l,e,r⟩:=Zjp hf
 rw [hv] at e
 simp at e
 subst e
 exact ⟨l,r⟩
set_option linter.unusedVariables false in
theorem heapPlays_lifted (os:Os) (started:os.Started) (H:Type) (enc:TypeId×Value→H) :
 ReturnsInHanded {} Tryz.checked os 3 .any (Rows.heapPlaysSpec.pre6 enc Tryz.prog Tryz.f3 Rows.heapPlaysRow.domain false) (Rows.heapPlaysSpec.post enc Tryz.prog Tryz.f3 false true false false):=by
 refine returnsInHanded_of_change_sized (C:=Tryz.checked) heapPlays_own started (by kernel_rfl) Tryz.func3
  (ChangeSpec.witness6 (enc:=enc) (C:=Tryz.checked) false ⟨#[],#[.slice none 0 0,.slice none 0 0],[]⟩ 8 (by kernel_rfl) (by kernel_rfl) (by kernel_rfl) (by kernel_rfl)) ?_
 intro W base args ds gs before hval0 hW hcnd hsz0 _
 have hsz:(DataW.weightsEach Tryz.prog (Tryz.f3.params.toList++Rows.heapPlaysSpec.plain.varTypes Tryz.prog) (ds++gs)).all (· ≤ reachBytes)=true:=hsz0
 clear hsz0
 have hval:∀ (j:Nat) t v,Tryz.f3.params[j]?=some t→args[j]?=some v→Value.okWide Tryz.prog W .any base t v:=hval0
 have hW':=hW
 obtain ⟨p,q,hA0,hV,rfl,hfz,hnd⟩:=hW
 have hA:DataW.TrodAll enc Tryz.prog W 0 (fun _=>true) true Tryz.f3.params.toList args.toList ds p:=hA0
 rw [Tryz.params3] at hA hval hsz
 obtain ⟨v0,vs0,d0,ds0,p0,q0,hargs,rfl,rfl,h0,r0⟩:=trodAll_cons hA
 obtain ⟨v1,vs1,d1,ds1,p1,q1,rfl,rfl,rfl,h1,r1⟩:=trodAll_cons r0
 obtain ⟨rfl,rfl,rfl⟩:=trodAll_nil r1
 obtain rfl:args=#[v0,v1]:=by rw [← Array.toList_inj];exact hargs
 obtain ⟨rfl,rfl⟩:=trodVars_none hV
 have k0:=h0
 have lt0:∀ x∈p0,x.block<W.heap.size:=by obtain ⟨m,hm⟩:=k0;exact DataW.trod_lt m _ _ _ hm
 have hs0:=hval 0 22 v0 rfl rfl
 have k1:=h1
 have lt1:∀ x∈p1,x.block<W.heap.size:=by obtain ⟨m,hm⟩:=k1;exact DataW.trod_lt m _ _ _ hm
 have hs1:=hval 1 23 v1 rfl rfl
 obtain ⟨l0,hl0⟩:=heapPlays_clss (by obtain ⟨ao,n1,n2,rfl⟩:=okWide_slice Tryz.underlying22 hs0;rfl) h0
 obtain ⟨l1,hl1⟩:=heapPlays_lstH (by obtain ⟨ao,n1,n2,rfl⟩:=okWide_slice Tryz.underlying23 hs1;rfl) h1
 have hz1:Zgl W v1 l1:=by
  obtain ⟨fuel,hf⟩:=h1
  have e0:v1.cells.toList=[v1]:=by obtain ⟨ao,n1,n2,rfl⟩:=okWide_slice Tryz.underlying23 hs1;rfl
  rw [e0] at hf
  exact opsH_z hf (fun x hx=>of_decide_eq_true (List.all_eq_true.1 hsz x (Zi2 (j:=1) (t:=23) (d:=d1) rfl rfl x hx))) hl1
 clear hA0 hval0
 simp only [List.append_nil] at hW'
 refine (Zdt v0 l0 v1 l1 W hl0 hz1).mono fun e W' ⟨he,bel⟩=>?_
 subst he
 have tr:=(trodAll_cons_mk (Below.trod heapPlays_laidOut (by kernel_rfl) (of_decide_eq_true (by kernel_rfl)) k0 bel lt0) (trodAll_mk1 (Below.trod heapPlays_laidOut (by kernel_rfl) (of_decide_eq_true (by kernel_rfl)) k1 bel lt1)))
 try simp only [List.append_nil] at tr
 exact ⟨_,rfl,_,_,_,[],_,[],hW',trodAll_mk1 (shut_bool Tryz.underlying4 _),tr,rfl,bel.frame _,fun h=>by cases h⟩
theorem heapPlays_and {a b:Bool} (h1:a=true) (h2:b=true):(a&&b)=true:=by rw [h1,h2];rfl
theorem heapPlays_k2:mapsRowed Tryz.prog=true:=by kernel_rfl
theorem heapPlays_k10:(Rows.heapPlaysRow.inPlace == Tryz.prog.inPlace 3)=true:=by kernel_rfl
theorem heapPlays_k11:(Rows.heapPlaysRow.unfollowed == Tryz.prog.unfollowed 3)=true:=by kernel_rfl
theorem heapPlays_k12:(Rows.heapPlaysRow.recurses == Tryz.prog.recurses 3)=true:=by kernel_rfl
theorem heapPlays_k13:(Rows.heapPlaysRow.named == Tryz.prog.varsNamed 3)=true:=by kernel_rfl
theorem heapPlays_closed:joinedFacts Tryz.prog 3 Tryz.f3 Rows.heapPlaysSpec Rows.heapPlaysRow=true:=by
 unfold joinedFacts
 refine heapPlays_and (heapPlays_and (heapPlays_and (heapPlays_and (heapPlays_and (heapPlays_and (heapPlays_and (heapPlays_and (heapPlays_and (heapPlays_and (heapPlays_and (heapPlays_and (heapPlays_and (heapPlays_and (heapPlays_and (heapPlays_and (heapPlays_and (heapPlays_and (heapPlays_and (heapPlays_and (heapPlays_and (heapPlays_and (heapPlays_and (heapPlays_and (heapPlays_and (heapPlays_and (heapPlays_and (heapPlays_and (heapPlays_and (heapPlays_and (heapPlays_and ?_ heapPlays_laidOut) heapPlays_k2) ?_) ?_) ?_) ?_) ?_) ?_) heapPlays_k10) heapPlays_k11) heapPlays_k12) heapPlays_k13) ?_) ?_) ?_) ?_) ?_) ?_) ?_) ?_) ?_) ?_) ?_) ?_) ?_) ?_) ?_) ?_) ?_) ?_) ?_
 all_goals kernel_rfl
theorem heapPlays_over:Rows.heapPlaysRow.holds Tryz.pinned (OpenSpec.ofChange Rows.heapPlaysSpec) :=
 OpenClaim.holds_of_wide 3 Tryz.f3 rfl rfl rfl rfl rfl rfl rfl ⟨rfl,rfl,rfl,rfl,rfl⟩ rfl rfl rfl rfl rfl (by kernel_rfl) Tryz.func3 heapPlays_closed
  (of_decide_eq_true (by kernel_rfl)) (by unfold Func.isWrapper;first|(rw [if_pos (by decide +kernel)];kernel_rfl)|(rw [if_neg (by decide +kernel)];exact ⟨rfl,rfl⟩))
  (fun os started H enc _=>heapPlays_lifted os started H enc)
theorem heapPlays_holds:Rows.HeapPlaysSaid :=
 heapPlays_over
#print axioms heapPlays_holds
end Go.Proofs.YtlnojhhddinjkaaGreat
