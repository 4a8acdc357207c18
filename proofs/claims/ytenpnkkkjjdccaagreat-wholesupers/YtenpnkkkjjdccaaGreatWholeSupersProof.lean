/- WholeSupers: where a class with the flag Super names two of its superclasses, invokespecial at a site by the one and by the other selects the same; every call ends and returns true -/
import Derived.Test.YtenpnkkkjjdccaaGreatRows
import Derived.Test.YtenpnkkkjjdccaaGreatSiV
import Derived.Test.YtenpnkkkjjdccaaGreatHkH
import Derived.Lib.SmallJoins
import Derived.WalkKit
import Derived.ProofKit
import Derived.OpenShut
import Derived.Carry
import Derived.Conc.LeavingOf
import Derived.Leaving
import Derived.Conc.HoldsTime
set_option maxRecDepth 100000
namespace Go.Proofs.YtenpnkkkjjdccaaGreat
open Go.ChangeShapes Go.WideShapes Go.ChangeAt Go.RowKit Go.Joins
theorem wholeSupers_own:ownKnob Tryz.prog.godebug=none:=by kernel_rfl
theorem wholeSupers_laidOut:laidOutB Tryz.prog=true:=by kernel_rfl
theorem wholeSupers_clss {H:Type} {enc:TypeId×Value→H} {W:World} {v0:Value} {d:DataW H} {p:List MemPlace} (hv:v0.cells.toList=[v0]) (h:DataW.Trod enc Tryz.prog W 0 (fun _=>true) true 22 v0 d p):∃ l:List Cls,IsClss W v0 l:=by
  obtain ⟨fuel,hf⟩:=h
  obtain ⟨v,l,e,r⟩:=read_clss hf
  rw [hv] at e
  simp at e
  subst e
  exact ⟨l,r⟩
set_option linter.unusedVariables false in
theorem wholeSupers_lifted (os:Os) (started:os.Started) (H:Type) (enc:TypeId×Value→H) :
    ReturnsInHanded Rows.wholeSupersRow.assume Tryz.checked os 3 .any (Rows.wholeSupersSpec.pre6 enc Tryz.prog Tryz.f3 Rows.wholeSupersRow.domain false) (Rows.wholeSupersSpec.post enc Tryz.prog Tryz.f3 false true false false):=by
  refine returnsInHanded_of_change_sized (C:=Tryz.checked) wholeSupers_own started (by kernel_rfl) Tryz.func3
    (ChangeSpec.witness6c (enc:=enc) (C:=Tryz.checked) ⟨#[],#[.slice none 0 0,.int .i64 0,.int .i64 0,.int .i64 0,.string ByteArray.empty,.string ByteArray.empty],[]⟩ 8 (by kernel_rfl) (by kernel_rfl) (by kernel_rfl) (by kernel_rfl)) ?_
  intro W base args ds gs before hval0 hW hcnd hsz0 _
  have hsz:(DataW.weightsEach Tryz.prog (Tryz.f3.params.toList++Rows.wholeSupersSpec.plain.varTypes Tryz.prog) (ds++gs)).all (· ≤ reachBytes)=true:=hsz0
  clear hsz0
  have hval:∀ (j:Nat) t v,Tryz.f3.params[j]?=some t→args[j]?=some v→Value.okWide Tryz.prog W .any base t v:=hval0
  have hW':=hW
  obtain ⟨p,q,hA0,hV,rfl,hfz,hnd⟩:=hW
  have hA:DataW.TrodAll enc Tryz.prog W 0 (fun _=>true) true Tryz.f3.params.toList args.toList ds p:=hA0
  rw [Tryz.params3] at hA hval hsz
  obtain ⟨v0,vs0,d0,ds0,p0,q0,hargs,rfl,rfl,h0,r0⟩:=trodAll_cons hA
  obtain ⟨v1,vs1,d1,ds1,p1,q1,rfl,rfl,rfl,h1,r1⟩:=trodAll_cons r0
  obtain ⟨v2,vs2,d2,ds2,p2,q2,rfl,rfl,rfl,h2,r2⟩:=trodAll_cons r1
  obtain ⟨v3,vs3,d3,ds3,p3,q3,rfl,rfl,rfl,h3,r3⟩:=trodAll_cons r2
  obtain ⟨v4,vs4,d4,ds4,p4,q4,rfl,rfl,rfl,h4,r4⟩:=trodAll_cons r3
  obtain ⟨v5,vs5,d5,ds5,p5,q5,rfl,rfl,rfl,h5,r5⟩:=trodAll_cons r4
  obtain ⟨rfl,rfl,rfl⟩:=trodAll_nil r5
  obtain rfl:args=#[v0,v1,v2,v3,v4,v5]:=by rw [← Array.toList_inj];exact hargs
  obtain ⟨rfl,rfl⟩:=trodVars_none hV
  have k0:=h0
  have lt0:∀ x∈p0,x.block<W.heap.size:=by obtain ⟨m,hm⟩:=k0;exact DataW.trod_lt m _ _ _ hm
  have hs0:=hval 0 22 v0 rfl rfl
  have k1:=h1
  have lt1:∀ x∈p1,x.block<W.heap.size:=by obtain ⟨m,hm⟩:=k1;exact DataW.trod_lt m _ _ _ hm
  have hs1:=hval 1 3 v1 rfl rfl
  have k2:=h2
  have lt2:∀ x∈p2,x.block<W.heap.size:=by obtain ⟨m,hm⟩:=k2;exact DataW.trod_lt m _ _ _ hm
  have hs2:=hval 2 3 v2 rfl rfl
  have k3:=h3
  have lt3:∀ x∈p3,x.block<W.heap.size:=by obtain ⟨m,hm⟩:=k3;exact DataW.trod_lt m _ _ _ hm
  have hs3:=hval 3 3 v3 rfl rfl
  have k4:=h4
  have lt4:∀ x∈p4,x.block<W.heap.size:=by obtain ⟨m,hm⟩:=k4;exact DataW.trod_lt m _ _ _ hm
  have hs4:=hval 4 9 v4 rfl rfl
  have k5:=h5
  have lt5:∀ x∈p5,x.block<W.heap.size:=by obtain ⟨m,hm⟩:=k5;exact DataW.trod_lt m _ _ _ hm
  have hs5:=hval 5 9 v5 rfl rfl
  obtain ⟨l0,hl0⟩:=wholeSupers_clss (by obtain ⟨ao,n1,n2,rfl⟩:=okWide_slice Tryz.underlying22 hs0;rfl) h0
  have hz0:∀ c∈l0,ClsZ c:=by
    obtain ⟨fuel,hf⟩:=h0
    have e0:v0.cells.toList=[v0]:=by obtain ⟨ao,n1,n2,rfl⟩:=okWide_slice Tryz.underlying22 hs0;rfl
    rw [e0] at hf
    exact clss_z hf (fun x hx=>of_decide_eq_true (List.all_eq_true.1 hsz x (wtEach (j:=0) (t:=22) (d:=d0) rfl rfl x hx))) hl0
  obtain ⟨n1,rfl⟩:=okWide_int Tryz.underlying3 hs1
  obtain ⟨n2,rfl⟩:=okWide_int Tryz.underlying3 hs2
  obtain ⟨n3,rfl⟩:=okWide_int Tryz.underlying3 hs3
  obtain ⟨s4,rfl⟩:=okWide_string Tryz.underlying9 hs4
  obtain ⟨u4,e4,_,w4⟩:=DataW.trod_string Tryz.underlying9 h4.choose_spec
  obtain rfl:s4=u4:=by simpa [Value.cells] using e4
  obtain ⟨s5,rfl⟩:=okWide_string Tryz.underlying9 hs5
  obtain ⟨u5,e5,_,w5⟩:=DataW.trod_string Tryz.underlying9 h5.choose_spec
  obtain rfl:s5=u5:=by simpa [Value.cells] using e5
  clear hA0 hval0
  simp only [List.append_nil] at hW'
  refine (WholeSupers_any v0 l0 n1 n2 n3 s4 s5 W hl0 hz0 w4 w5).mono fun e W' ⟨he,bel⟩=>?_
  subst he
  have tr:=(trodAll_cons_mk (Below.trod wholeSupers_laidOut (by kernel_rfl) (of_decide_eq_true (by kernel_rfl)) k0 bel lt0) ((trodAll_cons_mk (Below.trod wholeSupers_laidOut (by kernel_rfl) (of_decide_eq_true (by kernel_rfl)) k1 bel lt1) ((trodAll_cons_mk (Below.trod wholeSupers_laidOut (by kernel_rfl) (of_decide_eq_true (by kernel_rfl)) k2 bel lt2) ((trodAll_cons_mk (Below.trod wholeSupers_laidOut (by kernel_rfl) (of_decide_eq_true (by kernel_rfl)) k3 bel lt3) ((trodAll_cons_mk (Below.trod wholeSupers_laidOut (by kernel_rfl) (of_decide_eq_true (by kernel_rfl)) k4 bel lt4) (trodAll_mk1 (Below.trod wholeSupers_laidOut (by kernel_rfl) (of_decide_eq_true (by kernel_rfl)) k5 bel lt5)))))))))))
  try simp only [List.append_nil] at tr
  exact ⟨_,rfl,_,_,_,[],_,[],hW',trodAll_mk1 (shut_bool Tryz.underlying4 _),tr,rfl,bel.frame _,fun h=>by cases h⟩
theorem wholeSupers_time {H:Type} {enc:TypeId×Value→H} {a:Assume} {C:Checked} {os:Os} {f:FuncId} {r:Reach} {Pre:World→Array Value→Prop} {fn:Func} {s:ChangeSpec} {F:Stop.Interp} {apart fresh handsOn:Bool} (h:ReturnsInHanded a C os f r Pre (s.post enc C.prog fn apart fresh handsOn false)):ReturnsInLeavingWide a C os f r Pre ((OpenSpec.ofChange s).postWith enc C.prog fn F (outsideKept [.timePasses]) apart fresh handsOn):=fun enter=>by
  obtain ⟨g0,g1,g2,g3,all⟩:=h enter
  refine ⟨g0,g1,g2,g3,fun w tape i hf=>?_⟩
  obtain ⟨n,v,w',r1,r2,r3,r4,⟨j,last,k1,k2,k3⟩,r6⟩:=all w tape i hf
  refine ⟨n,v,w',r1,r2,r3,?_,⟨j,last,k1,k2,k3.2.1,onlyLeaving_of_quiet k3.1,k3.2.2⟩,r6⟩
  have hos:w'.blind.os=(Machine.entering C.prog w tape f i).world.blind.os:=by
    obtain ⟨_,_,_,_,_,_,_,_,_,_,h5,_⟩:=r4
    exact h5.1
  refine postWith_of_post (W':=w'.blind) ?_ (by rw [hos];exact Go.ConcM.OsLater.refl _)
  rw [← hos]
  exact r4
theorem wholeSupers_and {a b:Bool} (h1:a=true) (h2:b=true):(a&&b)=true:=by rw [h1,h2];rfl
theorem wholeSupers_k2:mapsRowed Tryz.prog=true:=by kernel_rfl
theorem wholeSupers_k10:(Rows.wholeSupersRow.inPlace == Tryz.prog.inPlace 3)=true:=by kernel_rfl
theorem wholeSupers_k11:(Rows.wholeSupersRow.unfollowed == Tryz.prog.unfollowed 3)=true:=by kernel_rfl
theorem wholeSupers_k12:(Rows.wholeSupersRow.recurses == Tryz.prog.recurses 3)=true:=by kernel_rfl
theorem wholeSupers_k13:(Rows.wholeSupersRow.named == Tryz.prog.varsNamed 3)=true:=by kernel_rfl
theorem wholeSupers_closed:joinedFacts Tryz.prog 3 Tryz.f3 Rows.wholeSupersSpec Rows.wholeSupersRow=true:=by
  unfold joinedFacts
  refine wholeSupers_and (wholeSupers_and (wholeSupers_and (wholeSupers_and (wholeSupers_and (wholeSupers_and (wholeSupers_and (wholeSupers_and (wholeSupers_and (wholeSupers_and (wholeSupers_and (wholeSupers_and (wholeSupers_and (wholeSupers_and (wholeSupers_and (wholeSupers_and (wholeSupers_and (wholeSupers_and (wholeSupers_and (wholeSupers_and (wholeSupers_and (wholeSupers_and (wholeSupers_and (wholeSupers_and (wholeSupers_and (wholeSupers_and (wholeSupers_and (wholeSupers_and (wholeSupers_and (wholeSupers_and (wholeSupers_and ?_ wholeSupers_laidOut) wholeSupers_k2) ?_) ?_) ?_) ?_) ?_) ?_) wholeSupers_k10) wholeSupers_k11) wholeSupers_k12) wholeSupers_k13) ?_) ?_) ?_) ?_) ?_) ?_) ?_) ?_) ?_) ?_) ?_) ?_) ?_) ?_) ?_) ?_) ?_) ?_) ?_
  all_goals kernel_rfl
theorem wholeSupers_over:Rows.wholeSupersRow.holds Tryz.pinned (OpenSpec.ofChange Rows.wholeSupersSpec) :=
  OpenClaim.holds_of_wide_leaving_time 3 Tryz.f3 rfl rfl rfl rfl rfl rfl rfl ⟨rfl,rfl,rfl,rfl,rfl⟩ rfl rfl rfl rfl rfl (by kernel_rfl) Tryz.func3 wholeSupers_closed
    (of_decide_eq_true (by kernel_rfl)) (by unfold Func.isWrapper;first|(rw [if_pos (by decide +kernel)];kernel_rfl)|(rw [if_neg (by decide +kernel)];exact ⟨rfl,rfl⟩))
    (fun os started H enc _ F=>wholeSupers_time (F:=F) (wholeSupers_lifted os started H enc))
theorem wholeSupers_holds:Rows.WholeSupersSaid :=
  wholeSupers_over
#print axioms wholeSupers_holds
end Go.Proofs.YtenpnkkkjjdccaaGreat
