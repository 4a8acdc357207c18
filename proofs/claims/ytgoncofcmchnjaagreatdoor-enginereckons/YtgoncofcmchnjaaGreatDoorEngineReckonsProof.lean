/- EngineReckons: For each call (a, b int32, op int), the Go function arbiterlaw22.EngineReckons returns true: arithmetic in the machine is that of 32 bits, as the language's own int32 has it; a division by 0 throws. What the card lists is as the program's text lays it. -/
import Derived.Test.YtgoncofcmchnjaaGreatDoorTie
import Derived.Test.YtgoncofcmchnjaaGreatDoorEngineReckonsFctB
import Derived.Test.YtgoncofcmchnjaaGreatDoorEngineReckonsFctG
import Derived.Test.YtgoncofcmchnjaaGreatDoorCards
import Derived.Test.YtgoncofcmchnjaaGreatDoorEnWc
import Derived.Lib.SmallJoins
import Derived.WalkKit
import Derived.ProofKit
import Derived.OpenShut
import Derived.Carry
import Derived.Lay
import Derived.SevenTiedAt
set_option maxRecDepth 100000
namespace Go.Proofs.YtgoncofcmchnjaaGreatDoor
open Go.ChangeShapes Go.WideShapes Go.ChangeAt Go.RowKit Go.Joins
theorem engineReckons_own:ownKnob Tryz.prog.godebug=none:=by kernel_rfl
set_option linter.unusedVariables false in
theorem engineReckons_lifted (os:Os) (started:os.Started) (H:Type) (enc:TypeId×Value→H) :
    ReturnsInHanded {} Tryz.checked os 3 .any (fun w args=>(Rows.engineReckonsSpec.pre enc Tryz.prog Tryz.f3 [] false w args∧laidMetH Tryz.prog Rows.engineReckonsRow.laid w)∧sizedMet enc Tryz.prog Tryz.f3 (OpenSpec.ofChange Rows.engineReckonsSpec) false w args)
      (Rows.engineReckonsSpec.post enc Tryz.prog Tryz.f3 false true false false):=by
  refine returnsInHanded_of_change_and (C:=Tryz.checked) (X:=fun w _=>laidMetH Tryz.prog Rows.engineReckonsRow.laid w) (fun _ _ _ hh h=>h.of_heap hh) engineReckons_own started (by kernel_rfl) Tryz.func3
    (ChangeSpec.witness_shaped (enc:=enc) (C:=Tryz.checked) (os:=os) (X:=fun w _=>laidMetH Tryz.prog Rows.engineReckonsRow.laid w) false (World.laidAll Tryz.prog os Rows.engineReckonsRow.laid) #[.int .i32 0,.int .i32 0,.int .i64 0] 8 (World.laidAll_os _ _ _)
      (World.shaped_of_ZipB (by kernel_rfl) (by kernel_rfl)) (by kernel_rfl) (by kernel_rfl) (by kernel_rfl)
      (by rw [MakeChecks.laidMetH_plain _ _ _ (by kernel_rfl)];exact laidMet_laidAll _ (by kernel_rfl) (by kernel_rfl))) ?_
  intro W base args ds gs before hval0 hW _ hR hL _
  have hval:∀ (j:Nat) t v,Tryz.f3.params[j]?=some t→args[j]?=some v→Value.okWide Tryz.prog W .any base t v:=hval0
  have hW':=hW
  obtain ⟨p,q,hA0,hV,rfl,_,_⟩:=hW
  have hA:DataW.TrodAll enc Tryz.prog W 0 (fun _=>true) true Tryz.f3.params.toList args.toList ds p:=hA0
  rw [Tryz.params3] at hA hval
  obtain ⟨v0,vs0,d0,ds0,p0,q0,hargs,rfl,rfl,h0,r0⟩:=trodAll_cons hA
  obtain ⟨v1,vs1,d1,ds1,p1,q1,rfl,rfl,rfl,h1,r1⟩:=trodAll_cons r0
  obtain ⟨v2,vs2,d2,ds2,p2,q2,rfl,rfl,rfl,h2,r2⟩:=trodAll_cons r1
  obtain ⟨rfl,rfl,rfl⟩:=trodAll_nil r2
  obtain rfl:args=#[v0,v1,v2]:=by rw [← Array.toList_inj];exact hargs
  obtain ⟨rfl,rfl⟩:=trodVars_none hV
  have k0:=h0
  have lt0:∀ x∈p0,x.block<W.heap.size:=by obtain ⟨m,hm⟩:=k0;exact DataW.trod_lt m _ _ _ hm
  have hs0:=hval 0 21 v0 rfl rfl
  have k1:=h1
  have lt1:∀ x∈p1,x.block<W.heap.size:=by obtain ⟨m,hm⟩:=k1;exact DataW.trod_lt m _ _ _ hm
  have hs1:=hval 1 21 v1 rfl rfl
  have k2:=h2
  have lt2:∀ x∈p2,x.block<W.heap.size:=by obtain ⟨m,hm⟩:=k2;exact DataW.trod_lt m _ _ _ hm
  have hs2:=hval 2 3 v2 rfl rfl
  obtain ⟨n0,rfl⟩:=okWide_int Tryz.underlying21 hs0
  have w0:-2147483648≤n0∧n0≤2147483647:=by
    obtain ⟨u,eu,_,wu⟩:=DataW.trod_int Tryz.underlying21 h0.choose_spec
    obtain rfl:n0=u:=by simpa [Value.cells] using eu
    simp [Lit.wf] at wu
    have m1:IntKind.i32.min=-2147483648:=by decide
    have m2:IntKind.i32.max=2147483647:=by decide
    omega
  obtain ⟨n1,rfl⟩:=okWide_int Tryz.underlying21 hs1
  have w1:-2147483648≤n1∧n1≤2147483647:=by
    obtain ⟨u,eu,_,wu⟩:=DataW.trod_int Tryz.underlying21 h1.choose_spec
    obtain rfl:n1=u:=by simpa [Value.cells] using eu
    simp [Lit.wf] at wu
    have m1:IntKind.i32.min=-2147483648:=by decide
    have m2:IntKind.i32.max=2147483647:=by decide
    omega
  obtain ⟨n2,rfl⟩:=okWide_int Tryz.underlying3 hs2
  have w2:-9223372036854775808≤n2∧n2≤9223372036854775807:=by
    obtain ⟨u,eu,_,wu⟩:=DataW.trod_int Tryz.underlying3 h2.choose_spec
    obtain rfl:n2=u:=by simpa [Value.cells] using eu
    simp [Lit.wf] at wu
    have m1:IntKind.i64.min=-9223372036854775808:=by decide
    have m2:IntKind.i64.max=9223372036854775807:=by decide
    omega
  clear hL hA0 hval0
  simp only [List.append_nil] at hW'
  refine (Sk.EngineReckons_any n0 n1 n2 W w0 w1 w2).mono fun e W' ⟨he,bel⟩=>?_
  subst he
  have tr:=(trodAll_cons_mk (Below.trod engineReckons_laidOut (by kernel_rfl) (of_decide_eq_true (by kernel_rfl)) k0 bel lt0) ((trodAll_cons_mk (Below.trod engineReckons_laidOut (by kernel_rfl) (of_decide_eq_true (by kernel_rfl)) k1 bel lt1) (trodAll_mk1 (Below.trod engineReckons_laidOut (by kernel_rfl) (of_decide_eq_true (by kernel_rfl)) k2 bel lt2)))))
  try simp only [List.append_nil] at tr
  exact ⟨_,rfl,_,_,_,[],_,[],hW',trodAll_mk1 (shut_bool Tryz.underlying4 _),tr,rfl,bel.frame _,fun h=>by cases h⟩
theorem engineReckons_over:Rows.engineReckonsRow.holds Tryz.pinned (OpenSpec.ofChange Rows.engineReckonsSpec) :=
  OpenClaim.holds_of_wide 3 Tryz.f3 rfl rfl rfl rfl rfl rfl rfl ⟨rfl,rfl,rfl,rfl,rfl⟩ rfl rfl rfl rfl rfl (by kernel_rfl) Tryz.func3 engineReckons_closed
    (of_decide_eq_true (by kernel_rfl)) (by unfold Func.isWrapper;first|(rw [if_pos (by decide +kernel)];kernel_rfl)|(rw [if_neg (by decide +kernel)];exact ⟨rfl,rfl⟩))
    (fun os started H enc _=>engineReckons_lifted os started H enc)
theorem engineReckons_holds:Rows.EngineReckonsCardSaid :=
  Claim7.holds_tied_plain_at .later [] [.data, .data, .data] true (true, "d6660324c262f8f1e82ba4baf61d7a7acdc0e706eec43793ee751ac9b1d8bd06") true engineReckons_over (fun _ h => by cases h) (by kernel_rfl) (fun _ h => by cases h) engineReckons_row_tie rfl ⟨rfl, rfl⟩ (by kernel_rfl) rfl
    (fun f fn hf hfn=>by
      obtain rfl : f = 3 := Option.some.inj ((show Tryz.prog.funcNamed "arbiter/arbiterlaw22.EngineReckons" = some 3 by kernel_rfl).symm.trans hf) |>.symm
      obtain rfl:fn=Tryz.f3:=(Option.some.inj (Tryz.func3.symm.trans hfn)).symm
      exact ⟨by kernel_rfl,fun j t ht=>by
        rw [Tryz.params3] at ht
        have hm:t∈[21,21,3]:=by simpa using Array.mem_of_getElem? ht
        have hall:([21,21,3].all fun u=>!Tryz.prog.wantsStandIn u)=true:=by kernel_rfl
        exact (show Tryz.prog.wantsStandIn t=false by simpa using List.all_eq_true.1 hall t hm)⟩)
    engineReckons_goes
#print axioms engineReckons_holds
end Go.Proofs.YtgoncofcmchnjaaGreatDoor
