/- EngineLoops: For each call (n, fuel int), the Go function arbiterlaw22.EngineLoops returns true: a loop that counts down from n writes a line for each number, as far as there is fuel; its steps and what it throws are told one by one. What the card lists is as the program's text lays it. -/
import Derived.Test.YtlohdfpinmdljaaGreatDoorTie
import Derived.Test.YtlohdfpinmdljaaGreatDoorEngineLoopsFctB
import Derived.Test.YtlohdfpinmdljaaGreatDoorEngineLoopsFctG
import Derived.Test.YtlohdfpinmdljaaGreatDoorCards
import Derived.Test.YtlohdfpinmdljaaGreatDoorEnAj
import Derived.Test.YtlohdfpinmdljaaGreatDoorEnAk
import Derived.Lib.SmallJoins
import Derived.WalkKit
import Derived.ProofKit
import Derived.OpenShut
import Derived.Carry
import Derived.Lay
import Derived.SevenTiedAt
set_option maxRecDepth 100000
namespace Go.Proofs.YtlohdfpinmdljaaGreatDoor
open Go.ChangeShapes Go.WideShapes Go.ChangeAt Go.RowKit Go.Joins
theorem engineLoops_own:ownKnob Tryz.prog.godebug=none:=by kernel_rfl
set_option linter.unusedVariables false in
theorem engineLoops_lifted (os:Os) (started:os.Started) (H:Type) (enc:TypeId×Value→H) :
    ReturnsInHanded {} Tryz.checked os 3 .any (fun w args=>(Rows.engineLoopsSpec.pre enc Tryz.prog Tryz.f3 [] false w args∧laidMetH Tryz.prog Rows.engineLoopsRow.laid w)∧sizedMet enc Tryz.prog Tryz.f3 (OpenSpec.ofChange Rows.engineLoopsSpec) false w args)
      (Rows.engineLoopsSpec.post enc Tryz.prog Tryz.f3 false true false false):=by
  refine returnsInHanded_of_change_and (C:=Tryz.checked) (X:=fun w _=>laidMetH Tryz.prog Rows.engineLoopsRow.laid w) (fun _ _ _ hh h=>h.of_heap hh) engineLoops_own started (by kernel_rfl) Tryz.func3
    (ChangeSpec.witness_shaped (enc:=enc) (C:=Tryz.checked) (os:=os) (X:=fun w _=>laidMetH Tryz.prog Rows.engineLoopsRow.laid w) false (World.laidAll Tryz.prog os Rows.engineLoopsRow.laid) #[.int .i64 0,.int .i64 0] 8 (World.laidAll_os _ _ _)
      (World.shaped_of_ZipB (by kernel_rfl) (by kernel_rfl)) (by kernel_rfl) (by kernel_rfl) (by kernel_rfl)
      (by rw [MakeChecks.laidMetH_plain _ _ _ (by kernel_rfl)];exact laidMet_laidAll _ (by kernel_rfl) (by kernel_rfl))) ?_
  intro W base args ds gs before hval0 hW _ hR hL _
  have hval:∀ (j:Nat) t v,Tryz.f3.params[j]?=some t→args[j]?=some v→Value.okWide Tryz.prog W .any base t v:=hval0
  have hW':=hW
  obtain ⟨p,q,hA0,hV,rfl,_,_⟩:=hW
  have hA:DataW.TrodAll enc Tryz.prog W 0 (fun _=>true) true Tryz.f3.params.toList args.toList ds p:=hA0
  rw [Tryz.params3] at hA hval
  obtain ⟨v0,vs0,d0,ds0,p0,q0,hargs,rfl,rfl,h0,r0⟩:=trodAll_cons hA
  obtain ⟨v1,vs1,d1,ds1,p1,q1,rfl,rfl,rfl,h1,r1⟩:=trodAll_cons r0
  obtain ⟨rfl,rfl,rfl⟩:=trodAll_nil r1
  obtain rfl:args=#[v0,v1]:=by rw [← Array.toList_inj];exact hargs
  obtain ⟨rfl,rfl⟩:=trodVars_none hV
  have k0:=h0
  have lt0:∀ x∈p0,x.block<W.heap.size:=by obtain ⟨m,hm⟩:=k0;exact DataW.trod_lt m _ _ _ hm
  have hs0:=hval 0 3 v0 rfl rfl
  have k1:=h1
  have lt1:∀ x∈p1,x.block<W.heap.size:=by obtain ⟨m,hm⟩:=k1;exact DataW.trod_lt m _ _ _ hm
  have hs1:=hval 1 3 v1 rfl rfl
  obtain ⟨n0,rfl⟩:=okWide_int Tryz.underlying3 hs0
  have w0:-9223372036854775808≤n0∧n0≤9223372036854775807:=by
    obtain ⟨u,eu,_,wu⟩:=DataW.trod_int Tryz.underlying3 h0.choose_spec
    obtain rfl:n0=u:=by simpa [Value.cells] using eu
    simp [Lit.wf] at wu
    have m1:IntKind.i64.min=-9223372036854775808:=by decide
    have m2:IntKind.i64.max=9223372036854775807:=by decide
    omega
  obtain ⟨n1,rfl⟩:=okWide_int Tryz.underlying3 hs1
  have w1:-9223372036854775808≤n1∧n1≤9223372036854775807:=by
    obtain ⟨u,eu,_,wu⟩:=DataW.trod_int Tryz.underlying3 h1.choose_spec
    obtain rfl:n1=u:=by simpa [Value.cells] using eu
    simp [Lit.wf] at wu
    have m1:IntKind.i64.min=-9223372036854775808:=by decide
    have m2:IntKind.i64.max=9223372036854775807:=by decide
    omega
  rw [MakeChecks.laidMetH_plain _ _ _ (by kernel_rfl)] at hL
  have hT := Sk.ten_in (Lib.laidMet.reads hL (n := "internal/strconv.uint64pow10") (d := Rows.laid_internal_strconv_uint64pow10) (by simp [Rows.engineLoopsRow]))
  clear hL hA0 hval0
  simp only [List.append_nil] at hW'
  refine (Sk.EngineLoops_any n0 n1 W w0 w1 hT).mono fun e W' ⟨he,bel⟩=>?_
  subst he
  have tr:=(trodAll_cons_mk (Below.trod engineLoops_laidOut (by kernel_rfl) (of_decide_eq_true (by kernel_rfl)) k0 bel lt0) (trodAll_mk1 (Below.trod engineLoops_laidOut (by kernel_rfl) (of_decide_eq_true (by kernel_rfl)) k1 bel lt1)))
  try simp only [List.append_nil] at tr
  exact ⟨_,rfl,_,_,_,[],_,[],hW',trodAll_mk1 (shut_bool Tryz.underlying4 _),tr,rfl,bel.frame _,fun h=>by cases h⟩
theorem engineLoops_over:Rows.engineLoopsRow.holds Tryz.pinned (OpenSpec.ofChange Rows.engineLoopsSpec) :=
  OpenClaim.holds_of_wide 3 Tryz.f3 rfl rfl rfl rfl rfl rfl rfl ⟨rfl,rfl,rfl,rfl,rfl⟩ rfl rfl rfl rfl rfl (by kernel_rfl) Tryz.func3 engineLoops_closed
    (of_decide_eq_true (by kernel_rfl)) (by unfold Func.isWrapper;first|(rw [if_pos (by decide +kernel)];kernel_rfl)|(rw [if_neg (by decide +kernel)];exact ⟨rfl,rfl⟩))
    (fun os started H enc _=>engineLoops_lifted os started H enc)
theorem engineLoops_holds:Rows.EngineLoopsCardSaid :=
  Claim7.holds_tied_plain_at .later [] [.data, .data, .data] true (true, "9133d754de3f25c70baa7f2feafc6efd1d6e66cbb808fdfe16f2c3b781fad6a2") true engineLoops_over (fun _ h => by cases h) (by kernel_rfl) (fun _ h => by cases h) engineLoops_row_tie rfl ⟨rfl, rfl⟩ (by kernel_rfl) rfl
    (fun f fn hf hfn=>by
      obtain rfl : f = 3 := Option.some.inj ((show Tryz.prog.funcNamed "arbiter/arbiterlaw22.EngineLoops" = some 3 by kernel_rfl).symm.trans hf) |>.symm
      obtain rfl:fn=Tryz.f3:=(Option.some.inj (Tryz.func3.symm.trans hfn)).symm
      exact ⟨by kernel_rfl,fun j t ht=>by
        rw [Tryz.params3] at ht
        have hm:t∈[3,3]:=by simpa using Array.mem_of_getElem? ht
        have hall:([3,3].all fun u=>!Tryz.prog.wantsStandIn u)=true:=by kernel_rfl
        exact (show Tryz.prog.wantsStandIn t=false by simpa using List.all_eq_true.1 hall t hm)⟩)
    engineLoops_goes
#print axioms engineLoops_holds
end Go.Proofs.YtlohdfpinmdljaaGreatDoor
