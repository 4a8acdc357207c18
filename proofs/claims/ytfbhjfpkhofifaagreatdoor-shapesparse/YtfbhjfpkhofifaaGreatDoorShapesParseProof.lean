/- Proved: for every text of any length the law ShapesParse answers true, and leaves what it was handed as it was, where the variables 'words' of packages code and flags, the library's table of powers of ten, strconv's two errors, package shapes' three errors and package errors' handle of the type error hold what their own initialisers lay (the card ties them to the program's text); math/bits' two tables, unicode/utf8's acceptRanges and (pinned) first are listed besides, and no run reads them. -/
import Derived.Test.YtfbhjfpkhofifaaGreatDoorLawC6
import Derived.Test.YtfbhjfpkhofifaaGreatDoorArgC
import Derived.Test.YtfbhjfpkhofifaaGreatDoorOwnS
import Derived.Test.YtfbhjfpkhofifaaGreatDoorFLaid
import Derived.Test.YtfbhjfpkhofifaaGreatDoorCards
import Derived.Test.YtfbhjfpkhofifaaGreatDoorTie
import Derived.ProofKit
import Derived.Lay
import Derived.SevenTiedAt
import Derived.Stop.LaidErr
import Derived.LaidHandle
import Derived.Test.YtfbhjfpkhofifaaGreatDoorSq
set_option maxRecDepth 100000
namespace Go.Proofs.YtfbhjfpkhofifaaGreatDoor
open Go.RowKit Go.ChangeShapes Go.WideShapes Go.ChangeAt Go.ChangeMaps
theorem Tryz.t0:(Tryz.prog.globals[0]?).map (·.type)=some 75:=by kernel_rfl
theorem Tryz.t3:(Tryz.prog.globals[3]?).map (·.type)=some 75:=by kernel_rfl
theorem Tryz.t5:(Tryz.prog.globals[5]?).map (·.type)=some 75:=by kernel_rfl
theorem Tryz.t10:(Tryz.prog.globals[10]?).map (·.type)=some 75:=by kernel_rfl
theorem Tryz.t11:(Tryz.prog.globals[11]?).map (·.type)=some 75:=by kernel_rfl
theorem Tryz.g0 : Tryz.prog.globalNamed "arbiter/shapes.errOpen" = some 0 := by kernel_rfl
theorem Tryz.g3 : Tryz.prog.globalNamed "arbiter/shapes.errOrder" = some 3 := by kernel_rfl
theorem Tryz.g5 : Tryz.prog.globalNamed "arbiter/shapes.errPart" = some 5 := by kernel_rfl
theorem Tryz.g1 : Tryz.prog.globalNamed "errors.errorType" = some 1 := by kernel_rfl
theorem Tryz.star : "*" ++ "errors.errorString" = "*errors.errorString" := by decide
theorem Tryz.row241 (u : TypeId) (h : Tryz.prog.typeName? 3 u = some "*errors.errorString") : u = 241 :=
 typeName_ptr_named (nm := "errors.errorString") (by rw [Tryz.star]; kernel_rfl) (by kernel_rfl) (by decide) u (by rw [Tryz.star]; exact h)
theorem Tryz.c243:Tryz.prog.cellsOf 243=1:=by kernel_rfl
theorem Tryz.rt : (Tryz.prog.cutTypes.find? (·.1 == "internal/reflectlite.rtype")).map (·.2) = some 172 := by kernel_rfl
theorem Tryz.oneRow:((List.range 284).filter fun t=>Tryz.prog.rowNamed t [101,114,114,111,114])=[75]:=by kernel_rfl
theorem Tryz.size:Tryz.prog.types.size=284:=by kernel_rfl
theorem err_cell {W:World} {g:Nat} {n:String} {a:Addr} (hg:Tryz.prog.globalNamed n=some g) (h:W.var? Tryz.prog n=some #[.iface 241 (.pointer (some a))]):g<W.heap.size∧∃ tp p,W.cell? ⟨g,0,none⟩=some (.iface tp (.pointer p)):=by
 have hc:W.cell? ⟨g,0,none⟩=some (.iface 241 (.pointer (some a))):=by simpa using World.var?_cell hg h 0
 exact ⟨World.block_lt_of_cell? W ⟨g,0,none⟩ hc,_,_,hc⟩
theorem errs_in {r : List (String × DataW Unit)} {W : World} (h : laidMet Tryz.prog (("strconv.ErrRange", Rows.laid_strconv_ErrRange) :: ("strconv.ErrSyntax", Rows.laid_strconv_ErrSyntax) :: r) W) : EIn W := by
 obtain ⟨a0,s0,hv0,-,-,-⟩:=laid_sentinel h Tryz.rngG Tryz.t11 Tryz.underlying75 Tryz.row241 Tryz.underlying241 Tryz.underlying243 rfl rfl Tryz.underlying9 Tryz.c243 Tryz.cells9
 obtain ⟨a1,s1,hv1,-,-,-⟩:=laid_sentinel h.tail Tryz.synG Tryz.t10 Tryz.underlying75 Tryz.row241 Tryz.underlying241 Tryz.underlying243 rfl rfl Tryz.underlying9 Tryz.c243 Tryz.cells9
 exact ⟨⟨_,_,hv1⟩,_,_,hv0⟩
theorem sin_in {r : List (String × DataW Unit)} {W : World} (h : laidMet Tryz.prog (("arbiter/shapes.errOrder", Rows.laid_arbiter_shapes_errOrder) :: ("arbiter/shapes.errPart", Rows.laid_arbiter_shapes_errPart) :: ("arbiter/shapes.errOpen", Rows.laid_arbiter_shapes_errOpen) :: r) W) : SIn W := by
 obtain ⟨a0,s0,hv0,-,-,-⟩:=laid_sentinel h Tryz.g3 Tryz.t3 Tryz.underlying75 Tryz.row241 Tryz.underlying241 Tryz.underlying243 rfl rfl Tryz.underlying9 Tryz.c243 Tryz.cells9
 obtain ⟨a1,s1,hv1,-,-,-⟩:=laid_sentinel h.tail Tryz.g5 Tryz.t5 Tryz.underlying75 Tryz.row241 Tryz.underlying241 Tryz.underlying243 rfl rfl Tryz.underlying9 Tryz.c243 Tryz.cells9
 obtain ⟨a2,s2,hv2,-,-,-⟩:=laid_sentinel h.tail.tail Tryz.g0 Tryz.t0 Tryz.underlying75 Tryz.row241 Tryz.underlying241 Tryz.underlying243 rfl rfl Tryz.underlying9 Tryz.c243 Tryz.cells9
 exact ⟨err_cell Tryz.g3 hv0,err_cell Tryz.g5 hv1,err_cell Tryz.g0 hv2⟩
def plainLaid : List (String × DataW Unit) := [("math/bits.deBruijn32tab", Rows.laid_math_bits_deBruijn32tab), ("math/bits.deBruijn64tab", Rows.laid_math_bits_deBruijn64tab), ("internal/strconv.uint64pow10", Rows.laid_internal_strconv_uint64pow10), ("unicode/utf8.acceptRanges", Rows.laid_unicode_utf8_acceptRanges), ("strconv.ErrRange", Rows.laid_strconv_ErrRange), ("strconv.ErrSyntax", Rows.laid_strconv_ErrSyntax), ("arbiter/flags.words", Rows.laid_arbiter_flags_words), ("arbiter/code.words", Rows.laid_arbiter_code_words), ("arbiter/shapes.errOrder", Rows.laid_arbiter_shapes_errOrder), ("arbiter/shapes.errPart", Rows.laid_arbiter_shapes_errPart), ("arbiter/shapes.errOpen", Rows.laid_arbiter_shapes_errOpen), ("unicode/utf8.first", Rows.laid_unicode_utf8_first)]
theorem laid_split {W:World} (h:laidMetH Tryz.prog Rows.shapesParseRow.laid W):laidMet Tryz.prog plainLaid W∧Hnd W:=by
 have h' : laidMet Tryz.prog plainLaid W ∧ handlesMet Tryz.prog [("errors.errorType", Rows.laid_errors_errorType)] W := h
 refine ⟨h'.1,?_⟩
 obtain ⟨name,u,ty,e1,e2,e3,e4,e5⟩:=h'.2 _ (List.mem_singleton.2 rfl)
 have en:name=[101,114,114,111,114]:=(Option.some.inj e1).symm
 subst en
 obtain rfl:=Option.some.inj (Tryz.rt.symm.trans e2)
 have hm:ty∈(List.range 284).filter fun t=>Tryz.prog.rowNamed t [101,114,114,111,114]:=List.mem_filter.2 ⟨List.mem_range.2 (by rw [← Tryz.size];exact e3),e4⟩
 rw [Tryz.oneRow] at hm
 obtain rfl:=List.mem_singleton.1 hm
 have hh:typeHandle Tryz.prog 75=.pointer (some ⟨14,75,none⟩):=by kernel_rfl
 rw [hh] at e5
 have hc:W.cell? ⟨1,0,none⟩=some (.iface 172 (.agg #[.pointer (some ⟨14,75,none⟩)])):=by simpa using World.var?_cell Tryz.g1 e5 0
 exact ⟨World.block_lt_of_cell? W ⟨1,0,none⟩ hc,hc⟩
noncomputable def handWorld (os:Os):World :=
 let w0:=World.holding Tryz.prog os ⟨#[],#[],[]⟩
 { w0 with heap:=w0.heap.modify 1 fun
  | .cells _ t frozen=>.cells #[.iface 172 (.agg #[.pointer (some ⟨14,75,none⟩)])] t frozen
  | o=>o }
noncomputable def laidWorld (os:Os):World:=(handWorld os).layVars Tryz.prog plainLaid
theorem laidWorld_os (os:Os):(laidWorld os).os=os:=(World.layVars_os _ _ _).trans rfl
theorem laidWorld_met (os:Os) (args:Array Value) (hf:(handWorld os).layFits Tryz.prog plainLaid []=true) (hi:(handWorld os).layIfaces Tryz.prog plainLaid (laidWorld os)=true) :
 laidMet Tryz.prog plainLaid ((laidWorld os).forCall (fun _ _=>0) ⟨#[],args,[]⟩).memory:=by
 have e1:(plainLaid.filter fun x=>(plainLaid.map (·.1)).contains x.1)=plainLaid:=List.filter_eq_self.2 fun x hx=>List.contains_iff_mem.2 (List.mem_map.2 ⟨x,hx,rfl⟩)
 have e2:(plainLaid.filter fun x=>!(plainLaid.map (·.1)).contains x.1)=[]:=List.filter_eq_nil_iff.2 fun x hx=>by rw [List.contains_iff_mem.2 (List.mem_map.2 ⟨x,hx,rfl⟩)];simp
 have h:laidMet Tryz.prog plainLaid (laidWorld os):=laidMet_layVars (w0:=handWorld os) (plainLaid.map (·.1)) [] (by rw [e1];rfl) (by rw [e1];exact hf) (by rw [e1];exact hi) (by rw [e2];exact LaidIn.none)
 exact h.of_heap (by simp [World.memory,World.forCall,Input.heap])
theorem shapesParse_walk (s:ByteArray) {W:World} (_:s.size≤maxLen) (h1:WordsIn W) (h2:TenIn W) (h3:Fl.WordsIn W) (h4:WordsRow W) (h5:EIn W) (h6:SIn W) (h7:Hnd W) (hz:s.size≤140737488351232):Calls Tryz.prog 4 #[.string s] W fun e w'=>e=.returned (.bool true)∧Bw W w' :=
 Zd1 s W hz ⟨⟨⟨h1,h2⟩,h3⟩,h4,h5,h6⟩ h7
theorem shapesParse_own:ownKnob Tryz.prog.godebug=none:=by kernel_rfl
set_option linter.unusedVariables false in
theorem shapesParse_lifted (os:Os) (started:os.Started) (H:Type) (enc:TypeId×Value→H) :
 ReturnsInHanded {} Tryz.checked os 4 .any (fun w args=>(Rows.shapesParseSpec.pre enc Tryz.prog Tryz.f4 [] false w args∧laidMetH Tryz.prog Rows.shapesParseRow.laid w)∧sizedMet enc Tryz.prog Tryz.f4 (OpenSpec.ofChange Rows.shapesParseSpec) false w args)
  (Rows.shapesParseSpec.post enc Tryz.prog Tryz.f4 false true false false):=by
 refine returnsInHanded_of_change_and (C:=Tryz.checked) (X:=fun w _=>laidMetH Tryz.prog Rows.shapesParseRow.laid w) (fun _ _ _ hh h=>h.of_heap hh) shapesParse_own started (by kernel_rfl) Tryz.func4
  (ChangeSpec.witness_shaped (enc:=enc) (C:=Tryz.checked) (os:=os) (X:=fun w _=>laidMetH Tryz.prog Rows.shapesParseRow.laid w) false (laidWorld os) #[.string ByteArray.empty] 8 (laidWorld_os os)
   (World.shaped_of_ZipB (by kernel_rfl) (by kernel_rfl)) (by kernel_rfl) (by kernel_rfl) (by kernel_rfl)
   (laidMetH_of_parts (laidWorld_met os _ (by kernel_rfl) (by kernel_rfl)) (by kernel_rfl))) ?_
 intro W base args ds gs before hval0 hW _ hR hL _
 have hval:∀ (j:Nat) t v,Tryz.f4.params[j]?=some t→args[j]?=some v→Value.okWide Tryz.prog W .any base t v:=hval0
 have hW':=hW
 obtain ⟨p,q,hA0,hV,rfl,_,_⟩:=hW
 have hA:DataW.TrodAll enc Tryz.prog W 0 (fun _=>true) true Tryz.f4.params.toList args.toList ds p:=hA0
 rw [Tryz.params4] at hA hval
 obtain ⟨v0,vs0,d0,ds0,p0,q0,hargs0,rfl,rfl,h0,r0⟩:=trodAll_cons hA
 obtain ⟨rfl,rfl,rfl⟩:=trodAll_nil r0
 obtain rfl:args=#[v0]:=by cases args;simp_all
 obtain ⟨rfl,rfl⟩:=trodVars_none hV
 obtain ⟨a0,rfl,rfl,rfl,w0⟩:=open_string Tryz.underlying9 (hval 0 9 v0 rfl rfl) h0
 obtain ⟨hL,hHd⟩:=laid_split hL
 have hF0 := words_in (Lib.laidMet.reads hL (n := "arbiter/code.words") (d := Rows.laid_arbiter_code_words) (by simp [plainLaid]))
 have hF1 := ten_in (Lib.laidMet.reads hL (n := "internal/strconv.uint64pow10") (d := Rows.laid_internal_strconv_uint64pow10) (by simp [plainLaid]))
 have hF2 := Fl.words_in (Lib.laidMet.reads hL (n := "arbiter/flags.words") (d := Rows.laid_arbiter_flags_words) (by simp [plainLaid]))
 have hF3 := Zm4 (Lib.laidMet.reads hL (n := "arbiter/code.words") (d := Rows.laid_arbiter_code_words) (by simp [plainLaid]))
 have hF4:EIn W:=errs_in hL.tail.tail.tail.tail
 have hF5:SIn W:=sin_in hL.tail.tail.tail.tail.tail.tail.tail.tail
 clear hL hA0 hval0
 have hZ0:a0.size≤140737488351232:=by
  have:=sized_string (j:=0) (t:=9) hR (by simp [Tryz.params4]) rfl
  simpa [reachBytes] using this
 refine (shapesParse_walk a0 w0 hF0 hF1 hF2 hF3 hF4 hF5 hHd hZ0).mono fun e W' ⟨he,bel⟩=>?_
 subst he
 exact ⟨_,rfl,_,_,_,[],_,[],hW',trodAll_mk1 (shut_bool Tryz.underlying4 _),trodAll_cons_mk (shut_string Tryz.underlying9 w0) trodAll_mk0,rfl,bel.frame _,fun h=>by cases h⟩
theorem shapesParse_over:Rows.shapesParseRow.holds Tryz.pinned (OpenSpec.ofChange Rows.shapesParseSpec) :=
 OpenClaim.holds_of_wide 4 Tryz.f4 rfl rfl rfl rfl rfl rfl rfl ⟨rfl,rfl,rfl,rfl,rfl⟩ rfl rfl rfl rfl rfl (by kernel_rfl) Tryz.func4 (by kernel_rfl)
  (of_decide_eq_true (by kernel_rfl)) (by unfold Func.isWrapper;first|(rw [if_pos (by decide +kernel)];kernel_rfl)|(rw [if_neg (by decide +kernel)];exact ⟨rfl,rfl⟩))
  (fun os started H enc _=>shapesParse_lifted os started H enc)
theorem shapesParse_holds:Rows.ShapesParseCardSaid :=
 Claim7.holds_tied_plain_at .later [] [.data, .data, .data, .data, .handle, .sentinel, .sentinel, .data, .data, .sentinel, .sentinel, .sentinel, .pinned] true (true, "e2afab809662283f3a5ade8fe50a10d9adbccb673daa832941dfaad6c06e4073") true shapesParse_over (fun _ h => by cases h) (by kernel_rfl) (fun _ h => by cases h) shapesParse_row_tie rfl ⟨rfl, rfl⟩ (by kernel_rfl) rfl
  (fun f fn hf hfn=>by
   obtain rfl : f = 4 := Option.some.inj ((show Tryz.prog.funcNamed "arbiter/arbiterlaw05.ShapesParse" = some 4 by kernel_rfl).symm.trans hf) |>.symm
   obtain rfl:fn=Tryz.f4:=(Option.some.inj (Tryz.func4.symm.trans hfn)).symm
   exact ⟨by kernel_rfl,fun j t ht=>by
    rw [Tryz.params4] at ht
    have hm:t∈[9]:=by simpa using Array.mem_of_getElem? ht
    have hall:([9].all fun u=>!Tryz.prog.wantsStandIn u)=true:=by kernel_rfl
    exact (show Tryz.prog.wantsStandIn t=false by simpa using List.all_eq_true.1 hall t hm)⟩)
  (by kernel_rfl)
#print axioms shapesParse_holds
end Go.Proofs.YtfbhjfpkhofifaaGreatDoor
