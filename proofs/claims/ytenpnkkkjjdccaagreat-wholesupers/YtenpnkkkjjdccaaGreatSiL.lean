import Derived.Test.YtenpnkkkjjdccaaGreatSiT
import Derived.Test.YtenpnkkkjjdccaaGreatLxP
import Derived.RegionCalls
import Derived.Deep.RegionWith
import Derived.Deep.RegionHeld3
set_option maxRecDepth 100000
namespace Go.Proofs.YtenpnkkkjjdccaaGreat
open Go.RowKit Go.Maps
theorem bstore_d (a:Addr) (x:Value) (u:FrameMode) (w:World) (hc:w.cell? a=some x) (hz:w.frozen? a=false) :
    CallsD Tryz.prog 177 #[.pointer (some a),.bool true] u w fun e u' w'=>u'=u∧(e=.returned (.tuple #[])∧w'=w.drew.setCell a (.int .u32 1)):=by
  have hc':w.drew.cell? a=some x:=by go_simp
  have hz':w.drew.frozen? a=false:=by go_simp
  have hst:=run_call_store (P:=Tryz.prog) Tryz.func214 (by kernel_rfl) (by kernel_rfl) (by kernel_rfl) (by kernel_rfl) (k:=.u32) (y:=1) hc' hz'
  go_enter_d Tryz.func177,Tryz.ntmps177
  go_wp2
  go_region_calls
  all_goals (go_end0;exact ⟨rfl,rfl⟩)
theorem bload_c (a:Addr) (x:Int) (W:World) (h0:W.cell? a=some (.int .u32 x)):Calls Tryz.prog 139 #[.pointer (some a)] W fun e w'=>e=.returned (.bool (x != 0))∧w'=W:=by
  have ha:=run_call_load (P:=Tryz.prog) Tryz.func176 (by kernel_rfl) (by kernel_rfl) (by kernel_rfl) .u32 (by kernel_rfl) h0
  go_enter Tryz.func139,Tryz.ntmps139
  go_wp2
  go_ret
  exact ⟨rfl,rfl⟩
set_option maxHeartbeats 1600000 in
theorem slow_c (sb o pl pe:Nat) (P:World→Prop) (W:World) (h0:W.cell? ⟨sb,o,none⟩=some (.int .u32 0)) (h1:W.cell? ⟨sb,o+1,none⟩=some (.int .i32 0)) (f1:W.frozen? ⟨sb,o+1,none⟩=false)
    (HC:Hid (Calls Tryz.prog 92 #[.pointer (some ⟨pl,0,none⟩),.pointer (some ⟨pe,0,none⟩)] (W.setCell ⟨sb,o+1,none⟩ (.int .i32 1)) fun e w'=>e=.returned (.tuple #[])∧P w'))
    (HP:Hid (∀ w,P w→w.cell? ⟨sb,o,none⟩=some (.int .u32 0)∧w.frozen? ⟨sb,o,none⟩=false∧w.cell? ⟨sb,o+1,none⟩=some (.int .i32 1)∧w.frozen? ⟨sb,o+1,none⟩=false)) :
    Calls Tryz.prog 140 #[.pointer (some ⟨sb,o,none⟩),.func (.func 92) #[] #[.pointer (some ⟨pl,0,none⟩),.pointer (some ⟨pe,0,none⟩)]] W fun e w'=>e=.returned (.tuple #[])∧∃ w1,P w1∧w'=(w1.drew.setCell ⟨sb,o,none⟩ (.int .u32 1)).setCell ⟨sb,o+1,none⟩ (.int .i32 0):=by
  have HB:Hid (Calls Tryz.prog 139 #[.pointer (some ⟨sb,o,none⟩)] (W.setCell ⟨sb,o+1,none⟩ (.int .i32 1)) fun e w'=>e=.returned (.bool false)∧w'=W.setCell ⟨sb,o+1,none⟩ (.int .i32 1)):=bload_c _ 0 _ ((World.cell?_setCell_other _ ⟨sb,o+1,none⟩ ⟨sb,o,none⟩ _ (by simp)).trans h0)
  have HL:Hid (Calls Tryz.prog 89 #[.pointer (some ⟨sb,o+1,none⟩)] W fun e w'=>e=.returned (.tuple #[])∧w'=W.setCell ⟨sb,o+1,none⟩ (.int .i32 1)):=Go.MuLone.lock_free Tryz.muLib ⟨sb,o+1,none⟩ _ h1 f1
  have hnot:∀ (x:Bool) (w:World),(Op.unary .not (.bool x)).run Tryz.prog w=.ok (.bool (!x)) w:=fun _ _=>rfl
  clear h0 h1 f1
  go_enter_defers Tryz.func140,Tryz.ntmps140
  go_wp2_with (first
    | (go_at_call 89;refine HL.out.mono ?_;rintro e w' ⟨rfl,rfl⟩;clear HL)
    | (go_at_call 139;refine HB.out.mono ?_;rintro e w' ⟨rfl,rfl⟩;clear HB)
    | (go_at_call 92;refine HC.out.mono ?_;rintro e w5 ⟨rfl,h5⟩;have H5:Hid (P w5):=h5;clear h5 HC))
  obtain ⟨d0,z0,d1,z1⟩:=HP.out _ H5.out
  refine leaves_cons (f:=177) (args:=#[.pointer (some ⟨sb,o,none⟩),.bool true]) (by simp) (by simp [go_sem]) ?_
  refine (bstore_d ⟨sb,o,none⟩ _ .returning w5 d0 z0).mono ?_
  rintro e u' w'' ⟨rfl,rfl,rfl⟩
  refine leaves_cons (f:=90) (args:=#[.pointer (some ⟨sb,o+1,none⟩)]) (by simp [settle]) (by simp [go_sem]) ?_
  refine (Go.MuLone.unlock_deferred Tryz.muLib ⟨sb,o+1,none⟩ _ _ ((World.cell?_setCell_other _ ⟨sb,o,none⟩ ⟨sb,o+1,none⟩ _ (by simp)).trans (by rw [World.cell?_drew];exact d1)) (by simp [z1])).mono ?_
  rintro e u' w'' ⟨rfl,rfl,rfl⟩
  simp [Leaves,settle,results,Tryz.results140]
  exact ⟨w5,H5.out,rfl⟩
set_option maxHeartbeats 1600000 in
theorem do_c (sb o pl pe:Nat) (P:World→Prop) (W:World) (h0:W.cell? ⟨sb,o,none⟩=some (.int .u32 0)) (h1:W.cell? ⟨sb,o+1,none⟩=some (.int .i32 0)) (f1:W.frozen? ⟨sb,o+1,none⟩=false)
    (HC:Calls Tryz.prog 92 #[.pointer (some ⟨pl,0,none⟩),.pointer (some ⟨pe,0,none⟩)] (W.setCell ⟨sb,o+1,none⟩ (.int .i32 1)) fun e w'=>e=.returned (.tuple #[])∧P w')
    (HP:∀ w,P w→w.cell? ⟨sb,o,none⟩=some (.int .u32 0)∧w.frozen? ⟨sb,o,none⟩=false∧w.cell? ⟨sb,o+1,none⟩=some (.int .i32 1)∧w.frozen? ⟨sb,o+1,none⟩=false) :
    Calls Tryz.prog 91 #[.pointer (some ⟨sb,o,none⟩),.func (.func 92) #[] #[.pointer (some ⟨pl,0,none⟩),.pointer (some ⟨pe,0,none⟩)]] W fun e w'=>e=.returned (.tuple #[])∧∃ w1,P w1∧w'=(w1.drew.setCell ⟨sb,o,none⟩ (.int .u32 1)).setCell ⟨sb,o+1,none⟩ (.int .i32 0):=by
  have HB:Hid (Calls Tryz.prog 139 #[.pointer (some ⟨sb,o,none⟩)] W fun e w'=>e=.returned (.bool false)∧w'=W):=bload_c _ 0 _ h0
  have HS:Hid (Calls Tryz.prog 140 #[.pointer (some ⟨sb,o,none⟩),.func (.func 92) #[] #[.pointer (some ⟨pl,0,none⟩),.pointer (some ⟨pe,0,none⟩)]] W fun e w'=>e=.returned (.tuple #[])∧∃ w1,P w1∧w'=(w1.drew.setCell ⟨sb,o,none⟩ (.int .u32 1)).setCell ⟨sb,o+1,none⟩ (.int .i32 0)):=slow_c sb o pl pe P W h0 h1 f1 HC HP
  have hnot:∀ (x:Bool) (w:World),(Op.unary .not (.bool x)).run Tryz.prog w=.ok (.bool (!x)) w:=fun _ _=>rfl
  clear h0 h1 f1 HC HP
  go_enter Tryz.func91,Tryz.ntmps91
  go_wp2_with (first
    | (go_at_call 139;refine HB.out.mono ?_;rintro e w' ⟨rfl,hw⟩;obtain rfl:=hw.symm;clear HB)
    | (go_at_call 140;refine HS.out.mono ?_;rintro e w5 ⟨rfl,h5⟩;have H5:Hid (∃ w1,P w1∧w5=(w1.drew.setCell ⟨sb,o,none⟩ (.int .u32 1)).setCell ⟨sb,o+1,none⟩ (.int .i32 0)):=h5;clear h5 HS))
  exact bodyPost_end (results_none rfl _ _ _) rfl ⟨rfl,H5.out⟩
theorem lnew_c (b:Nat) (W:World):Calls Tryz.prog 10 #[.pointer (some ⟨b,0,none⟩)] W fun e w'=>e=.returned (.tuple #[.pointer (some ⟨W.heap.size+1,0,none⟩),.int .i64 0])∧w'.cell? ⟨W.heap.size+1,0,none⟩=some (.pointer (some ⟨b,0,none⟩))∧W.heap.size+2≤w'.heap.size∧Below W.heap.size W w':=by
  have hmm:=@run_makeMap Tryz.prog
  go_enter Tryz.func10,Tryz.ntmps10
  go_wp2
  go_ret2
  exact ⟨by simp,by simp,by simp,((Below.refl _ _).alloc (Nat.le_refl _) _).alloc (by simp) _⟩
theorem lwld_c (lb:Nat) (x:Value) (W:World) (h:W.cell? ⟨lb,0,none⟩=some x):Calls Tryz.prog 29 #[.pointer (some ⟨lb,0,none⟩)] W fun e w'=>e=.returned x∧w'=W:=by
  go_enter Tryz.func29,Tryz.ntmps29
  go_wp2
  go_ret
  exact ⟨rfl,rfl⟩
set_option maxHeartbeats 1000000 in
theorem lbel_c (lb b:Nat) (x y:Int) (s t:ByteArray) (B:Bool) (n E:Int) (W:World) (h:W.cell? ⟨lb,0,none⟩=some (.pointer (some ⟨b,0,none⟩)))
    (HT:Hid (∀ w,Below W.heap.size W w→Calls Tryz.prog 190 #[.pointer (some ⟨b,0,none⟩),.agg #[.int .i64 x,.string s],.agg #[.int .i64 y,.string t]] w fun e w'=>e=.returned (.tuple #[.bool B,.int .i64 n,.int .i64 E])∧Below w.heap.size w w')) :
    Calls Tryz.prog 151 #[.pointer (some ⟨lb,0,none⟩),.agg #[.int .i64 x,.string s],.agg #[.int .i64 y,.string t]] W fun e w'=>e=.returned (.tuple #[.bool B,.int .i64 n,.int .i64 E])∧Below W.heap.size W w':=by
  have hl:lb<W.heap.size:=World.block_lt_of_cell? _ _ h
  obtain ⟨U,hU⟩:∃ U,U=(W.alloc (.cells #[.int .i64 x,.string s] 49)).alloc (.cells #[.int .i64 y,.string t] 49):=⟨_,rfl⟩
  have BU:Hid (Below W.heap.size W U):=by rw [hU];exact ((Below.refl _ _).alloc (Nat.le_refl _) _).alloc (by simp) _
  have hs:W.heap.size+1<U.heap.size:=by rw [hU];simp
  have d1:U.heap[W.heap.size]?=some (.cells #[.int .i64 x,.string s] 49 (0,0)):=by rw [hU];exact hkeep (halloc1 _ _)
  have d2:U.heap[W.heap.size+1]?=some (.cells #[.int .i64 y,.string t] 49 (0,0)):=by rw [hU];exact halloc2 _ _ (by simp)
  have c0:U.cell? ⟨lb,0,none⟩=some (.pointer (some ⟨b,0,none⟩)):=(BU.out.cell (p:=⟨lb,0,none⟩) hl).trans h
  obtain ⟨σ,V,hne,V1,V2⟩:=class_of' (fun w'=>Below U.heap.size U w') ⟨_,Below.refl _ _⟩
  have kp:∀ (q:σ) (bb j:Nat) (v:Value),bb<U.heap.size→U.cell? ⟨bb,j,none⟩=some v→(V q).cell? ⟨bb,j,none⟩=some v:=fun q bb j v hl h=>((V1.out q).cell (p:=⟨bb,j,none⟩) hl).trans h
  have e0:=fun q=>kp q lb 0 (.pointer (some ⟨b,0,none⟩)) (Nat.lt_of_lt_of_le hl BU.out.size) c0
  have e1:=fun q=>kp q W.heap.size 0 (.int .i64 x) (by omega) ((cell_of_row U _ 0 _ _ _ d1).trans rfl)
  have e2:=fun q=>kp q W.heap.size 1 (.string s) (by omega) ((cell_of_row U _ 1 _ _ _ d1).trans rfl)
  have e3:=fun q=>kp q (W.heap.size+1) 0 (.int .i64 y) (by omega) ((cell_of_row U _ 0 _ _ _ d2).trans rfl)
  have e4:=fun q=>kp q (W.heap.size+1) 1 (.string t) (by omega) ((cell_of_row U _ 1 _ _ _ d2).trans rfl)
  have HV:Hid (∀ q,Calls Tryz.prog 190 #[.pointer (some ⟨b,0,none⟩),.agg #[.int .i64 x,.string s],.agg #[.int .i64 y,.string t]] (V q) fun e w'=>e=.returned (.tuple #[.bool B,.int .i64 n,.int .i64 E])∧∃ q',w'=V q'):=fun q=>(HT.out _ (bstep BU.out (V1.out q))).mono fun e w' ⟨h1,h2⟩=>⟨h1,V2.out _ (bstep (V1.out q) h2)⟩
  have HU:Hid (U=(W.alloc (.cells #[.int .i64 x,.string s] 49)).alloc (.cells #[.int .i64 y,.string t] 49)):=hU
  clear kp d1 d2 c0 HT h hs hU
  go_enter Tryz.func151,Tryz.ntmps151
  go_upto_region 3 with fail
  rw [← HU.out]
  refine wp_region_class (C:=fun w'=>∃ q,w'=V q) (by kernel_rfl) (by kernel_rfl) (V2.out _ (Below.refl _ _).drew) ?_
  repeat (go_big_quiet_step (first|(go_at_call 190;exact HV.out _)))
  refine wpQuiet_nil ?_
  intro w9 hw9
  obtain ⟨s9,rfl⟩:=hw9
  have B9:Hid (Below W.heap.size W (V s9)):=bstep BU.out (V1.out s9)
  go_wp2
  go_ret3
  exact ⟨rfl,B9.out⟩
def sbC (lb:Nat) (d kd:Int) (y:Bool) (c n ds:ByteArray) (pc:Nat) (wd rd:Int) (tp:Option Addr) (ms:Int) (od om:Int):Array Value:=#[.pointer (some ⟨lb,0,none⟩),.int .i64 d,.int .i64 kd,.bool y,.string c,.string n,.string ds,.pointer (some ⟨pc,0,none⟩),.int .i64 wd,.int .i64 rd,.pointer tp,.int .i32 ms,.int .u32 0,.int .u32 od,.int .i32 om,.int .u32 0]
def SiAt (w:World) (sb lb:Nat) (d:Int) (c n ds:ByteArray) (pc:Nat) (rd:Int) (tp:Option Addr) (ms od om:Int):Prop:=w.heap[sb]?=some (.cells (sbC lb d 3 false c n ds pc 2 rd tp ms od om) 106 (0,0))
theorem SiAt.cells {w:World} {sb lb:Nat} {d:Int} {c n ds:ByteArray} {pc:Nat} {rd:Int} {tp:Option Addr} {ms od om:Int} (h:SiAt w sb lb d c n ds pc rd tp ms od om) :
    (w.cell? ⟨sb,0,none⟩=some (.pointer (some ⟨lb,0,none⟩))∧w.cell? ⟨sb,1,none⟩=some (.int .i64 d)∧w.cell? ⟨sb,2,none⟩=some (.int .i64 3))∧(w.cell? ⟨sb,3,none⟩=some (.bool false)∧w.cell? ⟨sb,4,none⟩=some (.string c)∧w.cell? ⟨sb,5,none⟩=some (.string n)∧w.cell? ⟨sb,6,none⟩=some (.string ds))∧(w.cell? ⟨sb,7,none⟩=some (.pointer (some ⟨pc,0,none⟩))∧w.cell? ⟨sb,8,none⟩=some (.int .i64 2)∧w.cell? ⟨sb,9,none⟩=some (.int .i64 rd)∧w.cell? ⟨sb,10,none⟩=some (.pointer tp))∧(w.cell? ⟨sb,11,none⟩=some (.int .i32 ms)∧w.cell? ⟨sb,13,none⟩=some (.int .u32 od)∧w.cell? ⟨sb,14,none⟩=some (.int .i32 om)∧w.cell? ⟨sb,15,none⟩=some (.int .u32 0))∧(∀ k,w.frozen? ⟨sb,k,none⟩=false)∧sb<w.heap.size:=by
  have g:∀ k,w.cell? ⟨sb,k,none⟩=(sbC lb d 3 false c n ds pc 2 rd tp ms od om)[k]?:=fun k=>cell_of_row w sb k _ _ _ h
  exact ⟨⟨g 0,g 1,g 2⟩,⟨g 3,g 4,g 5,g 6⟩,⟨g 7,g 8,g 9,g 10⟩,⟨g 11,g 13,g 14,g 15⟩,fun k=>frozen_of_row w sb k _ _ h,(Array.getElem?_eq_some_iff.1 h).1⟩
theorem SiAt.keep {w w':World} {sb lb:Nat} {d:Int} {c n ds:ByteArray} {pc:Nat} {rd:Int} {tp:Option Addr} {ms od om:Int} (h:SiAt w sb lb d c n ds pc rd tp ms od om) (hk:w'.heap[sb]?=w.heap[sb]?):SiAt w' sb lb d c n ds pc rd tp ms od om:=hk.trans h
theorem SiAt.setc {w:World} {sb lb:Nat} {d:Int} {c n ds:ByteArray} {pc:Nat} {rd:Int} {tp:Option Addr} {ms od om:Int} (h:SiAt w sb lb d c n ds pc rd tp ms od om) (o:Nat) (u:Value) {rd':Int} {tp':Option Addr} {ms' od' om':Int} (e:(sbC lb d 3 false c n ds pc 2 rd tp ms od om).setIfInBounds o u=sbC lb d 3 false c n ds pc 2 rd' tp' ms' od' om'):SiAt (w.setCell ⟨sb,o,none⟩ u) sb lb d c n ds pc rd' tp' ms' od' om':=by
  unfold SiAt;rw [Go.Joins.block_setCell h,e]
set_option maxHeartbeats 4000000 in
theorem snew_no (lb b:Nat) (d:Int) (c n ds:ByteArray) (L:Nat) (E:Int) (hE:¬ E=0) (W:World) (hl:W.cell? ⟨lb,0,none⟩=some (.pointer (some ⟨b,0,none⟩))) (h0:¬ d<0) (h1:¬ (L:Int)≤d)
    (HL:Hid (∀ w,Below W.heap.size W w→Calls Tryz.prog 21 #[.pointer (some ⟨b,0,none⟩)] w fun e w'=>e=.returned (.int .i64 (L:Int))∧w'=w))
    (HR:Hid (∀ w:World,Calls Tryz.prog 31 #[.agg #[.bool false,.string c,.string n,.string ds]] w fun e w'=>e=.returned (.int .i64 E)∧Below w.heap.size w w')) :
    Calls Tryz.prog 11 #[.pointer (some ⟨lb,0,none⟩),.int .i64 d,.int .i64 3,.agg #[.bool false,.string c,.string n,.string ds],.int .i64 1] W fun e w'=>e=.returned (.tuple #[.pointer none,.int .i64 1])∧Below W.heap.size W w':=by
  have hlt:lb<W.heap.size:=World.block_lt_of_cell? _ _ hl
  have B0:Hid (Below W.heap.size W (W.alloc (.cells #[.bool false,.string c,.string n,.string ds] 42))):=(Below.refl _ _).alloc (Nat.le_refl _) _
  have hl2:(W.alloc (.cells #[.bool false,.string c,.string n,.string ds] 42)).cell? ⟨lb,0,none⟩=some (.pointer (some ⟨b,0,none⟩)):=(B0.out.cell (p:=⟨lb,0,none⟩) hlt).trans hl
  go_enter Tryz.func11,Tryz.ntmps11
  go_wp2_with (first
    | (go_at_call 29;refine (lwld_c lb _ _ hl2).mono ?_;rintro e w' ⟨rfl,rfl⟩)
    | (go_at_call 21;refine (HL.out _ B0.out).mono ?_;rintro e w' ⟨rfl,rfl⟩)
    | (go_at_call 30;go_in)
    | (go_at_call 31;refine (HR.out _).mono ?_;rintro e w1 ⟨rfl,hb⟩;have B1:Hid (Below W.heap.size W w1):=bstep B0.out hb;clear hb HR))
  go_ret2
  exact ⟨rfl,B1.out⟩
theorem words1_c (W:World):Calls Tryz.prog 33 #[.int .i64 1] W fun e w'=>e=.returned (.int .i64 2)∧w'=W:=by
  go_enter Tryz.func33,Tryz.ntmps33
  go_wp2
  go_ret
  exact ⟨rfl,rfl⟩
def NewS (W w:World) (sb lb:Nat) (d:Int) (c n ds:ByteArray):Prop:=W.heap.size≤sb∧∃ pc qc,W.heap.size≤pc∧W.heap.size≤qc∧SiAt w sb lb d c n ds pc 0 none 0 0 0∧E1 w pc qc 0 0 0
set_option maxHeartbeats 4000000 in
theorem snew_yes (lb b:Nat) (d:Int) (c n ds:ByteArray) (L:Nat) (W:World) (hl:W.cell? ⟨lb,0,none⟩=some (.pointer (some ⟨b,0,none⟩))) (h0:¬ d<0) (h1:¬ (L:Int)≤d)
    (HL:Hid (∀ w,Below W.heap.size W w→Calls Tryz.prog 21 #[.pointer (some ⟨b,0,none⟩)] w fun e w'=>e=.returned (.int .i64 (L:Int))∧w'=w))
    (HR:Hid (∀ w:World,Calls Tryz.prog 31 #[.agg #[.bool false,.string c,.string n,.string ds]] w fun e w'=>e=.returned (.int .i64 0)∧Below w.heap.size w w')) :
    Calls Tryz.prog 11 #[.pointer (some ⟨lb,0,none⟩),.int .i64 d,.int .i64 3,.agg #[.bool false,.string c,.string n,.string ds],.int .i64 1] W fun e w'=>∃ sb,e=.returned (.tuple #[.pointer (some ⟨sb,0,none⟩),.int .i64 0])∧NewS W w' sb lb d c n ds∧Below W.heap.size W w':=by
  have hlt:lb<W.heap.size:=World.block_lt_of_cell? _ _ hl
  have B0:Hid (Below W.heap.size W (W.alloc (.cells #[.bool false,.string c,.string n,.string ds] 42))):=(Below.refl _ _).alloc (Nat.le_refl _) _
  have hl2:(W.alloc (.cells #[.bool false,.string c,.string n,.string ds] 42)).cell? ⟨lb,0,none⟩=some (.pointer (some ⟨b,0,none⟩)):=(B0.out.cell (p:=⟨lb,0,none⟩) hlt).trans hl
  have HC:Hid (∀ w:World,Calls Tryz.prog 32 #[.int .i64 1] w fun e w'=>e=.returned (.tuple #[.pointer (some ⟨w.heap.size+1,0,none⟩),.int .i64 0])∧E1 w' (w.heap.size+1) w.heap.size 0 0 0∧Below w.heap.size w w'):=c1new
  have HW:Hid (∀ w:World,Calls Tryz.prog 33 #[.int .i64 1] w fun e w'=>e=.returned (.int .i64 2)∧w'=w):=words1_c
  go_enter Tryz.func11,Tryz.ntmps11
  go_upto_region 12 with (first
    | (go_at_call 29;refine (lwld_c lb _ _ hl2).mono ?_;rintro e w' ⟨rfl,rfl⟩)
    | (go_at_call 21;refine (HL.out _ B0.out).mono ?_;rintro e w' ⟨rfl,rfl⟩)
    | (go_at_call 30;go_in)
    | (go_at_call 31;refine (HR.out _).mono ?_;rintro e w1 ⟨rfl,hb⟩;have B1:Hid (Below W.heap.size W w1):=bstep B0.out hb;have hs1:W.heap.size<w1.heap.size:=(by have:=hb.size;simp at this;omega);have D1:Hid (w1.heap[W.heap.size]?=some (.cells #[.bool false,.string c,.string n,.string ds] 42 (0,0))):=(hb.block W.heap.size (by simp)).trans (halloc1 _ _);clear hb HR)
    | (go_at_call 32;refine (HC.out _).mono ?_;rintro e w2 ⟨rfl,he,hb⟩;have B2:Hid (Below W.heap.size W w2):=bstep B1.out hb;have E2:Hid (E1 w2 (w1.heap.size+1) w1.heap.size 0 0 0):=he;have d2:w2.heap[W.heap.size]?=some (.cells #[.bool false,.string c,.string n,.string ds] 42 (0,0)):=(hb.block W.heap.size hs1).trans D1.out;have x0:w2.cell? ⟨W.heap.size,0,none⟩=some (.bool false):=(cell_of_row w2 _ 0 _ _ _ d2).trans rfl;have x1:w2.cell? ⟨W.heap.size,1,none⟩=some (.string c):=(cell_of_row w2 _ 1 _ _ _ d2).trans rfl;have x2:w2.cell? ⟨W.heap.size,2,none⟩=some (.string n):=(cell_of_row w2 _ 2 _ _ _ d2).trans rfl;have x3:w2.cell? ⟨W.heap.size,3,none⟩=some (.string ds):=(cell_of_row w2 _ 3 _ _ _ d2).trans rfl;have HZ:Hid (W.heap.size≤w1.heap.size):=B1.out.size;clear he hb d2 D1 HC B1))
  go_region_with (go_at_call 33;refine (HW.out _).mono ?_;rintro e w' ⟨rfl,hw⟩;obtain rfl:=hw.symm)
  all_goals go_wp2
  all_goals go_ret2
  all_goals refine ⟨w2.heap.size,by first|rfl|simp,⟨B2.out.size,w1.heap.size+1,w1.heap.size,by have:=HZ.out;omega,HZ.out,?_,E2.out.keep ?_ ?_⟩,?_⟩
  all_goals first
    | exact halloc1 _ _
    | exact halloc1 w2.drew _
    | exact Below.heap_alloc _ _ _ E2.out.lt.1
    | exact Below.heap_alloc _ _ _ E2.out.lt.2
    | exact B2.out.drew.alloc B2.out.size _
    | exact (B2.out.alloc B2.out.size _).drew
def tgC (m1 m2:Int) (mf:Bool) (dm:Int) (nm:ByteArray) (r1 r2 er:Int):Array Value:=#[.int .i64 m1,.int .i64 m2,.bool mf,.int .i64 dm,.string nm,.int .i64 0,.int .i64 0,.int .i64 r1,.int .i64 r2,.int .i64 er]
def TgAt (w:World) (tb:Nat) (m1 m2:Int) (mf:Bool) (dm:Int) (nm:ByteArray) (r1 r2 er:Int):Prop:=w.heap[tb]?=some (.cells (tgC m1 m2 mf dm nm r1 r2 er) 117 (0,0))
theorem TgAt.cells {w:World} {tb:Nat} {m1 m2:Int} {mf:Bool} {dm:Int} {nm:ByteArray} {r1 r2 er:Int} (h:TgAt w tb m1 m2 mf dm nm r1 r2 er) :
    (w.cell? ⟨tb,0,none⟩=some (.int .i64 m1)∧w.cell? ⟨tb,1,none⟩=some (.int .i64 m2)∧w.cell? ⟨tb,2,none⟩=some (.bool mf)∧w.cell? ⟨tb,3,none⟩=some (.int .i64 dm)∧w.cell? ⟨tb,4,none⟩=some (.string nm))∧(w.cell? ⟨tb,5,none⟩=some (.int .i64 0)∧w.cell? ⟨tb,7,none⟩=some (.int .i64 r1)∧w.cell? ⟨tb,8,none⟩=some (.int .i64 r2)∧w.cell? ⟨tb,9,none⟩=some (.int .i64 er))∧(∀ k,w.frozen? ⟨tb,k,none⟩=false)∧tb<w.heap.size:=by
  have g:∀ k,w.cell? ⟨tb,k,none⟩=(tgC m1 m2 mf dm nm r1 r2 er)[k]?:=fun k=>cell_of_row w tb k _ _ _ h
  exact ⟨⟨g 0,g 1,g 2,g 3,g 4⟩,⟨g 5,g 7,g 8,g 9⟩,fun k=>frozen_of_row w tb k _ _ h,(Array.getElem?_eq_some_iff.1 h).1⟩
theorem convT_up (b:Nat) (c:Array Value) (hs:c.size=10) (w:World) (h:w.heap[b]?=some (.cells c 117 (0,0))) :
    (convert 98 96 (.pointer (some ⟨b,0,none⟩))).run Tryz.prog w=.ok (.pointer (some ⟨b,0,none⟩)) w:=by
  have h1:w.shape? b=some (117,10):=by simp [World.shape?,h,hs]
  have h2:liesAt Tryz.prog Tryz.prog.depth 117 (10 / Tryz.prog.cellsOf 117) 0 117 1=true:=by kernel_rfl
  have h3:=Tryz.sizeOf117 w
  simp [convert,Conv.unsafePointer,Conv.seenAt,viewAt,variablesAt,run_underlying Tryz.underlying98,run_underlying Tryz.underlying96,h1,h2,h3,Result.andThen]
theorem convT_up0 (w:World):(convert 98 96 (.pointer none)).run Tryz.prog w=.ok (.pointer none) w:=by
  simp [convert,Conv.unsafePointer,run_underlying Tryz.underlying98,run_underlying Tryz.underlying96,Result.andThen]
theorem convT_to (b:Nat) (v:Value) (w:World) (h:w.cell? ⟨b,0,none⟩=some v):(convert 96 98 (.pointer (some ⟨b,0,none⟩))).run Tryz.prog w=.ok (.pointer (some ⟨b,0,none⟩)) w :=
  run_convert_to_unsafe Tryz.underlying96 Tryz.underlying98 (by kernel_rfl) h
theorem tload0 (q o:Nat) (W:World) (h0:W.cell? ⟨q,o,none⟩=some (.pointer none)):Calls Tryz.prog 40 #[.pointer (some ⟨q,o,none⟩)] W fun e w'=>e=.returned (.pointer none)∧w'=W:=by
  have ha:=run_call_loadP (P:=Tryz.prog) Tryz.func67 (by kernel_rfl) (by kernel_rfl) (by kernel_rfl) (by kernel_rfl) h0
  have hc:=convT_up0 W
  go_enter Tryz.func40,Tryz.ntmps40
  go_wp2
  go_ret
  exact ⟨rfl,rfl⟩
theorem tload1 (q o tb:Nat) (c:Array Value) (hs:c.size=10) (W:World) (h0:W.cell? ⟨q,o,none⟩=some (.pointer (some ⟨tb,0,none⟩))) (ht:W.heap[tb]?=some (.cells c 117 (0,0))):Calls Tryz.prog 40 #[.pointer (some ⟨q,o,none⟩)] W fun e w'=>e=.returned (.pointer (some ⟨tb,0,none⟩))∧w'=W:=by
  have ha:=run_call_loadP (P:=Tryz.prog) Tryz.func67 (by kernel_rfl) (by kernel_rfl) (by kernel_rfl) (by kernel_rfl) h0
  have hc:=convT_up tb c hs W ht
  clear ht
  go_enter Tryz.func40,Tryz.ntmps40
  go_wp2
  go_ret
  exact ⟨rfl,rfl⟩
theorem tstore_c (q o tb:Nat) (u v:Value) (W:World) (h0:W.cell? ⟨q,o,none⟩=some u) (f0:W.frozen? ⟨q,o,none⟩=false) (ht:W.cell? ⟨tb,0,none⟩=some v) :
    Calls Tryz.prog 145 #[.pointer (some ⟨q,o,none⟩),.pointer (some ⟨tb,0,none⟩)] W fun e w'=>e=.returned (.tuple #[])∧w'=W.setCell ⟨q,o,none⟩ (.pointer (some ⟨tb,0,none⟩)):=by
  have ha:=run_call_storeP (P:=Tryz.prog) Tryz.func185 (by kernel_rfl) (by kernel_rfl) (by kernel_rfl) (by kernel_rfl) (y:=some ⟨tb,0,none⟩) h0 f0
  have hc:=convT_to tb v W ht
  go_enter Tryz.func145,Tryz.ntmps145
  go_wp2
  exact bodyPost_end (results_none rfl _ _ _) rfl ⟨rfl,rfl⟩
theorem misfit_c (fl:Int) (W:World):Calls Tryz.prog 143 #[.int .i64 3,.int .i64 fl] W fun e w'=>e=.returned (.bool (bits .and .i64 fl 8 != 0))∧w'=W:=by
  go_enter Tryz.func143,Tryz.ntmps143
  go_wp2
  go_ret
  exact ⟨rfl,rfl⟩
theorem way_fin {W w5:World} {tb:Nat} {m1 m2:Int} {mf:Bool} {dm:Int} {nm:ByteArray} {r1 r2 er:Int} (hT:TgAt W tb m1 m2 mf dm nm 0 0 0) (hl:tb<W.heap.size) (hb:Below W.heap.size W w5):TgAt (((w5.setCell ⟨tb,7,none⟩ (.int .i64 r1)).setCell ⟨tb,8,none⟩ (.int .i64 r2)).setCell ⟨tb,9,none⟩ (.int .i64 er)) tb m1 m2 mf dm nm r1 r2 er∧Tch (fun k=>k=tb) W (((w5.setCell ⟨tb,7,none⟩ (.int .i64 r1)).setCell ⟨tb,8,none⟩ (.int .i64 r2)).setCell ⟨tb,9,none⟩ (.int .i64 er)):=by
  have h5:w5.heap[tb]?=some (.cells (tgC m1 m2 mf dm nm 0 0 0) 117 (0,0)):=(hb.block tb hl).trans hT
  refine ⟨?_,Tch.set (S:=fun k=>k=tb) (Tch.set (S:=fun k=>k=tb) (Tch.set (S:=fun k=>k=tb) ((Tch.refl _ W).bel hb) (.inl rfl) _) (.inl rfl) _) (.inl rfl) _⟩
  unfold TgAt
  rw [Go.Joins.block_setCell (Go.Joins.block_setCell (Go.Joins.block_setCell h5 _) _)]
  rfl
set_option maxHeartbeats 4000000 in
theorem way_c (sb lb b tb:Nat) (d:Int) (c n ds:ByteArray) (pc:Nat) (rd:Int) (tp:Option Addr) (ms od om:Int) (m1 m2:Int) (mf:Bool) (dm:Int) (nm:ByteArray) (r1 r2 er:Int) (W:World)
    (hS:SiAt W sb lb d c n ds pc rd tp ms od om) (hT:TgAt W tb m1 m2 mf dm nm 0 0 0) (hl:W.cell? ⟨lb,0,none⟩=some (.pointer (some ⟨b,0,none⟩)))
    (HS:Hid (∀ w,Below W.heap.size W w→Calls Tryz.prog 183 #[.pointer (some ⟨b,0,none⟩),.int .i64 d,.agg #[.bool false,.string c,.string n,.string ds],.agg #[.int .i64 m1,.int .i64 m2]] w fun e w'=>e=.returned (.tuple #[.agg #[.int .i64 r1,.int .i64 r2],.int .i64 er])∧Below w.heap.size w w')) :
    Calls Tryz.prog 144 #[.pointer (some ⟨sb,0,none⟩),.pointer (some ⟨tb,0,none⟩)] W fun e w'=>e=.returned (.tuple #[])∧TgAt w' tb m1 m2 mf dm nm r1 r2 er∧Tch (fun k=>k=tb) W w':=by
  obtain ⟨⟨s0,s1,s2⟩,⟨s3,s4,s5,s6⟩,_,_,_,hsl⟩:=hS.cells
  obtain ⟨⟨t0,t1,_,_,_⟩,⟨_,t7,t8,t9⟩,tf,htl⟩:=hT.cells
  have f7:=tf 7
  have f8:=tf 8
  have f9:=tf 9
  have HT:Hid (TgAt W tb m1 m2 mf dm nm 0 0 0):=hT
  have hn1:¬ tb=sb:=by rintro rfl;unfold SiAt at hS;unfold TgAt at hT;rw [hS] at hT;cases hT
  have hn2:¬ sb=tb:=fun e=>hn1 e.symm
  have hlt:lb<W.heap.size:=World.block_lt_of_cell? _ _ hl
  have HL:Hid (Calls Tryz.prog 29 #[.pointer (some ⟨lb,0,none⟩)] W fun e w'=>e=.returned (.pointer (some ⟨b,0,none⟩))∧w'=W):=lwld_c lb _ _ hl
  have HF:Hid (∀ w:World,Below W.heap.size W w→w.cell? ⟨tb,7,none⟩=some (.int .i64 0)∧w.cell? ⟨tb,8,none⟩=some (.int .i64 0)∧w.cell? ⟨tb,9,none⟩=some (.int .i64 0)∧w.frozen? ⟨tb,7,none⟩=false∧w.frozen? ⟨tb,8,none⟩=false∧w.frozen? ⟨tb,9,none⟩=false):=fun w hb=>⟨(hb.cell (p:=⟨tb,7,none⟩) htl).trans t7,(hb.cell (p:=⟨tb,8,none⟩) htl).trans t8,(hb.cell (p:=⟨tb,9,none⟩) htl).trans t9,(hb.frozen (p:=⟨tb,7,none⟩) htl).trans f7,(hb.frozen (p:=⟨tb,8,none⟩) htl).trans f8,(hb.frozen (p:=⟨tb,9,none⟩) htl).trans f9⟩
  have HG:Hid (∀ w:World,Below W.heap.size W w→w.cell? ⟨sb,1,none⟩=some (.int .i64 d)∧w.cell? ⟨sb,3,none⟩=some (.bool false)∧w.cell? ⟨sb,4,none⟩=some (.string c)∧w.cell? ⟨sb,5,none⟩=some (.string n)∧w.cell? ⟨sb,6,none⟩=some (.string ds)∧w.cell? ⟨tb,0,none⟩=some (.int .i64 m1)∧w.cell? ⟨tb,1,none⟩=some (.int .i64 m2)):=fun w hb=>⟨(hb.cell (p:=⟨sb,1,none⟩) hsl).trans s1,(hb.cell (p:=⟨sb,3,none⟩) hsl).trans s3,(hb.cell (p:=⟨sb,4,none⟩) hsl).trans s4,(hb.cell (p:=⟨sb,5,none⟩) hsl).trans s5,(hb.cell (p:=⟨sb,6,none⟩) hsl).trans s6,(hb.cell (p:=⟨tb,0,none⟩) htl).trans t0,(hb.cell (p:=⟨tb,1,none⟩) htl).trans t1⟩
  clear hS hT tf hl t7 t8 t9 f7 f8 f9
  go_enter Tryz.func144,Tryz.ntmps144
  go_upto_region 5 with (go_at_call 29;refine HL.out.mono ?_;rintro e w' ⟨rfl,hw⟩;obtain rfl:=hw.symm;clear HL)
  go_region_with (first
    | (go_at_call 183;refine (HS.out _ (Below.refl _ _).drew).mono ?_;rintro e w5 ⟨rfl,hb0⟩;have hb:=bstep (Below.refl _ W).drew hb0;obtain ⟨g7,g8,g9,k7,k8,k9⟩:=HF.out w5 hb;obtain ⟨u1,u2,u3,u4,u5,u6,u7⟩:=HG.out w5 hb;have B5:Hid (Below W.heap.size W w5):=hb;clear hb hb0 HS HF HG))
  all_goals first
    | exact bodyPost_end (results_none rfl _ _ _) rfl ⟨rfl,way_fin HT.out htl B5.out⟩
    | (simp only [Exit.inBlock];exact bodyPost_end (results_none rfl _ _ _) rfl ⟨rfl,way_fin HT.out htl B5.out⟩)
    | (go_wp2;exact bodyPost_end (results_none rfl _ _ _) rfl ⟨rfl,way_fin HT.out htl B5.out⟩)
theorem callMet19 (vs:Array Value) (w:World):(callFunc 141 vs).run Tryz.prog w=.ok (.enter 141 vs) w:=by simp [go_sem]
set_option maxHeartbeats 4000000 in
theorem res_no (sb lb b:Nat) (d:Int) (c n ds:ByteArray) (pc:Nat) (rd:Int) (tp:Option Addr) (ms od om:Int) (m1 m2 E:Int) (hE:¬ E=0) (W:World)
    (hS:SiAt W sb lb d c n ds pc rd tp ms od om) (hl:W.cell? ⟨lb,0,none⟩=some (.pointer (some ⟨b,0,none⟩)))
    (HM:Hid (∀ w,Below W.heap.size W w→Calls Tryz.prog 141 #[.pointer (some ⟨b,0,none⟩),.int .i64 d,.agg #[.bool false,.string c,.string n,.string ds]] w fun e w'=>e=.returned (.tuple #[.agg #[.int .i64 m1,.int .i64 m2],.int .i64 E])∧Below w.heap.size w w')) :
    Calls Tryz.prog 93 #[.pointer (some ⟨sb,0,none⟩)] W fun e w'=>e=.returned (.int .i64 E)∧Below W.heap.size W w':=by
  obtain ⟨⟨s0,s1,s2⟩,⟨s3,s4,s5,s6⟩,_,_,_,hsl⟩:=hS.cells
  have HSi:Hid (SiAt W sb lb d c n ds pc rd tp ms od om):=hS
  have HLt:Hid (lb<W.heap.size):=World.block_lt_of_cell? _ _ hl
  have HLc:Hid (W.cell? ⟨lb,0,none⟩=some (.pointer (some ⟨b,0,none⟩))):=hl
  have HL:Hid (Calls Tryz.prog 29 #[.pointer (some ⟨lb,0,none⟩)] W fun e w'=>e=.returned (.pointer (some ⟨b,0,none⟩))∧w'=W):=lwld_c lb _ _ hl
  clear hS hl
  go_enter Tryz.func93,Tryz.ntmps93
  go_upto_region 2 with (go_at_call 29;refine HL.out.mono ?_;rintro e w' ⟨rfl,hw⟩;obtain rfl:=hw.symm;clear HL)
  go_cut [4,5] (fun s4 s5 wx=>Hid (∃ g,s4=.pointer (some ⟨g,0,none⟩)∧s5=.int .i64 E∧W.heap.size≤g∧wx.heap[g]?=some (.cells #[.int .i64 m1,.int .i64 m2] 45 (0,0))∧Below W.heap.size W wx))
  case first =>
    go_region_law (first
      | (refine step_call3 rfl 141 callMet19 (.tmp 17) (.tmp 21) (.tmp 25) 24 3 42 rfl (.pointer (some ⟨b, 0, none⟩)) (.int .i64 d) (.agg #[.bool false, .string c, .string n, .string ds]) (by simp [Act.eval]) (by simp [Act.eval]) (by simp [Act.eval]) (HM.out _ (by first | exact (Below.refl _ W).drew | exact ((Below.refl _ W).drew).alloc (by simp) _ | exact ((Below.refl _ W).alloc (Nat.le_refl _) _).drew)) ?_; rintro e w3 ⟨rfl, hb⟩; refine ⟨_, rfl, ?_⟩
         have X3:Hid (Below W.heap.size W w3):=bstep (by first|exact (Below.refl _ W).drew|exact ((Below.refl _ W).drew).alloc (by simp) _|exact ((Below.refl _ W).alloc (Nat.le_refl _) _).drew) hb
         (try (have zzB:Hid (w3.heap[W.heap.size]?=some (.cells #[.int .i64 0,.int .i64 0] 45 (0,0))):=(hb.block W.heap.size (by simp;done)).trans (halloc1 _ _);have zz0:w3.cell? ⟨W.heap.size,0,none⟩=some (.int .i64 0):=(cell_of_row w3 _ 0 _ _ _ zzB.out).trans rfl;have zz1:w3.cell? ⟨W.heap.size,1,none⟩=some (.int .i64 0):=(cell_of_row w3 _ 1 _ _ _ zzB.out).trans rfl;have zzf:=fun k=>frozen_of_row w3 W.heap.size k _ _ zzB.out))
         clear hb HM))
    all_goals (go_wp2_with fail)
    all_goals go_meet
    all_goals first
      | exact ⟨_,rfl,rfl,X3.out.size,halloc1 _ _,X3.out.alloc X3.out.size _⟩
      | exact ⟨_,rfl,rfl,Nat.le_refl _,by rw [Go.Joins.block_setCell (Go.Joins.block_setCell zzB.out _)];rfl,(X3.out.setCell (by simp) _).setCell (by simp) _⟩
  case rest =>
    obtain ⟨g,rfl,rfl,hg,hgB,hBB⟩:=hcut.out
    have BC:Hid (Below W.heap.size W wc):=hBB
    have hE2:(E == 0)=false:=by simpa using hE
    clear hcut hgB hBB
    go_wp2
    go_ret
    exact ⟨rfl,BC.out⟩
set_option maxHeartbeats 8000000 in
theorem res_yes (sb lb b:Nat) (d:Int) (c n ds:ByteArray) (pc:Nat) (rd:Int) (tp:Option Addr) (ms od om:Int) (m1 m2:Int) (dm:Int) (nm:ByteArray) (r1 r2 er:Int) (e2:Int) (yn yd:ByteArray) (fl lo st:Int) (mf:Bool) (hmf:(bits .and .i64 fl 8 != 0)=mf) (W:World)
    (hS:SiAt W sb lb d c n ds pc rd tp ms od om) (hl:W.cell? ⟨lb,0,none⟩=some (.pointer (some ⟨b,0,none⟩)))
    (HM:Hid (∀ w,Below W.heap.size W w→Calls Tryz.prog 141 #[.pointer (some ⟨b,0,none⟩),.int .i64 d,.agg #[.bool false,.string c,.string n,.string ds]] w fun e w'=>e=.returned (.tuple #[.agg #[.int .i64 m1,.int .i64 m2],.int .i64 0])∧Below w.heap.size w w'))
    (HP:Hid (∀ w:World,Calls Tryz.prog 52 #[.string c] w fun e w'=>e=.returned (.tuple #[.agg #[.int .i64 dm,.string nm],.int .i64 e2])∧Below w.heap.size w w'))
    (HW:Hid (∀ w,Below W.heap.size W w→Calls Tryz.prog 142 #[.pointer (some ⟨b,0,none⟩),.agg #[.int .i64 m1,.int .i64 m2]] w fun e w'=>(∃ sa sk so,e=.returned (.tuple #[.agg #[.string yn,.string yd,.int .i64 fl,.int .i64 lo,.int .i64 st,.slice sa sk so],.int .i64 0]))∧Below w.heap.size w w'))
    (HSp:Hid (∀ w,Below W.heap.size W w→Calls Tryz.prog 183 #[.pointer (some ⟨b,0,none⟩),.int .i64 d,.agg #[.bool false,.string c,.string n,.string ds],.agg #[.int .i64 m1,.int .i64 m2]] w fun e w'=>e=.returned (.tuple #[.agg #[.int .i64 r1,.int .i64 r2],.int .i64 er])∧Below w.heap.size w w')) :
    Calls Tryz.prog 93 #[.pointer (some ⟨sb,0,none⟩)] W fun e w'=>e=.returned (.int .i64 0)∧(∃ tb,W.heap.size≤tb∧SiAt w' sb lb d c n ds pc rd (some ⟨tb,0,none⟩) ms od om∧TgAt w' tb m1 m2 mf dm nm r1 r2 er)∧Tch (fun k=>k=sb) W w':=by
  obtain ⟨E,hE0⟩:∃ E:Int,E=0:=⟨_,rfl⟩
  rw [← hE0] at HM
  have HE:Hid (E=0):=hE0
  clear hE0
  obtain ⟨⟨s0,s1,s2⟩,⟨s3,s4,s5,s6⟩,_,_,_,hsl⟩:=hS.cells
  have HSi:Hid (SiAt W sb lb d c n ds pc rd tp ms od om):=hS
  have HLt:Hid (lb<W.heap.size):=World.block_lt_of_cell? _ _ hl
  have HLc:Hid (W.cell? ⟨lb,0,none⟩=some (.pointer (some ⟨b,0,none⟩))):=hl
  have HL:Hid (Calls Tryz.prog 29 #[.pointer (some ⟨lb,0,none⟩)] W fun e w'=>e=.returned (.pointer (some ⟨b,0,none⟩))∧w'=W):=lwld_c lb _ _ hl
  clear hS hl
  go_enter Tryz.func93,Tryz.ntmps93
  go_upto_region 2 with (go_at_call 29;refine HL.out.mono ?_;rintro e w' ⟨rfl,hw⟩;obtain rfl:=hw.symm;clear HL)
  go_cut [4,5] (fun s4 s5 wx=>Hid (∃ g,s4=.pointer (some ⟨g,0,none⟩)∧s5=.int .i64 E∧W.heap.size≤g∧wx.heap[g]?=some (.cells #[.int .i64 m1,.int .i64 m2] 45 (0,0))∧Below W.heap.size W wx))
  case first =>
    go_region_law (first
      | (refine step_call3 rfl 141 callMet19 (.tmp 17) (.tmp 21) (.tmp 25) 24 3 42 rfl (.pointer (some ⟨b, 0, none⟩)) (.int .i64 d) (.agg #[.bool false, .string c, .string n, .string ds]) (by simp [Act.eval]) (by simp [Act.eval]) (by simp [Act.eval]) (HM.out _ (by first | exact (Below.refl _ W).drew | exact ((Below.refl _ W).drew).alloc (by simp) _ | exact ((Below.refl _ W).alloc (Nat.le_refl _) _).drew)) ?_; rintro e w3 ⟨rfl, hb⟩; refine ⟨_, rfl, ?_⟩
         have X3:Hid (Below W.heap.size W w3):=bstep (by first|exact (Below.refl _ W).drew|exact ((Below.refl _ W).drew).alloc (by simp) _|exact ((Below.refl _ W).alloc (Nat.le_refl _) _).drew) hb
         (try (have zzB:Hid (w3.heap[W.heap.size]?=some (.cells #[.int .i64 0,.int .i64 0] 45 (0,0))):=(hb.block W.heap.size (by simp;done)).trans (halloc1 _ _);have zz0:w3.cell? ⟨W.heap.size,0,none⟩=some (.int .i64 0):=(cell_of_row w3 _ 0 _ _ _ zzB.out).trans rfl;have zz1:w3.cell? ⟨W.heap.size,1,none⟩=some (.int .i64 0):=(cell_of_row w3 _ 1 _ _ _ zzB.out).trans rfl;have zzf:=fun k=>frozen_of_row w3 W.heap.size k _ _ zzB.out))
         clear hb HM))
    all_goals (go_wp2_with fail)
    all_goals go_meet
    all_goals first
      | exact ⟨_,rfl,rfl,X3.out.size,halloc1 _ _,X3.out.alloc X3.out.size _⟩
      | exact ⟨_,rfl,rfl,Nat.le_refl _,by rw [Go.Joins.block_setCell (Go.Joins.block_setCell zzB.out _)];rfl,(X3.out.setCell (by simp) _).setCell (by simp) _⟩
  case rest =>
    obtain ⟨g,rfl,rfl,hg,hgB,hBB⟩:=hcut.out
    obtain ⟨wa,rfl⟩:∃ wa,wa=wc:=⟨_,rfl⟩
    rw [HE.out]
    have BC:Hid (Below W.heap.size W wa):=hBB
    have GB:Hid (wa.heap[g]?=some (.cells #[.int .i64 m1,.int .i64 m2] 45 (0,0))):=hgB
    have hgl:g<wa.heap.size:=(Array.getElem?_eq_some_iff.1 hgB).1
    have a4:wa.cell? ⟨sb,4,none⟩=some (.string c):=(hBB.cell (p:=⟨sb,4,none⟩) hsl).trans s4
    have hMf:=misfit_c fl
    rw [hmf] at hMf
    have HMf:Hid (∀ w:World,Calls Tryz.prog 143 #[.int .i64 3,.int .i64 fl] w fun e w'=>e=.returned (.bool mf)∧w'=w):=hMf
    clear hcut hgB hBB hMf s4 s0 s1 s3 s5 s6
    go_upto_region 7 with (first
      | (go_at_call 52;refine (HP.out _).mono ?_;rintro e w1 ⟨rfl,hb⟩;have B1:Hid (Below W.heap.size W w1):=bstep BC.out hb;have G1:Hid (w1.heap[g]?=some (.cells #[.int .i64 m1,.int .i64 m2] 45 (0,0))):=(hb.block g hgl).trans GB.out;have hz1:g<w1.heap.size:=Nat.lt_of_lt_of_le hgl hb.size;have g0:w1.cell? ⟨g,0,none⟩=some (.int .i64 m1):=(cell_of_row w1 _ 0 _ _ _ G1.out).trans rfl;have g1:w1.cell? ⟨g,1,none⟩=some (.int .i64 m2):=(cell_of_row w1 _ 1 _ _ _ G1.out).trans rfl;clear hb HP BC GB a4)
      | (go_at_call 142; refine (HW.out _ (B1.out.alloc B1.out.size _)).mono ?_; rintro e w2 ⟨⟨sa, sk, so, rfl⟩, hb⟩
         have B2:Hid (Below W.heap.size W w2):=bstep (B1.out.alloc B1.out.size _) hb
         have k1:w2.heap[w1.heap.size]?=some (.cells #[.int .i64 dm,.string nm] 49 (0,0)):=(hb.block w1.heap.size (by simp)).trans (halloc1 _ _)
         have k2:w2.heap[g]?=some (.cells #[.int .i64 m1,.int .i64 m2] 45 (0,0)):=(hb.block g (by simp;omega)).trans ((Below.heap_alloc _ _ _ hz1).trans G1.out)
         have q0:w2.cell? ⟨g,0,none⟩=some (.int .i64 m1):=(cell_of_row w2 _ 0 _ _ _ k2).trans rfl
         have q1:w2.cell? ⟨g,1,none⟩=some (.int .i64 m2):=(cell_of_row w2 _ 1 _ _ _ k2).trans rfl
         have q2:w2.cell? ⟨w1.heap.size,0,none⟩=some (.int .i64 dm):=(cell_of_row w2 _ 0 _ _ _ k1).trans rfl
         have q3:w2.cell? ⟨w1.heap.size,1,none⟩=some (.string nm):=(cell_of_row w2 _ 1 _ _ _ k1).trans rfl
         have q4:w2.cell? ⟨sb,2,none⟩=some (.int .i64 3):=(B2.out.cell (p:=⟨sb,2,none⟩) hsl).trans s2
         have hz2:g<w2.heap.size:=(Array.getElem?_eq_some_iff.1 k2).1
         have hz3:w1.heap.size<w2.heap.size:=(Array.getElem?_eq_some_iff.1 k1).1
         have hz4:sb<w2.heap.size:=Nat.lt_of_lt_of_le hsl B2.out.size
         clear hb HW B1 G1 k1 k2 g0 g1))
    obtain ⟨U,hU⟩:∃ U,U=w2.alloc (.cells #[.string yn,.string yd,.int .i64 fl,.int .i64 lo,.int .i64 st,.slice sa sk so] 127):=⟨_,rfl⟩
    have BU0:Below w2.heap.size w2 U:=by rw [hU];exact (Below.refl _ _).alloc (Nat.le_refl _) _
    have BU:Hid (Below W.heap.size W U):=bstep B2.out BU0
    have v0:U.cell? ⟨g,0,none⟩=some (.int .i64 m1):=(BU0.cell (p:=⟨g,0,none⟩) hz2).trans q0
    have v1:U.cell? ⟨g,1,none⟩=some (.int .i64 m2):=(BU0.cell (p:=⟨g,1,none⟩) hz2).trans q1
    have v2:U.cell? ⟨w1.heap.size,0,none⟩=some (.int .i64 dm):=(BU0.cell (p:=⟨w1.heap.size,0,none⟩) hz3).trans q2
    have v3:U.cell? ⟨w1.heap.size,1,none⟩=some (.string nm):=(BU0.cell (p:=⟨w1.heap.size,1,none⟩) hz3).trans q3
    have v4:U.cell? ⟨sb,2,none⟩=some (.int .i64 3):=(BU0.cell (p:=⟨sb,2,none⟩) hz4).trans q4
    have v5:U.cell? ⟨w2.heap.size,2,none⟩=some (.int .i64 fl):=by rw [hU];exact (cell_of_row _ w2.heap.size 2 _ _ _ (halloc1 _ _)).trans rfl
    have HUq:Hid (U=w2.alloc (.cells #[.string yn,.string yd,.int .i64 fl,.int .i64 lo,.int .i64 st,.slice sa sk so] 127)):=hU
    rw [← hU]
    clear hU q0 q1 q2 q3 q4 BU0 B2
    go_cut [10] (fun s10 wx=>Hid (∃ tb,s10=.pointer (some ⟨tb,0,none⟩)∧W.heap.size≤tb∧TgAt wx tb m1 m2 mf dm nm 0 0 0∧Below W.heap.size W wx))
    case first =>
      go_region_held3 (fun w'=>w'.cell? ⟨g,0,none⟩=some (.int .i64 m1)∧w'.cell? ⟨g,1,none⟩=some (.int .i64 m2)∧w'.cell? ⟨w1.heap.size,0,none⟩=some (.int .i64 dm)∧w'.cell? ⟨w1.heap.size,1,none⟩=some (.string nm)∧w'.cell? ⟨sb,2,none⟩=some (.int .i64 3)∧w'.cell? ⟨w2.heap.size,2,none⟩=some (.int .i64 fl)) (go_keep) (first
        | (go_at_call 143;refine (HMf.out _).mono ?_;rintro e w' ⟨rfl,hw⟩;obtain rfl:=hw.symm))
      all_goals (go_wp2_with fail)
      all_goals go_meet
      all_goals first
        | exact ⟨_,rfl,BU.out.size,halloc1 _ _,(BU.out.alloc BU.out.size _).drew⟩
        | exact ⟨_,rfl,BU.out.size,halloc1 U.drew _,BU.out.drew.alloc BU.out.size _⟩
    case rest =>
      obtain ⟨tb,rfl,htb,hT,hBx⟩:=hcut.out
      obtain ⟨wb,rfl⟩:∃ wb,wb=wc:=⟨_,rfl⟩
      have hSb:SiAt wb sb lb d c n ds pc rd tp ms od om:=HSi.out.keep (hBx.block sb hsl)
      have SB:Hid (SiAt wb sb lb d c n ds pc rd tp ms od om):=hSb
      have lc:wb.cell? ⟨lb,0,none⟩=some (.pointer (some ⟨b,0,none⟩)):=(hBx.cell (p:=⟨lb,0,none⟩) HLt.out).trans HLc.out
      have HWy:Hid (Calls Tryz.prog 144 #[.pointer (some ⟨sb,0,none⟩),.pointer (some ⟨tb,0,none⟩)] wb fun e w'=>e=.returned (.tuple #[])∧TgAt w' tb m1 m2 mf dm nm r1 r2 er∧Tch (fun k=>k=tb) wb w'):=way_c sb lb b tb d c n ds pc rd tp ms od om m1 m2 mf dm nm r1 r2 er wb hSb hT lc (fun w hw=>HSp.out w (bstep hBx hw))
      have BX:Hid (Below W.heap.size W wb):=hBx
      clear hcut hT hBx hSb lc HMf v0 v1 v2 v3 v4 v5 HUq BU HSp
      go_upto_region 9 with (go_at_call 144;refine HWy.out.mono ?_;rintro e w6 ⟨rfl,ht6,hc6⟩;have T6:Hid (TgAt w6 tb m1 m2 mf dm nm r1 r2 er):=ht6;have C6:Hid (Tch (fun k=>k=sb) W w6):=((Tch.refl _ W).bel BX.out).trans hc6 (fun k hk e=>by omega);have S6:SiAt w6 sb lb d c n ds pc rd tp ms od om:=SB.out.keep (hc6.blk sb SB.out.cells.2.2.2.2.2 (by omega));have SS6:Hid (SiAt w6 sb lb d c n ds pc rd tp ms od om):=S6;have HSt:Hid (Calls Tryz.prog 145 #[.pointer (some ⟨sb,10,none⟩),.pointer (some ⟨tb,0,none⟩)] w6 fun e w'=>e=.returned (.tuple #[])∧w'=w6.setCell ⟨sb,10,none⟩ (.pointer (some ⟨tb,0,none⟩))):=tstore_c sb 10 tb _ _ w6 S6.cells.2.2.1.2.2.2 (S6.cells.2.2.2.2.1 10) ht6.cells.1.1;clear ht6 hc6 HWy S6 SB BX)
      go_wp2_with (go_at_call 145;refine HSt.out.mono ?_;rintro e w7 ⟨rfl,rfl⟩)
      go_ret
      exact ⟨rfl,⟨tb,htb,SS6.out.setc 10 _ rfl,(Below.heap_setCell _ _ _ _ (by simp;omega)).trans T6.out⟩,Tch.set (S:=fun k=>k=sb) C6.out (.inl rfl) _⟩
structure RsW (W w:World) (sb lb:Nat) (d:Int) (c n ds:ByteArray) (pc:Nat) (rd:Int) (tp:Option Addr) (ms od om:Int) (pl pe:Nat) (E:Int):Prop where
  si:SiAt w sb lb d c n ds pc rd tp ms od om
  hl:w.heap[pl]?=some (.cells #[.pointer (some ⟨sb,0,none⟩)] 38 (0,0))
  he:w.heap[pe]?=some (.cells #[.int .i64 E] 30 (0,0))
  t:Tch (fun k=>k=sb) W w
set_option maxHeartbeats 2000000 in
theorem clo_no (sb lb:Nat) (d:Int) (c n ds:ByteArray) (pc:Nat) (rd:Int) (pl pe:Nat) (E:Int) (W w0:World) (h0:RsW W w0 sb lb d c n ds pc rd none 1 0 1 pl pe 0) (hpl:W.heap.size≤pl) (hpe:W.heap.size≤pe) (hle:pl≠pe)
    (HR:Hid (∀ w,SiAt w sb lb d c n ds pc rd none 1 0 1→Tch (fun k=>k=sb) W w→Calls Tryz.prog 93 #[.pointer (some ⟨sb,0,none⟩)] w fun e w'=>e=.returned (.int .i64 E)∧(SiAt w' sb lb d c n ds pc rd none 1 0 1)∧Tch (fun k=>k=sb) w w')) :
    Calls Tryz.prog 92 #[.pointer (some ⟨pl,0,none⟩),.pointer (some ⟨pe,0,none⟩)] w0 fun e w'=>e=.returned (.tuple #[])∧RsW W w' sb lb d c n ds pc rd none 1 0 1 pl pe E:=by
  have l0:w0.cell? ⟨pl,0,none⟩=some (.pointer (some ⟨sb,0,none⟩)):=(cell_of_row w0 pl 0 _ _ _ h0.hl).trans rfl
  have hpl0:pl<w0.heap.size:=(Array.getElem?_eq_some_iff.1 h0.hl).1
  have hpe0:pe<w0.heap.size:=(Array.getElem?_eq_some_iff.1 h0.he).1
  have hsl:sb<w0.heap.size:=h0.si.cells.2.2.2.2.2
  have hn1:pl≠sb:=by rintro rfl;have:=h0.hl;rw [h0.si] at this;cases this
  have hn2:pe≠sb:=by rintro rfl;have:=h0.he;rw [h0.si] at this;cases this
  have H0:Hid (RsW W w0 sb lb d c n ds pc rd none 1 0 1 pl pe 0):=h0
  have HC:Hid (Calls Tryz.prog 93 #[.pointer (some ⟨sb,0,none⟩)] w0 fun e w'=>e=.returned (.int .i64 E)∧(SiAt w' sb lb d c n ds pc rd none 1 0 1)∧Tch (fun k=>k=sb) w0 w'):=HR.out w0 h0.si h0.t
  clear h0 HR
  go_enter Tryz.func92,Tryz.ntmps92
  go_wp2_with (go_at_call 93;refine HC.out.mono ?_;rintro e w5 ⟨rfl,h5,t5⟩;have H5:Hid (SiAt w5 sb lb d c n ds pc rd none 1 0 1):=h5;have T5:Hid (Tch (fun k=>k=sb) w0 w5):=t5;have e5:w5.heap[pe]?=some (.cells #[.int .i64 0] 30 (0,0)):=(t5.blk pe hpe0 hn2).trans H0.out.he;have E5:Hid (w5.heap[pe]?=some (.cells #[.int .i64 0] 30 (0,0))):=e5;have x5:w5.cell? ⟨pe,0,none⟩=some (.int .i64 0):=(cell_of_row w5 pe 0 _ _ _ e5).trans rfl;have f5:w5.frozen? ⟨pe,0,none⟩=false:=frozen_of_row w5 pe 0 _ _ e5;clear h5 t5 e5 HC)
  have key:∀ tp,SiAt w5 sb lb d c n ds pc rd tp 1 0 1→RsW W (w5.setCell ⟨pe,0,none⟩ (.int .i64 E)) sb lb d c n ds pc rd tp 1 0 1 pl pe E:=fun tp hs=>⟨hs.keep (Below.heap_setCell _ _ _ _ (fun e=>hn2 e.symm)),(Below.heap_setCell _ _ _ _ hle).trans ((T5.out.blk pl hpl0 hn1).trans H0.out.hl),(by rw [Go.Joins.block_setCell E5.out];rfl),Tch.set (S:=fun k=>k=sb) (H0.out.t.trans T5.out (fun _ _ x=>x)) (.inr hpe) _⟩
  exact bodyPost_end (results_none rfl _ _ _) rfl ⟨rfl,key _ H5.out⟩
set_option maxHeartbeats 2000000 in
theorem clo_yes (sb lb:Nat) (d:Int) (c n ds:ByteArray) (pc:Nat) (rd:Int) (pl pe:Nat) (m1 m2:Int) (mf:Bool) (dm:Int) (nm:ByteArray) (r1 r2 er:Int) (W w0:World) (h0:RsW W w0 sb lb d c n ds pc rd none 1 0 1 pl pe 0) (hpl:W.heap.size≤pl) (hpe:W.heap.size≤pe) (hle:pl≠pe)
    (HR:Hid (∀ w,SiAt w sb lb d c n ds pc rd none 1 0 1→Tch (fun k=>k=sb) W w→Calls Tryz.prog 93 #[.pointer (some ⟨sb,0,none⟩)] w fun e w'=>e=.returned (.int .i64 0)∧(∃ tb,w.heap.size≤tb∧SiAt w' sb lb d c n ds pc rd (some ⟨tb,0,none⟩) 1 0 1∧TgAt w' tb m1 m2 mf dm nm r1 r2 er)∧Tch (fun k=>k=sb) w w')) :
    Calls Tryz.prog 92 #[.pointer (some ⟨pl,0,none⟩),.pointer (some ⟨pe,0,none⟩)] w0 fun e w'=>e=.returned (.tuple #[])∧(∃ tb,W.heap.size≤tb∧RsW W w' sb lb d c n ds pc rd (some ⟨tb,0,none⟩) 1 0 1 pl pe 0∧TgAt w' tb m1 m2 mf dm nm r1 r2 er):=by
  have l0:w0.cell? ⟨pl,0,none⟩=some (.pointer (some ⟨sb,0,none⟩)):=(cell_of_row w0 pl 0 _ _ _ h0.hl).trans rfl
  have hpl0:pl<w0.heap.size:=(Array.getElem?_eq_some_iff.1 h0.hl).1
  have hpe0:pe<w0.heap.size:=(Array.getElem?_eq_some_iff.1 h0.he).1
  have hsl:sb<w0.heap.size:=h0.si.cells.2.2.2.2.2
  have hn1:pl≠sb:=by rintro rfl;have:=h0.hl;rw [h0.si] at this;cases this
  have hn2:pe≠sb:=by rintro rfl;have:=h0.he;rw [h0.si] at this;cases this
  have H0:Hid (RsW W w0 sb lb d c n ds pc rd none 1 0 1 pl pe 0):=h0
  have HC:Hid (Calls Tryz.prog 93 #[.pointer (some ⟨sb,0,none⟩)] w0 fun e w'=>e=.returned (.int .i64 0)∧(∃ tb,w0.heap.size≤tb∧SiAt w' sb lb d c n ds pc rd (some ⟨tb,0,none⟩) 1 0 1∧TgAt w' tb m1 m2 mf dm nm r1 r2 er)∧Tch (fun k=>k=sb) w0 w'):=HR.out w0 h0.si h0.t
  clear h0 HR
  go_enter Tryz.func92,Tryz.ntmps92
  go_wp2_with (go_at_call 93;refine HC.out.mono ?_;rintro e w5 ⟨rfl,h5,t5⟩;have H5:Hid (∃ tb,w0.heap.size≤tb∧SiAt w5 sb lb d c n ds pc rd (some ⟨tb,0,none⟩) 1 0 1∧TgAt w5 tb m1 m2 mf dm nm r1 r2 er):=h5;have T5:Hid (Tch (fun k=>k=sb) w0 w5):=t5;have e5:w5.heap[pe]?=some (.cells #[.int .i64 0] 30 (0,0)):=(t5.blk pe hpe0 hn2).trans H0.out.he;have E5:Hid (w5.heap[pe]?=some (.cells #[.int .i64 0] 30 (0,0))):=e5;have x5:w5.cell? ⟨pe,0,none⟩=some (.int .i64 0):=(cell_of_row w5 pe 0 _ _ _ e5).trans rfl;have f5:w5.frozen? ⟨pe,0,none⟩=false:=frozen_of_row w5 pe 0 _ _ e5;clear h5 t5 e5 HC)
  have key:∀ tp,SiAt w5 sb lb d c n ds pc rd tp 1 0 1→RsW W (w5.setCell ⟨pe,0,none⟩ (.int .i64 0)) sb lb d c n ds pc rd tp 1 0 1 pl pe 0:=fun tp hs=>⟨hs.keep (Below.heap_setCell _ _ _ _ (fun e=>hn2 e.symm)),(Below.heap_setCell _ _ _ _ hle).trans ((T5.out.blk pl hpl0 hn1).trans H0.out.hl),(by rw [Go.Joins.block_setCell E5.out];rfl),Tch.set (S:=fun k=>k=sb) (H0.out.t.trans T5.out (fun _ _ x=>x)) (.inr hpe) _⟩
  obtain ⟨tb,q1,q2,q3⟩:=H5.out
  exact bodyPost_end (results_none rfl _ _ _) rfl ⟨rfl,tb,Nat.le_trans H0.out.t.size q1,key _ q2,(Below.heap_setCell _ _ _ _ (by simp;omega)).trans q3⟩
end Go.Proofs.YtenpnkkkjjdccaaGreat
