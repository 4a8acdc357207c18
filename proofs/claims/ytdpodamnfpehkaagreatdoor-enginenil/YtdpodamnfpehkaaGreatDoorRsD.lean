import Derived.Test.YtdpodamnfpehkaaGreatDoorRsB
import Derived.Test.YtdpodamnfpehkaaGreatDoorTyC
import Derived.Test.YtdpodamnfpehkaaGreatDoorSoD
import Derived.Deep.LoopGhost
set_option maxRecDepth 100000
namespace Go.Proofs.YtdpodamnfpehkaaGreatDoor
open Go.RowKit Go.Maps
def lookR (ps:List Plc) (nm ds:ByteArray) (c:Int):(Int×Int)×Int:=match plcI ps c with
  | none=>((0,0),3)
  | some q=>if ifcI ps c then ((0,0),23) else firR [upR ps nm ds (chL (ps.map nd) c.toNat),oneV ps (candL ps nm ds q.cl),someV (candL ps nm ds q.cl)]
def lifR (ps:List Plc) (nm ds:ByteArray) (c:Int):(Int×Int)×Int:=match plcI ps c with
  | none=>((0,0),3)
  | some q=>if ifcI ps c then firR [ownR ps nm ds c,topR ps nm ds,oneV ps (candL ps nm ds q.cl),someV (candL ps nm ds q.cl)] else ((0,0),23)
theorem rck_none {ps:List Plc} {i:Int} (h:plcI ps i=none):rckI ps i=3:=by rw [rckI,h];rfl
theorem rck_some {ps:List Plc} {i:Int} {q:Plc} (h:plcI ps i=some q):rckI ps i=0:=by rw [rckI,h];rfl
theorem callUp (vs:Array Value) (w:World):(callFunc 266 vs).run Tryz.prog w=.ok (.enter 266 vs) w:=by simp [go_sem]
theorem callOwn (vs:Array Value) (w:World):(callFunc 263 vs).run Tryz.prog w=.ok (.enter 263 vs) w:=by simp [go_sem]
theorem callTop (vs:Array Value) (w:World):(callFunc 264 vs).run Tryz.prog w=.ok (.enter 264 vs) w:=by simp [go_sem]
theorem callOne (vs:Array Value) (w:World):(callFunc 151 vs).run Tryz.prog w=.ok (.enter 151 vs) w:=by simp [go_sem]
theorem callSome (vs:Array Value) (w:World):(callFunc 265 vs).run Tryz.prog w=.ok (.enter 265 vs) w:=by simp [go_sem]
set_option maxHeartbeats 1000000 in
theorem look_c {b:Nat} {ps:List Plc} {W:World} (h:WAt b ps W) (hi:WI ps) (c:Int) (nm ds:ByteArray):Calls Tryz.prog 210 #[.pointer (some ⟨b,0,none⟩),.int .i64 c,.string nm,.string ds] W fun e w'=>e=.returned (idE (lookR ps nm ds c))∧Below W.heap.size W w':=by
  have HC:Hid (∀ w,Below W.heap.size W w→Calls Tryz.prog 139 #[.pointer (some ⟨b,0,none⟩),.int .i64 c] w fun e w'=>e=.returned (.int .i64 (rckI ps c))∧Below w.heap.size w w'):=fun w hb=>(rck_c (h.below hb) c).mono fun e w' zz=>⟨zz.1,by rw [zz.2];exact Below.refl _ _⟩
  have HI:Hid (∀ w,Below W.heap.size W w→Calls Tryz.prog 71 #[.pointer (some ⟨b,0,none⟩),.int .i64 c] w fun e w'=>e=.returned (.bool (ifcI ps c))∧Below w.heap.size w w'):=fun w hb=>isIface_c (h.below hb) c
  rcases plcI_cases ps c with ⟨h1,h2⟩|⟨k,q,rfl,h2,h1⟩
  · have e:lookR ps nm ds c=((0,0),3):=by rw [lookR,h1]
    rw [e]
    rw [rck_none h1] at HC
    clear h hi h1 h2 e HI
    go_enter Tryz.func210,Tryz.ntmps210
    go_wp2_with (first
      | (go_at_call 139;refine (HC.out _ (by repeat (first|exact Below.refl _ _|refine Below.setCell ?_ (by simp;try omega) _|refine Below.alloc ?_ (by simp;try omega) _|refine Below.drew ?_))).mono ?_;rintro e w2 ⟨rfl,hb⟩;have d1:w2.heap[W.heap.size]?=some (.cells #[.int .i64 0,.int .i64 0] 67 (0,0)):=(hb.block W.heap.size (by first|omega|(simp;try omega))).trans (by first|exact halloc2 _ _ rfl|exact heap_alloc2_old W _ _|exact RB.out|exact hkeep RB.out|exact hkeep (hkeep RB.out)|exact hkeep (heap_alloc2_old W _ _));(try clear RB z0 z1 f0 f1 hL9 hN9);have RB:Hid (w2.heap[W.heap.size]?=some (.cells #[.int .i64 0,.int .i64 0] 67 (0,0))):=d1;have z0:w2.cell? ⟨W.heap.size,0,none⟩=some (.int .i64 0):=(cell_of_row w2 W.heap.size 0 _ _ _ d1).trans rfl;have z1:w2.cell? ⟨W.heap.size,1,none⟩=some (.int .i64 0):=(cell_of_row w2 W.heap.size 1 _ _ _ d1).trans rfl;have f0:=frozen_of_row w2 W.heap.size 0 _ _ d1;have f1:=frozen_of_row w2 W.heap.size 1 _ _ d1;have hL9:W.heap.size<w2.heap.size:=(Array.getElem?_eq_some_iff.1 d1).1;have hN9:¬ W.heap.size=w2.heap.size:=(by omega);clear d1;have B2:Hid (Below W.heap.size W w2):=bstep (by repeat (first|exact Below.refl _ _|refine Below.setCell ?_ (by simp;try omega) _|refine Below.alloc ?_ (by simp;try omega) _|refine Below.drew ?_)) hb;clear hb HC))
    exact bodyPost_ret (v:=idE ((0,0),3)) (by simp [results,Tryz.results210,go_sem,idE, *]) rfl ⟨rfl,(by repeat (first|exact B2.out|refine Below.setCell ?_ (by simp;try omega) _|refine Below.alloc ?_ (by have:=B2.out.size;simp;try omega) _|refine Below.drew ?_))⟩
  · have e:lookR ps nm ds (k:Int)=if ifcI ps (k:Int) then ((0,0),23) else firR [upR ps nm ds (chL (ps.map nd) k),oneV ps (candL ps nm ds q.cl),someV (candL ps nm ds q.cl)]:=by rw [lookR,h1];rfl
    rw [e]
    rw [rck_some h1] at HC
    clear e
    have HT:Hid (∀ w v,Below W.heap.size W w→Rds w v 3 1 [.func (.func 266) #[] #[],.func (.func 151) #[] #[],.func (.func 265) #[] #[]]→Calls Tryz.prog 262 #[.pointer (some ⟨b,0,none⟩),.int .i64 (k:Int),.string nm,.string ds,v] w fun e w'=>e=.returned (idE (firR [upR ps nm ds (chL (ps.map nd) k),oneV ps (candL ps nm ds q.cl),someV (candL ps nm ds q.cl)]))∧Below w.heap.size w w'):=fun w v hb hv=>by
      refine try_c _ _ nm ds v [(266,upR ps nm ds (chL (ps.map nd) k)),(151,oneV ps (candL ps nm ds q.cl)),(265,someV (candL ps nm ds q.cl))] w hv (by simp) ?_ ?_
      · intro x hx
        simp only [List.mem_cons,List.not_mem_nil,or_false] at hx
        rcases hx with rfl|rfl|rfl
        · exact callUp
        · exact callOne
        · exact callSome
      · intro x hx w' hb'
        have hw:=(h.below hb).below hb'
        simp only [List.mem_cons,List.not_mem_nil,or_false] at hx
        rcases hx with rfl|rfl|rfl
        · exact up_yes hw hi k q h2 nm ds
        · exact one_yes hw hi k q h2 nm ds
        · exact some_yes hw hi k q h2 nm ds
    generalize firR [upR ps nm ds (chL (ps.map nd) k),oneV ps (candL ps nm ds q.cl),someV (candL ps nm ds q.cl)]=R at *
    obtain ⟨⟨R1,R2⟩,R3⟩:=R
    simp only [idE] at HT
    generalize ifcI ps (k:Int)=y at *
    clear h hi h1 h2
    cases y with
    | true =>
      rw [if_pos rfl]
      go_enter Tryz.func210,Tryz.ntmps210
      go_wp2_with (first
        | (go_at_call 139;refine (HC.out _ (by repeat (first|exact Below.refl _ _|refine Below.setCell ?_ (by simp;try omega) _|refine Below.alloc ?_ (by simp;try omega) _|refine Below.drew ?_))).mono ?_;rintro e w1 ⟨rfl,hb⟩;have d1:w1.heap[W.heap.size]?=some (.cells #[.int .i64 0,.int .i64 0] 67 (0,0)):=(hb.block W.heap.size (by first|omega|(simp;try omega))).trans (by first|exact halloc2 _ _ rfl|exact heap_alloc2_old W _ _|exact RB.out|exact hkeep RB.out|exact hkeep (hkeep RB.out)|exact hkeep (heap_alloc2_old W _ _));(try clear RB z0 z1 f0 f1 hL9 hN9);have RB:Hid (w1.heap[W.heap.size]?=some (.cells #[.int .i64 0,.int .i64 0] 67 (0,0))):=d1;have z0:w1.cell? ⟨W.heap.size,0,none⟩=some (.int .i64 0):=(cell_of_row w1 W.heap.size 0 _ _ _ d1).trans rfl;have z1:w1.cell? ⟨W.heap.size,1,none⟩=some (.int .i64 0):=(cell_of_row w1 W.heap.size 1 _ _ _ d1).trans rfl;have f0:=frozen_of_row w1 W.heap.size 0 _ _ d1;have f1:=frozen_of_row w1 W.heap.size 1 _ _ d1;have hL9:W.heap.size<w1.heap.size:=(Array.getElem?_eq_some_iff.1 d1).1;have hN9:¬ W.heap.size=w1.heap.size:=(by omega);clear d1;have B1:Hid (Below W.heap.size W w1):=bstep (by repeat (first|exact Below.refl _ _|refine Below.setCell ?_ (by simp;try omega) _|refine Below.alloc ?_ (by simp;try omega) _|refine Below.drew ?_)) hb;clear hb HC)
        | (go_at_call 71;refine (HI.out _ B1.out).mono ?_;rintro e w2 ⟨rfl,hb⟩;have d1:w2.heap[W.heap.size]?=some (.cells #[.int .i64 0,.int .i64 0] 67 (0,0)):=(hb.block W.heap.size (by first|omega|(simp;try omega))).trans (by first|exact halloc2 _ _ rfl|exact heap_alloc2_old W _ _|exact RB.out|exact hkeep RB.out|exact hkeep (hkeep RB.out)|exact hkeep (heap_alloc2_old W _ _));(try clear RB z0 z1 f0 f1 hL9 hN9);have RB:Hid (w2.heap[W.heap.size]?=some (.cells #[.int .i64 0,.int .i64 0] 67 (0,0))):=d1;have z0:w2.cell? ⟨W.heap.size,0,none⟩=some (.int .i64 0):=(cell_of_row w2 W.heap.size 0 _ _ _ d1).trans rfl;have z1:w2.cell? ⟨W.heap.size,1,none⟩=some (.int .i64 0):=(cell_of_row w2 W.heap.size 1 _ _ _ d1).trans rfl;have f0:=frozen_of_row w2 W.heap.size 0 _ _ d1;have f1:=frozen_of_row w2 W.heap.size 1 _ _ d1;have hL9:W.heap.size<w2.heap.size:=(Array.getElem?_eq_some_iff.1 d1).1;have hN9:¬ W.heap.size=w2.heap.size:=(by omega);clear d1;have B2:Hid (Below W.heap.size W w2):=bstep B1.out hb;clear hb HI))
      exact bodyPost_ret (v:=idE ((0,0),23)) (by simp [results,Tryz.results210,go_sem,idE, *]) rfl ⟨rfl,(by repeat (first|exact B2.out|refine Below.setCell ?_ (by simp;try omega) _|refine Below.alloc ?_ (by have:=B2.out.size;simp;try omega) _|refine Below.drew ?_))⟩
    | false =>
      rw [if_neg (by simp)]
      go_enter Tryz.func210,Tryz.ntmps210
      go_wp2_with (first
        | (go_at_call 139;refine (HC.out _ (by repeat (first|exact Below.refl _ _|refine Below.setCell ?_ (by simp;try omega) _|refine Below.alloc ?_ (by simp;try omega) _|refine Below.drew ?_))).mono ?_;rintro e w1 ⟨rfl,hb⟩;have d1:w1.heap[W.heap.size]?=some (.cells #[.int .i64 0,.int .i64 0] 67 (0,0)):=(hb.block W.heap.size (by first|omega|(simp;try omega))).trans (by first|exact halloc2 _ _ rfl|exact heap_alloc2_old W _ _|exact RB.out|exact hkeep RB.out|exact hkeep (hkeep RB.out)|exact hkeep (heap_alloc2_old W _ _));(try clear RB z0 z1 f0 f1 hL9 hN9);have RB:Hid (w1.heap[W.heap.size]?=some (.cells #[.int .i64 0,.int .i64 0] 67 (0,0))):=d1;have z0:w1.cell? ⟨W.heap.size,0,none⟩=some (.int .i64 0):=(cell_of_row w1 W.heap.size 0 _ _ _ d1).trans rfl;have z1:w1.cell? ⟨W.heap.size,1,none⟩=some (.int .i64 0):=(cell_of_row w1 W.heap.size 1 _ _ _ d1).trans rfl;have f0:=frozen_of_row w1 W.heap.size 0 _ _ d1;have f1:=frozen_of_row w1 W.heap.size 1 _ _ d1;have hL9:W.heap.size<w1.heap.size:=(Array.getElem?_eq_some_iff.1 d1).1;have hN9:¬ W.heap.size=w1.heap.size:=(by omega);clear d1;have B1:Hid (Below W.heap.size W w1):=bstep (by repeat (first|exact Below.refl _ _|refine Below.setCell ?_ (by simp;try omega) _|refine Below.alloc ?_ (by simp;try omega) _|refine Below.drew ?_)) hb;clear hb HC)
        | (go_at_call 71;refine (HI.out _ B1.out).mono ?_;rintro e w2 ⟨rfl,hb⟩;have d1:w2.heap[W.heap.size]?=some (.cells #[.int .i64 0,.int .i64 0] 67 (0,0)):=(hb.block W.heap.size (by first|omega|(simp;try omega))).trans (by first|exact halloc2 _ _ rfl|exact heap_alloc2_old W _ _|exact RB.out|exact hkeep RB.out|exact hkeep (hkeep RB.out)|exact hkeep (heap_alloc2_old W _ _));(try clear RB z0 z1 f0 f1 hL9 hN9);have RB:Hid (w2.heap[W.heap.size]?=some (.cells #[.int .i64 0,.int .i64 0] 67 (0,0))):=d1;have z0:w2.cell? ⟨W.heap.size,0,none⟩=some (.int .i64 0):=(cell_of_row w2 W.heap.size 0 _ _ _ d1).trans rfl;have z1:w2.cell? ⟨W.heap.size,1,none⟩=some (.int .i64 0):=(cell_of_row w2 W.heap.size 1 _ _ _ d1).trans rfl;have f0:=frozen_of_row w2 W.heap.size 0 _ _ d1;have f1:=frozen_of_row w2 W.heap.size 1 _ _ d1;have hL9:W.heap.size<w2.heap.size:=(Array.getElem?_eq_some_iff.1 d1).1;have hN9:¬ W.heap.size=w2.heap.size:=(by omega);clear d1;have B2:Hid (Below W.heap.size W w2):=bstep B1.out hb;clear hb HI)
        | (go_at_call 262;refine (HT.out _ _ (B2.out.alloc B2.out.size _) (rds_at _ _ (by simp) _ _ 3 1 rfl (by decide))).mono ?_;rintro e w3 ⟨rfl,hb⟩;have d1:w3.heap[W.heap.size]?=some (.cells #[.int .i64 0,.int .i64 0] 67 (0,0)):=(hb.block W.heap.size (by first|omega|(simp;try omega))).trans (by first|exact halloc2 _ _ rfl|exact heap_alloc2_old W _ _|exact RB.out|exact hkeep RB.out|exact hkeep (hkeep RB.out)|exact hkeep (heap_alloc2_old W _ _));(try clear RB z0 z1 f0 f1 hL9 hN9);have RB:Hid (w3.heap[W.heap.size]?=some (.cells #[.int .i64 0,.int .i64 0] 67 (0,0))):=d1;have z0:w3.cell? ⟨W.heap.size,0,none⟩=some (.int .i64 0):=(cell_of_row w3 W.heap.size 0 _ _ _ d1).trans rfl;have z1:w3.cell? ⟨W.heap.size,1,none⟩=some (.int .i64 0):=(cell_of_row w3 W.heap.size 1 _ _ _ d1).trans rfl;have f0:=frozen_of_row w3 W.heap.size 0 _ _ d1;have f1:=frozen_of_row w3 W.heap.size 1 _ _ d1;have hL9:W.heap.size<w3.heap.size:=(Array.getElem?_eq_some_iff.1 d1).1;have hN9:¬ W.heap.size=w3.heap.size:=(by omega);clear d1;have B3:Hid (Below W.heap.size W w3):=bstep (B2.out.alloc B2.out.size _) hb;clear hb HT))
      exact bodyPost_ret (v:=idE ((R1,R2),R3)) (by simp [results,Tryz.results210,go_sem,idE, *]) rfl ⟨rfl,(by repeat (first|exact B3.out|refine Below.setCell ?_ (by simp;try omega) _|refine Below.alloc ?_ (by have:=B3.out.size;simp;try omega) _|refine Below.drew ?_))⟩
set_option maxHeartbeats 1000000 in
theorem lif_c {b:Nat} {ps:List Plc} {W:World} (h:WAt b ps W) (hi:WI ps) (c:Int) (nm ds:ByteArray):Calls Tryz.prog 209 #[.pointer (some ⟨b,0,none⟩),.int .i64 c,.string nm,.string ds] W fun e w'=>e=.returned (idE (lifR ps nm ds c))∧Below W.heap.size W w':=by
  have HC:Hid (∀ w,Below W.heap.size W w→Calls Tryz.prog 139 #[.pointer (some ⟨b,0,none⟩),.int .i64 c] w fun e w'=>e=.returned (.int .i64 (rckI ps c))∧Below w.heap.size w w'):=fun w hb=>(rck_c (h.below hb) c).mono fun e w' zz=>⟨zz.1,by rw [zz.2];exact Below.refl _ _⟩
  have HI:Hid (∀ w,Below W.heap.size W w→Calls Tryz.prog 71 #[.pointer (some ⟨b,0,none⟩),.int .i64 c] w fun e w'=>e=.returned (.bool (ifcI ps c))∧Below w.heap.size w w'):=fun w hb=>isIface_c (h.below hb) c
  rcases plcI_cases ps c with ⟨h1,h2⟩|⟨k,q,rfl,h2,h1⟩
  · have e:lifR ps nm ds c=((0,0),3):=by rw [lifR,h1]
    rw [e]
    rw [rck_none h1] at HC
    clear h hi h1 h2 e HI
    go_enter Tryz.func209,Tryz.ntmps209
    go_wp2_with (first
      | (go_at_call 139;refine (HC.out _ (by repeat (first|exact Below.refl _ _|refine Below.setCell ?_ (by simp;try omega) _|refine Below.alloc ?_ (by simp;try omega) _|refine Below.drew ?_))).mono ?_;rintro e w2 ⟨rfl,hb⟩;have d1:w2.heap[W.heap.size]?=some (.cells #[.int .i64 0,.int .i64 0] 67 (0,0)):=(hb.block W.heap.size (by first|omega|(simp;try omega))).trans (by first|exact halloc2 _ _ rfl|exact heap_alloc2_old W _ _|exact RB.out|exact hkeep RB.out|exact hkeep (hkeep RB.out)|exact hkeep (heap_alloc2_old W _ _));(try clear RB z0 z1 f0 f1 hL9 hN9);have RB:Hid (w2.heap[W.heap.size]?=some (.cells #[.int .i64 0,.int .i64 0] 67 (0,0))):=d1;have z0:w2.cell? ⟨W.heap.size,0,none⟩=some (.int .i64 0):=(cell_of_row w2 W.heap.size 0 _ _ _ d1).trans rfl;have z1:w2.cell? ⟨W.heap.size,1,none⟩=some (.int .i64 0):=(cell_of_row w2 W.heap.size 1 _ _ _ d1).trans rfl;have f0:=frozen_of_row w2 W.heap.size 0 _ _ d1;have f1:=frozen_of_row w2 W.heap.size 1 _ _ d1;have hL9:W.heap.size<w2.heap.size:=(Array.getElem?_eq_some_iff.1 d1).1;have hN9:¬ W.heap.size=w2.heap.size:=(by omega);clear d1;have B2:Hid (Below W.heap.size W w2):=bstep (by repeat (first|exact Below.refl _ _|refine Below.setCell ?_ (by simp;try omega) _|refine Below.alloc ?_ (by simp;try omega) _|refine Below.drew ?_)) hb;clear hb HC))
    exact bodyPost_ret (v:=idE ((0,0),3)) (by simp [results,Tryz.results209,go_sem,idE, *]) rfl ⟨rfl,(by repeat (first|exact B2.out|refine Below.setCell ?_ (by simp;try omega) _|refine Below.alloc ?_ (by have:=B2.out.size;simp;try omega) _|refine Below.drew ?_))⟩
  · have e:lifR ps nm ds (k:Int)=if ifcI ps (k:Int) then firR [ownR ps nm ds (k:Int),topR ps nm ds,oneV ps (candL ps nm ds q.cl),someV (candL ps nm ds q.cl)] else ((0,0),23):=by rw [lifR,h1]
    rw [e]
    rw [rck_some h1] at HC
    clear e
    have HT:Hid (∀ w v,Below W.heap.size W w→Rds w v 4 1 [.func (.func 263) #[] #[],.func (.func 264) #[] #[],.func (.func 151) #[] #[],.func (.func 265) #[] #[]]→Calls Tryz.prog 262 #[.pointer (some ⟨b,0,none⟩),.int .i64 (k:Int),.string nm,.string ds,v] w fun e w'=>e=.returned (idE (firR [ownR ps nm ds (k:Int),topR ps nm ds,oneV ps (candL ps nm ds q.cl),someV (candL ps nm ds q.cl)]))∧Below w.heap.size w w'):=fun w v hb hv=>by
      refine try_c _ _ nm ds v [(263,ownR ps nm ds (k:Int)),(264,topR ps nm ds),(151,oneV ps (candL ps nm ds q.cl)),(265,someV (candL ps nm ds q.cl))] w hv (by simp) ?_ ?_
      · intro x hx
        simp only [List.mem_cons,List.not_mem_nil,or_false] at hx
        rcases hx with rfl|rfl|rfl|rfl
        · exact callOwn
        · exact callTop
        · exact callOne
        · exact callSome
      · intro x hx w' hb'
        have hw:=(h.below hb).below hb'
        simp only [List.mem_cons,List.not_mem_nil,or_false] at hx
        rcases hx with rfl|rfl|rfl|rfl
        · exact own_c hw hi.pb k nm ds
        · exact top_c hw hi.pb k nm ds
        · exact one_yes hw hi k q h2 nm ds
        · exact some_yes hw hi k q h2 nm ds
    generalize firR [ownR ps nm ds (k:Int),topR ps nm ds,oneV ps (candL ps nm ds q.cl),someV (candL ps nm ds q.cl)]=R at *
    obtain ⟨⟨R1,R2⟩,R3⟩:=R
    simp only [idE] at HT
    generalize ifcI ps (k:Int)=y at *
    clear h hi h1 h2
    cases y with
    | false =>
      rw [if_neg (by simp)]
      go_enter Tryz.func209,Tryz.ntmps209
      go_wp2_with (first
        | (go_at_call 139;refine (HC.out _ (by repeat (first|exact Below.refl _ _|refine Below.setCell ?_ (by simp;try omega) _|refine Below.alloc ?_ (by simp;try omega) _|refine Below.drew ?_))).mono ?_;rintro e w1 ⟨rfl,hb⟩;have d1:w1.heap[W.heap.size]?=some (.cells #[.int .i64 0,.int .i64 0] 67 (0,0)):=(hb.block W.heap.size (by first|omega|(simp;try omega))).trans (by first|exact halloc2 _ _ rfl|exact heap_alloc2_old W _ _|exact RB.out|exact hkeep RB.out|exact hkeep (hkeep RB.out)|exact hkeep (heap_alloc2_old W _ _));(try clear RB z0 z1 f0 f1 hL9 hN9);have RB:Hid (w1.heap[W.heap.size]?=some (.cells #[.int .i64 0,.int .i64 0] 67 (0,0))):=d1;have z0:w1.cell? ⟨W.heap.size,0,none⟩=some (.int .i64 0):=(cell_of_row w1 W.heap.size 0 _ _ _ d1).trans rfl;have z1:w1.cell? ⟨W.heap.size,1,none⟩=some (.int .i64 0):=(cell_of_row w1 W.heap.size 1 _ _ _ d1).trans rfl;have f0:=frozen_of_row w1 W.heap.size 0 _ _ d1;have f1:=frozen_of_row w1 W.heap.size 1 _ _ d1;have hL9:W.heap.size<w1.heap.size:=(Array.getElem?_eq_some_iff.1 d1).1;have hN9:¬ W.heap.size=w1.heap.size:=(by omega);clear d1;have B1:Hid (Below W.heap.size W w1):=bstep (by repeat (first|exact Below.refl _ _|refine Below.setCell ?_ (by simp;try omega) _|refine Below.alloc ?_ (by simp;try omega) _|refine Below.drew ?_)) hb;clear hb HC)
        | (go_at_call 71;refine (HI.out _ B1.out).mono ?_;rintro e w2 ⟨rfl,hb⟩;have d1:w2.heap[W.heap.size]?=some (.cells #[.int .i64 0,.int .i64 0] 67 (0,0)):=(hb.block W.heap.size (by first|omega|(simp;try omega))).trans (by first|exact halloc2 _ _ rfl|exact heap_alloc2_old W _ _|exact RB.out|exact hkeep RB.out|exact hkeep (hkeep RB.out)|exact hkeep (heap_alloc2_old W _ _));(try clear RB z0 z1 f0 f1 hL9 hN9);have RB:Hid (w2.heap[W.heap.size]?=some (.cells #[.int .i64 0,.int .i64 0] 67 (0,0))):=d1;have z0:w2.cell? ⟨W.heap.size,0,none⟩=some (.int .i64 0):=(cell_of_row w2 W.heap.size 0 _ _ _ d1).trans rfl;have z1:w2.cell? ⟨W.heap.size,1,none⟩=some (.int .i64 0):=(cell_of_row w2 W.heap.size 1 _ _ _ d1).trans rfl;have f0:=frozen_of_row w2 W.heap.size 0 _ _ d1;have f1:=frozen_of_row w2 W.heap.size 1 _ _ d1;have hL9:W.heap.size<w2.heap.size:=(Array.getElem?_eq_some_iff.1 d1).1;have hN9:¬ W.heap.size=w2.heap.size:=(by omega);clear d1;have B2:Hid (Below W.heap.size W w2):=bstep B1.out hb;clear hb HI))
      exact bodyPost_ret (v:=idE ((0,0),23)) (by simp [results,Tryz.results209,go_sem,idE, *]) rfl ⟨rfl,(by repeat (first|exact B2.out|refine Below.setCell ?_ (by simp;try omega) _|refine Below.alloc ?_ (by have:=B2.out.size;simp;try omega) _|refine Below.drew ?_))⟩
    | true =>
      rw [if_pos rfl]
      go_enter Tryz.func209,Tryz.ntmps209
      go_wp2_with (first
        | (go_at_call 139;refine (HC.out _ (by repeat (first|exact Below.refl _ _|refine Below.setCell ?_ (by simp;try omega) _|refine Below.alloc ?_ (by simp;try omega) _|refine Below.drew ?_))).mono ?_;rintro e w1 ⟨rfl,hb⟩;have d1:w1.heap[W.heap.size]?=some (.cells #[.int .i64 0,.int .i64 0] 67 (0,0)):=(hb.block W.heap.size (by first|omega|(simp;try omega))).trans (by first|exact halloc2 _ _ rfl|exact heap_alloc2_old W _ _|exact RB.out|exact hkeep RB.out|exact hkeep (hkeep RB.out)|exact hkeep (heap_alloc2_old W _ _));(try clear RB z0 z1 f0 f1 hL9 hN9);have RB:Hid (w1.heap[W.heap.size]?=some (.cells #[.int .i64 0,.int .i64 0] 67 (0,0))):=d1;have z0:w1.cell? ⟨W.heap.size,0,none⟩=some (.int .i64 0):=(cell_of_row w1 W.heap.size 0 _ _ _ d1).trans rfl;have z1:w1.cell? ⟨W.heap.size,1,none⟩=some (.int .i64 0):=(cell_of_row w1 W.heap.size 1 _ _ _ d1).trans rfl;have f0:=frozen_of_row w1 W.heap.size 0 _ _ d1;have f1:=frozen_of_row w1 W.heap.size 1 _ _ d1;have hL9:W.heap.size<w1.heap.size:=(Array.getElem?_eq_some_iff.1 d1).1;have hN9:¬ W.heap.size=w1.heap.size:=(by omega);clear d1;have B1:Hid (Below W.heap.size W w1):=bstep (by repeat (first|exact Below.refl _ _|refine Below.setCell ?_ (by simp;try omega) _|refine Below.alloc ?_ (by simp;try omega) _|refine Below.drew ?_)) hb;clear hb HC)
        | (go_at_call 71;refine (HI.out _ B1.out).mono ?_;rintro e w2 ⟨rfl,hb⟩;have d1:w2.heap[W.heap.size]?=some (.cells #[.int .i64 0,.int .i64 0] 67 (0,0)):=(hb.block W.heap.size (by first|omega|(simp;try omega))).trans (by first|exact halloc2 _ _ rfl|exact heap_alloc2_old W _ _|exact RB.out|exact hkeep RB.out|exact hkeep (hkeep RB.out)|exact hkeep (heap_alloc2_old W _ _));(try clear RB z0 z1 f0 f1 hL9 hN9);have RB:Hid (w2.heap[W.heap.size]?=some (.cells #[.int .i64 0,.int .i64 0] 67 (0,0))):=d1;have z0:w2.cell? ⟨W.heap.size,0,none⟩=some (.int .i64 0):=(cell_of_row w2 W.heap.size 0 _ _ _ d1).trans rfl;have z1:w2.cell? ⟨W.heap.size,1,none⟩=some (.int .i64 0):=(cell_of_row w2 W.heap.size 1 _ _ _ d1).trans rfl;have f0:=frozen_of_row w2 W.heap.size 0 _ _ d1;have f1:=frozen_of_row w2 W.heap.size 1 _ _ d1;have hL9:W.heap.size<w2.heap.size:=(Array.getElem?_eq_some_iff.1 d1).1;have hN9:¬ W.heap.size=w2.heap.size:=(by omega);clear d1;have B2:Hid (Below W.heap.size W w2):=bstep B1.out hb;clear hb HI)
        | (go_at_call 262;refine (HT.out _ _ (B2.out.alloc B2.out.size _) (rds_at _ _ (by simp) _ _ 4 1 rfl (by decide))).mono ?_;rintro e w3 ⟨rfl,hb⟩;have d1:w3.heap[W.heap.size]?=some (.cells #[.int .i64 0,.int .i64 0] 67 (0,0)):=(hb.block W.heap.size (by first|omega|(simp;try omega))).trans (by first|exact halloc2 _ _ rfl|exact heap_alloc2_old W _ _|exact RB.out|exact hkeep RB.out|exact hkeep (hkeep RB.out)|exact hkeep (heap_alloc2_old W _ _));(try clear RB z0 z1 f0 f1 hL9 hN9);have RB:Hid (w3.heap[W.heap.size]?=some (.cells #[.int .i64 0,.int .i64 0] 67 (0,0))):=d1;have z0:w3.cell? ⟨W.heap.size,0,none⟩=some (.int .i64 0):=(cell_of_row w3 W.heap.size 0 _ _ _ d1).trans rfl;have z1:w3.cell? ⟨W.heap.size,1,none⟩=some (.int .i64 0):=(cell_of_row w3 W.heap.size 1 _ _ _ d1).trans rfl;have f0:=frozen_of_row w3 W.heap.size 0 _ _ d1;have f1:=frozen_of_row w3 W.heap.size 1 _ _ d1;have hL9:W.heap.size<w3.heap.size:=(Array.getElem?_eq_some_iff.1 d1).1;have hN9:¬ W.heap.size=w3.heap.size:=(by omega);clear d1;have B3:Hid (Below W.heap.size W w3):=bstep (B2.out.alloc B2.out.size _) hb;clear hb HT))
      exact bodyPost_ret (v:=idE ((R1,R2),R3)) (by simp [results,Tryz.results209,go_sem,idE, *]) rfl ⟨rfl,(by repeat (first|exact B3.out|refine Below.setCell ?_ (by simp;try omega) _|refine Below.alloc ?_ (by have:=B3.out.size;simp;try omega) _|refine Below.drew ?_))⟩
def lbyR (ps:List Plc) (y:Bool) (nm ds:ByteArray) (c:Int):(Int×Int)×Int:=if y then lifR ps nm ds c else lookR ps nm ds c
theorem isOverInt_c (d:Int) (s:ByteArray) (W:World):Calls Tryz.prog 215 #[.agg #[.int .i64 d,.string s]] W fun e w'=>e=.returned (.bool s.toList.isEmpty)∧Below W.heap.size W w':=by
  cases he:s.toList.isEmpty
  all_goals
    go_enter Tryz.func215,Tryz.ntmps215
    go_wp2
    go_ret
    exact ⟨by first|rfl|simp_all,(by repeat (first|exact Below.refl _ _|refine Below.setCell ?_ (by simp;try omega) _|refine Below.alloc ?_ (by simp;try omega) _|refine Below.drew ?_))⟩
def ldI (ps:List Plc) (d:Int) (s:ByteArray):Int:=if sndB d s.data.toList then (if s.toList.isEmpty then 0 else match lookL ps s.data.toList with
  | some _=>0
  | none=>20) else 1
theorem loaded_c {b:Nat} {ps:List Plc} {W:World} (h:WAt b ps W) (d:Int) (s:ByteArray) (hs:s.size≤maxLen):Calls Tryz.prog 146 #[.pointer (some ⟨b,0,none⟩),.agg #[.int .i64 d,.string s]] W fun e w'=>e=.returned (.int .i64 (ldI ps d s))∧Below W.heap.size W w':=by
  have HC:Hid (∀ w:World,Calls Tryz.prog 214 #[.agg #[.int .i64 d,.string s]] w fun e w'=>e=.returned (.int .i64 (chkI (sndB d s.data.toList)))∧Below w.heap.size w w'):=tyCheck_any d s hs
  have HO:Hid (∀ w:World,Calls Tryz.prog 215 #[.agg #[.int .i64 d,.string s]] w fun e w'=>e=.returned (.bool s.toList.isEmpty)∧Below w.heap.size w w'):=isOverInt_c d s
  have HN:Hid (∀ w:World,Below W.heap.size W w→Calls Tryz.prog 148 #[.pointer (some ⟨b,0,none⟩),.string s] w fun e w'=>e=.returned (bnV (lookL ps s.data.toList))∧Below w.heap.size w w'):=fun w hb=>byName_c (h.below hb) s hs
  obtain ⟨R,hR⟩:∃ R,ldI ps d s=R:=⟨_,rfl⟩
  rw [hR]
  have HR:Hid (ldI ps d s=R):=hR
  clear hR h
  unfold ldI at HR
  generalize sndB d s.data.toList=sn at *
  generalize s.toList.isEmpty=em at *
  generalize lookL ps s.data.toList=lk at *
  cases sn with
  | false =>
    have e:chkI false=1:=rfl
    rw [e] at HC
    have HS:Hid (R=1):=HR.out.symm
    clear HR
    go_enter Tryz.func146,Tryz.ntmps146
    go_wp2_with (go_at_call 214;refine (HC.out _).mono ?_;rintro e w1 ⟨rfl,hb⟩;have B1:Hid (Below W.heap.size W w1):=bstep (by repeat (first|exact Below.refl _ _|refine Below.setCell ?_ (by simp;try omega) _|refine Below.alloc ?_ (by simp;try omega) _|refine Below.drew ?_)) hb;clear hb HC)
    exact bodyPost_ret (results_tmp rfl _ _ _) rfl ⟨by rw [HS.out];rfl,B1.out⟩
  | true =>
    have e:chkI true=0:=rfl
    rw [e] at HC
    cases em with
    | true =>
      have HS:Hid (R=0):=HR.out.symm
      clear HR
      go_enter Tryz.func146,Tryz.ntmps146
      go_wp2_with (first
        | (go_at_call 214;refine (HC.out _).mono ?_;rintro e w1 ⟨rfl,hb⟩;have h0:=(hb.block W.heap.size (by simp)).trans (halloc1 W _);have r0:=cell_of_row w1 W.heap.size 0 _ _ _ h0;have r1:=cell_of_row w1 W.heap.size 1 _ _ _ h0;simp only [List.getElem?_toArray,List.getElem?_cons_zero,List.getElem?_cons_succ] at r0 r1;have B1:Hid (Below W.heap.size W w1):=bstep (by repeat (first|exact Below.refl _ _|refine Below.setCell ?_ (by simp;try omega) _|refine Below.alloc ?_ (by simp;try omega) _|refine Below.drew ?_)) hb;clear hb HC h0)
        | (go_at_call 215;refine (HO.out _).mono ?_;rintro e w2 ⟨rfl,hb⟩;have B2:Hid (Below W.heap.size W w2):=bstep B1.out hb;clear hb HO))
      exact bodyPost_ret (results_tmp rfl _ _ _) rfl ⟨by rw [HS.out];rfl,B2.out⟩
    | false =>
      cases lk
      all_goals
        first|have HS:Hid (R=20):=HR.out.symm|have HS:Hid (R=0):=HR.out.symm
        clear HR
        simp only [bnV] at HN
        go_enter Tryz.func146,Tryz.ntmps146
        go_wp2_with (first
          | (go_at_call 214;refine (HC.out _).mono ?_;rintro e w1 ⟨rfl,hb⟩;have h0:=(hb.block W.heap.size (by simp)).trans (halloc1 W _);have r0:=cell_of_row w1 W.heap.size 0 _ _ _ h0;have r1:=cell_of_row w1 W.heap.size 1 _ _ _ h0;simp only [List.getElem?_toArray,List.getElem?_cons_zero,List.getElem?_cons_succ] at r0 r1;have hl:W.heap.size<w1.heap.size:=(Array.getElem?_eq_some_iff.1 h0).1;have B1:Hid (Below W.heap.size W w1):=bstep (by repeat (first|exact Below.refl _ _|refine Below.setCell ?_ (by simp;try omega) _|refine Below.alloc ?_ (by simp;try omega) _|refine Below.drew ?_)) hb;clear hb HC h0)
          | (go_at_call 215;refine (HO.out _).mono ?_;rintro e w2 ⟨rfl,hb⟩;have B2:Hid (Below W.heap.size W w2):=bstep B1.out hb;replace r0:=(hb.cell (p:=⟨W.heap.size,0,none⟩) hl).trans r0;replace r1:=(hb.cell (p:=⟨W.heap.size,1,none⟩) hl).trans r1;clear hb HO)
          | (go_at_call 148;refine (HN.out _ B2.out).mono ?_;rintro e w3 ⟨rfl,hb⟩;have B3:Hid (Below W.heap.size W w3):=bstep B2.out hb;clear hb HN))
        exact bodyPost_ret (results_tmp rfl _ _ _) rfl ⟨by rw [HS.out];rfl,B3.out⟩
def tyO (ps:List Plc) (p:Plc) (s:ByteArray):Bool:=if s.toList.isEmpty then true else match lookL ps s.data.toList with
  | some k=>(match ps[k]? with|some q=>clsO q p|none=>false)
  | none=>false
theorem aTy_c {b:Nat} {ps:List Plc} {W:World} (h:WAt b ps W) (hB:∀ q∈ps,PlcB q) (d:Nat) (p:Plc) (hd:ps[d]?=some p) (x:Int) (s:ByteArray) (hs:s.size≤maxLen) (hl:ldI ps x s=0):Calls Tryz.prog 261 #[.pointer (some ⟨b,0,none⟩),.int .i64 (d:Int),.agg #[.int .i64 x,.string s]] W fun e w'=>e=.returned (.bool (tyO ps p s))∧Below W.heap.size W w':=by
  cases he:s.toList.isEmpty with
  | true =>
    have e:tyO ps p s=true:=by rw [tyO,he];rfl
    rw [e]
    clear h e hl
    go_enter Tryz.func261,Tryz.ntmps261
    go_wp2
    exact bodyPost_ret (results_tmp rfl _ _ _) rfl ⟨rfl,(by repeat (first|exact Below.refl _ _|refine Below.setCell ?_ (by simp;try omega) _|refine Below.alloc ?_ (by simp;try omega) _|refine Below.drew ?_))⟩
  | false =>
    obtain ⟨k,hk⟩:∃ k,lookL ps s.data.toList=some k:=by
      unfold ldI at hl
      rw [he] at hl
      cases hl2:lookL ps s.data.toList with
      | some k=>exact ⟨k,rfl⟩
      | none=>rw [hl2] at hl;exfalso;revert hl;cases sndB x s.data.toList <;> simp
    obtain ⟨q,hq,_⟩:=look_place hk
    have e:tyO ps p s=clsO q p:=by rw [tyO,he,hk];simp only [hq];rfl
    rw [e]
    have HN:Hid (∀ w:World,Below W.heap.size W w→Calls Tryz.prog 148 #[.pointer (some ⟨b,0,none⟩),.string s] w fun e w'=>e=.returned (.tuple #[.int .i64 (k:Int),.int .i64 0])∧Below W.heap.size W w'):=fun w hb=>(byName_c (h.below hb) s hs).mono fun e w' zz=>⟨by rw [zz.1,hk];rfl,bstep hb zz.2⟩
    have HI:Hid (∀ w,Below W.heap.size W w→Calls Tryz.prog 311 #[.pointer (some ⟨b,0,none⟩),.int .i64 (d:Int),.int .i64 (k:Int)] w fun e w'=>e=.returned (.bool (clsO q p))∧Below W.heap.size W w'):=fun w hb=>(aCls_c (h.below hb) hB d k p q hd hq).mono fun e w' zz=>⟨zz.1,bstep hb zz.2⟩
    generalize clsO q p=R at *
    clear h hB hd hl hk hq e hs
    go_enter Tryz.func261,Tryz.ntmps261
    go_wp2_with (first
      | (go_at_call 148;refine (HN.out _ (by repeat (first|exact Below.refl _ _|refine Below.setCell ?_ (by simp;try omega) _|refine Below.alloc ?_ (by simp;try omega) _|refine Below.drew ?_))).mono ?_;rintro e w1 ⟨rfl,hb⟩;have B1:Hid (Below W.heap.size W w1):=hb;clear hb HN)
      | (go_at_call 311;refine (HI.out _ B1.out).mono ?_;rintro e w2 ⟨rfl,hb⟩;have B2:Hid (Below W.heap.size W w2):=hb;clear hb HI))
    exact bodyPost_ret (results_tmp rfl _ _ _) rfl ⟨rfl,B2.out⟩
def toI (ps:List Plc) (d x:Int) (s:ByteArray):Value:=match plcI ps d with
  | some p=>if ldI ps x s=0 then .tuple #[.bool (tyO ps p s),.int .i64 0] else .tuple #[.bool false,.int .i64 (ldI ps x s)]
  | none=>.tuple #[.bool false,.int .i64 3]
theorem typeOpen_c {b:Nat} {ps:List Plc} {W:World} (h:WAt b ps W) (hB:∀ q∈ps,PlcB q) (d x:Int) (s:ByteArray) (hs:s.size≤maxLen):Calls Tryz.prog 208 #[.pointer (some ⟨b,0,none⟩),.int .i64 d,.agg #[.int .i64 x,.string s]] W fun e w'=>e=.returned (toI ps d x s)∧Below W.heap.size W w':=by
  have HC:Hid (∀ (w:World) (v:Value),Below W.heap.size W w→Rds w v 1 1 [.int .i64 d]→Calls Tryz.prog 211 #[.pointer (some ⟨b,0,none⟩),v] w fun e w'=>e=.returned (.int .i64 (if (plcI ps d).isSome then 0 else 3))∧Below w.heap.size w w'):=fun w v hb hv=>(check_c (h.below hb) v [d] hv (by simp)).mono fun e w' zz=>⟨by rw [zz.1,inNs_iff];simp,zz.2⟩
  have HL:Hid (∀ w,Below W.heap.size W w→Calls Tryz.prog 146 #[.pointer (some ⟨b,0,none⟩),.agg #[.int .i64 x,.string s]] w fun e w'=>e=.returned (.int .i64 (ldI ps x s))∧Below w.heap.size w w'):=fun w hb=>loaded_c (h.below hb) x s hs
  rcases plcI_cases ps d with ⟨d1,_⟩|⟨d,p,rfl,d2,d1⟩
  · have e:toI ps d x s=.tuple #[.bool false,.int .i64 3]:=by rw [toI,d1]
    rw [e]
    rw [d1] at HC
    simp only [Option.isSome_none,Bool.false_eq_true,if_false] at HC
    clear h d1 e HL
    go_enter Tryz.func208,Tryz.ntmps208
    go_wp2_with (first
      | (go_at_call 211;refine (HC.out _ _ (by repeat (first|exact Below.refl _ _|refine Below.setCell ?_ (by simp;try omega) _|refine Below.alloc ?_ (by simp;try omega) _|refine Below.drew ?_)) (rds_at _ _ (by simp) _ 3 1 1 rfl (by decide))).mono ?_;rintro e w1 ⟨rfl,hb⟩;have B1:Hid (Below W.heap.size W w1):=bstep (by repeat (first|exact Below.refl _ _|refine Below.setCell ?_ (by simp;try omega) _|refine Below.alloc ?_ (by simp;try omega) _|refine Below.drew ?_)) hb;clear hb HC))
    exact bodyPost_ret (results_tmp2 rfl _ _ _) rfl ⟨rfl,B1.out⟩
  · rw [d1] at HC
    simp only [Option.isSome_some,if_true] at HC
    by_cases hl:ldI ps x s=0
    · have e:toI ps d x s=.tuple #[.bool (tyO ps p s),.int .i64 0]:=by rw [toI,d1];simp only [if_pos hl]
      rw [e]
      have HT:Hid (∀ w,Below W.heap.size W w→Calls Tryz.prog 261 #[.pointer (some ⟨b,0,none⟩),.int .i64 (d:Int),.agg #[.int .i64 x,.string s]] w fun e w'=>e=.returned (.bool (tyO ps p s))∧Below w.heap.size w w'):=fun w hb=>aTy_c (h.below hb) hB d p d2 x s hs hl
      rw [hl] at HL
      generalize tyO ps p s=R at *
      clear h d1 e d2 hl hB hs
      go_enter Tryz.func208,Tryz.ntmps208
      go_wp2_with (first
        | (go_at_call 211;refine (HC.out _ _ (by repeat (first|exact Below.refl _ _|refine Below.setCell ?_ (by simp;try omega) _|refine Below.alloc ?_ (by simp;try omega) _|refine Below.drew ?_)) (rds_at _ _ (by simp) _ 3 1 1 rfl (by decide))).mono ?_;rintro e w1 ⟨rfl,hb⟩;have h0:=(hb.block W.heap.size (by simp;omega)).trans (heap_alloc2_old W _ _);have r0:=cell_of_row w1 W.heap.size 0 _ _ _ h0;have r1:=cell_of_row w1 W.heap.size 1 _ _ _ h0;simp only [List.getElem?_toArray,List.getElem?_cons_zero,List.getElem?_cons_succ] at r0 r1;have hl0:W.heap.size<w1.heap.size:=(Array.getElem?_eq_some_iff.1 h0).1;have B1:Hid (Below W.heap.size W w1):=bstep (by repeat (first|exact Below.refl _ _|refine Below.setCell ?_ (by simp;try omega) _|refine Below.alloc ?_ (by simp;try omega) _|refine Below.drew ?_)) hb;clear hb HC h0)
        | (go_at_call 146;refine (HL.out _ B1.out).mono ?_;rintro e w2 ⟨rfl,hb⟩;replace r0:=(hb.cell (p:=⟨W.heap.size,0,none⟩) hl0).trans r0;replace r1:=(hb.cell (p:=⟨W.heap.size,1,none⟩) hl0).trans r1;have B2:Hid (Below W.heap.size W w2):=bstep B1.out hb;clear hb HL)
        | (go_at_call 261;refine (HT.out _ B2.out).mono ?_;rintro e w3 ⟨rfl,hb⟩;have B3:Hid (Below W.heap.size W w3):=bstep B2.out hb;clear hb HT))
      exact bodyPost_ret (results_tmp2 rfl _ _ _) rfl ⟨rfl,B3.out⟩
    · have e:toI ps d x s=.tuple #[.bool false,.int .i64 (ldI ps x s)]:=by rw [toI,d1];simp only [if_neg hl]
      rw [e]
      generalize ldI ps x s=R at *
      clear h d1 e d2 hB hs
      go_enter Tryz.func208,Tryz.ntmps208
      go_wp2_with (first
        | (go_at_call 211;refine (HC.out _ _ (by repeat (first|exact Below.refl _ _|refine Below.setCell ?_ (by simp;try omega) _|refine Below.alloc ?_ (by simp;try omega) _|refine Below.drew ?_)) (rds_at _ _ (by simp) _ 3 1 1 rfl (by decide))).mono ?_;rintro e w1 ⟨rfl,hb⟩;have h0:=(hb.block W.heap.size (by simp;omega)).trans (heap_alloc2_old W _ _);have r0:=cell_of_row w1 W.heap.size 0 _ _ _ h0;have r1:=cell_of_row w1 W.heap.size 1 _ _ _ h0;simp only [List.getElem?_toArray,List.getElem?_cons_zero,List.getElem?_cons_succ] at r0 r1;have hl0:W.heap.size<w1.heap.size:=(Array.getElem?_eq_some_iff.1 h0).1;have B1:Hid (Below W.heap.size W w1):=bstep (by repeat (first|exact Below.refl _ _|refine Below.setCell ?_ (by simp;try omega) _|refine Below.alloc ?_ (by simp;try omega) _|refine Below.drew ?_)) hb;clear hb HC h0)
        | (go_at_call 146;refine (HL.out _ B1.out).mono ?_;rintro e w2 ⟨rfl,hb⟩;have B2:Hid (Below W.heap.size W w2):=bstep B1.out hb;clear hb HL))
      exact bodyPost_ret (results_tmp2 rfl _ _ _) rfl ⟨rfl,B2.out⟩
def intB (d:Int) (s:ByteArray):Bool:=(d == 0)&&s.toList.isEmpty
theorem isInt_c (d:Int) (s:ByteArray) (W:World):Calls Tryz.prog 147 #[.agg #[.int .i64 d,.string s]] W fun e w'=>e=.returned (.bool (intB d s))∧Below W.heap.size W w':=by
  obtain ⟨R,hR⟩:∃ R,intB d s=R:=⟨_,rfl⟩
  have HR:Hid (((d == 0)&&s.toList.isEmpty)=R):=hR
  rw [hR]
  clear hR
  go_enter Tryz.func147,Tryz.ntmps147
  go_wp2
  all_goals go_ret
  all_goals exact ⟨retB (by rw [← HR.out];simp [*]),(by repeat (first|exact Below.refl _ _|refine Below.setCell ?_ (by simp;try omega) _|refine Below.alloc ?_ (by simp;try omega) _|refine Below.drew ?_))⟩
theorem lby_c {b:Nat} {ps:List Plc} {W:World} (h:WAt b ps W) (hi:WI ps) (c:Int) (y:Bool) (cn nm ds:ByteArray):Calls Tryz.prog 141 #[.pointer (some ⟨b,0,none⟩),.int .i64 c,.agg #[.bool y,.string cn,.string nm,.string ds]] W fun e w'=>e=.returned (idE (lbyR ps y nm ds c))∧Below W.heap.size W w':=by
  have HL:Hid (∀ w,Below W.heap.size W w→Calls Tryz.prog 210 #[.pointer (some ⟨b,0,none⟩),.int .i64 c,.string nm,.string ds] w fun e w'=>e=.returned (idE (lookR ps nm ds c))∧Below w.heap.size w w'):=fun w hb=>look_c (h.below hb) hi c nm ds
  have HF:Hid (∀ w,Below W.heap.size W w→Calls Tryz.prog 209 #[.pointer (some ⟨b,0,none⟩),.int .i64 c,.string nm,.string ds] w fun e w'=>e=.returned (idE (lifR ps nm ds c))∧Below w.heap.size w w'):=fun w hb=>lif_c (h.below hb) hi c nm ds
  unfold lbyR
  generalize lookR ps nm ds c=R at *
  generalize lifR ps nm ds c=S at *
  obtain ⟨⟨R1,R2⟩,R3⟩:=R
  obtain ⟨⟨S1,S2⟩,S3⟩:=S
  simp only [idE] at HL HF
  clear h hi
  cases y with
  | true =>
    rw [if_pos rfl]
    go_enter Tryz.func141,Tryz.ntmps141
    go_wp2_with (first
      | (go_at_call 209;refine (HF.out _ (by repeat (first|exact Below.refl _ _|refine Below.setCell ?_ (by simp;try omega) _|refine Below.alloc ?_ (by simp;try omega) _|refine Below.drew ?_))).mono ?_;rintro e w2 ⟨rfl,hb⟩;have zd:=kp2 (n:=W.heap.size+1) hb;(try clear zB z0 z1 zf zL zN);obtain ⟨zB,z0,z1,zf,zL,zN⟩:=zd;have B2:Hid (Below W.heap.size W w2):=bstep (by repeat (first|exact Below.refl _ _|refine Below.setCell ?_ (by simp;try omega) _|refine Below.alloc ?_ (by simp;try omega) _|refine Below.drew ?_)) hb;clear hb HF))
    exact bodyPost_ret (v:=idE ((S1,S2),S3)) (by simp [results,Tryz.results141,go_sem,idE, *]) rfl ⟨rfl,(by repeat (first|exact B2.out|refine Below.setCell ?_ (by simp;try omega) _|refine Below.alloc ?_ (by have:=B2.out.size;simp;try omega) _|refine Below.drew ?_))⟩
  | false =>
    rw [if_neg (by simp)]
    go_enter Tryz.func141,Tryz.ntmps141
    go_wp2_with (first
      | (go_at_call 210;refine (HL.out _ (by repeat (first|exact Below.refl _ _|refine Below.setCell ?_ (by simp;try omega) _|refine Below.alloc ?_ (by simp;try omega) _|refine Below.drew ?_))).mono ?_;rintro e w2 ⟨rfl,hb⟩;have zd:=kp2 (n:=W.heap.size+1) hb;(try clear zB z0 z1 zf zL zN);obtain ⟨zB,z0,z1,zf,zL,zN⟩:=zd;have B2:Hid (Below W.heap.size W w2):=bstep (by repeat (first|exact Below.refl _ _|refine Below.setCell ?_ (by simp;try omega) _|refine Below.alloc ?_ (by simp;try omega) _|refine Below.drew ?_)) hb;clear hb HL))
    exact bodyPost_ret (v:=idE ((R1,R2),R3)) (by simp [results,Tryz.results141,go_sem,idE, *]) rfl ⟨rfl,(by repeat (first|exact B2.out|refine Below.setCell ?_ (by simp;try omega) _|refine Below.alloc ?_ (by have:=B2.out.size;simp;try omega) _|refine Below.drew ?_))⟩
def toP (ps:List Plc) (d x:Int) (s:ByteArray):Bool×Int:=match plcI ps d with
  | some p=>if ldI ps x s=0 then (tyO ps p s,0) else (false,ldI ps x s)
  | none=>(false,3)
theorem toI_eq (ps:List Plc) (d x:Int) (s:ByteArray):toI ps d x s=.tuple #[.bool (toP ps d x s).1,.int .i64 (toP ps d x s).2]:=by
  unfold toI toP
  cases plcI ps d with
  | none=>rfl
  | some p=>by_cases h:ldI ps x s=0 <;> simp [h]
def tyE (x:(Int×ByteArray)×Int):Value:=.tuple #[.agg #[.int .i64 x.1.1,.string x.1.2],.int .i64 x.2]
def tyS (l:List UInt8):ByteArray:=⟨(prfT l).2.toArray⟩
def tyX (ps:List Plc) (d:Int) (l:List UInt8):Int:=shuI (toP ps d (prfT l).1 (tyS l)).1 (toP ps d (prfT l).1 (tyS l)).2
def clsR (ps:List Plc) (d:Int) (l:List UInt8):(Int×ByteArray)×Int :=
  if rckI ps d=0 then (if prfE l=0 then (if tyX ps d l=0 then ((((prfT l).1:Int),tyS l),0) else ((0,⟨#[]⟩),tyX ps d l)) else ((0,⟨#[]⟩),4)) else ((0,⟨#[]⟩),rckI ps d)
theorem prf_len2 (l:List UInt8) (h:prfE l=0):(prfT l).2.length≤2000∧(prfT l).1≤2000:=by
  unfold prfE at h
  unfold prfT
  by_cases h1:2000<l.length
  · rw [if_pos h1] at h;exact absurd h (by decide)
  · rw [if_neg h1] at h
    rw [if_neg h1]
    by_cases h2:l.head?=some 91
    · rw [if_pos h2] at h
      rw [if_pos h2]
      unfold parT
      rw [if_pos h]
      split
      · rename_i t r e
        have hw:=(write_read e).1
        have hl:=congrArg List.length hw
        rw [List.length_append,writeT_length] at hl
        split at hl
        · rename_i e0;rw [e0];simp;omega
        · omega
      all_goals simp
    · rw [if_neg h2] at h
      rw [if_neg h2]
      split
      · simp;omega
      · simp
end Go.Proofs.YtdpodamnfpehkaaGreatDoor
