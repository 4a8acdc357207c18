import Derived.Test.YtjlfnelihbdhjaaGreatRsB
set_option maxRecDepth 100000
namespace Go.Proofs.YtjlfnelihbdhjaaGreat
open Go.RowKit Go.Maps
def lookR (ps:List Plc) (nm ds:ByteArray) (c:Int):(Int×Int)×Int:=match plcI ps c with
  | none=>((0,0),3)
  | some q=>if ifcI ps c then ((0,0),23) else firR [upR ps nm ds (chL (ps.map nd) c.toNat),oneV ps (candL ps nm ds q.cl),someV (candL ps nm ds q.cl)]
def lifR (ps:List Plc) (nm ds:ByteArray) (c:Int):(Int×Int)×Int:=match plcI ps c with
  | none=>((0,0),3)
  | some q=>if ifcI ps c then firR [ownR ps nm ds c,topR ps nm ds,oneV ps (candL ps nm ds q.cl),someV (candL ps nm ds q.cl)] else ((0,0),23)
theorem rck_none {ps:List Plc} {i:Int} (h:plcI ps i=none):rckI ps i=3:=by rw [rckI,h];rfl
theorem rck_some {ps:List Plc} {i:Int} {q:Plc} (h:plcI ps i=some q):rckI ps i=0:=by rw [rckI,h];rfl
theorem callUp (vs:Array Value) (w:World):(callFunc 233 vs).run Tryz.prog w=.ok (.enter 233 vs) w:=by simp [go_sem]
theorem callOwn (vs:Array Value) (w:World):(callFunc 230 vs).run Tryz.prog w=.ok (.enter 230 vs) w:=by simp [go_sem]
theorem callTop (vs:Array Value) (w:World):(callFunc 231 vs).run Tryz.prog w=.ok (.enter 231 vs) w:=by simp [go_sem]
theorem callOne (vs:Array Value) (w:World):(callFunc 105 vs).run Tryz.prog w=.ok (.enter 105 vs) w:=by simp [go_sem]
theorem callSome (vs:Array Value) (w:World):(callFunc 232 vs).run Tryz.prog w=.ok (.enter 232 vs) w:=by simp [go_sem]
set_option maxHeartbeats 1000000 in
theorem look_c {b:Nat} {ps:List Plc} {W:World} (h:WAt b ps W) (hi:WI ps) (c:Int) (nm ds:ByteArray):Calls Tryz.prog 169 #[.pointer (some ⟨b,0,none⟩),.int .i64 c,.string nm,.string ds] W fun e w'=>e=.returned (idE (lookR ps nm ds c))∧Below W.heap.size W w':=by
  have HC:Hid (∀ w,Below W.heap.size W w→Calls Tryz.prog 82 #[.pointer (some ⟨b,0,none⟩),.int .i64 c] w fun e w'=>e=.returned (.int .i64 (rckI ps c))∧Below w.heap.size w w'):=fun w hb=>(rck_c (h.below hb) c).mono fun e w' zz=>⟨zz.1,by rw [zz.2];exact Below.refl _ _⟩
  have HI:Hid (∀ w,Below W.heap.size W w→Calls Tryz.prog 56 #[.pointer (some ⟨b,0,none⟩),.int .i64 c] w fun e w'=>e=.returned (.bool (ifcI ps c))∧Below w.heap.size w w'):=fun w hb=>isIface_c (h.below hb) c
  rcases plcI_cases ps c with ⟨h1,h2⟩|⟨k,q,rfl,h2,h1⟩
  · have e:lookR ps nm ds c=((0,0),3):=by rw [lookR,h1]
    rw [e]
    rw [rck_none h1] at HC
    clear h hi h1 h2 e HI
    go_enter Tryz.func169,Tryz.ntmps169
    go_wp2_with (first
      | (go_at_call 82;refine (HC.out _ (by repeat (first|exact Below.refl _ _|refine Below.setCell ?_ (by simp;try omega) _|refine Below.alloc ?_ (by simp;try omega) _|refine Below.drew ?_))).mono ?_;rintro e w2 ⟨rfl,hb⟩;have d1:w2.heap[W.heap.size]?=some (.cells #[.int .i64 0,.int .i64 0] 24 (0,0)):=(hb.block W.heap.size (by first|omega|(simp;try omega))).trans (by first|exact halloc2 _ _ rfl|exact heap_alloc2_old W _ _|exact RB.out|exact hkeep RB.out|exact hkeep (hkeep RB.out)|exact hkeep (heap_alloc2_old W _ _));(try clear RB z0 z1 f0 f1 hL9 hN9);have RB:Hid (w2.heap[W.heap.size]?=some (.cells #[.int .i64 0,.int .i64 0] 24 (0,0))):=d1;have z0:w2.cell? ⟨W.heap.size,0,none⟩=some (.int .i64 0):=(cell_of_row w2 W.heap.size 0 _ _ _ d1).trans rfl;have z1:w2.cell? ⟨W.heap.size,1,none⟩=some (.int .i64 0):=(cell_of_row w2 W.heap.size 1 _ _ _ d1).trans rfl;have f0:=frozen_of_row w2 W.heap.size 0 _ _ d1;have f1:=frozen_of_row w2 W.heap.size 1 _ _ d1;have hL9:W.heap.size<w2.heap.size:=(Array.getElem?_eq_some_iff.1 d1).1;have hN9:¬ W.heap.size=w2.heap.size:=(by omega);clear d1;have B2:Hid (Below W.heap.size W w2):=bstep (by repeat (first|exact Below.refl _ _|refine Below.setCell ?_ (by simp;try omega) _|refine Below.alloc ?_ (by simp;try omega) _|refine Below.drew ?_)) hb;clear hb HC))
    exact bodyPost_ret (v:=idE ((0,0),3)) (by simp [results,Tryz.results169,go_sem,idE, *]) rfl ⟨rfl,(by repeat (first|exact B2.out|refine Below.setCell ?_ (by simp;try omega) _|refine Below.alloc ?_ (by have:=B2.out.size;simp;try omega) _|refine Below.drew ?_))⟩
  · have e:lookR ps nm ds (k:Int)=if ifcI ps (k:Int) then ((0,0),23) else firR [upR ps nm ds (chL (ps.map nd) k),oneV ps (candL ps nm ds q.cl),someV (candL ps nm ds q.cl)]:=by rw [lookR,h1];rfl
    rw [e]
    rw [rck_some h1] at HC
    clear e
    have HT:Hid (∀ w v,Below W.heap.size W w→Rds w v 3 1 [.func (.func 233) #[] #[],.func (.func 105) #[] #[],.func (.func 232) #[] #[]]→Calls Tryz.prog 229 #[.pointer (some ⟨b,0,none⟩),.int .i64 (k:Int),.string nm,.string ds,v] w fun e w'=>e=.returned (idE (firR [upR ps nm ds (chL (ps.map nd) k),oneV ps (candL ps nm ds q.cl),someV (candL ps nm ds q.cl)]))∧Below w.heap.size w w'):=fun w v hb hv=>by
      refine try_c _ _ nm ds v [(233,upR ps nm ds (chL (ps.map nd) k)),(105,oneV ps (candL ps nm ds q.cl)),(232,someV (candL ps nm ds q.cl))] w hv (by simp) ?_ ?_
      · intro x hx
        simp only [List.mem_cons,List.not_mem_nil,or_false] at hx
        rcases hx with rfl|rfl|rfl
        · exact callUp
        · exact callOne
        · exact callSome
      · intro x hx w' hb'
        have hw:=(h.below hb).below hb'
        simp only [List.mem_cons,List.not_mem_nil,or_false] at hx
        rcases hx with rfl|rfl|rfl
        · exact up_yes hw hi k q h2 nm ds
        · exact one_yes hw hi k q h2 nm ds
        · exact some_yes hw hi k q h2 nm ds
    generalize firR [upR ps nm ds (chL (ps.map nd) k),oneV ps (candL ps nm ds q.cl),someV (candL ps nm ds q.cl)]=R at *
    obtain ⟨⟨R1,R2⟩,R3⟩:=R
    simp only [idE] at HT
    generalize ifcI ps (k:Int)=y at *
    clear h hi h1 h2
    cases y with
    | true =>
      rw [if_pos rfl]
      go_enter Tryz.func169,Tryz.ntmps169
      go_wp2_with (first
        | (go_at_call 82;refine (HC.out _ (by repeat (first|exact Below.refl _ _|refine Below.setCell ?_ (by simp;try omega) _|refine Below.alloc ?_ (by simp;try omega) _|refine Below.drew ?_))).mono ?_;rintro e w1 ⟨rfl,hb⟩;have d1:w1.heap[W.heap.size]?=some (.cells #[.int .i64 0,.int .i64 0] 24 (0,0)):=(hb.block W.heap.size (by first|omega|(simp;try omega))).trans (by first|exact halloc2 _ _ rfl|exact heap_alloc2_old W _ _|exact RB.out|exact hkeep RB.out|exact hkeep (hkeep RB.out)|exact hkeep (heap_alloc2_old W _ _));(try clear RB z0 z1 f0 f1 hL9 hN9);have RB:Hid (w1.heap[W.heap.size]?=some (.cells #[.int .i64 0,.int .i64 0] 24 (0,0))):=d1;have z0:w1.cell? ⟨W.heap.size,0,none⟩=some (.int .i64 0):=(cell_of_row w1 W.heap.size 0 _ _ _ d1).trans rfl;have z1:w1.cell? ⟨W.heap.size,1,none⟩=some (.int .i64 0):=(cell_of_row w1 W.heap.size 1 _ _ _ d1).trans rfl;have f0:=frozen_of_row w1 W.heap.size 0 _ _ d1;have f1:=frozen_of_row w1 W.heap.size 1 _ _ d1;have hL9:W.heap.size<w1.heap.size:=(Array.getElem?_eq_some_iff.1 d1).1;have hN9:¬ W.heap.size=w1.heap.size:=(by omega);clear d1;have B1:Hid (Below W.heap.size W w1):=bstep (by repeat (first|exact Below.refl _ _|refine Below.setCell ?_ (by simp;try omega) _|refine Below.alloc ?_ (by simp;try omega) _|refine Below.drew ?_)) hb;clear hb HC)
        | (go_at_call 56;refine (HI.out _ B1.out).mono ?_;rintro e w2 ⟨rfl,hb⟩;have d1:w2.heap[W.heap.size]?=some (.cells #[.int .i64 0,.int .i64 0] 24 (0,0)):=(hb.block W.heap.size (by first|omega|(simp;try omega))).trans (by first|exact halloc2 _ _ rfl|exact heap_alloc2_old W _ _|exact RB.out|exact hkeep RB.out|exact hkeep (hkeep RB.out)|exact hkeep (heap_alloc2_old W _ _));(try clear RB z0 z1 f0 f1 hL9 hN9);have RB:Hid (w2.heap[W.heap.size]?=some (.cells #[.int .i64 0,.int .i64 0] 24 (0,0))):=d1;have z0:w2.cell? ⟨W.heap.size,0,none⟩=some (.int .i64 0):=(cell_of_row w2 W.heap.size 0 _ _ _ d1).trans rfl;have z1:w2.cell? ⟨W.heap.size,1,none⟩=some (.int .i64 0):=(cell_of_row w2 W.heap.size 1 _ _ _ d1).trans rfl;have f0:=frozen_of_row w2 W.heap.size 0 _ _ d1;have f1:=frozen_of_row w2 W.heap.size 1 _ _ d1;have hL9:W.heap.size<w2.heap.size:=(Array.getElem?_eq_some_iff.1 d1).1;have hN9:¬ W.heap.size=w2.heap.size:=(by omega);clear d1;have B2:Hid (Below W.heap.size W w2):=bstep B1.out hb;clear hb HI))
      exact bodyPost_ret (v:=idE ((0,0),23)) (by simp [results,Tryz.results169,go_sem,idE, *]) rfl ⟨rfl,(by repeat (first|exact B2.out|refine Below.setCell ?_ (by simp;try omega) _|refine Below.alloc ?_ (by have:=B2.out.size;simp;try omega) _|refine Below.drew ?_))⟩
    | false =>
      rw [if_neg (by simp)]
      go_enter Tryz.func169,Tryz.ntmps169
      go_wp2_with (first
        | (go_at_call 82;refine (HC.out _ (by repeat (first|exact Below.refl _ _|refine Below.setCell ?_ (by simp;try omega) _|refine Below.alloc ?_ (by simp;try omega) _|refine Below.drew ?_))).mono ?_;rintro e w1 ⟨rfl,hb⟩;have d1:w1.heap[W.heap.size]?=some (.cells #[.int .i64 0,.int .i64 0] 24 (0,0)):=(hb.block W.heap.size (by first|omega|(simp;try omega))).trans (by first|exact halloc2 _ _ rfl|exact heap_alloc2_old W _ _|exact RB.out|exact hkeep RB.out|exact hkeep (hkeep RB.out)|exact hkeep (heap_alloc2_old W _ _));(try clear RB z0 z1 f0 f1 hL9 hN9);have RB:Hid (w1.heap[W.heap.size]?=some (.cells #[.int .i64 0,.int .i64 0] 24 (0,0))):=d1;have z0:w1.cell? ⟨W.heap.size,0,none⟩=some (.int .i64 0):=(cell_of_row w1 W.heap.size 0 _ _ _ d1).trans rfl;have z1:w1.cell? ⟨W.heap.size,1,none⟩=some (.int .i64 0):=(cell_of_row w1 W.heap.size 1 _ _ _ d1).trans rfl;have f0:=frozen_of_row w1 W.heap.size 0 _ _ d1;have f1:=frozen_of_row w1 W.heap.size 1 _ _ d1;have hL9:W.heap.size<w1.heap.size:=(Array.getElem?_eq_some_iff.1 d1).1;have hN9:¬ W.heap.size=w1.heap.size:=(by omega);clear d1;have B1:Hid (Below W.heap.size W w1):=bstep (by repeat (first|exact Below.refl _ _|refine Below.setCell ?_ (by simp;try omega) _|refine Below.alloc ?_ (by simp;try omega) _|refine Below.drew ?_)) hb;clear hb HC)
        | (go_at_call 56;refine (HI.out _ B1.out).mono ?_;rintro e w2 ⟨rfl,hb⟩;have d1:w2.heap[W.heap.size]?=some (.cells #[.int .i64 0,.int .i64 0] 24 (0,0)):=(hb.block W.heap.size (by first|omega|(simp;try omega))).trans (by first|exact halloc2 _ _ rfl|exact heap_alloc2_old W _ _|exact RB.out|exact hkeep RB.out|exact hkeep (hkeep RB.out)|exact hkeep (heap_alloc2_old W _ _));(try clear RB z0 z1 f0 f1 hL9 hN9);have RB:Hid (w2.heap[W.heap.size]?=some (.cells #[.int .i64 0,.int .i64 0] 24 (0,0))):=d1;have z0:w2.cell? ⟨W.heap.size,0,none⟩=some (.int .i64 0):=(cell_of_row w2 W.heap.size 0 _ _ _ d1).trans rfl;have z1:w2.cell? ⟨W.heap.size,1,none⟩=some (.int .i64 0):=(cell_of_row w2 W.heap.size 1 _ _ _ d1).trans rfl;have f0:=frozen_of_row w2 W.heap.size 0 _ _ d1;have f1:=frozen_of_row w2 W.heap.size 1 _ _ d1;have hL9:W.heap.size<w2.heap.size:=(Array.getElem?_eq_some_iff.1 d1).1;have hN9:¬ W.heap.size=w2.heap.size:=(by omega);clear d1;have B2:Hid (Below W.heap.size W w2):=bstep B1.out hb;clear hb HI)
        | (go_at_call 229;refine (HT.out _ _ (B2.out.alloc B2.out.size _) (rds_at _ _ (by simp) _ _ 3 1 rfl (by decide))).mono ?_;rintro e w3 ⟨rfl,hb⟩;have d1:w3.heap[W.heap.size]?=some (.cells #[.int .i64 0,.int .i64 0] 24 (0,0)):=(hb.block W.heap.size (by first|omega|(simp;try omega))).trans (by first|exact halloc2 _ _ rfl|exact heap_alloc2_old W _ _|exact RB.out|exact hkeep RB.out|exact hkeep (hkeep RB.out)|exact hkeep (heap_alloc2_old W _ _));(try clear RB z0 z1 f0 f1 hL9 hN9);have RB:Hid (w3.heap[W.heap.size]?=some (.cells #[.int .i64 0,.int .i64 0] 24 (0,0))):=d1;have z0:w3.cell? ⟨W.heap.size,0,none⟩=some (.int .i64 0):=(cell_of_row w3 W.heap.size 0 _ _ _ d1).trans rfl;have z1:w3.cell? ⟨W.heap.size,1,none⟩=some (.int .i64 0):=(cell_of_row w3 W.heap.size 1 _ _ _ d1).trans rfl;have f0:=frozen_of_row w3 W.heap.size 0 _ _ d1;have f1:=frozen_of_row w3 W.heap.size 1 _ _ d1;have hL9:W.heap.size<w3.heap.size:=(Array.getElem?_eq_some_iff.1 d1).1;have hN9:¬ W.heap.size=w3.heap.size:=(by omega);clear d1;have B3:Hid (Below W.heap.size W w3):=bstep (B2.out.alloc B2.out.size _) hb;clear hb HT))
      exact bodyPost_ret (v:=idE ((R1,R2),R3)) (by simp [results,Tryz.results169,go_sem,idE, *]) rfl ⟨rfl,(by repeat (first|exact B3.out|refine Below.setCell ?_ (by simp;try omega) _|refine Below.alloc ?_ (by have:=B3.out.size;simp;try omega) _|refine Below.drew ?_))⟩
set_option maxHeartbeats 1000000 in
theorem lif_c {b:Nat} {ps:List Plc} {W:World} (h:WAt b ps W) (hi:WI ps) (c:Int) (nm ds:ByteArray):Calls Tryz.prog 168 #[.pointer (some ⟨b,0,none⟩),.int .i64 c,.string nm,.string ds] W fun e w'=>e=.returned (idE (lifR ps nm ds c))∧Below W.heap.size W w':=by
  have HC:Hid (∀ w,Below W.heap.size W w→Calls Tryz.prog 82 #[.pointer (some ⟨b,0,none⟩),.int .i64 c] w fun e w'=>e=.returned (.int .i64 (rckI ps c))∧Below w.heap.size w w'):=fun w hb=>(rck_c (h.below hb) c).mono fun e w' zz=>⟨zz.1,by rw [zz.2];exact Below.refl _ _⟩
  have HI:Hid (∀ w,Below W.heap.size W w→Calls Tryz.prog 56 #[.pointer (some ⟨b,0,none⟩),.int .i64 c] w fun e w'=>e=.returned (.bool (ifcI ps c))∧Below w.heap.size w w'):=fun w hb=>isIface_c (h.below hb) c
  rcases plcI_cases ps c with ⟨h1,h2⟩|⟨k,q,rfl,h2,h1⟩
  · have e:lifR ps nm ds c=((0,0),3):=by rw [lifR,h1]
    rw [e]
    rw [rck_none h1] at HC
    clear h hi h1 h2 e HI
    go_enter Tryz.func168,Tryz.ntmps168
    go_wp2_with (first
      | (go_at_call 82;refine (HC.out _ (by repeat (first|exact Below.refl _ _|refine Below.setCell ?_ (by simp;try omega) _|refine Below.alloc ?_ (by simp;try omega) _|refine Below.drew ?_))).mono ?_;rintro e w2 ⟨rfl,hb⟩;have d1:w2.heap[W.heap.size]?=some (.cells #[.int .i64 0,.int .i64 0] 24 (0,0)):=(hb.block W.heap.size (by first|omega|(simp;try omega))).trans (by first|exact halloc2 _ _ rfl|exact heap_alloc2_old W _ _|exact RB.out|exact hkeep RB.out|exact hkeep (hkeep RB.out)|exact hkeep (heap_alloc2_old W _ _));(try clear RB z0 z1 f0 f1 hL9 hN9);have RB:Hid (w2.heap[W.heap.size]?=some (.cells #[.int .i64 0,.int .i64 0] 24 (0,0))):=d1;have z0:w2.cell? ⟨W.heap.size,0,none⟩=some (.int .i64 0):=(cell_of_row w2 W.heap.size 0 _ _ _ d1).trans rfl;have z1:w2.cell? ⟨W.heap.size,1,none⟩=some (.int .i64 0):=(cell_of_row w2 W.heap.size 1 _ _ _ d1).trans rfl;have f0:=frozen_of_row w2 W.heap.size 0 _ _ d1;have f1:=frozen_of_row w2 W.heap.size 1 _ _ d1;have hL9:W.heap.size<w2.heap.size:=(Array.getElem?_eq_some_iff.1 d1).1;have hN9:¬ W.heap.size=w2.heap.size:=(by omega);clear d1;have B2:Hid (Below W.heap.size W w2):=bstep (by repeat (first|exact Below.refl _ _|refine Below.setCell ?_ (by simp;try omega) _|refine Below.alloc ?_ (by simp;try omega) _|refine Below.drew ?_)) hb;clear hb HC))
    exact bodyPost_ret (v:=idE ((0,0),3)) (by simp [results,Tryz.results168,go_sem,idE, *]) rfl ⟨rfl,(by repeat (first|exact B2.out|refine Below.setCell ?_ (by simp;try omega) _|refine Below.alloc ?_ (by have:=B2.out.size;simp;try omega) _|refine Below.drew ?_))⟩
  · have e:lifR ps nm ds (k:Int)=if ifcI ps (k:Int) then firR [ownR ps nm ds (k:Int),topR ps nm ds,oneV ps (candL ps nm ds q.cl),someV (candL ps nm ds q.cl)] else ((0,0),23):=by rw [lifR,h1]
    rw [e]
    rw [rck_some h1] at HC
    clear e
    have HT:Hid (∀ w v,Below W.heap.size W w→Rds w v 4 1 [.func (.func 230) #[] #[],.func (.func 231) #[] #[],.func (.func 105) #[] #[],.func (.func 232) #[] #[]]→Calls Tryz.prog 229 #[.pointer (some ⟨b,0,none⟩),.int .i64 (k:Int),.string nm,.string ds,v] w fun e w'=>e=.returned (idE (firR [ownR ps nm ds (k:Int),topR ps nm ds,oneV ps (candL ps nm ds q.cl),someV (candL ps nm ds q.cl)]))∧Below w.heap.size w w'):=fun w v hb hv=>by
      refine try_c _ _ nm ds v [(230,ownR ps nm ds (k:Int)),(231,topR ps nm ds),(105,oneV ps (candL ps nm ds q.cl)),(232,someV (candL ps nm ds q.cl))] w hv (by simp) ?_ ?_
      · intro x hx
        simp only [List.mem_cons,List.not_mem_nil,or_false] at hx
        rcases hx with rfl|rfl|rfl|rfl
        · exact callOwn
        · exact callTop
        · exact callOne
        · exact callSome
      · intro x hx w' hb'
        have hw:=(h.below hb).below hb'
        simp only [List.mem_cons,List.not_mem_nil,or_false] at hx
        rcases hx with rfl|rfl|rfl|rfl
        · exact own_c hw hi.pb k nm ds
        · exact top_c hw hi.pb k nm ds
        · exact one_yes hw hi k q h2 nm ds
        · exact some_yes hw hi k q h2 nm ds
    generalize firR [ownR ps nm ds (k:Int),topR ps nm ds,oneV ps (candL ps nm ds q.cl),someV (candL ps nm ds q.cl)]=R at *
    obtain ⟨⟨R1,R2⟩,R3⟩:=R
    simp only [idE] at HT
    generalize ifcI ps (k:Int)=y at *
    clear h hi h1 h2
    cases y with
    | false =>
      rw [if_neg (by simp)]
      go_enter Tryz.func168,Tryz.ntmps168
      go_wp2_with (first
        | (go_at_call 82;refine (HC.out _ (by repeat (first|exact Below.refl _ _|refine Below.setCell ?_ (by simp;try omega) _|refine Below.alloc ?_ (by simp;try omega) _|refine Below.drew ?_))).mono ?_;rintro e w1 ⟨rfl,hb⟩;have d1:w1.heap[W.heap.size]?=some (.cells #[.int .i64 0,.int .i64 0] 24 (0,0)):=(hb.block W.heap.size (by first|omega|(simp;try omega))).trans (by first|exact halloc2 _ _ rfl|exact heap_alloc2_old W _ _|exact RB.out|exact hkeep RB.out|exact hkeep (hkeep RB.out)|exact hkeep (heap_alloc2_old W _ _));(try clear RB z0 z1 f0 f1 hL9 hN9);have RB:Hid (w1.heap[W.heap.size]?=some (.cells #[.int .i64 0,.int .i64 0] 24 (0,0))):=d1;have z0:w1.cell? ⟨W.heap.size,0,none⟩=some (.int .i64 0):=(cell_of_row w1 W.heap.size 0 _ _ _ d1).trans rfl;have z1:w1.cell? ⟨W.heap.size,1,none⟩=some (.int .i64 0):=(cell_of_row w1 W.heap.size 1 _ _ _ d1).trans rfl;have f0:=frozen_of_row w1 W.heap.size 0 _ _ d1;have f1:=frozen_of_row w1 W.heap.size 1 _ _ d1;have hL9:W.heap.size<w1.heap.size:=(Array.getElem?_eq_some_iff.1 d1).1;have hN9:¬ W.heap.size=w1.heap.size:=(by omega);clear d1;have B1:Hid (Below W.heap.size W w1):=bstep (by repeat (first|exact Below.refl _ _|refine Below.setCell ?_ (by simp;try omega) _|refine Below.alloc ?_ (by simp;try omega) _|refine Below.drew ?_)) hb;clear hb HC)
        | (go_at_call 56;refine (HI.out _ B1.out).mono ?_;rintro e w2 ⟨rfl,hb⟩;have d1:w2.heap[W.heap.size]?=some (.cells #[.int .i64 0,.int .i64 0] 24 (0,0)):=(hb.block W.heap.size (by first|omega|(simp;try omega))).trans (by first|exact halloc2 _ _ rfl|exact heap_alloc2_old W _ _|exact RB.out|exact hkeep RB.out|exact hkeep (hkeep RB.out)|exact hkeep (heap_alloc2_old W _ _));(try clear RB z0 z1 f0 f1 hL9 hN9);have RB:Hid (w2.heap[W.heap.size]?=some (.cells #[.int .i64 0,.int .i64 0] 24 (0,0))):=d1;have z0:w2.cell? ⟨W.heap.size,0,none⟩=some (.int .i64 0):=(cell_of_row w2 W.heap.size 0 _ _ _ d1).trans rfl;have z1:w2.cell? ⟨W.heap.size,1,none⟩=some (.int .i64 0):=(cell_of_row w2 W.heap.size 1 _ _ _ d1).trans rfl;have f0:=frozen_of_row w2 W.heap.size 0 _ _ d1;have f1:=frozen_of_row w2 W.heap.size 1 _ _ d1;have hL9:W.heap.size<w2.heap.size:=(Array.getElem?_eq_some_iff.1 d1).1;have hN9:¬ W.heap.size=w2.heap.size:=(by omega);clear d1;have B2:Hid (Below W.heap.size W w2):=bstep B1.out hb;clear hb HI))
      exact bodyPost_ret (v:=idE ((0,0),23)) (by simp [results,Tryz.results168,go_sem,idE, *]) rfl ⟨rfl,(by repeat (first|exact B2.out|refine Below.setCell ?_ (by simp;try omega) _|refine Below.alloc ?_ (by have:=B2.out.size;simp;try omega) _|refine Below.drew ?_))⟩
    | true =>
      rw [if_pos rfl]
      go_enter Tryz.func168,Tryz.ntmps168
      go_wp2_with (first
        | (go_at_call 82;refine (HC.out _ (by repeat (first|exact Below.refl _ _|refine Below.setCell ?_ (by simp;try omega) _|refine Below.alloc ?_ (by simp;try omega) _|refine Below.drew ?_))).mono ?_;rintro e w1 ⟨rfl,hb⟩;have d1:w1.heap[W.heap.size]?=some (.cells #[.int .i64 0,.int .i64 0] 24 (0,0)):=(hb.block W.heap.size (by first|omega|(simp;try omega))).trans (by first|exact halloc2 _ _ rfl|exact heap_alloc2_old W _ _|exact RB.out|exact hkeep RB.out|exact hkeep (hkeep RB.out)|exact hkeep (heap_alloc2_old W _ _));(try clear RB z0 z1 f0 f1 hL9 hN9);have RB:Hid (w1.heap[W.heap.size]?=some (.cells #[.int .i64 0,.int .i64 0] 24 (0,0))):=d1;have z0:w1.cell? ⟨W.heap.size,0,none⟩=some (.int .i64 0):=(cell_of_row w1 W.heap.size 0 _ _ _ d1).trans rfl;have z1:w1.cell? ⟨W.heap.size,1,none⟩=some (.int .i64 0):=(cell_of_row w1 W.heap.size 1 _ _ _ d1).trans rfl;have f0:=frozen_of_row w1 W.heap.size 0 _ _ d1;have f1:=frozen_of_row w1 W.heap.size 1 _ _ d1;have hL9:W.heap.size<w1.heap.size:=(Array.getElem?_eq_some_iff.1 d1).1;have hN9:¬ W.heap.size=w1.heap.size:=(by omega);clear d1;have B1:Hid (Below W.heap.size W w1):=bstep (by repeat (first|exact Below.refl _ _|refine Below.setCell ?_ (by simp;try omega) _|refine Below.alloc ?_ (by simp;try omega) _|refine Below.drew ?_)) hb;clear hb HC)
        | (go_at_call 56;refine (HI.out _ B1.out).mono ?_;rintro e w2 ⟨rfl,hb⟩;have d1:w2.heap[W.heap.size]?=some (.cells #[.int .i64 0,.int .i64 0] 24 (0,0)):=(hb.block W.heap.size (by first|omega|(simp;try omega))).trans (by first|exact halloc2 _ _ rfl|exact heap_alloc2_old W _ _|exact RB.out|exact hkeep RB.out|exact hkeep (hkeep RB.out)|exact hkeep (heap_alloc2_old W _ _));(try clear RB z0 z1 f0 f1 hL9 hN9);have RB:Hid (w2.heap[W.heap.size]?=some (.cells #[.int .i64 0,.int .i64 0] 24 (0,0))):=d1;have z0:w2.cell? ⟨W.heap.size,0,none⟩=some (.int .i64 0):=(cell_of_row w2 W.heap.size 0 _ _ _ d1).trans rfl;have z1:w2.cell? ⟨W.heap.size,1,none⟩=some (.int .i64 0):=(cell_of_row w2 W.heap.size 1 _ _ _ d1).trans rfl;have f0:=frozen_of_row w2 W.heap.size 0 _ _ d1;have f1:=frozen_of_row w2 W.heap.size 1 _ _ d1;have hL9:W.heap.size<w2.heap.size:=(Array.getElem?_eq_some_iff.1 d1).1;have hN9:¬ W.heap.size=w2.heap.size:=(by omega);clear d1;have B2:Hid (Below W.heap.size W w2):=bstep B1.out hb;clear hb HI)
        | (go_at_call 229;refine (HT.out _ _ (B2.out.alloc B2.out.size _) (rds_at _ _ (by simp) _ _ 4 1 rfl (by decide))).mono ?_;rintro e w3 ⟨rfl,hb⟩;have d1:w3.heap[W.heap.size]?=some (.cells #[.int .i64 0,.int .i64 0] 24 (0,0)):=(hb.block W.heap.size (by first|omega|(simp;try omega))).trans (by first|exact halloc2 _ _ rfl|exact heap_alloc2_old W _ _|exact RB.out|exact hkeep RB.out|exact hkeep (hkeep RB.out)|exact hkeep (heap_alloc2_old W _ _));(try clear RB z0 z1 f0 f1 hL9 hN9);have RB:Hid (w3.heap[W.heap.size]?=some (.cells #[.int .i64 0,.int .i64 0] 24 (0,0))):=d1;have z0:w3.cell? ⟨W.heap.size,0,none⟩=some (.int .i64 0):=(cell_of_row w3 W.heap.size 0 _ _ _ d1).trans rfl;have z1:w3.cell? ⟨W.heap.size,1,none⟩=some (.int .i64 0):=(cell_of_row w3 W.heap.size 1 _ _ _ d1).trans rfl;have f0:=frozen_of_row w3 W.heap.size 0 _ _ d1;have f1:=frozen_of_row w3 W.heap.size 1 _ _ d1;have hL9:W.heap.size<w3.heap.size:=(Array.getElem?_eq_some_iff.1 d1).1;have hN9:¬ W.heap.size=w3.heap.size:=(by omega);clear d1;have B3:Hid (Below W.heap.size W w3):=bstep (B2.out.alloc B2.out.size _) hb;clear hb HT))
      exact bodyPost_ret (v:=idE ((R1,R2),R3)) (by simp [results,Tryz.results168,go_sem,idE, *]) rfl ⟨rfl,(by repeat (first|exact B3.out|refine Below.setCell ?_ (by simp;try omega) _|refine Below.alloc ?_ (by have:=B3.out.size;simp;try omega) _|refine Below.drew ?_))⟩
def lbyR (ps:List Plc) (y:Bool) (nm ds:ByteArray) (c:Int):(Int×Int)×Int:=if y then lifR ps nm ds c else lookR ps nm ds c
end Go.Proofs.YtjlfnelihbdhjaaGreat
