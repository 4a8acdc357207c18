import Derived.Test.YtenpnkkkjjdccaaGreatOvA
import Derived.Test.YtenpnkkkjjdccaaGreatTyC
import Derived.Test.YtenpnkkkjjdccaaGreatAcE
set_option maxRecDepth 100000
namespace Go.Proofs.YtenpnkkkjjdccaaGreat
open Go.RowKit Go.Maps
def upR (ps:List Plc) (nm ds:ByteArray):List Nat→(Int×Int)×Int
  | []=>((0,0),6)
  | i::r=>if (ownR ps nm ds (i:Int)).2=0 then ((ownR ps nm ds (i:Int)).1,0) else upR ps nm ds r
theorem upR_at {ps:List Plc} {nm ds:ByteArray} {l:List Nat} {j i:Nat} (h:l[j]?=some i):upR ps nm ds (l.drop j)=if (ownR ps nm ds (i:Int)).2=0 then ((ownR ps nm ds (i:Int)).1,0) else upR ps nm ds (l.drop (j+1)):=by
  obtain ⟨h1,h2⟩:=List.getElem?_eq_some_iff.1 h
  rw [List.drop_eq_getElem_cons h1,h2,upR]
theorem chL_len {ps:List Plc} (hi:WI ps) {k:Nat} (hk:k<ps.length):(chL (ps.map nd) k).length≤1000000:=by
  have:=ch_len hi.wo k (by simpa using hk)
  have:=hi.hi
  omega
set_option maxHeartbeats 4000000 in
theorem up_yes {b:Nat} {ps:List Plc} {W:World} (h:WAt b ps W) (hi:WI ps) (k:Nat) (q:Plc) (hq:ps[k]?=some q) (nm ds:ByteArray):Calls Tryz.prog 255 #[.pointer (some ⟨b,0,none⟩),.int .i64 (k:Int),.string nm,.string ds] W fun e w'=>e=.returned (idE (upR ps nm ds (chL (ps.map nd) k)))∧Below W.heap.size W w':=by
  have HW0:Hid (WAt b ps W):=h
  have HPB:Hid (∀ q∈ps,PlcB q):=hi.pb
  have hKb:=chL_len hi (List.getElem?_eq_some_iff.1 hq).1
  have HC:Hid (∀ w,Below W.heap.size W w→Calls Tryz.prog 267 #[.pointer (some ⟨b,0,none⟩),.int .i64 (k:Int)] w fun e w'=>∃ v,e=.returned (.tuple #[v,.int .i64 0])∧w'.ownsRow w.heap.size 3 1 v (chL (ps.map nd) k).length ((chL (ps.map nd) k).map numV)∧Below w.heap.size w w'):=fun w hb=>by
    obtain ⟨N,mb,vp,pv,h⟩:=h.below hb
    exact chain_yes N b mb ps vp pv k (List.getElem?_eq_some_iff.1 hq).1 hi.wo hi.hi w h
  generalize chL (ps.map nd) k=l at *
  obtain ⟨R,hR⟩:∃ R,upR ps nm ds l=R:=⟨_,rfl⟩
  have HR:Hid (upR ps nm ds l=R):=hR
  rw [hR]
  obtain ⟨K,hK⟩:∃ K,l.length=K:=⟨_,rfl⟩
  have HK:Hid (l.length=K):=hK
  rw [hK] at hKb HC
  clear h hi hq hR hK
  go_enter Tryz.func255,Tryz.ntmps255
  go_wp2_with (first
    | (go_at_call 267;refine (HC.out _ (by repeat (first|exact Below.refl _ _|refine Below.setCell ?_ (by simp;try omega) _|refine Below.alloc ?_ (by simp;try omega) _|refine Below.drew ?_))).mono ?_;rintro e w1 ⟨v,rfl,ho,hb⟩;obtain ⟨ca,cc,rfl⟩:=ownv ho;have d1:w1.heap[W.heap.size]?=some (.cells #[.int .i64 0,.int .i64 0] 45 (0,0)):=(hb.block W.heap.size (by first|omega|(simp;try omega))).trans (by first|exact halloc2 _ _ rfl|exact heap_alloc2_old W _ _|exact RB.out|exact hkeep RB.out|exact hkeep (hkeep RB.out)|exact hkeep (heap_alloc2_old W _ _));(try clear RB z0 z1 f0 f1 hL9 hN9);have RB:Hid (w1.heap[W.heap.size]?=some (.cells #[.int .i64 0,.int .i64 0] 45 (0,0))):=d1;have z0:w1.cell? ⟨W.heap.size,0,none⟩=some (.int .i64 0):=(cell_of_row w1 W.heap.size 0 _ _ _ d1).trans rfl;have z1:w1.cell? ⟨W.heap.size,1,none⟩=some (.int .i64 0):=(cell_of_row w1 W.heap.size 1 _ _ _ d1).trans rfl;have f0:=frozen_of_row w1 W.heap.size 0 _ _ d1;have f1:=frozen_of_row w1 W.heap.size 1 _ _ d1;have hL9:W.heap.size<w1.heap.size:=(Array.getElem?_eq_some_iff.1 d1).1;have hN9:¬ W.heap.size=w1.heap.size:=(by omega);clear d1;have O1:Hid (w1.ownsRow W.heap.size 3 1 (.slice ca K cc) K (l.map numV)):=Go.Joins.ownsRow_le ho (by simp;try omega);have B1:Hid (Below W.heap.size W w1):=bstep (by repeat (first|exact Below.refl _ _|refine Below.setCell ?_ (by simp;try omega) _|refine Below.alloc ?_ (by simp;try omega) _|refine Below.drew ?_)) hb;have HW1:Hid (WAt b ps w1):=HW0.out.below B1.out;clear ho hb HC))
  go_loopw [28] (fun kv wr=>∃ (j:Nat),kv=.int .i64 j∧j≤K∧Hid (upR ps nm ds (l.drop j)=R)∧Hid (Below w1.heap.size w1 wr)) (fun kv _=>K - (intOf kv).toNat)
  case atStart=>exact ⟨0,rfl,Nat.zero_le _,HR,Below.refl _ _⟩
  case round =>
    obtain ⟨j,rfl,hj,hU,hB⟩:=hrel
    have hb:=hB.out
    have d1:wr.heap[W.heap.size]?=some (.cells #[.int .i64 0,.int .i64 0] 45 (0,0)):=(hb.block W.heap.size (by first|omega|(simp;try omega))).trans (by first|exact halloc2 _ _ rfl|exact heap_alloc2_old W _ _|exact RB.out|exact hkeep RB.out|exact hkeep (hkeep RB.out)|exact hkeep (heap_alloc2_old W _ _));(try clear RB z0 z1 f0 f1 hL9 hN9);have RB:Hid (wr.heap[W.heap.size]?=some (.cells #[.int .i64 0,.int .i64 0] 45 (0,0))):=d1;have z0:wr.cell? ⟨W.heap.size,0,none⟩=some (.int .i64 0):=(cell_of_row wr W.heap.size 0 _ _ _ d1).trans rfl;have z1:wr.cell? ⟨W.heap.size,1,none⟩=some (.int .i64 0):=(cell_of_row wr W.heap.size 1 _ _ _ d1).trans rfl;have f0:=frozen_of_row wr W.heap.size 0 _ _ d1;have f1:=frozen_of_row wr W.heap.size 1 _ _ d1;have hL9:W.heap.size<wr.heap.size:=(Array.getElem?_eq_some_iff.1 d1).1;have hN9:¬ W.heap.size=wr.heap.size:=(by omega);clear d1
    clear hb
    by_cases hlt:j<K
    · have hjl:j<l.length:=by rw [HK.out];exact hlt
      obtain ⟨i,hi⟩:∃ i,l[j]?=some i:=⟨_,List.getElem?_eq_getElem hjl⟩
      obtain ⟨g,c2,hform⟩:=Go.Joins.ownsRow_form O1.out (by omega)
      have hce:w1.cell? ⟨g,j,none⟩=some (.int .i64 (i:Int)):=by
        have hrow:=O1.out
        rw [hform] at hrow
        rw [hrow.cellAt j (by omega),List.getElem?_map,hi];rfl
      injection hform with hca _ hcc
      subst hca hcc
      have hgl:g<w1.heap.size:=World.block_lt_of_cell? w1 _ hce
      have hcr:=(hB.out.cell (p:=⟨g,j,none⟩) hgl).trans hce
      have HF:Hid (Calls Tryz.prog 252 #[.pointer (some ⟨b,0,none⟩),.int .i64 (i:Int),.string nm,.string ds] wr fun e w'=>e=.returned (idE (ownR ps nm ds i))∧Below wr.heap.size wr w'):=own_c (HW1.out.below hB.out) HPB.out i nm ds
      have hst:=upR_at (ps:=ps) (nm:=nm) (ds:=ds) hi
      rw [hU.out] at hst
      have HST:Hid _:=hst
      generalize ownR ps nm ds i=F at *
      obtain ⟨⟨F1,F2⟩,F3⟩:=F
      simp only [idE] at HF HST
      clear hce hi hjl hst hU
      by_cases hF:F3=0
      · subst hF
        have eR:R=((F1,F2),0):=by rw [HST.out,if_pos rfl]
        subst eR
        clear HST HR
        go_wp2_with (first
          | (go_at_call 252;refine HF.out.mono ?_;rintro e w2 ⟨rfl,hb⟩;have d1:w2.heap[W.heap.size]?=some (.cells #[.int .i64 0,.int .i64 0] 45 (0,0)):=(hb.block W.heap.size (by first|omega|(simp;try omega))).trans (by first|exact halloc2 _ _ rfl|exact heap_alloc2_old W _ _|exact RB.out|exact hkeep RB.out|exact hkeep (hkeep RB.out)|exact hkeep (heap_alloc2_old W _ _));(try clear RB z0 z1 f0 f1 hL9 hN9);have RB:Hid (w2.heap[W.heap.size]?=some (.cells #[.int .i64 0,.int .i64 0] 45 (0,0))):=d1;have z0:w2.cell? ⟨W.heap.size,0,none⟩=some (.int .i64 0):=(cell_of_row w2 W.heap.size 0 _ _ _ d1).trans rfl;have z1:w2.cell? ⟨W.heap.size,1,none⟩=some (.int .i64 0):=(cell_of_row w2 W.heap.size 1 _ _ _ d1).trans rfl;have f0:=frozen_of_row w2 W.heap.size 0 _ _ d1;have f1:=frozen_of_row w2 W.heap.size 1 _ _ d1;have hL9:W.heap.size<w2.heap.size:=(Array.getElem?_eq_some_iff.1 d1).1;have hN9:¬ W.heap.size=w2.heap.size:=(by omega);clear d1;have B2:Hid (Below W.heap.size W w2):=bstep (B1.out.trans (hB.out.mono B1.out.size)) hb;clear hb HF))
        exact bodyPost_ret (v:=idE ((F1,F2),0)) (by simp [results,Tryz.results255,go_sem,idE, *]) rfl ⟨rfl,(by repeat (first|exact B2.out|refine Below.setCell ?_ (by simp;try omega) _|refine Below.alloc ?_ (by have:=B2.out.size;simp;try omega) _|refine Below.drew ?_))⟩
      · have HU2:Hid (upR ps nm ds (l.drop (j+1))=R):=by rw [Hid,HST.out,if_neg hF]
        clear HST
        go_wp2_with (first
          | (go_at_call 252;refine HF.out.mono ?_;rintro e w2 ⟨rfl,hb⟩;have B2:Hid (Below w1.heap.size w1 w2):=bstep hB.out hb;clear hb HF))
        go_roundw
        case rel=>exact ⟨j+1,by go_num,by omega,HU2,B2.out.alloc B2.out.size _⟩
        case measure=>simp [intOf];omega
    · have e:j=K:=by omega
      subst e
      have eR:R=((0,0),6):=by rw [← hU.out,List.drop_of_length_le (by rw [HK.out];exact Nat.le_refl _)];rfl
      subst eR
      clear hU HR
      have B2:Hid (Below W.heap.size W wr):=B1.out.trans (hB.out.mono B1.out.size)
      go_wp2
      exact bodyPost_ret (v:=idE ((0,0),6)) (by simp [results,Tryz.results255,go_sem,idE, *]) rfl ⟨rfl,(by repeat (first|exact B2.out|refine Below.setCell ?_ (by simp;try omega) _|refine Below.alloc ?_ (by have:=B2.out.size;simp;try omega) _|refine Below.drew ?_))⟩
def firR:List ((Int×Int)×Int)→(Int×Int)×Int
  | []=>((0,0),21)
  | x::r=>if x.2=0 then (x.1,0) else firR r
theorem firR_at {l:List (Nat×((Int×Int)×Int))} {j:Nat} {x:Nat×((Int×Int)×Int)} (h:l[j]?=some x):firR ((l.drop j).map Prod.snd)=if x.2.2=0 then (x.2.1,0) else firR ((l.drop (j+1)).map Prod.snd):=by
  obtain ⟨h1,h2⟩:=List.getElem?_eq_some_iff.1 h
  rw [List.drop_eq_getElem_cons h1,h2,List.map_cons,firR]
def fnV (x:Nat×((Int×Int)×Int)):Value:=.func (.func x.1) #[] #[]
set_option maxHeartbeats 4000000 in
theorem try_c (vw vc:Value) (nm ds:ByteArray) (v:Value) (l:List (Nat×((Int×Int)×Int))) (W:World) (hv:Rds W v l.length 1 (l.map fnV)) (hn:l.length≤1000000) (eg:∀ x∈l,∀ args w,(callFunc x.1 args).run Tryz.prog w=.ok (.enter x.1 args) w)
    (hp:∀ x∈l,∀ w,Below W.heap.size W w→Calls Tryz.prog x.1 #[vw,vc,.string nm,.string ds] w fun e w'=>e=.returned (idE x.2)∧Below w.heap.size w w') :
    Calls Tryz.prog 251 #[vw,vc,.string nm,.string ds,v] W fun e w'=>e=.returned (idE (firR (l.map Prod.snd)))∧Below W.heap.size W w':=by
  obtain ⟨R,hR⟩:∃ R,firR (l.map Prod.snd)=R:=⟨_,rfl⟩
  have HR:Hid (firR ((l.drop 0).map Prod.snd)=R):=hR
  rw [hR]
  obtain ⟨K,hK⟩:∃ K,l.length=K:=⟨_,rfl⟩
  have HK:Hid (l.length=K):=hK
  obtain ⟨av,cv,rfl⟩:=hv.slice
  have HV:Hid (Rds W (.slice av l.length cv) l.length 1 (l.map fnV)):=hv
  have EG:Hid (∀ x∈l,∀ args w,(callFunc x.1 args).run Tryz.prog w=.ok (.enter x.1 args) w):=eg
  have HP:Hid (∀ x∈l,∀ w,Below W.heap.size W w→Calls Tryz.prog x.1 #[vw,vc,.string nm,.string ds] w fun e w'=>e=.returned (idE x.2)∧Below w.heap.size w w'):=hp
  rw [hK] at hn ⊢
  clear hv hR hK eg hp
  go_enter Tryz.func251,Tryz.ntmps251
  go_wp2
  go_loopw [18] (fun kv wr=>∃ (j:Nat),kv=.int .i64 j∧j≤K∧Hid (firR ((l.drop j).map Prod.snd)=R)∧Hid (Below (W.heap.size+1) (W.alloc (.cells #[.int .i64 0,.int .i64 0] 45)) wr)) (fun kv _=>K - (intOf kv).toNat)
  case atStart=>exact ⟨0,rfl,Nat.zero_le _,HR,Below.refl _ _⟩
  case round =>
    obtain ⟨j,rfl,hj,hU,hB⟩:=hrel
    have hb:=hB.out
    have d1:wr.heap[W.heap.size]?=some (.cells #[.int .i64 0,.int .i64 0] 45 (0,0)):=(hb.block W.heap.size (by first|omega|(simp;try omega))).trans (by first|exact halloc2 _ _ rfl|exact heap_alloc2_old W _ _|exact RB.out|exact hkeep RB.out|exact hkeep (hkeep RB.out)|exact hkeep (heap_alloc2_old W _ _));(try clear RB z0 z1 f0 f1 hL9 hN9);have RB:Hid (wr.heap[W.heap.size]?=some (.cells #[.int .i64 0,.int .i64 0] 45 (0,0))):=d1;have z0:wr.cell? ⟨W.heap.size,0,none⟩=some (.int .i64 0):=(cell_of_row wr W.heap.size 0 _ _ _ d1).trans rfl;have z1:wr.cell? ⟨W.heap.size,1,none⟩=some (.int .i64 0):=(cell_of_row wr W.heap.size 1 _ _ _ d1).trans rfl;have f0:=frozen_of_row wr W.heap.size 0 _ _ d1;have f1:=frozen_of_row wr W.heap.size 1 _ _ d1;have hL9:W.heap.size<wr.heap.size:=(Array.getElem?_eq_some_iff.1 d1).1;have hN9:¬ W.heap.size=wr.heap.size:=(by omega);clear d1
    have B1:Hid (Below W.heap.size W wr):=((Below.refl _ W).alloc (Nat.le_refl _) _).trans (hb.mono (by omega))
    clear hb
    by_cases hlt:j<K
    · have hjl:j<l.length:=by rw [HK.out];exact hlt
      obtain ⟨x,hx⟩:∃ i,l[j]?=some i:=⟨_,List.getElem?_eq_getElem hjl⟩
      obtain ⟨bk,o,rfl,hbk,hcell⟩:∃ bk o,av=some ⟨bk,o,none⟩∧bk<W.heap.size∧W.cell? ⟨bk,o+j,none⟩=some (.func (.func x.1) #[] #[]):=by
        rcases HV.out.val with ⟨_,e2⟩|⟨bk,o,c,e,_,_,h3,h4⟩
        · rw [HK.out] at e2;omega
        · simp only [Value.slice.injEq] at e
          exact ⟨bk,o,e.1,h3,h4 j _ (by rw [List.getElem?_map,hx];rfl)⟩
      have hcr:=(B1.out.cell (p:=⟨bk,o+j,none⟩) hbk).trans hcell
      have e1:=EG.out x (List.mem_of_getElem? hx)
      have HF:Hid (Calls Tryz.prog x.1 #[vw,vc,.string nm,.string ds] wr fun e w'=>e=.returned (idE x.2)∧Below wr.heap.size wr w'):=HP.out x (List.mem_of_getElem? hx) wr B1.out
      have hst:=firR_at hx
      rw [hU.out] at hst
      have HST:Hid _:=hst
      obtain ⟨g,⟨F1,F2⟩,F3⟩:=x
      simp only [idE] at HF HST hcr e1
      clear hcell hx hjl hst hU HV EG HP
      by_cases hF:F3=0
      · subst hF
        have eR:R=((F1,F2),0):=by rw [HST.out,if_pos rfl]
        subst eR
        clear HST HR
        go_wp2_with (first
          | (go_at_fn g;refine HF.out.mono ?_;rintro e w2 ⟨rfl,hb⟩;have d1:w2.heap[W.heap.size]?=some (.cells #[.int .i64 0,.int .i64 0] 45 (0,0)):=(hb.block W.heap.size (by first|omega|(simp;try omega))).trans (by first|exact halloc2 _ _ rfl|exact heap_alloc2_old W _ _|exact RB.out|exact hkeep RB.out|exact hkeep (hkeep RB.out)|exact hkeep (heap_alloc2_old W _ _));(try clear RB z0 z1 f0 f1 hL9 hN9);have RB:Hid (w2.heap[W.heap.size]?=some (.cells #[.int .i64 0,.int .i64 0] 45 (0,0))):=d1;have z0:w2.cell? ⟨W.heap.size,0,none⟩=some (.int .i64 0):=(cell_of_row w2 W.heap.size 0 _ _ _ d1).trans rfl;have z1:w2.cell? ⟨W.heap.size,1,none⟩=some (.int .i64 0):=(cell_of_row w2 W.heap.size 1 _ _ _ d1).trans rfl;have f0:=frozen_of_row w2 W.heap.size 0 _ _ d1;have f1:=frozen_of_row w2 W.heap.size 1 _ _ d1;have hL9:W.heap.size<w2.heap.size:=(Array.getElem?_eq_some_iff.1 d1).1;have hN9:¬ W.heap.size=w2.heap.size:=(by omega);clear d1;have B2:Hid (Below W.heap.size W w2):=bstep B1.out hb;clear hb HF))
        exact bodyPost_ret (v:=idE ((F1,F2),0)) (by simp [results,Tryz.results251,go_sem,idE, *]) rfl ⟨rfl,(by repeat (first|exact B2.out|refine Below.setCell ?_ (by simp;try omega) _|refine Below.alloc ?_ (by have:=B2.out.size;simp;try omega) _|refine Below.drew ?_))⟩
      · have HU2:Hid (firR ((l.drop (j+1)).map Prod.snd)=R):=by rw [Hid,HST.out,if_neg hF]
        clear HST
        go_wp2_with (first
          | (go_at_fn g;refine HF.out.mono ?_;rintro e w2 ⟨rfl,hb⟩;have B2:Hid (Below (W.heap.size+1) (W.alloc (.cells #[.int .i64 0,.int .i64 0] 45)) w2):=hB.out.trans (hb.mono (by have:=hB.out.size;simp at this;exact this));clear hb HF))
        go_roundw
        case rel=>exact ⟨j+1,by go_num,by omega,HU2,B2.out.alloc (by have:=B2.out.size;simp at this;exact this) _⟩
        case measure=>simp [intOf];omega
    · have e:j=K:=by omega
      subst e
      have eR:R=((0,0),21):=by rw [← hU.out,List.drop_of_length_le (by rw [HK.out];exact Nat.le_refl _)];rfl
      subst eR
      clear hU HR
      go_wp2
      exact bodyPost_ret (v:=idE ((0,0),21)) (by simp [results,Tryz.results251,go_sem,idE, *]) rfl ⟨rfl,(by repeat (first|exact B1.out|refine Below.setCell ?_ (by simp;try omega) _|refine Below.alloc ?_ (by have:=B1.out.size;simp;try omega) _|refine Below.drew ?_))⟩
def lookR (ps:List Plc) (nm ds:ByteArray) (c:Int):(Int×Int)×Int:=match plcI ps c with
  | none=>((0,0),3)
  | some q=>if ifcI ps c then ((0,0),23) else firR [upR ps nm ds (chL (ps.map nd) c.toNat),oneV ps (candL ps nm ds q.cl),someV (candL ps nm ds q.cl)]
def lifR (ps:List Plc) (nm ds:ByteArray) (c:Int):(Int×Int)×Int:=match plcI ps c with
  | none=>((0,0),3)
  | some q=>if ifcI ps c then firR [ownR ps nm ds c,topR ps nm ds,oneV ps (candL ps nm ds q.cl),someV (candL ps nm ds q.cl)] else ((0,0),23)
theorem rck_none {ps:List Plc} {i:Int} (h:plcI ps i=none):rckI ps i=3:=by rw [rckI,h];rfl
theorem rck_some {ps:List Plc} {i:Int} {q:Plc} (h:plcI ps i=some q):rckI ps i=0:=by rw [rckI,h];rfl
theorem callUp (vs:Array Value) (w:World):(callFunc 255 vs).run Tryz.prog w=.ok (.enter 255 vs) w:=by simp [go_sem]
theorem callOwn (vs:Array Value) (w:World):(callFunc 252 vs).run Tryz.prog w=.ok (.enter 252 vs) w:=by simp [go_sem]
theorem callTop (vs:Array Value) (w:World):(callFunc 253 vs).run Tryz.prog w=.ok (.enter 253 vs) w:=by simp [go_sem]
theorem callOne (vs:Array Value) (w:World):(callFunc 226 vs).run Tryz.prog w=.ok (.enter 226 vs) w:=by simp [go_sem]
theorem callSome (vs:Array Value) (w:World):(callFunc 254 vs).run Tryz.prog w=.ok (.enter 254 vs) w:=by simp [go_sem]
set_option maxHeartbeats 1000000 in
theorem look_c {b:Nat} {ps:List Plc} {W:World} (h:WAt b ps W) (hi:WI ps) (c:Int) (nm ds:ByteArray):Calls Tryz.prog 218 #[.pointer (some ⟨b,0,none⟩),.int .i64 c,.string nm,.string ds] W fun e w'=>e=.returned (idE (lookR ps nm ds c))∧Below W.heap.size W w':=by
  have HC:Hid (∀ w,Below W.heap.size W w→Calls Tryz.prog 178 #[.pointer (some ⟨b,0,none⟩),.int .i64 c] w fun e w'=>e=.returned (.int .i64 (rckI ps c))∧Below w.heap.size w w'):=fun w hb=>(rck_c (h.below hb) c).mono fun e w' zz=>⟨zz.1,by rw [zz.2];exact Below.refl _ _⟩
  have HI:Hid (∀ w,Below W.heap.size W w→Calls Tryz.prog 8 #[.pointer (some ⟨b,0,none⟩),.int .i64 c] w fun e w'=>e=.returned (.bool (ifcI ps c))∧Below w.heap.size w w'):=fun w hb=>isIface_c (h.below hb) c
  rcases plcI_cases ps c with ⟨h1,h2⟩|⟨k,q,rfl,h2,h1⟩
  · have e:lookR ps nm ds c=((0,0),3):=by rw [lookR,h1]
    rw [e]
    rw [rck_none h1] at HC
    clear h hi h1 h2 e HI
    go_enter Tryz.func218,Tryz.ntmps218
    go_wp2_with (first
      | (go_at_call 178;refine (HC.out _ (by repeat (first|exact Below.refl _ _|refine Below.setCell ?_ (by simp;try omega) _|refine Below.alloc ?_ (by simp;try omega) _|refine Below.drew ?_))).mono ?_;rintro e w2 ⟨rfl,hb⟩;have d1:w2.heap[W.heap.size]?=some (.cells #[.int .i64 0,.int .i64 0] 45 (0,0)):=(hb.block W.heap.size (by first|omega|(simp;try omega))).trans (by first|exact halloc2 _ _ rfl|exact heap_alloc2_old W _ _|exact RB.out|exact hkeep RB.out|exact hkeep (hkeep RB.out)|exact hkeep (heap_alloc2_old W _ _));(try clear RB z0 z1 f0 f1 hL9 hN9);have RB:Hid (w2.heap[W.heap.size]?=some (.cells #[.int .i64 0,.int .i64 0] 45 (0,0))):=d1;have z0:w2.cell? ⟨W.heap.size,0,none⟩=some (.int .i64 0):=(cell_of_row w2 W.heap.size 0 _ _ _ d1).trans rfl;have z1:w2.cell? ⟨W.heap.size,1,none⟩=some (.int .i64 0):=(cell_of_row w2 W.heap.size 1 _ _ _ d1).trans rfl;have f0:=frozen_of_row w2 W.heap.size 0 _ _ d1;have f1:=frozen_of_row w2 W.heap.size 1 _ _ d1;have hL9:W.heap.size<w2.heap.size:=(Array.getElem?_eq_some_iff.1 d1).1;have hN9:¬ W.heap.size=w2.heap.size:=(by omega);clear d1;have B2:Hid (Below W.heap.size W w2):=bstep (by repeat (first|exact Below.refl _ _|refine Below.setCell ?_ (by simp;try omega) _|refine Below.alloc ?_ (by simp;try omega) _|refine Below.drew ?_)) hb;clear hb HC))
    exact bodyPost_ret (v:=idE ((0,0),3)) (by simp [results,Tryz.results218,go_sem,idE, *]) rfl ⟨rfl,(by repeat (first|exact B2.out|refine Below.setCell ?_ (by simp;try omega) _|refine Below.alloc ?_ (by have:=B2.out.size;simp;try omega) _|refine Below.drew ?_))⟩
  · have e:lookR ps nm ds (k:Int)=if ifcI ps (k:Int) then ((0,0),23) else firR [upR ps nm ds (chL (ps.map nd) k),oneV ps (candL ps nm ds q.cl),someV (candL ps nm ds q.cl)]:=by rw [lookR,h1];rfl
    rw [e]
    rw [rck_some h1] at HC
    clear e
    have HT:Hid (∀ w v,Below W.heap.size W w→Rds w v 3 1 [.func (.func 255) #[] #[],.func (.func 226) #[] #[],.func (.func 254) #[] #[]]→Calls Tryz.prog 251 #[.pointer (some ⟨b,0,none⟩),.int .i64 (k:Int),.string nm,.string ds,v] w fun e w'=>e=.returned (idE (firR [upR ps nm ds (chL (ps.map nd) k),oneV ps (candL ps nm ds q.cl),someV (candL ps nm ds q.cl)]))∧Below w.heap.size w w'):=fun w v hb hv=>by
      refine try_c _ _ nm ds v [(255,upR ps nm ds (chL (ps.map nd) k)),(226,oneV ps (candL ps nm ds q.cl)),(254,someV (candL ps nm ds q.cl))] w hv (by simp) ?_ ?_
      · intro x hx
        simp only [List.mem_cons,List.not_mem_nil,or_false] at hx
        rcases hx with rfl|rfl|rfl
        · exact callUp
        · exact callOne
        · exact callSome
      · intro x hx w' hb'
        have hw:=(h.below hb).below hb'
        simp only [List.mem_cons,List.not_mem_nil,or_false] at hx
        rcases hx with rfl|rfl|rfl
        · exact up_yes hw hi k q h2 nm ds
        · exact one_yes hw hi k q h2 nm ds
        · exact some_yes hw hi k q h2 nm ds
    generalize firR [upR ps nm ds (chL (ps.map nd) k),oneV ps (candL ps nm ds q.cl),someV (candL ps nm ds q.cl)]=R at *
    obtain ⟨⟨R1,R2⟩,R3⟩:=R
    simp only [idE] at HT
    generalize ifcI ps (k:Int)=y at *
    clear h hi h1 h2
    cases y with
    | true =>
      rw [if_pos rfl]
      go_enter Tryz.func218,Tryz.ntmps218
      go_wp2_with (first
        | (go_at_call 178;refine (HC.out _ (by repeat (first|exact Below.refl _ _|refine Below.setCell ?_ (by simp;try omega) _|refine Below.alloc ?_ (by simp;try omega) _|refine Below.drew ?_))).mono ?_;rintro e w1 ⟨rfl,hb⟩;have d1:w1.heap[W.heap.size]?=some (.cells #[.int .i64 0,.int .i64 0] 45 (0,0)):=(hb.block W.heap.size (by first|omega|(simp;try omega))).trans (by first|exact halloc2 _ _ rfl|exact heap_alloc2_old W _ _|exact RB.out|exact hkeep RB.out|exact hkeep (hkeep RB.out)|exact hkeep (heap_alloc2_old W _ _));(try clear RB z0 z1 f0 f1 hL9 hN9);have RB:Hid (w1.heap[W.heap.size]?=some (.cells #[.int .i64 0,.int .i64 0] 45 (0,0))):=d1;have z0:w1.cell? ⟨W.heap.size,0,none⟩=some (.int .i64 0):=(cell_of_row w1 W.heap.size 0 _ _ _ d1).trans rfl;have z1:w1.cell? ⟨W.heap.size,1,none⟩=some (.int .i64 0):=(cell_of_row w1 W.heap.size 1 _ _ _ d1).trans rfl;have f0:=frozen_of_row w1 W.heap.size 0 _ _ d1;have f1:=frozen_of_row w1 W.heap.size 1 _ _ d1;have hL9:W.heap.size<w1.heap.size:=(Array.getElem?_eq_some_iff.1 d1).1;have hN9:¬ W.heap.size=w1.heap.size:=(by omega);clear d1;have B1:Hid (Below W.heap.size W w1):=bstep (by repeat (first|exact Below.refl _ _|refine Below.setCell ?_ (by simp;try omega) _|refine Below.alloc ?_ (by simp;try omega) _|refine Below.drew ?_)) hb;clear hb HC)
        | (go_at_call 8;refine (HI.out _ B1.out).mono ?_;rintro e w2 ⟨rfl,hb⟩;have d1:w2.heap[W.heap.size]?=some (.cells #[.int .i64 0,.int .i64 0] 45 (0,0)):=(hb.block W.heap.size (by first|omega|(simp;try omega))).trans (by first|exact halloc2 _ _ rfl|exact heap_alloc2_old W _ _|exact RB.out|exact hkeep RB.out|exact hkeep (hkeep RB.out)|exact hkeep (heap_alloc2_old W _ _));(try clear RB z0 z1 f0 f1 hL9 hN9);have RB:Hid (w2.heap[W.heap.size]?=some (.cells #[.int .i64 0,.int .i64 0] 45 (0,0))):=d1;have z0:w2.cell? ⟨W.heap.size,0,none⟩=some (.int .i64 0):=(cell_of_row w2 W.heap.size 0 _ _ _ d1).trans rfl;have z1:w2.cell? ⟨W.heap.size,1,none⟩=some (.int .i64 0):=(cell_of_row w2 W.heap.size 1 _ _ _ d1).trans rfl;have f0:=frozen_of_row w2 W.heap.size 0 _ _ d1;have f1:=frozen_of_row w2 W.heap.size 1 _ _ d1;have hL9:W.heap.size<w2.heap.size:=(Array.getElem?_eq_some_iff.1 d1).1;have hN9:¬ W.heap.size=w2.heap.size:=(by omega);clear d1;have B2:Hid (Below W.heap.size W w2):=bstep B1.out hb;clear hb HI))
      exact bodyPost_ret (v:=idE ((0,0),23)) (by simp [results,Tryz.results218,go_sem,idE, *]) rfl ⟨rfl,(by repeat (first|exact B2.out|refine Below.setCell ?_ (by simp;try omega) _|refine Below.alloc ?_ (by have:=B2.out.size;simp;try omega) _|refine Below.drew ?_))⟩
    | false =>
      rw [if_neg (by simp)]
      go_enter Tryz.func218,Tryz.ntmps218
      go_wp2_with (first
        | (go_at_call 178;refine (HC.out _ (by repeat (first|exact Below.refl _ _|refine Below.setCell ?_ (by simp;try omega) _|refine Below.alloc ?_ (by simp;try omega) _|refine Below.drew ?_))).mono ?_;rintro e w1 ⟨rfl,hb⟩;have d1:w1.heap[W.heap.size]?=some (.cells #[.int .i64 0,.int .i64 0] 45 (0,0)):=(hb.block W.heap.size (by first|omega|(simp;try omega))).trans (by first|exact halloc2 _ _ rfl|exact heap_alloc2_old W _ _|exact RB.out|exact hkeep RB.out|exact hkeep (hkeep RB.out)|exact hkeep (heap_alloc2_old W _ _));(try clear RB z0 z1 f0 f1 hL9 hN9);have RB:Hid (w1.heap[W.heap.size]?=some (.cells #[.int .i64 0,.int .i64 0] 45 (0,0))):=d1;have z0:w1.cell? ⟨W.heap.size,0,none⟩=some (.int .i64 0):=(cell_of_row w1 W.heap.size 0 _ _ _ d1).trans rfl;have z1:w1.cell? ⟨W.heap.size,1,none⟩=some (.int .i64 0):=(cell_of_row w1 W.heap.size 1 _ _ _ d1).trans rfl;have f0:=frozen_of_row w1 W.heap.size 0 _ _ d1;have f1:=frozen_of_row w1 W.heap.size 1 _ _ d1;have hL9:W.heap.size<w1.heap.size:=(Array.getElem?_eq_some_iff.1 d1).1;have hN9:¬ W.heap.size=w1.heap.size:=(by omega);clear d1;have B1:Hid (Below W.heap.size W w1):=bstep (by repeat (first|exact Below.refl _ _|refine Below.setCell ?_ (by simp;try omega) _|refine Below.alloc ?_ (by simp;try omega) _|refine Below.drew ?_)) hb;clear hb HC)
        | (go_at_call 8;refine (HI.out _ B1.out).mono ?_;rintro e w2 ⟨rfl,hb⟩;have d1:w2.heap[W.heap.size]?=some (.cells #[.int .i64 0,.int .i64 0] 45 (0,0)):=(hb.block W.heap.size (by first|omega|(simp;try omega))).trans (by first|exact halloc2 _ _ rfl|exact heap_alloc2_old W _ _|exact RB.out|exact hkeep RB.out|exact hkeep (hkeep RB.out)|exact hkeep (heap_alloc2_old W _ _));(try clear RB z0 z1 f0 f1 hL9 hN9);have RB:Hid (w2.heap[W.heap.size]?=some (.cells #[.int .i64 0,.int .i64 0] 45 (0,0))):=d1;have z0:w2.cell? ⟨W.heap.size,0,none⟩=some (.int .i64 0):=(cell_of_row w2 W.heap.size 0 _ _ _ d1).trans rfl;have z1:w2.cell? ⟨W.heap.size,1,none⟩=some (.int .i64 0):=(cell_of_row w2 W.heap.size 1 _ _ _ d1).trans rfl;have f0:=frozen_of_row w2 W.heap.size 0 _ _ d1;have f1:=frozen_of_row w2 W.heap.size 1 _ _ d1;have hL9:W.heap.size<w2.heap.size:=(Array.getElem?_eq_some_iff.1 d1).1;have hN9:¬ W.heap.size=w2.heap.size:=(by omega);clear d1;have B2:Hid (Below W.heap.size W w2):=bstep B1.out hb;clear hb HI)
        | (go_at_call 251;refine (HT.out _ _ (B2.out.alloc B2.out.size _) (rds_at _ _ (by simp) _ _ 3 1 rfl (by decide))).mono ?_;rintro e w3 ⟨rfl,hb⟩;have d1:w3.heap[W.heap.size]?=some (.cells #[.int .i64 0,.int .i64 0] 45 (0,0)):=(hb.block W.heap.size (by first|omega|(simp;try omega))).trans (by first|exact halloc2 _ _ rfl|exact heap_alloc2_old W _ _|exact RB.out|exact hkeep RB.out|exact hkeep (hkeep RB.out)|exact hkeep (heap_alloc2_old W _ _));(try clear RB z0 z1 f0 f1 hL9 hN9);have RB:Hid (w3.heap[W.heap.size]?=some (.cells #[.int .i64 0,.int .i64 0] 45 (0,0))):=d1;have z0:w3.cell? ⟨W.heap.size,0,none⟩=some (.int .i64 0):=(cell_of_row w3 W.heap.size 0 _ _ _ d1).trans rfl;have z1:w3.cell? ⟨W.heap.size,1,none⟩=some (.int .i64 0):=(cell_of_row w3 W.heap.size 1 _ _ _ d1).trans rfl;have f0:=frozen_of_row w3 W.heap.size 0 _ _ d1;have f1:=frozen_of_row w3 W.heap.size 1 _ _ d1;have hL9:W.heap.size<w3.heap.size:=(Array.getElem?_eq_some_iff.1 d1).1;have hN9:¬ W.heap.size=w3.heap.size:=(by omega);clear d1;have B3:Hid (Below W.heap.size W w3):=bstep (B2.out.alloc B2.out.size _) hb;clear hb HT))
      exact bodyPost_ret (v:=idE ((R1,R2),R3)) (by simp [results,Tryz.results218,go_sem,idE, *]) rfl ⟨rfl,(by repeat (first|exact B3.out|refine Below.setCell ?_ (by simp;try omega) _|refine Below.alloc ?_ (by have:=B3.out.size;simp;try omega) _|refine Below.drew ?_))⟩
set_option maxHeartbeats 1000000 in
theorem lif_c {b:Nat} {ps:List Plc} {W:World} (h:WAt b ps W) (hi:WI ps) (c:Int) (nm ds:ByteArray):Calls Tryz.prog 217 #[.pointer (some ⟨b,0,none⟩),.int .i64 c,.string nm,.string ds] W fun e w'=>e=.returned (idE (lifR ps nm ds c))∧Below W.heap.size W w':=by
  have HC:Hid (∀ w,Below W.heap.size W w→Calls Tryz.prog 178 #[.pointer (some ⟨b,0,none⟩),.int .i64 c] w fun e w'=>e=.returned (.int .i64 (rckI ps c))∧Below w.heap.size w w'):=fun w hb=>(rck_c (h.below hb) c).mono fun e w' zz=>⟨zz.1,by rw [zz.2];exact Below.refl _ _⟩
  have HI:Hid (∀ w,Below W.heap.size W w→Calls Tryz.prog 8 #[.pointer (some ⟨b,0,none⟩),.int .i64 c] w fun e w'=>e=.returned (.bool (ifcI ps c))∧Below w.heap.size w w'):=fun w hb=>isIface_c (h.below hb) c
  rcases plcI_cases ps c with ⟨h1,h2⟩|⟨k,q,rfl,h2,h1⟩
  · have e:lifR ps nm ds c=((0,0),3):=by rw [lifR,h1]
    rw [e]
    rw [rck_none h1] at HC
    clear h hi h1 h2 e HI
    go_enter Tryz.func217,Tryz.ntmps217
    go_wp2_with (first
      | (go_at_call 178;refine (HC.out _ (by repeat (first|exact Below.refl _ _|refine Below.setCell ?_ (by simp;try omega) _|refine Below.alloc ?_ (by simp;try omega) _|refine Below.drew ?_))).mono ?_;rintro e w2 ⟨rfl,hb⟩;have d1:w2.heap[W.heap.size]?=some (.cells #[.int .i64 0,.int .i64 0] 45 (0,0)):=(hb.block W.heap.size (by first|omega|(simp;try omega))).trans (by first|exact halloc2 _ _ rfl|exact heap_alloc2_old W _ _|exact RB.out|exact hkeep RB.out|exact hkeep (hkeep RB.out)|exact hkeep (heap_alloc2_old W _ _));(try clear RB z0 z1 f0 f1 hL9 hN9);have RB:Hid (w2.heap[W.heap.size]?=some (.cells #[.int .i64 0,.int .i64 0] 45 (0,0))):=d1;have z0:w2.cell? ⟨W.heap.size,0,none⟩=some (.int .i64 0):=(cell_of_row w2 W.heap.size 0 _ _ _ d1).trans rfl;have z1:w2.cell? ⟨W.heap.size,1,none⟩=some (.int .i64 0):=(cell_of_row w2 W.heap.size 1 _ _ _ d1).trans rfl;have f0:=frozen_of_row w2 W.heap.size 0 _ _ d1;have f1:=frozen_of_row w2 W.heap.size 1 _ _ d1;have hL9:W.heap.size<w2.heap.size:=(Array.getElem?_eq_some_iff.1 d1).1;have hN9:¬ W.heap.size=w2.heap.size:=(by omega);clear d1;have B2:Hid (Below W.heap.size W w2):=bstep (by repeat (first|exact Below.refl _ _|refine Below.setCell ?_ (by simp;try omega) _|refine Below.alloc ?_ (by simp;try omega) _|refine Below.drew ?_)) hb;clear hb HC))
    exact bodyPost_ret (v:=idE ((0,0),3)) (by simp [results,Tryz.results217,go_sem,idE, *]) rfl ⟨rfl,(by repeat (first|exact B2.out|refine Below.setCell ?_ (by simp;try omega) _|refine Below.alloc ?_ (by have:=B2.out.size;simp;try omega) _|refine Below.drew ?_))⟩
  · have e:lifR ps nm ds (k:Int)=if ifcI ps (k:Int) then firR [ownR ps nm ds (k:Int),topR ps nm ds,oneV ps (candL ps nm ds q.cl),someV (candL ps nm ds q.cl)] else ((0,0),23):=by rw [lifR,h1]
    rw [e]
    rw [rck_some h1] at HC
    clear e
    have HT:Hid (∀ w v,Below W.heap.size W w→Rds w v 4 1 [.func (.func 252) #[] #[],.func (.func 253) #[] #[],.func (.func 226) #[] #[],.func (.func 254) #[] #[]]→Calls Tryz.prog 251 #[.pointer (some ⟨b,0,none⟩),.int .i64 (k:Int),.string nm,.string ds,v] w fun e w'=>e=.returned (idE (firR [ownR ps nm ds (k:Int),topR ps nm ds,oneV ps (candL ps nm ds q.cl),someV (candL ps nm ds q.cl)]))∧Below w.heap.size w w'):=fun w v hb hv=>by
      refine try_c _ _ nm ds v [(252,ownR ps nm ds (k:Int)),(253,topR ps nm ds),(226,oneV ps (candL ps nm ds q.cl)),(254,someV (candL ps nm ds q.cl))] w hv (by simp) ?_ ?_
      · intro x hx
        simp only [List.mem_cons,List.not_mem_nil,or_false] at hx
        rcases hx with rfl|rfl|rfl|rfl
        · exact callOwn
        · exact callTop
        · exact callOne
        · exact callSome
      · intro x hx w' hb'
        have hw:=(h.below hb).below hb'
        simp only [List.mem_cons,List.not_mem_nil,or_false] at hx
        rcases hx with rfl|rfl|rfl|rfl
        · exact own_c hw hi.pb k nm ds
        · exact top_c hw hi.pb k nm ds
        · exact one_yes hw hi k q h2 nm ds
        · exact some_yes hw hi k q h2 nm ds
    generalize firR [ownR ps nm ds (k:Int),topR ps nm ds,oneV ps (candL ps nm ds q.cl),someV (candL ps nm ds q.cl)]=R at *
    obtain ⟨⟨R1,R2⟩,R3⟩:=R
    simp only [idE] at HT
    generalize ifcI ps (k:Int)=y at *
    clear h hi h1 h2
    cases y with
    | false =>
      rw [if_neg (by simp)]
      go_enter Tryz.func217,Tryz.ntmps217
      go_wp2_with (first
        | (go_at_call 178;refine (HC.out _ (by repeat (first|exact Below.refl _ _|refine Below.setCell ?_ (by simp;try omega) _|refine Below.alloc ?_ (by simp;try omega) _|refine Below.drew ?_))).mono ?_;rintro e w1 ⟨rfl,hb⟩;have d1:w1.heap[W.heap.size]?=some (.cells #[.int .i64 0,.int .i64 0] 45 (0,0)):=(hb.block W.heap.size (by first|omega|(simp;try omega))).trans (by first|exact halloc2 _ _ rfl|exact heap_alloc2_old W _ _|exact RB.out|exact hkeep RB.out|exact hkeep (hkeep RB.out)|exact hkeep (heap_alloc2_old W _ _));(try clear RB z0 z1 f0 f1 hL9 hN9);have RB:Hid (w1.heap[W.heap.size]?=some (.cells #[.int .i64 0,.int .i64 0] 45 (0,0))):=d1;have z0:w1.cell? ⟨W.heap.size,0,none⟩=some (.int .i64 0):=(cell_of_row w1 W.heap.size 0 _ _ _ d1).trans rfl;have z1:w1.cell? ⟨W.heap.size,1,none⟩=some (.int .i64 0):=(cell_of_row w1 W.heap.size 1 _ _ _ d1).trans rfl;have f0:=frozen_of_row w1 W.heap.size 0 _ _ d1;have f1:=frozen_of_row w1 W.heap.size 1 _ _ d1;have hL9:W.heap.size<w1.heap.size:=(Array.getElem?_eq_some_iff.1 d1).1;have hN9:¬ W.heap.size=w1.heap.size:=(by omega);clear d1;have B1:Hid (Below W.heap.size W w1):=bstep (by repeat (first|exact Below.refl _ _|refine Below.setCell ?_ (by simp;try omega) _|refine Below.alloc ?_ (by simp;try omega) _|refine Below.drew ?_)) hb;clear hb HC)
        | (go_at_call 8;refine (HI.out _ B1.out).mono ?_;rintro e w2 ⟨rfl,hb⟩;have d1:w2.heap[W.heap.size]?=some (.cells #[.int .i64 0,.int .i64 0] 45 (0,0)):=(hb.block W.heap.size (by first|omega|(simp;try omega))).trans (by first|exact halloc2 _ _ rfl|exact heap_alloc2_old W _ _|exact RB.out|exact hkeep RB.out|exact hkeep (hkeep RB.out)|exact hkeep (heap_alloc2_old W _ _));(try clear RB z0 z1 f0 f1 hL9 hN9);have RB:Hid (w2.heap[W.heap.size]?=some (.cells #[.int .i64 0,.int .i64 0] 45 (0,0))):=d1;have z0:w2.cell? ⟨W.heap.size,0,none⟩=some (.int .i64 0):=(cell_of_row w2 W.heap.size 0 _ _ _ d1).trans rfl;have z1:w2.cell? ⟨W.heap.size,1,none⟩=some (.int .i64 0):=(cell_of_row w2 W.heap.size 1 _ _ _ d1).trans rfl;have f0:=frozen_of_row w2 W.heap.size 0 _ _ d1;have f1:=frozen_of_row w2 W.heap.size 1 _ _ d1;have hL9:W.heap.size<w2.heap.size:=(Array.getElem?_eq_some_iff.1 d1).1;have hN9:¬ W.heap.size=w2.heap.size:=(by omega);clear d1;have B2:Hid (Below W.heap.size W w2):=bstep B1.out hb;clear hb HI))
      exact bodyPost_ret (v:=idE ((0,0),23)) (by simp [results,Tryz.results217,go_sem,idE, *]) rfl ⟨rfl,(by repeat (first|exact B2.out|refine Below.setCell ?_ (by simp;try omega) _|refine Below.alloc ?_ (by have:=B2.out.size;simp;try omega) _|refine Below.drew ?_))⟩
    | true =>
      rw [if_pos rfl]
      go_enter Tryz.func217,Tryz.ntmps217
      go_wp2_with (first
        | (go_at_call 178;refine (HC.out _ (by repeat (first|exact Below.refl _ _|refine Below.setCell ?_ (by simp;try omega) _|refine Below.alloc ?_ (by simp;try omega) _|refine Below.drew ?_))).mono ?_;rintro e w1 ⟨rfl,hb⟩;have d1:w1.heap[W.heap.size]?=some (.cells #[.int .i64 0,.int .i64 0] 45 (0,0)):=(hb.block W.heap.size (by first|omega|(simp;try omega))).trans (by first|exact halloc2 _ _ rfl|exact heap_alloc2_old W _ _|exact RB.out|exact hkeep RB.out|exact hkeep (hkeep RB.out)|exact hkeep (heap_alloc2_old W _ _));(try clear RB z0 z1 f0 f1 hL9 hN9);have RB:Hid (w1.heap[W.heap.size]?=some (.cells #[.int .i64 0,.int .i64 0] 45 (0,0))):=d1;have z0:w1.cell? ⟨W.heap.size,0,none⟩=some (.int .i64 0):=(cell_of_row w1 W.heap.size 0 _ _ _ d1).trans rfl;have z1:w1.cell? ⟨W.heap.size,1,none⟩=some (.int .i64 0):=(cell_of_row w1 W.heap.size 1 _ _ _ d1).trans rfl;have f0:=frozen_of_row w1 W.heap.size 0 _ _ d1;have f1:=frozen_of_row w1 W.heap.size 1 _ _ d1;have hL9:W.heap.size<w1.heap.size:=(Array.getElem?_eq_some_iff.1 d1).1;have hN9:¬ W.heap.size=w1.heap.size:=(by omega);clear d1;have B1:Hid (Below W.heap.size W w1):=bstep (by repeat (first|exact Below.refl _ _|refine Below.setCell ?_ (by simp;try omega) _|refine Below.alloc ?_ (by simp;try omega) _|refine Below.drew ?_)) hb;clear hb HC)
        | (go_at_call 8;refine (HI.out _ B1.out).mono ?_;rintro e w2 ⟨rfl,hb⟩;have d1:w2.heap[W.heap.size]?=some (.cells #[.int .i64 0,.int .i64 0] 45 (0,0)):=(hb.block W.heap.size (by first|omega|(simp;try omega))).trans (by first|exact halloc2 _ _ rfl|exact heap_alloc2_old W _ _|exact RB.out|exact hkeep RB.out|exact hkeep (hkeep RB.out)|exact hkeep (heap_alloc2_old W _ _));(try clear RB z0 z1 f0 f1 hL9 hN9);have RB:Hid (w2.heap[W.heap.size]?=some (.cells #[.int .i64 0,.int .i64 0] 45 (0,0))):=d1;have z0:w2.cell? ⟨W.heap.size,0,none⟩=some (.int .i64 0):=(cell_of_row w2 W.heap.size 0 _ _ _ d1).trans rfl;have z1:w2.cell? ⟨W.heap.size,1,none⟩=some (.int .i64 0):=(cell_of_row w2 W.heap.size 1 _ _ _ d1).trans rfl;have f0:=frozen_of_row w2 W.heap.size 0 _ _ d1;have f1:=frozen_of_row w2 W.heap.size 1 _ _ d1;have hL9:W.heap.size<w2.heap.size:=(Array.getElem?_eq_some_iff.1 d1).1;have hN9:¬ W.heap.size=w2.heap.size:=(by omega);clear d1;have B2:Hid (Below W.heap.size W w2):=bstep B1.out hb;clear hb HI)
        | (go_at_call 251;refine (HT.out _ _ (B2.out.alloc B2.out.size _) (rds_at _ _ (by simp) _ _ 4 1 rfl (by decide))).mono ?_;rintro e w3 ⟨rfl,hb⟩;have d1:w3.heap[W.heap.size]?=some (.cells #[.int .i64 0,.int .i64 0] 45 (0,0)):=(hb.block W.heap.size (by first|omega|(simp;try omega))).trans (by first|exact halloc2 _ _ rfl|exact heap_alloc2_old W _ _|exact RB.out|exact hkeep RB.out|exact hkeep (hkeep RB.out)|exact hkeep (heap_alloc2_old W _ _));(try clear RB z0 z1 f0 f1 hL9 hN9);have RB:Hid (w3.heap[W.heap.size]?=some (.cells #[.int .i64 0,.int .i64 0] 45 (0,0))):=d1;have z0:w3.cell? ⟨W.heap.size,0,none⟩=some (.int .i64 0):=(cell_of_row w3 W.heap.size 0 _ _ _ d1).trans rfl;have z1:w3.cell? ⟨W.heap.size,1,none⟩=some (.int .i64 0):=(cell_of_row w3 W.heap.size 1 _ _ _ d1).trans rfl;have f0:=frozen_of_row w3 W.heap.size 0 _ _ d1;have f1:=frozen_of_row w3 W.heap.size 1 _ _ d1;have hL9:W.heap.size<w3.heap.size:=(Array.getElem?_eq_some_iff.1 d1).1;have hN9:¬ W.heap.size=w3.heap.size:=(by omega);clear d1;have B3:Hid (Below W.heap.size W w3):=bstep (B2.out.alloc B2.out.size _) hb;clear hb HT))
      exact bodyPost_ret (v:=idE ((R1,R2),R3)) (by simp [results,Tryz.results217,go_sem,idE, *]) rfl ⟨rfl,(by repeat (first|exact B3.out|refine Below.setCell ?_ (by simp;try omega) _|refine Below.alloc ?_ (by have:=B3.out.size;simp;try omega) _|refine Below.drew ?_))⟩
def lbyR (ps:List Plc) (y:Bool) (nm ds:ByteArray) (c:Int):(Int×Int)×Int:=if y then lifR ps nm ds c else lookR ps nm ds c
theorem isOverInt_c (d:Int) (s:ByteArray) (W:World):Calls Tryz.prog 187 #[.agg #[.int .i64 d,.string s]] W fun e w'=>e=.returned (.bool s.toList.isEmpty)∧Below W.heap.size W w':=by
  cases he:s.toList.isEmpty
  all_goals
    go_enter Tryz.func187,Tryz.ntmps187
    go_wp2
    go_ret
    exact ⟨by first|rfl|simp_all,(by repeat (first|exact Below.refl _ _|refine Below.setCell ?_ (by simp;try omega) _|refine Below.alloc ?_ (by simp;try omega) _|refine Below.drew ?_))⟩
def ldI (ps:List Plc) (d:Int) (s:ByteArray):Int:=if sndB d s.data.toList then (if s.toList.isEmpty then 0 else match lookL ps s.data.toList with
  | some _=>0
  | none=>20) else 1
theorem loaded_c {b:Nat} {ps:List Plc} {W:World} (h:WAt b ps W) (d:Int) (s:ByteArray) (hs:s.size≤maxLen):Calls Tryz.prog 146 #[.pointer (some ⟨b,0,none⟩),.agg #[.int .i64 d,.string s]] W fun e w'=>e=.returned (.int .i64 (ldI ps d s))∧Below W.heap.size W w':=by
  have HC:Hid (∀ w:World,Calls Tryz.prog 186 #[.agg #[.int .i64 d,.string s]] w fun e w'=>e=.returned (.int .i64 (chkI (sndB d s.data.toList)))∧Below w.heap.size w w'):=tyCheck_any d s hs
  have HO:Hid (∀ w:World,Calls Tryz.prog 187 #[.agg #[.int .i64 d,.string s]] w fun e w'=>e=.returned (.bool s.toList.isEmpty)∧Below w.heap.size w w'):=isOverInt_c d s
  have HN:Hid (∀ w:World,Below W.heap.size W w→Calls Tryz.prog 148 #[.pointer (some ⟨b,0,none⟩),.string s] w fun e w'=>e=.returned (bnV (lookL ps s.data.toList))∧Below w.heap.size w w'):=fun w hb=>byName_c (h.below hb) s hs
  obtain ⟨R,hR⟩:∃ R,ldI ps d s=R:=⟨_,rfl⟩
  rw [hR]
  have HR:Hid (ldI ps d s=R):=hR
  clear hR h
  unfold ldI at HR
  generalize sndB d s.data.toList=sn at *
  generalize s.toList.isEmpty=em at *
  generalize lookL ps s.data.toList=lk at *
  cases sn with
  | false =>
    have e:chkI false=1:=rfl
    rw [e] at HC
    have HS:Hid (R=1):=HR.out.symm
    clear HR
    go_enter Tryz.func146,Tryz.ntmps146
    go_wp2_with (go_at_call 186;refine (HC.out _).mono ?_;rintro e w1 ⟨rfl,hb⟩;have B1:Hid (Below W.heap.size W w1):=bstep (by repeat (first|exact Below.refl _ _|refine Below.setCell ?_ (by simp;try omega) _|refine Below.alloc ?_ (by simp;try omega) _|refine Below.drew ?_)) hb;clear hb HC)
    exact bodyPost_ret (results_tmp rfl _ _ _) rfl ⟨by rw [HS.out];rfl,B1.out⟩
  | true =>
    have e:chkI true=0:=rfl
    rw [e] at HC
    cases em with
    | true =>
      have HS:Hid (R=0):=HR.out.symm
      clear HR
      go_enter Tryz.func146,Tryz.ntmps146
      go_wp2_with (first
        | (go_at_call 186;refine (HC.out _).mono ?_;rintro e w1 ⟨rfl,hb⟩;have h0:=(hb.block W.heap.size (by simp)).trans (halloc1 W _);have r0:=cell_of_row w1 W.heap.size 0 _ _ _ h0;have r1:=cell_of_row w1 W.heap.size 1 _ _ _ h0;simp only [List.getElem?_toArray,List.getElem?_cons_zero,List.getElem?_cons_succ] at r0 r1;have B1:Hid (Below W.heap.size W w1):=bstep (by repeat (first|exact Below.refl _ _|refine Below.setCell ?_ (by simp;try omega) _|refine Below.alloc ?_ (by simp;try omega) _|refine Below.drew ?_)) hb;clear hb HC h0)
        | (go_at_call 187;refine (HO.out _).mono ?_;rintro e w2 ⟨rfl,hb⟩;have B2:Hid (Below W.heap.size W w2):=bstep B1.out hb;clear hb HO))
      exact bodyPost_ret (results_tmp rfl _ _ _) rfl ⟨by rw [HS.out];rfl,B2.out⟩
    | false =>
      cases lk
      all_goals
        first|have HS:Hid (R=20):=HR.out.symm|have HS:Hid (R=0):=HR.out.symm
        clear HR
        simp only [bnV] at HN
        go_enter Tryz.func146,Tryz.ntmps146
        go_wp2_with (first
          | (go_at_call 186;refine (HC.out _).mono ?_;rintro e w1 ⟨rfl,hb⟩;have h0:=(hb.block W.heap.size (by simp)).trans (halloc1 W _);have r0:=cell_of_row w1 W.heap.size 0 _ _ _ h0;have r1:=cell_of_row w1 W.heap.size 1 _ _ _ h0;simp only [List.getElem?_toArray,List.getElem?_cons_zero,List.getElem?_cons_succ] at r0 r1;have hl:W.heap.size<w1.heap.size:=(Array.getElem?_eq_some_iff.1 h0).1;have B1:Hid (Below W.heap.size W w1):=bstep (by repeat (first|exact Below.refl _ _|refine Below.setCell ?_ (by simp;try omega) _|refine Below.alloc ?_ (by simp;try omega) _|refine Below.drew ?_)) hb;clear hb HC h0)
          | (go_at_call 187;refine (HO.out _).mono ?_;rintro e w2 ⟨rfl,hb⟩;have B2:Hid (Below W.heap.size W w2):=bstep B1.out hb;replace r0:=(hb.cell (p:=⟨W.heap.size,0,none⟩) hl).trans r0;replace r1:=(hb.cell (p:=⟨W.heap.size,1,none⟩) hl).trans r1;clear hb HO)
          | (go_at_call 148;refine (HN.out _ B2.out).mono ?_;rintro e w3 ⟨rfl,hb⟩;have B3:Hid (Below W.heap.size W w3):=bstep B2.out hb;clear hb HN))
        exact bodyPost_ret (results_tmp rfl _ _ _) rfl ⟨by rw [HS.out];rfl,B3.out⟩
def tyO (ps:List Plc) (p:Plc) (s:ByteArray):Bool:=if s.toList.isEmpty then true else match lookL ps s.data.toList with
  | some k=>(match ps[k]? with|some q=>clsO q p|none=>false)
  | none=>false
theorem aTy_c {b:Nat} {ps:List Plc} {W:World} (h:WAt b ps W) (hB:∀ q∈ps,PlcB q) (d:Nat) (p:Plc) (hd:ps[d]?=some p) (x:Int) (s:ByteArray) (hs:s.size≤maxLen) (hl:ldI ps x s=0):Calls Tryz.prog 250 #[.pointer (some ⟨b,0,none⟩),.int .i64 (d:Int),.agg #[.int .i64 x,.string s]] W fun e w'=>e=.returned (.bool (tyO ps p s))∧Below W.heap.size W w':=by
  cases he:s.toList.isEmpty with
  | true =>
    have e:tyO ps p s=true:=by rw [tyO,he];rfl
    rw [e]
    clear h e hl
    go_enter Tryz.func250,Tryz.ntmps250
    go_wp2
    exact bodyPost_ret (results_tmp rfl _ _ _) rfl ⟨rfl,(by repeat (first|exact Below.refl _ _|refine Below.setCell ?_ (by simp;try omega) _|refine Below.alloc ?_ (by simp;try omega) _|refine Below.drew ?_))⟩
  | false =>
    obtain ⟨k,hk⟩:∃ k,lookL ps s.data.toList=some k:=by
      unfold ldI at hl
      rw [he] at hl
      cases hl2:lookL ps s.data.toList with
      | some k=>exact ⟨k,rfl⟩
      | none=>rw [hl2] at hl;exfalso;revert hl;cases sndB x s.data.toList <;> simp
    obtain ⟨q,hq,_⟩:=look_place hk
    have e:tyO ps p s=clsO q p:=by rw [tyO,he,hk];simp only [hq];rfl
    rw [e]
    have HN:Hid (∀ w:World,Below W.heap.size W w→Calls Tryz.prog 148 #[.pointer (some ⟨b,0,none⟩),.string s] w fun e w'=>e=.returned (.tuple #[.int .i64 (k:Int),.int .i64 0])∧Below W.heap.size W w'):=fun w hb=>(byName_c (h.below hb) s hs).mono fun e w' zz=>⟨by rw [zz.1,hk];rfl,bstep hb zz.2⟩
    have HI:Hid (∀ w,Below W.heap.size W w→Calls Tryz.prog 294 #[.pointer (some ⟨b,0,none⟩),.int .i64 (d:Int),.int .i64 (k:Int)] w fun e w'=>e=.returned (.bool (clsO q p))∧Below W.heap.size W w'):=fun w hb=>(aCls_c (h.below hb) hB d k p q hd hq).mono fun e w' zz=>⟨zz.1,bstep hb zz.2⟩
    generalize clsO q p=R at *
    clear h hB hd hl hk hq e hs
    go_enter Tryz.func250,Tryz.ntmps250
    go_wp2_with (first
      | (go_at_call 148;refine (HN.out _ (by repeat (first|exact Below.refl _ _|refine Below.setCell ?_ (by simp;try omega) _|refine Below.alloc ?_ (by simp;try omega) _|refine Below.drew ?_))).mono ?_;rintro e w1 ⟨rfl,hb⟩;have B1:Hid (Below W.heap.size W w1):=hb;clear hb HN)
      | (go_at_call 294;refine (HI.out _ B1.out).mono ?_;rintro e w2 ⟨rfl,hb⟩;have B2:Hid (Below W.heap.size W w2):=hb;clear hb HI))
    exact bodyPost_ret (results_tmp rfl _ _ _) rfl ⟨rfl,B2.out⟩
def toI (ps:List Plc) (d x:Int) (s:ByteArray):Value:=match plcI ps d with
  | some p=>if ldI ps x s=0 then .tuple #[.bool (tyO ps p s),.int .i64 0] else .tuple #[.bool false,.int .i64 (ldI ps x s)]
  | none=>.tuple #[.bool false,.int .i64 3]
theorem typeOpen_c {b:Nat} {ps:List Plc} {W:World} (h:WAt b ps W) (hB:∀ q∈ps,PlcB q) (d x:Int) (s:ByteArray) (hs:s.size≤maxLen):Calls Tryz.prog 216 #[.pointer (some ⟨b,0,none⟩),.int .i64 d,.agg #[.int .i64 x,.string s]] W fun e w'=>e=.returned (toI ps d x s)∧Below W.heap.size W w':=by
  have HC:Hid (∀ (w:World) (v:Value),Below W.heap.size W w→Rds w v 1 1 [.int .i64 d]→Calls Tryz.prog 219 #[.pointer (some ⟨b,0,none⟩),v] w fun e w'=>e=.returned (.int .i64 (if (plcI ps d).isSome then 0 else 3))∧Below w.heap.size w w'):=fun w v hb hv=>(check_c (h.below hb) v [d] hv (by simp)).mono fun e w' zz=>⟨by rw [zz.1,inNs_iff];simp,zz.2⟩
  have HL:Hid (∀ w,Below W.heap.size W w→Calls Tryz.prog 146 #[.pointer (some ⟨b,0,none⟩),.agg #[.int .i64 x,.string s]] w fun e w'=>e=.returned (.int .i64 (ldI ps x s))∧Below w.heap.size w w'):=fun w hb=>loaded_c (h.below hb) x s hs
  rcases plcI_cases ps d with ⟨d1,_⟩|⟨d,p,rfl,d2,d1⟩
  · have e:toI ps d x s=.tuple #[.bool false,.int .i64 3]:=by rw [toI,d1]
    rw [e]
    rw [d1] at HC
    simp only [Option.isSome_none,Bool.false_eq_true,if_false] at HC
    clear h d1 e HL
    go_enter Tryz.func216,Tryz.ntmps216
    go_wp2_with (first
      | (go_at_call 219;refine (HC.out _ _ (by repeat (first|exact Below.refl _ _|refine Below.setCell ?_ (by simp;try omega) _|refine Below.alloc ?_ (by simp;try omega) _|refine Below.drew ?_)) (rds_at _ _ (by simp) _ 3 1 1 rfl (by decide))).mono ?_;rintro e w1 ⟨rfl,hb⟩;have B1:Hid (Below W.heap.size W w1):=bstep (by repeat (first|exact Below.refl _ _|refine Below.setCell ?_ (by simp;try omega) _|refine Below.alloc ?_ (by simp;try omega) _|refine Below.drew ?_)) hb;clear hb HC))
    exact bodyPost_ret (results_tmp2 rfl _ _ _) rfl ⟨rfl,B1.out⟩
  · rw [d1] at HC
    simp only [Option.isSome_some,if_true] at HC
    by_cases hl:ldI ps x s=0
    · have e:toI ps d x s=.tuple #[.bool (tyO ps p s),.int .i64 0]:=by rw [toI,d1];simp only [if_pos hl]
      rw [e]
      have HT:Hid (∀ w,Below W.heap.size W w→Calls Tryz.prog 250 #[.pointer (some ⟨b,0,none⟩),.int .i64 (d:Int),.agg #[.int .i64 x,.string s]] w fun e w'=>e=.returned (.bool (tyO ps p s))∧Below w.heap.size w w'):=fun w hb=>aTy_c (h.below hb) hB d p d2 x s hs hl
      rw [hl] at HL
      generalize tyO ps p s=R at *
      clear h d1 e d2 hl hB hs
      go_enter Tryz.func216,Tryz.ntmps216
      go_wp2_with (first
        | (go_at_call 219;refine (HC.out _ _ (by repeat (first|exact Below.refl _ _|refine Below.setCell ?_ (by simp;try omega) _|refine Below.alloc ?_ (by simp;try omega) _|refine Below.drew ?_)) (rds_at _ _ (by simp) _ 3 1 1 rfl (by decide))).mono ?_;rintro e w1 ⟨rfl,hb⟩;have h0:=(hb.block W.heap.size (by simp;omega)).trans (heap_alloc2_old W _ _);have r0:=cell_of_row w1 W.heap.size 0 _ _ _ h0;have r1:=cell_of_row w1 W.heap.size 1 _ _ _ h0;simp only [List.getElem?_toArray,List.getElem?_cons_zero,List.getElem?_cons_succ] at r0 r1;have hl0:W.heap.size<w1.heap.size:=(Array.getElem?_eq_some_iff.1 h0).1;have B1:Hid (Below W.heap.size W w1):=bstep (by repeat (first|exact Below.refl _ _|refine Below.setCell ?_ (by simp;try omega) _|refine Below.alloc ?_ (by simp;try omega) _|refine Below.drew ?_)) hb;clear hb HC h0)
        | (go_at_call 146;refine (HL.out _ B1.out).mono ?_;rintro e w2 ⟨rfl,hb⟩;replace r0:=(hb.cell (p:=⟨W.heap.size,0,none⟩) hl0).trans r0;replace r1:=(hb.cell (p:=⟨W.heap.size,1,none⟩) hl0).trans r1;have B2:Hid (Below W.heap.size W w2):=bstep B1.out hb;clear hb HL)
        | (go_at_call 250;refine (HT.out _ B2.out).mono ?_;rintro e w3 ⟨rfl,hb⟩;have B3:Hid (Below W.heap.size W w3):=bstep B2.out hb;clear hb HT))
      exact bodyPost_ret (results_tmp2 rfl _ _ _) rfl ⟨rfl,B3.out⟩
    · have e:toI ps d x s=.tuple #[.bool false,.int .i64 (ldI ps x s)]:=by rw [toI,d1];simp only [if_neg hl]
      rw [e]
      generalize ldI ps x s=R at *
      clear h d1 e d2 hB hs
      go_enter Tryz.func216,Tryz.ntmps216
      go_wp2_with (first
        | (go_at_call 219;refine (HC.out _ _ (by repeat (first|exact Below.refl _ _|refine Below.setCell ?_ (by simp;try omega) _|refine Below.alloc ?_ (by simp;try omega) _|refine Below.drew ?_)) (rds_at _ _ (by simp) _ 3 1 1 rfl (by decide))).mono ?_;rintro e w1 ⟨rfl,hb⟩;have h0:=(hb.block W.heap.size (by simp;omega)).trans (heap_alloc2_old W _ _);have r0:=cell_of_row w1 W.heap.size 0 _ _ _ h0;have r1:=cell_of_row w1 W.heap.size 1 _ _ _ h0;simp only [List.getElem?_toArray,List.getElem?_cons_zero,List.getElem?_cons_succ] at r0 r1;have hl0:W.heap.size<w1.heap.size:=(Array.getElem?_eq_some_iff.1 h0).1;have B1:Hid (Below W.heap.size W w1):=bstep (by repeat (first|exact Below.refl _ _|refine Below.setCell ?_ (by simp;try omega) _|refine Below.alloc ?_ (by simp;try omega) _|refine Below.drew ?_)) hb;clear hb HC h0)
        | (go_at_call 146;refine (HL.out _ B1.out).mono ?_;rintro e w2 ⟨rfl,hb⟩;have B2:Hid (Below W.heap.size W w2):=bstep B1.out hb;clear hb HL))
      exact bodyPost_ret (results_tmp2 rfl _ _ _) rfl ⟨rfl,B2.out⟩
end Go.Proofs.YtenpnkkkjjdccaaGreat
