import Derived.Test.YthfifobokpfpkaaGreatOvD
import Derived.Test.YthfifobokpfpkaaGreatGrA
import Derived.Deep.DeepCutAuto
set_option maxRecDepth 100000
namespace Go.Proofs.YthfifobokpfpkaaGreat
open Go.RowKit Go.Maps
theorem chain_no {b:Nat} {ps:List Plc} {W:World} (h:WAt b ps W) (x:Int) (hx:plcI ps x=none):Calls Tryz.prog 21 #[.pointer (some ⟨b,0,none⟩),.int .i64 x] W fun e w'=>e=.returned (.tuple #[.slice none 0 0,.int .i64 3])∧Below W.heap.size W w':=by
  have HH:Hid (∀ w,Below W.heap.size W w→Calls Tryz.prog 81 #[.pointer (some ⟨b,0,none⟩),.int .i64 x] w fun e w'=>e=.returned (.bool false)∧w'=w):=fun w hb=>by
    have:=has_c (h.below hb) x
    rw [hx] at this
    exact this
  clear h hx
  go_enter Tryz.func21,Tryz.ntmps21
  go_wp2_with (go_at_call 81;refine (HH.out _ (by repeat (first|exact Below.refl _ _|refine Below.setCell ?_ (by simp;try omega) _|refine Below.alloc ?_ (by simp;try omega) _|refine Below.drew ?_))).mono ?_;rintro e w9 ⟨rfl,hw9⟩;rw [hw9];clear hw9 w9)
  exact bodyPost_ret (v:=.tuple #[.slice none 0 0,.int .i64 3]) (by simp [results,Tryz.results21,go_sem, *]) rfl ⟨rfl,(by repeat (first|exact Below.refl _ _|refine Below.setCell ?_ (by simp;try omega) _|refine Below.alloc ?_ (by simp;try omega) _|refine Below.drew ?_))⟩
set_option maxHeartbeats 2000000 in
theorem rev_any (N g cap:Nat) (l:List Nat) (W:World) (h:W.ownsRow N 3 1 (.slice (some ⟨g,0,none⟩) l.length cap) l.length (l.map numV)) (hn:l.length≤1000000) :
    Calls Tryz.prog 148 #[.slice (some ⟨g,0,none⟩) l.length cap] W fun e w'=>e=.returned (.tuple #[])∧w'.ownsRow N 3 1 (.slice (some ⟨g,0,none⟩) l.length cap) l.length (l.reverse.map numV)∧Below N W w':=by
  have hgN:N≤g:=(h.lt g rfl).1
  obtain ⟨K,hK⟩:∃ K,l.length=K:=⟨_,rfl⟩
  have HK:Hid (l.length=K):=hK
  rw [hK] at hn h ⊢
  have HA:Hid (W.ownsRow N 3 1 (.slice (some ⟨g,0,none⟩) K cap) K (l.map numV)):=h
  clear hK h
  go_enter Tryz.func148,Tryz.ntmps148
  go_wp2
  go_loopw [2,3] (fun iv jv wr=>∃ (i:Nat) (jz:Int) (R:List Nat),iv=.int .i64 i∧jv=.int .i64 jz∧Hid (jz=(K:Int) - 1 - (i:Int))∧i≤K∧Hid (RevR l R i)∧Hid (wr.ownsRow N 3 1 (.slice (some ⟨g,0,none⟩) K cap) K (R.map numV))∧Hid (Below N W wr)) (fun iv _ _=>K - (intOf iv).toNat)
  case atStart=>exact ⟨0,_,l,rfl,rfl,(by simp [Hid]),Nat.zero_le _,RevR.start l,HA,Below.refl _ _⟩
  case round =>
    obtain ⟨i,jz,R,rfl,rfl,hjz,hiK,hR,hO,hB⟩:=hrel
    by_cases hlt:(i:Int)<jz
    · obtain ⟨j,rfl⟩:∃ j:Nat,jz=(j:Int):=⟨jz.toNat,by omega⟩
      have hsum:Hid (i+j+1=K):=by have:=hjz.out;rw [Hid];omega
      have hij:Hid (i<j):=by rw [Hid];omega
      have hRl:R.length=K:=hR.out.1.trans HK.out
      have hjK:j<K:=by have:=hsum.out;omega
      have hiK2:i<K:=by have:=hsum.out;omega
      obtain ⟨x,hx⟩:∃ x,R[i]?=some x:=⟨_,List.getElem?_eq_getElem (by omega)⟩
      obtain ⟨y,hy⟩:∃ y,R[j]?=some y:=⟨_,List.getElem?_eq_getElem (by omega)⟩
      have ci:wr.cell? ⟨g,i,none⟩=some (.int .i64 (x:Int)):=by
        rw [hO.out.cellAt i (by omega),List.getElem?_map,hx];rfl
      have cj:wr.cell? ⟨g,j,none⟩=some (.int .i64 (y:Int)):=by
        rw [hO.out.cellAt j (by omega),List.getElem?_map,hy];rfl
      obtain ⟨cur,hcur⟩:=row_cur hO.out
      have fi:=froz hcur i
      have fj:=froz hcur j
      have HX:Hid (R[i]?=some x):=hx
      have HY:Hid (R[j]?=some y):=hy
      clear hx hy hcur hRl hjz
      have hne:¬ (i=j):=by have:=hij.out;omega
      have hne2:¬ (j=i):=by have:=hij.out;omega
      go_wp2_with fail
      go_region
      all_goals go_wp2
      all_goals go_roundw
      case rel =>
        refine ⟨i+1,(j:Int) - 1,(R.set i y).set j x,(by go_num),(by first|rfl|simp),(by rw [Hid];have:=hsum.out;omega),(by omega),hR.out.swap hij.out (by rw [HK.out];exact hsum.out) HX.out HY.out,?_,?_⟩
        · rw [Hid,List.map_set,List.map_set]
          obtain ⟨s0,_⟩:=(hO.out.drew).stored i (numV y)
          exact (s0.stored j (numV x)).1
        · exact ((hB.out.drew).setCell hgN _).setCell hgN _
      case measure=>simp [intOf];omega
    · have hd:R=l.reverse:=hR.out.done (by have:=hjz.out;rw [HK.out];omega)
      subst hd
      clear hjz hR
      go_wp2
      go_end0
      exact ⟨rfl,(by rw [← List.map_reverse];exact hO.out),hB.out⟩
set_option maxHeartbeats 1000000 in
theorem down_c {b:Nat} {ps:List Plc} {W:World} (h:WAt b ps W) (hi:WI ps) (k:Nat) (q:Plc) (hq:ps[k]?=some q):Calls Tryz.prog 86 #[.pointer (some ⟨b,0,none⟩),.int .i64 (k:Int)] W fun e w'=>∃ g cap,e=.returned (.tuple #[.slice (some ⟨g,0,none⟩) (chL (ps.map nd) k).length cap,.int .i64 0])∧w'.ownsRow W.heap.size 3 1 (.slice (some ⟨g,0,none⟩) (chL (ps.map nd) k).length cap) (chL (ps.map nd) k).length ((chL (ps.map nd) k).reverse.map numV)∧Below W.heap.size W w':=by
  have hKb:=chL_len hi (List.getElem?_eq_some_iff.1 hq).1
  have hK0:0<(chL (ps.map nd) k).length:=by rw [chL];cases k <;> simp [upF]
  have HC:Hid (∀ w,Below W.heap.size W w→Calls Tryz.prog 21 #[.pointer (some ⟨b,0,none⟩),.int .i64 (k:Int)] w fun e w'=>∃ v,e=.returned (.tuple #[v,.int .i64 0])∧w'.ownsRow w.heap.size 3 1 v (chL (ps.map nd) k).length ((chL (ps.map nd) k).map numV)∧Below w.heap.size w w'):=fun w hb=>by
    obtain ⟨N,mb,vp,pv,h⟩:=h.below hb
    exact chain_yes N b mb ps vp pv k (List.getElem?_eq_some_iff.1 hq).1 hi.wo hi.hi w h
  generalize chL (ps.map nd) k=l at *
  have HRV:Hid (∀ (g cap:Nat) (w:World),w.ownsRow W.heap.size 3 1 (.slice (some ⟨g,0,none⟩) l.length cap) l.length (l.map numV)→Calls Tryz.prog 148 #[.slice (some ⟨g,0,none⟩) l.length cap] w fun e w'=>e=.returned (.tuple #[])∧w'.ownsRow W.heap.size 3 1 (.slice (some ⟨g,0,none⟩) l.length cap) l.length (l.reverse.map numV)∧Below W.heap.size w w'):=fun g cap w ho=>rev_any W.heap.size g cap l w ho hKb
  obtain ⟨K,hK⟩:∃ K,l.length=K:=⟨_,rfl⟩
  rw [hK] at hKb hK0 HC HRV ⊢
  clear h hi hq hK
  go_enter Tryz.func86,Tryz.ntmps86
  go_wp2_with (first
    | (go_at_call 21;refine (HC.out _ (Below.refl _ _)).mono ?_;rintro e w1 ⟨v,rfl,ho,hb⟩;obtain ⟨g,cap,rfl⟩:=Go.Joins.ownsRow_form ho hK0;have O1:Hid (w1.ownsRow W.heap.size 3 1 (.slice (some ⟨g,0,none⟩) K cap) K (l.map numV)):=ho;have B1:Hid (Below W.heap.size W w1):=hb;clear ho hb HC)
    | (go_at_call 148;refine (HRV.out _ _ _ O1.out).mono ?_;rintro e w2 ⟨rfl,ho,hb⟩;have O2:Hid (w2.ownsRow W.heap.size 3 1 (.slice (some ⟨g,0,none⟩) K cap) K (l.reverse.map numV)):=ho;have B2:Hid (Below W.heap.size W w2):=B1.out.trans hb;clear ho hb HRV))
  exact bodyPost_ret (v:=.tuple #[.slice (some ⟨g,0,none⟩) K cap,.int .i64 0]) (by simp [results,Tryz.results86,go_sem, *]) rfl ⟨g,cap,rfl,O2.out,B2.out⟩
theorem down_no {b:Nat} {ps:List Plc} {W:World} (h:WAt b ps W) (x:Int) (hx:plcI ps x=none):Calls Tryz.prog 86 #[.pointer (some ⟨b,0,none⟩),.int .i64 x] W fun e w'=>e=.returned (.tuple #[.slice none 0 0,.int .i64 3])∧Below W.heap.size W w':=by
  have HC:Hid (Calls Tryz.prog 21 #[.pointer (some ⟨b,0,none⟩),.int .i64 x] W fun e w'=>e=.returned (.tuple #[.slice none 0 0,.int .i64 3])∧Below W.heap.size W w'):=chain_no h x hx
  clear h hx
  go_enter Tryz.func86,Tryz.ntmps86
  go_wp2_with (go_at_call 21;refine HC.out.mono ?_;rintro e w1 ⟨rfl,hb⟩;have B1:Hid (Below W.heap.size W w1):=hb;clear hb HC)
  exact bodyPost_ret (v:=.tuple #[.slice none 0 0,.int .i64 3]) (by simp [results,Tryz.results86,go_sem, *]) rfl ⟨rfl,B1.out⟩
def rdV (b:Nat) (c i:Int):Option HM→Ending→Prop
  | none,e=>e=.returned (.tuple #[.agg #[.string ⟨#[]⟩,.string ⟨#[]⟩,.int .i64 0,.int .i64 0,.int .i64 0,.slice none 0 0,.int .i64 0,.int .i64 0,.pointer none],.int .i64 3])
  | some m,e=>∃ a k o,e=.returned (.tuple #[.agg #[.string m.nm,.string m.ds,.int .i64 m.fl,.int .i64 m.lo,.int .i64 m.st,.slice a k o,.int .i64 c,.int .i64 i,.pointer (some ⟨b,0,none⟩)],.int .i64 0])
set_option maxHeartbeats 1000000 in
theorem read_no {b:Nat} {ps:List Plc} {W:World} (h:WAt b ps W) (hi:WI ps) (c i:Int) (hm:methI ps c i=none):Calls Tryz.prog 83 #[.pointer (some ⟨b,0,none⟩),.agg #[.int .i64 c,.int .i64 i]] W fun e w'=>rdV b c i none e∧Below W.heap.size W w':=by
  have HM:Hid (∀ w,Below W.heap.size W w→Calls Tryz.prog 17 #[.pointer (some ⟨b,0,none⟩),.agg #[.int .i64 c,.int .i64 i]] w fun e w'=>e=.returned noM∧Below w.heap.size w w'):=fun w hb=>by
    have:=method_c (h.below hb) hi.pb c i
    rw [hm] at this
    exact this
  simp only [noM] at HM
  clear h hi hm
  have BB:Hid (Below W.heap.size W W):=Below.refl _ _
  go_enter Tryz.func83,Tryz.ntmps83
  go_upto_region 5 with (first
    | (go_at_call 17;refine (HM.out _ (by repeat (first|exact Below.refl _ _|refine Below.setCell ?_ (by simp;try omega) _|refine Below.alloc ?_ (by simp;try omega) _|refine Below.drew ?_))).mono ?_;rintro e w1 ⟨rfl,hb⟩;have rd:w1.heap[W.heap.size+1]?=some (.cells #[.string ⟨#[]⟩,.string ⟨#[]⟩,.int .i64 0,.int .i64 0,.int .i64 0,.slice none 0 0,.int .i64 0,.int .i64 0,.pointer none] 119 (0,0)):=(hb.block (W.heap.size+1) (by first|omega|(simp;try omega))).trans (by first|exact rB.out|exact hkeep rB.out|exact hkeep (hkeep rB.out)|exact halloc2 _ _ rfl|exact heap_alloc2_old _ _ _|exact heap_alloc2_new _ _ _|exact hkeep (halloc2 _ _ rfl)|exact hkeep (hkeep (halloc2 _ _ rfl))|exact halloc2 _ _ (by simp;done));(try clear rB rL rN r0 r1 r2 r3 r4 r5 r6 r7 r8 rf0 rf1 rf2 rf3 rf4 rf5 rf6 rf7 rf8);have rB:Hid (w1.heap[W.heap.size+1]?=some (.cells #[.string ⟨#[]⟩,.string ⟨#[]⟩,.int .i64 0,.int .i64 0,.int .i64 0,.slice none 0 0,.int .i64 0,.int .i64 0,.pointer none] 119 (0,0))):=rd;have r0:w1.cell? ⟨W.heap.size+1,0,none⟩=some (.string ⟨#[]⟩):=(cell_of_row w1 (W.heap.size+1) 0 _ _ _ rd).trans rfl;have rf0:=frozen_of_row w1 (W.heap.size+1) 0 _ _ rd;have r1:w1.cell? ⟨W.heap.size+1,1,none⟩=some (.string ⟨#[]⟩):=(cell_of_row w1 (W.heap.size+1) 1 _ _ _ rd).trans rfl;have rf1:=frozen_of_row w1 (W.heap.size+1) 1 _ _ rd;have r2:w1.cell? ⟨W.heap.size+1,2,none⟩=some (.int .i64 0):=(cell_of_row w1 (W.heap.size+1) 2 _ _ _ rd).trans rfl;have rf2:=frozen_of_row w1 (W.heap.size+1) 2 _ _ rd;have r3:w1.cell? ⟨W.heap.size+1,3,none⟩=some (.int .i64 0):=(cell_of_row w1 (W.heap.size+1) 3 _ _ _ rd).trans rfl;have rf3:=frozen_of_row w1 (W.heap.size+1) 3 _ _ rd;have r4:w1.cell? ⟨W.heap.size+1,4,none⟩=some (.int .i64 0):=(cell_of_row w1 (W.heap.size+1) 4 _ _ _ rd).trans rfl;have rf4:=frozen_of_row w1 (W.heap.size+1) 4 _ _ rd;have r5:w1.cell? ⟨W.heap.size+1,5,none⟩=some (.slice none 0 0):=(cell_of_row w1 (W.heap.size+1) 5 _ _ _ rd).trans rfl;have rf5:=frozen_of_row w1 (W.heap.size+1) 5 _ _ rd;have r6:w1.cell? ⟨W.heap.size+1,6,none⟩=some (.int .i64 0):=(cell_of_row w1 (W.heap.size+1) 6 _ _ _ rd).trans rfl;have rf6:=frozen_of_row w1 (W.heap.size+1) 6 _ _ rd;have r7:w1.cell? ⟨W.heap.size+1,7,none⟩=some (.int .i64 0):=(cell_of_row w1 (W.heap.size+1) 7 _ _ _ rd).trans rfl;have rf7:=frozen_of_row w1 (W.heap.size+1) 7 _ _ rd;have r8:w1.cell? ⟨W.heap.size+1,8,none⟩=some (.pointer none):=(cell_of_row w1 (W.heap.size+1) 8 _ _ _ rd).trans rfl;have rf8:=frozen_of_row w1 (W.heap.size+1) 8 _ _ rd;have rL:W.heap.size+1<w1.heap.size:=(Array.getElem?_eq_some_iff.1 rd).1;have rN:¬ W.heap.size+1=w1.heap.size:=(by omega);clear rd;have BB2:Below W.heap.size W w1:=bstep (by repeat (first|exact Below.refl _ _|refine Below.setCell ?_ (by simp;try omega) _|refine Below.alloc ?_ (by simp;try omega) _|refine Below.drew ?_)) hb;clear BB;have BB:Hid (Below W.heap.size W w1):=BB2;clear BB2 hb;clear HM))
  obtain ⟨Wm,hWm⟩:∃ x,x=w1.alloc (.cells #[.string ⟨#[]⟩,.string ⟨#[]⟩,.int .i64 0,.int .i64 0,.int .i64 0,.slice none 0 0] 30):=⟨_,rfl⟩
  have BM:Hid (Below W.heap.size W Wm):=by rw [hWm];exact BB.out.alloc BB.out.size _
  have hd0:Wm.heap[W.heap.size+1]?=some (.cells #[.string ⟨#[]⟩,.string ⟨#[]⟩,.int .i64 0,.int .i64 0,.int .i64 0,.slice none 0 0,.int .i64 0,.int .i64 0,.pointer none] 119 (0,0)):=by rw [hWm];exact hkeep rB.out
  have p0:=cell_of_row Wm (W.heap.size+1) 0 _ _ _ hd0
  have pf0:=frozen_of_row Wm (W.heap.size+1) 0 _ _ hd0
  have p1:=cell_of_row Wm (W.heap.size+1) 1 _ _ _ hd0
  have pf1:=frozen_of_row Wm (W.heap.size+1) 1 _ _ hd0
  have p2:=cell_of_row Wm (W.heap.size+1) 2 _ _ _ hd0
  have pf2:=frozen_of_row Wm (W.heap.size+1) 2 _ _ hd0
  have p3:=cell_of_row Wm (W.heap.size+1) 3 _ _ _ hd0
  have pf3:=frozen_of_row Wm (W.heap.size+1) 3 _ _ hd0
  have p4:=cell_of_row Wm (W.heap.size+1) 4 _ _ _ hd0
  have pf4:=frozen_of_row Wm (W.heap.size+1) 4 _ _ hd0
  have p5:=cell_of_row Wm (W.heap.size+1) 5 _ _ _ hd0
  have pf5:=frozen_of_row Wm (W.heap.size+1) 5 _ _ hd0
  have p6:=cell_of_row Wm (W.heap.size+1) 6 _ _ _ hd0
  have pf6:=frozen_of_row Wm (W.heap.size+1) 6 _ _ hd0
  have p7:=cell_of_row Wm (W.heap.size+1) 7 _ _ _ hd0
  have pf7:=frozen_of_row Wm (W.heap.size+1) 7 _ _ hd0
  have p8:=cell_of_row Wm (W.heap.size+1) 8 _ _ _ hd0
  have pf8:=frozen_of_row Wm (W.heap.size+1) 8 _ _ hd0
  rw [← hWm]
  simp at p0 p1 p2 p3 p4 p5 p6 p7 p8
  clear hWm hd0  BB rB r0 r1 r2 r3 r4 r5 r6 r7 r8 rf0 rf1 rf2 rf3 rf4 rf5 rf6 rf7 rf8 rL rN
  go_wp2
  exact bodyPost_ret (v:=.tuple #[.agg #[.string ⟨#[]⟩,.string ⟨#[]⟩,.int .i64 0,.int .i64 0,.int .i64 0,.slice none 0 0,.int .i64 0,.int .i64 0,.pointer none],.int .i64 3]) (by simp [results,Tryz.results83,go_sem, *]) rfl ⟨rfl,(by repeat (first|refine Below.setCell ?_ (by simp;try omega) _|refine Below.alloc ?_ (by have:=BM.out.size;simp;try omega) _|refine Below.drew ?_|exact BM.out))⟩
set_option maxHeartbeats 1000000 in
theorem read_yes {b:Nat} {ps:List Plc} {W:World} (h:WAt b ps W) (hi:WI ps) (c i:Int) (m:HM) (hm:methI ps c i=some m):Calls Tryz.prog 83 #[.pointer (some ⟨b,0,none⟩),.agg #[.int .i64 c,.int .i64 i]] W fun e w'=>rdV b c i (some m) e∧Below W.heap.size W w':=by
  have HM:Hid (∀ w,Below W.heap.size W w→Calls Tryz.prog 17 #[.pointer (some ⟨b,0,none⟩),.agg #[.int .i64 c,.int .i64 i]] w fun e w'=>(∃ xa xk xo,e=.returned (.tuple #[.agg #[.string m.nm,.string m.ds,.int .i64 m.fl,.int .i64 m.lo,.int .i64 m.st,.slice xa xk xo],.int .i64 0]))∧Below w.heap.size w w'):=fun w hb=>by
    have:=method_c (h.below hb) hi.pb c i
    rw [hm] at this
    refine this.mono fun e w' zz=>⟨?_,zz.2⟩
    obtain ⟨vv,rfl,hown⟩:=zz.1
    obtain ⟨a1,c1,rfl⟩:=ownv hown
    exact ⟨a1,_,c1,rfl⟩
  clear h hi hm
  have BB:Hid (Below W.heap.size W W):=Below.refl _ _
  go_enter Tryz.func83,Tryz.ntmps83
  go_upto_region 6 with (first
    | (go_at_call 17;refine (HM.out _ (by repeat (first|exact Below.refl _ _|refine Below.setCell ?_ (by simp;try omega) _|refine Below.alloc ?_ (by simp;try omega) _|refine Below.drew ?_))).mono ?_;rintro e w1 ⟨⟨xa,xk,xo,rfl⟩,hb⟩;have ud:w1.heap[W.heap.size]?=some (.cells #[.int .i64 c,.int .i64 i] 24 (0,0)):=(hb.block (W.heap.size) (by first|omega|(simp;try omega))).trans (by first|exact uB.out|exact hkeep uB.out|exact hkeep (hkeep uB.out)|exact halloc2 _ _ rfl|exact heap_alloc2_old _ _ _|exact heap_alloc2_new _ _ _|exact hkeep (halloc2 _ _ rfl)|exact hkeep (hkeep (halloc2 _ _ rfl))|exact halloc2 _ _ (by simp;done));(try clear uB uL uN u0 u1 uf0 uf1);have uB:Hid (w1.heap[W.heap.size]?=some (.cells #[.int .i64 c,.int .i64 i] 24 (0,0))):=ud;have u0:w1.cell? ⟨W.heap.size,0,none⟩=some (.int .i64 c):=(cell_of_row w1 (W.heap.size) 0 _ _ _ ud).trans rfl;have uf0:=frozen_of_row w1 (W.heap.size) 0 _ _ ud;have u1:w1.cell? ⟨W.heap.size,1,none⟩=some (.int .i64 i):=(cell_of_row w1 (W.heap.size) 1 _ _ _ ud).trans rfl;have uf1:=frozen_of_row w1 (W.heap.size) 1 _ _ ud;have uL:W.heap.size<w1.heap.size:=(Array.getElem?_eq_some_iff.1 ud).1;have uN:¬ W.heap.size=w1.heap.size:=(by omega);clear ud;have rd:w1.heap[W.heap.size+1]?=some (.cells #[.string ⟨#[]⟩,.string ⟨#[]⟩,.int .i64 0,.int .i64 0,.int .i64 0,.slice none 0 0,.int .i64 0,.int .i64 0,.pointer none] 119 (0,0)):=(hb.block (W.heap.size+1) (by first|omega|(simp;try omega))).trans (by first|exact rB.out|exact hkeep rB.out|exact hkeep (hkeep rB.out)|exact halloc2 _ _ rfl|exact heap_alloc2_old _ _ _|exact heap_alloc2_new _ _ _|exact hkeep (halloc2 _ _ rfl)|exact hkeep (hkeep (halloc2 _ _ rfl))|exact halloc2 _ _ (by simp;done));(try clear rB rL rN r0 r1 r2 r3 r4 r5 r6 r7 r8 rf0 rf1 rf2 rf3 rf4 rf5 rf6 rf7 rf8);have rB:Hid (w1.heap[W.heap.size+1]?=some (.cells #[.string ⟨#[]⟩,.string ⟨#[]⟩,.int .i64 0,.int .i64 0,.int .i64 0,.slice none 0 0,.int .i64 0,.int .i64 0,.pointer none] 119 (0,0))):=rd;have r0:w1.cell? ⟨W.heap.size+1,0,none⟩=some (.string ⟨#[]⟩):=(cell_of_row w1 (W.heap.size+1) 0 _ _ _ rd).trans rfl;have rf0:=frozen_of_row w1 (W.heap.size+1) 0 _ _ rd;have r1:w1.cell? ⟨W.heap.size+1,1,none⟩=some (.string ⟨#[]⟩):=(cell_of_row w1 (W.heap.size+1) 1 _ _ _ rd).trans rfl;have rf1:=frozen_of_row w1 (W.heap.size+1) 1 _ _ rd;have r2:w1.cell? ⟨W.heap.size+1,2,none⟩=some (.int .i64 0):=(cell_of_row w1 (W.heap.size+1) 2 _ _ _ rd).trans rfl;have rf2:=frozen_of_row w1 (W.heap.size+1) 2 _ _ rd;have r3:w1.cell? ⟨W.heap.size+1,3,none⟩=some (.int .i64 0):=(cell_of_row w1 (W.heap.size+1) 3 _ _ _ rd).trans rfl;have rf3:=frozen_of_row w1 (W.heap.size+1) 3 _ _ rd;have r4:w1.cell? ⟨W.heap.size+1,4,none⟩=some (.int .i64 0):=(cell_of_row w1 (W.heap.size+1) 4 _ _ _ rd).trans rfl;have rf4:=frozen_of_row w1 (W.heap.size+1) 4 _ _ rd;have r5:w1.cell? ⟨W.heap.size+1,5,none⟩=some (.slice none 0 0):=(cell_of_row w1 (W.heap.size+1) 5 _ _ _ rd).trans rfl;have rf5:=frozen_of_row w1 (W.heap.size+1) 5 _ _ rd;have r6:w1.cell? ⟨W.heap.size+1,6,none⟩=some (.int .i64 0):=(cell_of_row w1 (W.heap.size+1) 6 _ _ _ rd).trans rfl;have rf6:=frozen_of_row w1 (W.heap.size+1) 6 _ _ rd;have r7:w1.cell? ⟨W.heap.size+1,7,none⟩=some (.int .i64 0):=(cell_of_row w1 (W.heap.size+1) 7 _ _ _ rd).trans rfl;have rf7:=frozen_of_row w1 (W.heap.size+1) 7 _ _ rd;have r8:w1.cell? ⟨W.heap.size+1,8,none⟩=some (.pointer none):=(cell_of_row w1 (W.heap.size+1) 8 _ _ _ rd).trans rfl;have rf8:=frozen_of_row w1 (W.heap.size+1) 8 _ _ rd;have rL:W.heap.size+1<w1.heap.size:=(Array.getElem?_eq_some_iff.1 rd).1;have rN:¬ W.heap.size+1=w1.heap.size:=(by omega);clear rd;have BB2:Below W.heap.size W w1:=bstep (by repeat (first|exact Below.refl _ _|refine Below.setCell ?_ (by simp;try omega) _|refine Below.alloc ?_ (by simp;try omega) _|refine Below.drew ?_)) hb;clear BB;have BB:Hid (Below W.heap.size W w1):=BB2;clear BB2 hb;clear HM))
  obtain ⟨Wm,hWm⟩:∃ x,x=w1.alloc (.cells #[.string m.nm,.string m.ds,.int .i64 m.fl,.int .i64 m.lo,.int .i64 m.st,.slice xa xk xo] 30):=⟨_,rfl⟩
  have BM:Hid (Below W.heap.size W Wm):=by rw [hWm];exact BB.out.alloc BB.out.size _
  have hd0:Wm.heap[W.heap.size+1]?=some (.cells #[.string ⟨#[]⟩,.string ⟨#[]⟩,.int .i64 0,.int .i64 0,.int .i64 0,.slice none 0 0,.int .i64 0,.int .i64 0,.pointer none] 119 (0,0)):=by rw [hWm];exact hkeep rB.out
  have p0:=cell_of_row Wm (W.heap.size+1) 0 _ _ _ hd0
  have pf0:=frozen_of_row Wm (W.heap.size+1) 0 _ _ hd0
  have p1:=cell_of_row Wm (W.heap.size+1) 1 _ _ _ hd0
  have pf1:=frozen_of_row Wm (W.heap.size+1) 1 _ _ hd0
  have p2:=cell_of_row Wm (W.heap.size+1) 2 _ _ _ hd0
  have pf2:=frozen_of_row Wm (W.heap.size+1) 2 _ _ hd0
  have p3:=cell_of_row Wm (W.heap.size+1) 3 _ _ _ hd0
  have pf3:=frozen_of_row Wm (W.heap.size+1) 3 _ _ hd0
  have p4:=cell_of_row Wm (W.heap.size+1) 4 _ _ _ hd0
  have pf4:=frozen_of_row Wm (W.heap.size+1) 4 _ _ hd0
  have p5:=cell_of_row Wm (W.heap.size+1) 5 _ _ _ hd0
  have pf5:=frozen_of_row Wm (W.heap.size+1) 5 _ _ hd0
  have p6:=cell_of_row Wm (W.heap.size+1) 6 _ _ _ hd0
  have pf6:=frozen_of_row Wm (W.heap.size+1) 6 _ _ hd0
  have p7:=cell_of_row Wm (W.heap.size+1) 7 _ _ _ hd0
  have pf7:=frozen_of_row Wm (W.heap.size+1) 7 _ _ hd0
  have p8:=cell_of_row Wm (W.heap.size+1) 8 _ _ _ hd0
  have pf8:=frozen_of_row Wm (W.heap.size+1) 8 _ _ hd0
  have hd1:Wm.heap[w1.heap.size]?=some (.cells #[.string m.nm,.string m.ds,.int .i64 m.fl,.int .i64 m.lo,.int .i64 m.st,.slice xa xk xo] 30 (0,0)):=by rw [hWm];exact halloc1 _ _
  have m0:=cell_of_row Wm w1.heap.size 0 _ _ _ hd1
  have m1:=cell_of_row Wm w1.heap.size 1 _ _ _ hd1
  have m2:=cell_of_row Wm w1.heap.size 2 _ _ _ hd1
  have m3:=cell_of_row Wm w1.heap.size 3 _ _ _ hd1
  have m4:=cell_of_row Wm w1.heap.size 4 _ _ _ hd1
  have m5:=cell_of_row Wm w1.heap.size 5 _ _ _ hd1
  have hd2:Wm.heap[W.heap.size]?=some (.cells #[.int .i64 c,.int .i64 i] 24 (0,0)):=by rw [hWm];exact hkeep uB.out
  have i0:=cell_of_row Wm W.heap.size 0 _ _ _ hd2
  have i1:=cell_of_row Wm W.heap.size 1 _ _ _ hd2
  rw [← hWm]
  simp at p0 p1 p2 p3 p4 p5 p6 p7 p8 m0 m1 m2 m3 m4 m5 i0 i1
  clear hWm hd0 hd1 hd2 uB u0 u1 uf0 uf1 uL uN BB rB r0 r1 r2 r3 r4 r5 r6 r7 r8 rf0 rf1 rf2 rf3 rf4 rf5 rf6 rf7 rf8 rL rN
  go_wp2
  exact bodyPost_ret (v:=.tuple #[.agg #[.string m.nm,.string m.ds,.int .i64 m.fl,.int .i64 m.lo,.int .i64 m.st,.slice xa xk xo,.int .i64 c,.int .i64 i,.pointer (some ⟨b,0,none⟩)],.int .i64 0]) (by simp [results,Tryz.results83,go_sem, *]) rfl ⟨⟨xa,xk,xo,rfl⟩,(by repeat (first|refine Below.setCell ?_ (by simp;try omega) _|refine Below.alloc ?_ (by have:=BM.out.size;simp;try omega) _|refine Below.drew ?_|exact BM.out))⟩
theorem read_c {b:Nat} {ps:List Plc} {W:World} (h:WAt b ps W) (hi:WI ps) (c i:Int):Calls Tryz.prog 83 #[.pointer (some ⟨b,0,none⟩),.agg #[.int .i64 c,.int .i64 i]] W fun e w'=>rdV b c i (methI ps c i) e∧Below W.heap.size W w':=by
  cases hm:methI ps c i with
  | none=>exact read_no h hi c i hm
  | some m=>exact read_yes h hi c i m hm
theorem clss_keep {w w':World} {v:Value} {l:List Cls} (h:IsClss w v l) (hb:Below w.heap.size w w'):IsClss w' v l:=by
  obtain ⟨ao,cap,rfl,h1,h2,h3⟩:=h
  refine ⟨ao,cap,rfl,h1,h2,fun hne=>?_⟩
  obtain ⟨bk,o,e,hlt,hc⟩:=h3 hne
  refine ⟨bk,o,e,Nat.lt_of_lt_of_le hlt hb.size,fun k c hk=>?_⟩
  obtain ⟨vi,vm,h4,h5⟩:=hc k c hk
  exact ⟨vi,vm,fun j u hj=>(hb.cell hlt).trans (h4 j u hj),h5.keep hb⟩
end Go.Proofs.YthfifobokpfpkaaGreat
