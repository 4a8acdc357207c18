import Derived.Test.YtfjekhmnjfcbeaaGreatRsA
import Derived.Test.YtfjekhmnjfcbeaaGreatTys
import Derived.Test.YtfjekhmnjfcbeaaGreatTypesRef
import Derived.Test.YtfjekhmnjfcbeaaGreatSoD
import Derived.Test.YtfjekhmnjfcbeaaGreatOwnRefs
import Derived.Test.YtfjekhmnjfcbeaaGreatOwnC
import Derived.Test.YtfjekhmnjfcbeaaGreatMxC
import Derived.Test.YtfjekhmnjfcbeaaGreatRfA
import Derived.Test.YtfjekhmnjfcbeaaGreatOvQ
import Derived.Deep.DeepCutAuto
import Derived.Laws.IdiomStrings
import Derived.Deep.LoopGhost
import Derived.Lib.SliceRun
set_option maxRecDepth 100000
namespace Go.Proofs.YtfjekhmnjfcbeaaGreat
open Go.RowKit Go.Maps
def rdV (b:Nat) (c i:Int):Option HM→Ending→Prop
  | none,e=>e=.returned (.tuple #[.agg #[.string ⟨#[]⟩,.string ⟨#[]⟩,.int .i64 0,.int .i64 0,.int .i64 0,.slice none 0 0,.int .i64 0,.int .i64 0,.pointer none],.int .i64 3])
  | some m,e=>∃ a k o,e=.returned (.tuple #[.agg #[.string m.nm,.string m.ds,.int .i64 m.fl,.int .i64 m.lo,.int .i64 m.st,.slice a k o,.int .i64 c,.int .i64 i,.pointer (some ⟨b,0,none⟩)],.int .i64 0])
set_option maxHeartbeats 1000000 in
theorem read_no {b:Nat} {ps:List Plc} {W:World} (h:WAt b ps W) (hi:WI ps) (c i:Int) (hm:methI ps c i=none):Calls Tryz.prog 78 #[.pointer (some ⟨b,0,none⟩),.agg #[.int .i64 c,.int .i64 i]] W fun e w'=>rdV b c i none e∧Below W.heap.size W w':=by
  have HM:Hid (∀ w,Below W.heap.size W w→Calls Tryz.prog 27 #[.pointer (some ⟨b,0,none⟩),.agg #[.int .i64 c,.int .i64 i]] w fun e w'=>e=.returned noM∧Below w.heap.size w w'):=fun w hb=>by
    have:=method_c (h.below hb) hi.pb c i
    rw [hm] at this
    exact this
  simp only [noM] at HM
  clear h hi hm
  have BB:Hid (Below W.heap.size W W):=Below.refl _ _
  go_enter Tryz.func78,Tryz.ntmps78
  go_upto_region 5 with (first
    | (go_at_call 27;refine (HM.out _ (by repeat (first|exact Below.refl _ _|refine Below.setCell ?_ (by simp;try omega) _|refine Below.alloc ?_ (by simp;try omega) _|refine Below.drew ?_))).mono ?_;rintro e w1 ⟨rfl,hb⟩;have rd:w1.heap[W.heap.size+1]?=some (.cells #[.string ⟨#[]⟩,.string ⟨#[]⟩,.int .i64 0,.int .i64 0,.int .i64 0,.slice none 0 0,.int .i64 0,.int .i64 0,.pointer none] 128 (0,0)):=(hb.block (W.heap.size+1) (by first|omega|(simp;try omega))).trans (by first|exact rB.out|exact hkeep rB.out|exact hkeep (hkeep rB.out)|exact halloc2 _ _ rfl|exact heap_alloc2_old _ _ _|exact heap_alloc2_new _ _ _|exact hkeep (halloc2 _ _ rfl)|exact hkeep (hkeep (halloc2 _ _ rfl))|exact halloc2 _ _ (by simp;done));(try clear rB rL rN r0 r1 r2 r3 r4 r5 r6 r7 r8 rf0 rf1 rf2 rf3 rf4 rf5 rf6 rf7 rf8);have rB:Hid (w1.heap[W.heap.size+1]?=some (.cells #[.string ⟨#[]⟩,.string ⟨#[]⟩,.int .i64 0,.int .i64 0,.int .i64 0,.slice none 0 0,.int .i64 0,.int .i64 0,.pointer none] 128 (0,0))):=rd;have r0:w1.cell? ⟨W.heap.size+1,0,none⟩=some (.string ⟨#[]⟩):=(cell_of_row w1 (W.heap.size+1) 0 _ _ _ rd).trans rfl;have rf0:=frozen_of_row w1 (W.heap.size+1) 0 _ _ rd;have r1:w1.cell? ⟨W.heap.size+1,1,none⟩=some (.string ⟨#[]⟩):=(cell_of_row w1 (W.heap.size+1) 1 _ _ _ rd).trans rfl;have rf1:=frozen_of_row w1 (W.heap.size+1) 1 _ _ rd;have r2:w1.cell? ⟨W.heap.size+1,2,none⟩=some (.int .i64 0):=(cell_of_row w1 (W.heap.size+1) 2 _ _ _ rd).trans rfl;have rf2:=frozen_of_row w1 (W.heap.size+1) 2 _ _ rd;have r3:w1.cell? ⟨W.heap.size+1,3,none⟩=some (.int .i64 0):=(cell_of_row w1 (W.heap.size+1) 3 _ _ _ rd).trans rfl;have rf3:=frozen_of_row w1 (W.heap.size+1) 3 _ _ rd;have r4:w1.cell? ⟨W.heap.size+1,4,none⟩=some (.int .i64 0):=(cell_of_row w1 (W.heap.size+1) 4 _ _ _ rd).trans rfl;have rf4:=frozen_of_row w1 (W.heap.size+1) 4 _ _ rd;have r5:w1.cell? ⟨W.heap.size+1,5,none⟩=some (.slice none 0 0):=(cell_of_row w1 (W.heap.size+1) 5 _ _ _ rd).trans rfl;have rf5:=frozen_of_row w1 (W.heap.size+1) 5 _ _ rd;have r6:w1.cell? ⟨W.heap.size+1,6,none⟩=some (.int .i64 0):=(cell_of_row w1 (W.heap.size+1) 6 _ _ _ rd).trans rfl;have rf6:=frozen_of_row w1 (W.heap.size+1) 6 _ _ rd;have r7:w1.cell? ⟨W.heap.size+1,7,none⟩=some (.int .i64 0):=(cell_of_row w1 (W.heap.size+1) 7 _ _ _ rd).trans rfl;have rf7:=frozen_of_row w1 (W.heap.size+1) 7 _ _ rd;have r8:w1.cell? ⟨W.heap.size+1,8,none⟩=some (.pointer none):=(cell_of_row w1 (W.heap.size+1) 8 _ _ _ rd).trans rfl;have rf8:=frozen_of_row w1 (W.heap.size+1) 8 _ _ rd;have rL:W.heap.size+1<w1.heap.size:=(Array.getElem?_eq_some_iff.1 rd).1;have rN:¬ W.heap.size+1=w1.heap.size:=(by omega);clear rd;have BB2:Below W.heap.size W w1:=bstep (by repeat (first|exact Below.refl _ _|refine Below.setCell ?_ (by simp;try omega) _|refine Below.alloc ?_ (by simp;try omega) _|refine Below.drew ?_)) hb;clear BB;have BB:Hid (Below W.heap.size W w1):=BB2;clear BB2 hb;clear HM))
  obtain ⟨Wm,hWm⟩:∃ x,x=w1.alloc (.cells #[.string ⟨#[]⟩,.string ⟨#[]⟩,.int .i64 0,.int .i64 0,.int .i64 0,.slice none 0 0] 56):=⟨_,rfl⟩
  have BM:Hid (Below W.heap.size W Wm):=by rw [hWm];exact BB.out.alloc BB.out.size _
  have hd0:Wm.heap[W.heap.size+1]?=some (.cells #[.string ⟨#[]⟩,.string ⟨#[]⟩,.int .i64 0,.int .i64 0,.int .i64 0,.slice none 0 0,.int .i64 0,.int .i64 0,.pointer none] 128 (0,0)):=by rw [hWm];exact hkeep rB.out
  have p0:=cell_of_row Wm (W.heap.size+1) 0 _ _ _ hd0
  have pf0:=frozen_of_row Wm (W.heap.size+1) 0 _ _ hd0
  have p1:=cell_of_row Wm (W.heap.size+1) 1 _ _ _ hd0
  have pf1:=frozen_of_row Wm (W.heap.size+1) 1 _ _ hd0
  have p2:=cell_of_row Wm (W.heap.size+1) 2 _ _ _ hd0
  have pf2:=frozen_of_row Wm (W.heap.size+1) 2 _ _ hd0
  have p3:=cell_of_row Wm (W.heap.size+1) 3 _ _ _ hd0
  have pf3:=frozen_of_row Wm (W.heap.size+1) 3 _ _ hd0
  have p4:=cell_of_row Wm (W.heap.size+1) 4 _ _ _ hd0
  have pf4:=frozen_of_row Wm (W.heap.size+1) 4 _ _ hd0
  have p5:=cell_of_row Wm (W.heap.size+1) 5 _ _ _ hd0
  have pf5:=frozen_of_row Wm (W.heap.size+1) 5 _ _ hd0
  have p6:=cell_of_row Wm (W.heap.size+1) 6 _ _ _ hd0
  have pf6:=frozen_of_row Wm (W.heap.size+1) 6 _ _ hd0
  have p7:=cell_of_row Wm (W.heap.size+1) 7 _ _ _ hd0
  have pf7:=frozen_of_row Wm (W.heap.size+1) 7 _ _ hd0
  have p8:=cell_of_row Wm (W.heap.size+1) 8 _ _ _ hd0
  have pf8:=frozen_of_row Wm (W.heap.size+1) 8 _ _ hd0
  rw [← hWm]
  simp at p0 p1 p2 p3 p4 p5 p6 p7 p8
  clear hWm hd0  BB rB r0 r1 r2 r3 r4 r5 r6 r7 r8 rf0 rf1 rf2 rf3 rf4 rf5 rf6 rf7 rf8 rL rN
  go_wp2
  exact bodyPost_ret (v:=.tuple #[.agg #[.string ⟨#[]⟩,.string ⟨#[]⟩,.int .i64 0,.int .i64 0,.int .i64 0,.slice none 0 0,.int .i64 0,.int .i64 0,.pointer none],.int .i64 3]) (by simp [results,Tryz.results78,go_sem, *]) rfl ⟨rfl,(by repeat (first|refine Below.setCell ?_ (by simp;try omega) _|refine Below.alloc ?_ (by have:=BM.out.size;simp;try omega) _|refine Below.drew ?_|exact BM.out))⟩
set_option maxHeartbeats 1000000 in
theorem read_yes {b:Nat} {ps:List Plc} {W:World} (h:WAt b ps W) (hi:WI ps) (c i:Int) (m:HM) (hm:methI ps c i=some m):Calls Tryz.prog 78 #[.pointer (some ⟨b,0,none⟩),.agg #[.int .i64 c,.int .i64 i]] W fun e w'=>rdV b c i (some m) e∧Below W.heap.size W w':=by
  have HM:Hid (∀ w,Below W.heap.size W w→Calls Tryz.prog 27 #[.pointer (some ⟨b,0,none⟩),.agg #[.int .i64 c,.int .i64 i]] w fun e w'=>(∃ xa xk xo,e=.returned (.tuple #[.agg #[.string m.nm,.string m.ds,.int .i64 m.fl,.int .i64 m.lo,.int .i64 m.st,.slice xa xk xo],.int .i64 0]))∧Below w.heap.size w w'):=fun w hb=>by
    have:=method_c (h.below hb) hi.pb c i
    rw [hm] at this
    refine this.mono fun e w' zz=>⟨?_,zz.2⟩
    obtain ⟨vv,rfl,hown⟩:=zz.1
    obtain ⟨a1,c1,rfl⟩:=ownv hown
    exact ⟨a1,_,c1,rfl⟩
  clear h hi hm
  have BB:Hid (Below W.heap.size W W):=Below.refl _ _
  go_enter Tryz.func78,Tryz.ntmps78
  go_upto_region 6 with (first
    | (go_at_call 27;refine (HM.out _ (by repeat (first|exact Below.refl _ _|refine Below.setCell ?_ (by simp;try omega) _|refine Below.alloc ?_ (by simp;try omega) _|refine Below.drew ?_))).mono ?_;rintro e w1 ⟨⟨xa,xk,xo,rfl⟩,hb⟩;have ud:w1.heap[W.heap.size]?=some (.cells #[.int .i64 c,.int .i64 i] 60 (0,0)):=(hb.block (W.heap.size) (by first|omega|(simp;try omega))).trans (by first|exact uB.out|exact hkeep uB.out|exact hkeep (hkeep uB.out)|exact halloc2 _ _ rfl|exact heap_alloc2_old _ _ _|exact heap_alloc2_new _ _ _|exact hkeep (halloc2 _ _ rfl)|exact hkeep (hkeep (halloc2 _ _ rfl))|exact halloc2 _ _ (by simp;done));(try clear uB uL uN u0 u1 uf0 uf1);have uB:Hid (w1.heap[W.heap.size]?=some (.cells #[.int .i64 c,.int .i64 i] 60 (0,0))):=ud;have u0:w1.cell? ⟨W.heap.size,0,none⟩=some (.int .i64 c):=(cell_of_row w1 (W.heap.size) 0 _ _ _ ud).trans rfl;have uf0:=frozen_of_row w1 (W.heap.size) 0 _ _ ud;have u1:w1.cell? ⟨W.heap.size,1,none⟩=some (.int .i64 i):=(cell_of_row w1 (W.heap.size) 1 _ _ _ ud).trans rfl;have uf1:=frozen_of_row w1 (W.heap.size) 1 _ _ ud;have uL:W.heap.size<w1.heap.size:=(Array.getElem?_eq_some_iff.1 ud).1;have uN:¬ W.heap.size=w1.heap.size:=(by omega);clear ud;have rd:w1.heap[W.heap.size+1]?=some (.cells #[.string ⟨#[]⟩,.string ⟨#[]⟩,.int .i64 0,.int .i64 0,.int .i64 0,.slice none 0 0,.int .i64 0,.int .i64 0,.pointer none] 128 (0,0)):=(hb.block (W.heap.size+1) (by first|omega|(simp;try omega))).trans (by first|exact rB.out|exact hkeep rB.out|exact hkeep (hkeep rB.out)|exact halloc2 _ _ rfl|exact heap_alloc2_old _ _ _|exact heap_alloc2_new _ _ _|exact hkeep (halloc2 _ _ rfl)|exact hkeep (hkeep (halloc2 _ _ rfl))|exact halloc2 _ _ (by simp;done));(try clear rB rL rN r0 r1 r2 r3 r4 r5 r6 r7 r8 rf0 rf1 rf2 rf3 rf4 rf5 rf6 rf7 rf8);have rB:Hid (w1.heap[W.heap.size+1]?=some (.cells #[.string ⟨#[]⟩,.string ⟨#[]⟩,.int .i64 0,.int .i64 0,.int .i64 0,.slice none 0 0,.int .i64 0,.int .i64 0,.pointer none] 128 (0,0))):=rd;have r0:w1.cell? ⟨W.heap.size+1,0,none⟩=some (.string ⟨#[]⟩):=(cell_of_row w1 (W.heap.size+1) 0 _ _ _ rd).trans rfl;have rf0:=frozen_of_row w1 (W.heap.size+1) 0 _ _ rd;have r1:w1.cell? ⟨W.heap.size+1,1,none⟩=some (.string ⟨#[]⟩):=(cell_of_row w1 (W.heap.size+1) 1 _ _ _ rd).trans rfl;have rf1:=frozen_of_row w1 (W.heap.size+1) 1 _ _ rd;have r2:w1.cell? ⟨W.heap.size+1,2,none⟩=some (.int .i64 0):=(cell_of_row w1 (W.heap.size+1) 2 _ _ _ rd).trans rfl;have rf2:=frozen_of_row w1 (W.heap.size+1) 2 _ _ rd;have r3:w1.cell? ⟨W.heap.size+1,3,none⟩=some (.int .i64 0):=(cell_of_row w1 (W.heap.size+1) 3 _ _ _ rd).trans rfl;have rf3:=frozen_of_row w1 (W.heap.size+1) 3 _ _ rd;have r4:w1.cell? ⟨W.heap.size+1,4,none⟩=some (.int .i64 0):=(cell_of_row w1 (W.heap.size+1) 4 _ _ _ rd).trans rfl;have rf4:=frozen_of_row w1 (W.heap.size+1) 4 _ _ rd;have r5:w1.cell? ⟨W.heap.size+1,5,none⟩=some (.slice none 0 0):=(cell_of_row w1 (W.heap.size+1) 5 _ _ _ rd).trans rfl;have rf5:=frozen_of_row w1 (W.heap.size+1) 5 _ _ rd;have r6:w1.cell? ⟨W.heap.size+1,6,none⟩=some (.int .i64 0):=(cell_of_row w1 (W.heap.size+1) 6 _ _ _ rd).trans rfl;have rf6:=frozen_of_row w1 (W.heap.size+1) 6 _ _ rd;have r7:w1.cell? ⟨W.heap.size+1,7,none⟩=some (.int .i64 0):=(cell_of_row w1 (W.heap.size+1) 7 _ _ _ rd).trans rfl;have rf7:=frozen_of_row w1 (W.heap.size+1) 7 _ _ rd;have r8:w1.cell? ⟨W.heap.size+1,8,none⟩=some (.pointer none):=(cell_of_row w1 (W.heap.size+1) 8 _ _ _ rd).trans rfl;have rf8:=frozen_of_row w1 (W.heap.size+1) 8 _ _ rd;have rL:W.heap.size+1<w1.heap.size:=(Array.getElem?_eq_some_iff.1 rd).1;have rN:¬ W.heap.size+1=w1.heap.size:=(by omega);clear rd;have BB2:Below W.heap.size W w1:=bstep (by repeat (first|exact Below.refl _ _|refine Below.setCell ?_ (by simp;try omega) _|refine Below.alloc ?_ (by simp;try omega) _|refine Below.drew ?_)) hb;clear BB;have BB:Hid (Below W.heap.size W w1):=BB2;clear BB2 hb;clear HM))
  obtain ⟨Wm,hWm⟩:∃ x,x=w1.alloc (.cells #[.string m.nm,.string m.ds,.int .i64 m.fl,.int .i64 m.lo,.int .i64 m.st,.slice xa xk xo] 56):=⟨_,rfl⟩
  have BM:Hid (Below W.heap.size W Wm):=by rw [hWm];exact BB.out.alloc BB.out.size _
  have hd0:Wm.heap[W.heap.size+1]?=some (.cells #[.string ⟨#[]⟩,.string ⟨#[]⟩,.int .i64 0,.int .i64 0,.int .i64 0,.slice none 0 0,.int .i64 0,.int .i64 0,.pointer none] 128 (0,0)):=by rw [hWm];exact hkeep rB.out
  have p0:=cell_of_row Wm (W.heap.size+1) 0 _ _ _ hd0
  have pf0:=frozen_of_row Wm (W.heap.size+1) 0 _ _ hd0
  have p1:=cell_of_row Wm (W.heap.size+1) 1 _ _ _ hd0
  have pf1:=frozen_of_row Wm (W.heap.size+1) 1 _ _ hd0
  have p2:=cell_of_row Wm (W.heap.size+1) 2 _ _ _ hd0
  have pf2:=frozen_of_row Wm (W.heap.size+1) 2 _ _ hd0
  have p3:=cell_of_row Wm (W.heap.size+1) 3 _ _ _ hd0
  have pf3:=frozen_of_row Wm (W.heap.size+1) 3 _ _ hd0
  have p4:=cell_of_row Wm (W.heap.size+1) 4 _ _ _ hd0
  have pf4:=frozen_of_row Wm (W.heap.size+1) 4 _ _ hd0
  have p5:=cell_of_row Wm (W.heap.size+1) 5 _ _ _ hd0
  have pf5:=frozen_of_row Wm (W.heap.size+1) 5 _ _ hd0
  have p6:=cell_of_row Wm (W.heap.size+1) 6 _ _ _ hd0
  have pf6:=frozen_of_row Wm (W.heap.size+1) 6 _ _ hd0
  have p7:=cell_of_row Wm (W.heap.size+1) 7 _ _ _ hd0
  have pf7:=frozen_of_row Wm (W.heap.size+1) 7 _ _ hd0
  have p8:=cell_of_row Wm (W.heap.size+1) 8 _ _ _ hd0
  have pf8:=frozen_of_row Wm (W.heap.size+1) 8 _ _ hd0
  have hd1:Wm.heap[w1.heap.size]?=some (.cells #[.string m.nm,.string m.ds,.int .i64 m.fl,.int .i64 m.lo,.int .i64 m.st,.slice xa xk xo] 56 (0,0)):=by rw [hWm];exact halloc1 _ _
  have m0:=cell_of_row Wm w1.heap.size 0 _ _ _ hd1
  have m1:=cell_of_row Wm w1.heap.size 1 _ _ _ hd1
  have m2:=cell_of_row Wm w1.heap.size 2 _ _ _ hd1
  have m3:=cell_of_row Wm w1.heap.size 3 _ _ _ hd1
  have m4:=cell_of_row Wm w1.heap.size 4 _ _ _ hd1
  have m5:=cell_of_row Wm w1.heap.size 5 _ _ _ hd1
  have hd2:Wm.heap[W.heap.size]?=some (.cells #[.int .i64 c,.int .i64 i] 60 (0,0)):=by rw [hWm];exact hkeep uB.out
  have i0:=cell_of_row Wm W.heap.size 0 _ _ _ hd2
  have i1:=cell_of_row Wm W.heap.size 1 _ _ _ hd2
  rw [← hWm]
  simp at p0 p1 p2 p3 p4 p5 p6 p7 p8 m0 m1 m2 m3 m4 m5 i0 i1
  clear hWm hd0 hd1 hd2 uB u0 u1 uf0 uf1 uL uN BB rB r0 r1 r2 r3 r4 r5 r6 r7 r8 rf0 rf1 rf2 rf3 rf4 rf5 rf6 rf7 rf8 rL rN
  go_wp2
  exact bodyPost_ret (v:=.tuple #[.agg #[.string m.nm,.string m.ds,.int .i64 m.fl,.int .i64 m.lo,.int .i64 m.st,.slice xa xk xo,.int .i64 c,.int .i64 i,.pointer (some ⟨b,0,none⟩)],.int .i64 0]) (by simp [results,Tryz.results78,go_sem, *]) rfl ⟨⟨xa,xk,xo,rfl⟩,(by repeat (first|refine Below.setCell ?_ (by simp;try omega) _|refine Below.alloc ?_ (by have:=BM.out.size;simp;try omega) _|refine Below.drew ?_|exact BM.out))⟩
theorem read_c {b:Nat} {ps:List Plc} {W:World} (h:WAt b ps W) (hi:WI ps) (c i:Int):Calls Tryz.prog 78 #[.pointer (some ⟨b,0,none⟩),.agg #[.int .i64 c,.int .i64 i]] W fun e w'=>rdV b c i (methI ps c i) e∧Below W.heap.size W w':=by
  cases hm:methI ps c i with
  | none=>exact read_no h hi c i hm
  | some m=>exact read_yes h hi c i m hm
theorem rw2 {w:World} {n:Nat} {t:TypeId} {a0 a1:Value} (h:w.heap[n]?=some (.cells #[a0,a1] t (0,0))):w.cell? ⟨n,0,none⟩=some a0∧w.cell? ⟨n,1,none⟩=some a1∧(∀ k,w.frozen? ⟨n,k,none⟩=false)∧n<w.heap.size :=
  ⟨(cell_of_row w n 0 _ _ _ h).trans rfl,(cell_of_row w n 1 _ _ _ h).trans rfl,fun k=>frozen_of_row w n k _ _ h,(Array.getElem?_eq_some_iff.1 h).1⟩
theorem rw6 {w:World} {n:Nat} {t:TypeId} {a0 a1 a2 a3 a4 a5:Value} (h:w.heap[n]?=some (.cells #[a0,a1,a2,a3,a4,a5] t (0,0))):w.cell? ⟨n,0,none⟩=some a0∧w.cell? ⟨n,1,none⟩=some a1∧w.cell? ⟨n,2,none⟩=some a2∧w.cell? ⟨n,3,none⟩=some a3∧w.cell? ⟨n,4,none⟩=some a4∧w.cell? ⟨n,5,none⟩=some a5∧(∀ k,w.frozen? ⟨n,k,none⟩=false)∧n<w.heap.size :=
  ⟨(cell_of_row w n 0 _ _ _ h).trans rfl,(cell_of_row w n 1 _ _ _ h).trans rfl,(cell_of_row w n 2 _ _ _ h).trans rfl,(cell_of_row w n 3 _ _ _ h).trans rfl,(cell_of_row w n 4 _ _ _ h).trans rfl,(cell_of_row w n 5 _ _ _ h).trans rfl,fun k=>frozen_of_row w n k _ _ h,(Array.getElem?_eq_some_iff.1 h).1⟩
theorem kp2 {V w:World} {N n:Nat} {t:TypeId} {a0 a1:Value} (hb:Below N V w) (hn:n<N:=by first|omega|(simp;try omega)) (h:V.heap[n]?=some (.cells #[a0,a1] t (0,0)):=by first|exact Hid.out (by assumption)|exact hkeep (Hid.out (by assumption))|exact hkeep (hkeep (Hid.out (by assumption)))|exact halloc2 _ _ rfl|exact hkeep (halloc2 _ _ rfl)|exact hkeep (hkeep (halloc2 _ _ rfl))|exact halloc2 _ _ (by simp;done)):Hid (w.heap[n]?=some (.cells #[a0,a1] t (0,0)))∧w.cell? ⟨n,0,none⟩=some a0∧w.cell? ⟨n,1,none⟩=some a1∧(∀ k,w.frozen? ⟨n,k,none⟩=false)∧n<w.heap.size∧¬ n=w.heap.size:=by
  have h2:=(hb.block n hn).trans h
  obtain ⟨c0,c1,f,l⟩:=rw2 h2
  exact ⟨h2,c0,c1,f,l,by omega⟩
theorem kp6 {V w:World} {N n:Nat} {t:TypeId} {a0 a1 a2 a3 a4 a5:Value} (hb:Below N V w) (hn:n<N:=by first|omega|(simp;try omega)) (h:V.heap[n]?=some (.cells #[a0,a1,a2,a3,a4,a5] t (0,0)):=by first|exact Hid.out (by assumption)|exact hkeep (Hid.out (by assumption))|exact hkeep (hkeep (Hid.out (by assumption)))|exact halloc2 _ _ rfl|exact hkeep (halloc2 _ _ rfl)|exact hkeep (hkeep (halloc2 _ _ rfl))|exact halloc2 _ _ (by simp;done)):Hid (w.heap[n]?=some (.cells #[a0,a1,a2,a3,a4,a5] t (0,0)))∧w.cell? ⟨n,0,none⟩=some a0∧w.cell? ⟨n,1,none⟩=some a1∧w.cell? ⟨n,2,none⟩=some a2∧w.cell? ⟨n,3,none⟩=some a3∧w.cell? ⟨n,4,none⟩=some a4∧w.cell? ⟨n,5,none⟩=some a5∧(∀ k,w.frozen? ⟨n,k,none⟩=false)∧n<w.heap.size∧¬ n=w.heap.size:=by
  have h2:=(hb.block n hn).trans h
  obtain ⟨c0,c1,c2,c3,c4,c5,f,l⟩:=rw6 h2
  exact ⟨h2,c0,c1,c2,c3,c4,c5,f,l,by omega⟩
theorem chL_len {ps:List Plc} (hi:WI ps) {k:Nat} (hk:k<ps.length):(chL (ps.map nd) k).length≤1000000:=by
  have:=ch_len hi.wo k (by simpa using hk)
  have:=hi.hi
  omega
set_option maxHeartbeats 4000000 in
theorem sameIDs_eq (N1 N2:Nat) (l:List (Int×Int)) (v1 v2:Value) (W:World) (h1:W.ownsRow N1 60 2 v1 l.length (flatD l)) (h2:W.ownsRow N2 60 2 v2 l.length (flatD l)) (hn:l.length≤1000000):Calls Tryz.prog 36 #[v1,v2] W fun e w'=>e=.returned (.bool true)∧Below W.heap.size W w':=by
  obtain ⟨a1,c1,rfl⟩:=ownv h1
  obtain ⟨a2,c2,rfl⟩:=ownv h2
  have H1:Hid (W.ownsRow N1 60 2 (.slice a1 l.length c1) l.length (flatD l)):=h1
  have H2:Hid (W.ownsRow N2 60 2 (.slice a2 l.length c2) l.length (flatD l)):=h2
  obtain ⟨K,hK⟩:∃ K,l.length=K:=⟨_,rfl⟩
  have HK:Hid (l.length=K):=hK
  rw [hK] at hn ⊢
  clear h1 h2 hK
  go_enter Tryz.func36,Tryz.ntmps36
  go_wp2
  go_loopw [5] (fun iv wr=>∃ i:Nat,iv=.int .i64 i∧i≤K∧Hid (Below W.heap.size W wr)) (fun iv _=>K - (intOf iv).toNat)
  case atStart=>exact ⟨0,rfl,Nat.zero_le _,Below.refl _ _⟩
  case round =>
    obtain ⟨i,rfl,hi,hb⟩:=hrel
    by_cases hlt:i<K
    · have hlq:i<l.length:=by rw [HK.out];exact hlt
      obtain ⟨x,hx⟩:∃ x,l[i]?=some x:=⟨_,List.getElem?_eq_getElem hlq⟩
      obtain ⟨g1,d1,hf1⟩:=Go.Joins.ownsRow_form H1.out (by omega)
      obtain ⟨g2,d2,hf2⟩:=Go.Joins.ownsRow_form H2.out (by omega)
      have r1:=H1.out
      have r2:=H2.out
      rw [hf1] at r1
      rw [hf2] at r2
      obtain ⟨e0,e1,hgl1⟩:=rowD_cells r1 hx
      obtain ⟨f0,f1,hgl2⟩:=rowD_cells r2 hx
      injection hf1 with ha1 _ hc1
      injection hf2 with ha2 _ hc2
      subst ha1 hc1 ha2 hc2
      obtain ⟨σ,V,hne,V1,V2⟩:=class_of' (fun w'=>Below W.heap.size W w') ⟨_,Below.refl _ _⟩
      have kp:∀ (s:σ) (bb j:Nat) (v:Value),bb<W.heap.size→W.cell? ⟨bb,j,none⟩=some v→(V s).cell? ⟨bb,j,none⟩=some v:=fun s bb j v hl h=>((V1.out s).cell (p:=⟨bb,j,none⟩) hl).trans h
      replace e0:=fun s=>kp s _ _ _ hgl1 e0
      replace e1:=fun s=>kp s _ _ _ hgl1 e1
      replace f0:=fun s=>kp s _ _ _ hgl2 f0
      replace f1:=fun s=>kp s _ _ _ hgl2 f1
      have HS:Hid (∀ s,Calls Tryz.prog 82 #[.agg #[.int .i64 x.1,.int .i64 x.2],.agg #[.int .i64 x.1,.int .i64 x.2]] (V s) fun e w'=>e=.returned (.bool true)∧∃ s',w'=V s'):=fun s=>(sameID_c x x (V s)).mono fun e w' zz=>⟨by rw [zz.1];simp,V2.out _ (bstep (V1.out s) zz.2)⟩
      have hiI:(i:Int)<(K:Int):=by omega
      obtain ⟨x1,x2⟩:=x
      simp only at e0 e1 f0 f1 HS
      clear hx r1 r2 kp hlq H1 H2
      go_wp2
      refine wp_region_class (C:=fun w'=>∃ s,w'=V s) (by kernel_rfl) (by kernel_rfl) (V2.out _ (hb.out.drew)) ?_
      repeat (go_big_quiet_step ((go_at_call 82;exact HS.out _)))
      refine wpQuiet_nil ?_
      intro w9 hw9
      obtain ⟨s9,rfl⟩:=hw9
      have B9:Hid (Below W.heap.size W (V s9)):=V1.out s9
      go_wp2
      go_roundw
      case rel=>exact ⟨i+1,by go_num,by omega,B9⟩
      case measure=>simp [intOf];omega
    · have e:i=K:=by omega
      subst e
      go_wp2
      exact bodyPost_ret (results_tmp rfl _ _ _) rfl ⟨rfl,hb.out⟩
def FndF (ps:List Plc) (nm ds:ByteArray) (m:Int×Int):Prop:=∃ x,methI ps m.1 m.2=some x∧x.nm.toList=nm.toList∧x.ds.toList=ds.toList
theorem fnd_facts {ps:List Plc} {c:Int} {nm ds:ByteArray} (h:(fndI ps c nm ds).2=0):FndF ps nm ds (c,(fndI ps c nm ds).1)∧∃ (k:Nat) (q:Plc),c=(k:Int)∧ps[k]?=some q:=by
  rcases plcI_cases ps c with ⟨h1,h2⟩|⟨k,q,rfl,h2,h1⟩
  · rw [fndI,h1] at h;exact absurd h (by show ¬ (3:Int)=0;decide)
  · have e:fndI ps k nm ds=if findH nm ds q.c.ms 0<0 then (0,6) else (findH nm ds q.c.ms 0,0):=by rw [fndI,h1]
    refine ⟨?_,k,q,rfl,h2⟩
    rw [e] at h ⊢
    rcases findH_range nm ds q.c.ms 0 with e2|⟨j,x,e2,hj,hn,hd⟩
    · rw [e2,if_pos (by decide)] at h;exact absurd h (by decide)
    · rw [e2,if_neg (by omega)]
      refine ⟨x,?_,hn,hd⟩
      rw [methI,h1]
      show methP q ((0+j:Nat):Int)=some x
      rw [methP,if_pos (Int.natCast_nonneg _)]
      simpa using hj
structure P9 where
  nm:ByteArray
  ds:ByteArray
  fl:Int
  lo:Int
  st:Int
  sa:Option Addr
  sk:Nat
  so:Nat
  c:Int
  i:Int
def P9.id (x:P9):Int×Int:=(x.c,x.i)
def P9.cells (b:Nat) (x:P9):List Value:=[.string x.nm,.string x.ds,.int .i64 x.fl,.int .i64 x.lo,.int .i64 x.st,.slice x.sa x.sk x.so,.int .i64 x.c,.int .i64 x.i,.pointer (some ⟨b,0,none⟩)]
def P9.agg (b:Nat) (x:P9):Value:=.agg #[.string x.nm,.string x.ds,.int .i64 x.fl,.int .i64 x.lo,.int .i64 x.st,.slice x.sa x.sk x.so,.int .i64 x.c,.int .i64 x.i,.pointer (some ⟨b,0,none⟩)]
def flat9 (b:Nat) (l:List P9):List Value:=l.flatMap (P9.cells b)
theorem P9.cells_len (b:Nat) (x:P9):(x.cells b).length=9:=rfl
theorem flat9_app (b:Nat) (l r:List P9):flat9 b (l++r)=flat9 b l++flat9 b r:=List.flatMap_append
theorem flat9_cons (b:Nat) (x:P9) (r:List P9):flat9 b (x::r)=x.cells b++flat9 b r:=rfl
theorem flat9_length (b:Nat):∀ l:List P9,(flat9 b l).length=l.length * 9
  | []=>rfl
  | x::r=>by rw [flat9_cons,List.length_append,flat9_length b r,P9.cells_len,List.length_cons];omega
theorem flat9_at (b:Nat):∀ (l:List P9) (i:Nat) (x:P9) (j:Nat),l[i]?=some x→j<9→(flat9 b l)[i * 9+j]?=(x.cells b)[j]?
  | [],_,_,_,h,_=>by simp at h
  | y::r,0,x,j,h,hj=>by
    simp only [List.getElem?_cons_zero,Option.some.injEq] at h
    subst h
    rw [flat9_cons,Nat.zero_mul,Nat.zero_add,List.getElem?_append_left (by rw [P9.cells_len];exact hj)]
  | y::r,i+1,x,j,h,hj=>by
    rw [List.getElem?_cons_succ] at h
    rw [flat9_cons,List.getElem?_append_right (by rw [P9.cells_len];omega),P9.cells_len,show (i+1) * 9+j - 9=i * 9+j by omega]
    exact flat9_at b r i x j h hj
theorem flat9_take (b:Nat):∀ (k:Nat) (l:List P9),(flat9 b l).take (k * 9)=flat9 b (l.take k)
  | 0,l=>by simp [flat9]
  | k+1,[]=>by simp [flat9]
  | k+1,x::r=>by
    rw [List.take_succ_cons,flat9_cons,flat9_cons,← flat9_take b k r,List.take_append,P9.cells_len,show (k+1) * 9 - 9=k * 9 by omega,List.take_of_length_le (by rw [P9.cells_len];omega)]
theorem flat9_drop (b:Nat):∀ (k:Nat) (l:List P9),(flat9 b l).drop (k * 9)=flat9 b (l.drop k)
  | 0,l=>by simp
  | k+1,[]=>by simp [flat9]
  | k+1,x::r=>by
    rw [List.drop_succ_cons,flat9_cons,← flat9_drop b k r,List.drop_append,P9.cells_len,show (k+1) * 9 - 9=k * 9 by omega,List.drop_of_length_le (by rw [P9.cells_len];omega),List.nil_append]
theorem flat9_one (b:Nat) (l:List P9):∀ u∈flat9 b l,u.oneCell'=true:=by
  intro u hu
  rw [flat9,List.mem_flatMap] at hu
  obtain ⟨x,_,hx⟩:=hu
  simp only [P9.cells,List.mem_cons,List.not_mem_nil,or_false] at hx
  rcases hx with rfl|rfl|rfl|rfl|rfl|rfl|rfl|rfl|rfl <;> rfl
def OkP (ps:List Plc) (x:P9):Prop:=∃ m,methI ps x.c x.i=some m∧x.nm=m.nm∧x.ds=m.ds∧x.fl=m.fl
def eqI (c a:Int×Int):Bool:=(c.1 == a.1)&&(c.2 == a.2)
theorem eqI_iff {c a:Int×Int}:eqI c a=true↔c=a:=by
  obtain ⟨c1,c2⟩:=c;obtain ⟨a1,a2⟩:=a;simp [eqI]
def plI (ps:List Plc) (c a:Int×Int):Bool:=match methI ps c.1 c.2,methI ps a.1 a.2 with
  | some x,some y=>plnB ps x.nm x.ds x.fl c.1 y.nm y.ds y.fl a.1
  | _,_=>false
def stI (ps:List Plc) (c:Int×Int):Bool:=match methI ps c.1 c.2 with
  | some x=>stB x.fl
  | none=>false
theorem OkP.pl {ps:List Plc} {x y:P9} (hx:OkP ps x) (hy:OkP ps y):plnB ps x.nm x.ds x.fl x.c y.nm y.ds y.fl y.c=plI ps x.id y.id:=by
  obtain ⟨m,h1,h2,h3,h4⟩:=hx
  obtain ⟨n,g1,g2,g3,g4⟩:=hy
  simp only [plI,P9.id,h1,g1,h2,h3,h4,g2,g3,g4]
theorem OkP.st {ps:List Plc} {x:P9} (hx:OkP ps x):stB x.fl=stI ps x.id:=by
  obtain ⟨m,h1,_,_,h4⟩:=hx
  simp only [stI,P9.id,h1,h4]
def gth1 (ps:List Plc) (a:Int×Int) (kept:List (Int×Int)) (c:Int×Int):List (Int×Int):=if (eqI c a&&!stI ps c)||kept.any (plI ps c) then kept++[c] else kept
def gthL (ps:List Plc) (a:Int×Int) (l:List (Int×Int)):List (Int×Int):=l.foldl (gth1 ps a) []
theorem gthL_snoc (ps:List Plc) (a:Int×Int) (l:List (Int×Int)) (c:Int×Int):gthL ps a (l++[c])=gth1 ps a (gthL ps a l) c:=by
  rw [gthL,List.foldl_append];rfl
theorem gthL_len (ps:List Plc) (a:Int×Int) (l:List (Int×Int)):(gthL ps a l).length≤l.length:=by
  have:∀ (l k:List (Int×Int)),(l.foldl (gth1 ps a) k).length≤k.length+l.length:=by
    intro l
    induction l with
    | nil=>intro k;simp
    | cons c r ih =>
      intro k
      rw [List.foldl_cons]
      refine Nat.le_trans (ih _) ?_
      rw [gth1]
      split <;> simp <;> omega
  simpa [gthL] using this l []
def nskL (ps:List Plc) (nm ds:ByteArray) (a:Int):List Nat→List (Int×Int)
  | []=>[]
  | c::r=>if (fndI ps (c:Int) nm ds).2=0∧(c:Int)≠a then ((c:Int),(fndI ps (c:Int) nm ds).1)::nskL ps nm ds a r else nskL ps nm ds a r
theorem nskL_app (ps:List Plc) (nm ds:ByteArray) (a:Int):∀ l r:List Nat,nskL ps nm ds a (l++r)=nskL ps nm ds a l++nskL ps nm ds a r
  | [],r=>rfl
  | c::l,r=>by
    rw [List.cons_append,nskL,nskL,nskL_app ps nm ds a l r]
    split <;> rfl
theorem nskL_len (ps:List Plc) (nm ds:ByteArray) (a:Int):∀ l:List Nat,(nskL ps nm ds a l).length≤l.length
  | []=>Nat.le_refl _
  | c::l=>by
    have:=nskL_len ps nm ds a l
    rw [nskL]
    split <;> simp <;> omega
def askL (ps:List Plc) (m:HM) (a:Int×Int) (l:List Nat):List (Int×Int):=a::nskL ps m.nm m.ds a.1 l
def ovrI (ps:List Plc) (c a:Int×Int):Bool×Int:=match methI ps c.1 c.2,methI ps a.1 a.2 with
  | some _,some m=>((gthL ps a (askL ps m a (chL (ps.map nd) c.1.toNat).reverse)).any (eqI c),0)
  | _,_=>(false,3)
theorem row9 {w:World} {n:Nat} {t:TypeId} {a0 a1 a2 a3 a4 a5 a6 a7 a8:Value} (h:w.heap[n]?=some (.cells #[a0,a1,a2,a3,a4,a5,a6,a7,a8] t (0,0))):w.cell? ⟨n,0,none⟩=some a0∧w.cell? ⟨n,1,none⟩=some a1∧w.cell? ⟨n,2,none⟩=some a2∧w.cell? ⟨n,3,none⟩=some a3∧w.cell? ⟨n,4,none⟩=some a4∧w.cell? ⟨n,5,none⟩=some a5∧w.cell? ⟨n,6,none⟩=some a6∧w.cell? ⟨n,7,none⟩=some a7∧w.cell? ⟨n,8,none⟩=some a8∧n<w.heap.size :=
  ⟨(cell_of_row w n 0 _ _ _ h).trans rfl,(cell_of_row w n 1 _ _ _ h).trans rfl,(cell_of_row w n 2 _ _ _ h).trans rfl,(cell_of_row w n 3 _ _ _ h).trans rfl,(cell_of_row w n 4 _ _ _ h).trans rfl,(cell_of_row w n 5 _ _ _ h).trans rfl,(cell_of_row w n 6 _ _ _ h).trans rfl,(cell_of_row w n 7 _ _ _ h).trans rfl,(cell_of_row w n 8 _ _ _ h).trans rfl,(Array.getElem?_eq_some_iff.1 h).1⟩
theorem froz {w:World} {n:Nat} {t:TypeId} {cs:Array Value} (h:w.heap[n]?=some (.cells cs t (0,0))) (k:Nat):w.frozen? ⟨n,k,none⟩=false:=frozen_of_row w n k _ _ h
theorem row9_cells {w:World} {N g n cap b:Nat} {l:List P9} (h:w.ownsRow N 128 9 (.slice (some ⟨g,0,none⟩) n cap) n (flat9 b l)) {i:Nat} {x:P9} (hx:l[i]?=some x):w.cell? ⟨g,i * 9,none⟩=some (.string x.nm)∧w.cell? ⟨g,i * 9+1,none⟩=some (.string x.ds)∧w.cell? ⟨g,i * 9+2,none⟩=some (.int .i64 x.fl)∧w.cell? ⟨g,i * 9+3,none⟩=some (.int .i64 x.lo)∧w.cell? ⟨g,i * 9+4,none⟩=some (.int .i64 x.st)∧w.cell? ⟨g,i * 9+5,none⟩=some (.slice x.sa x.sk x.so)∧w.cell? ⟨g,i * 9+6,none⟩=some (.int .i64 x.c)∧w.cell? ⟨g,i * 9+7,none⟩=some (.int .i64 x.i)∧w.cell? ⟨g,i * 9+8,none⟩=some (.pointer (some ⟨b,0,none⟩))∧g<w.heap.size:=by
  have hl:l.length=n:=by have:=h.1;rw [flat9_length] at this;omega
  have hi:=(List.getElem?_eq_some_iff.1 hx).1
  have c0:w.cell? ⟨g,i * 9,none⟩=some (.string x.nm):=(h.cellAt (i * 9) (by omega)).trans (flat9_at b l i x 0 hx (by omega))
  exact ⟨c0,(h.cellAt (i * 9+1) (by omega)).trans (flat9_at b l i x 1 hx (by omega)),(h.cellAt (i * 9+2) (by omega)).trans (flat9_at b l i x 2 hx (by omega)),(h.cellAt (i * 9+3) (by omega)).trans (flat9_at b l i x 3 hx (by omega)),(h.cellAt (i * 9+4) (by omega)).trans (flat9_at b l i x 4 hx (by omega)),(h.cellAt (i * 9+5) (by omega)).trans (flat9_at b l i x 5 hx (by omega)),(h.cellAt (i * 9+6) (by omega)).trans (flat9_at b l i x 6 hx (by omega)),(h.cellAt (i * 9+7) (by omega)).trans (flat9_at b l i x 7 hx (by omega)),(h.cellAt (i * 9+8) (by omega)).trans (flat9_at b l i x 8 hx (by omega)),World.block_lt_of_cell? w _ c0⟩
theorem row_cut {w:World} {N e s g cap n i:Nat} {xs:List Value} (h:w.ownsRow N e s (.slice (some ⟨g,0,none⟩) n cap) n xs) (hi:i≤n):w.ownsRow N e s (.slice (some ⟨g,0,none⟩) i cap) i (xs.take (i * s)):=by
  have hm:i * s≤n * s:=Nat.mul_le_mul_right _ hi
  refine ⟨by rw [List.length_take,h.1];omega,?_⟩
  rcases h.2 with ⟨e,_⟩|⟨g',cap',cur,e,h1,h2,h3,h4,h5,h6⟩
  · simp at e
  · simp only [Value.slice.injEq,Option.some.injEq,Addr.mk.injEq,and_true,true_and] at e
    obtain ⟨rfl,rfl⟩:=e
    exact .inr ⟨g,cap,cur,rfl,h1,h2,by omega,h4,h5,by rw [← h6,List.take_take,Nat.min_eq_left hm]⟩
def idxG (p:P9→Bool):List P9→Nat→Int
  | [],_=>-1
  | m::r,k=>if p m then (k:Int) else idxG p r (k+1)
theorem idxG_at {p:P9→Bool} {l:List P9} (k:Nat) (x:P9) (h:l[k]?=some x):idxG p (l.drop k) k=if p x then (k:Int) else idxG p (l.drop (k+1)) (k+1):=by
  obtain ⟨h1,h2⟩:=List.getElem?_eq_some_iff.1 h
  rw [List.drop_eq_getElem_cons h1,h2,idxG]
theorem idxG_any (p:P9→Bool):∀ (l:List P9) (k:Nat),(idxG p l k=-1∧l.any p=false)∨∃ j:Nat,idxG p l k=(j:Int)∧l.any p=true
  | [],_=>.inl ⟨rfl,rfl⟩
  | m::r,k=>by
    rw [idxG]
    cases e:p m with
    | true=>exact .inr ⟨k,by simp,by simp [e]⟩
    | false =>
      rcases idxG_any p r (k+1) with ⟨h,h2⟩|⟨j,h,h2⟩
      · exact .inl ⟨by simpa using h,by simp [e,h2]⟩
      · exact .inr ⟨j,by simpa using h,by simp [h2]⟩
set_option maxHeartbeats 4000000 in
theorem idx9_any (g:Nat) (eg:∀ args w,(callFunc g args).run Tryz.prog w=.ok (.enter g args) w) (R:Value) (p:P9→Bool) (N b:Nat) (l:List P9) (v:Value) (W:World) (h:W.ownsRow N 128 9 v l.length (flat9 b l)) (hn:l.length≤1000000) (hp:∀ x∈l,∀ w,Below W.heap.size W w→Calls Tryz.prog g #[R,x.agg b] w fun e w'=>e=.returned (.bool (p x))∧Below w.heap.size w w') :
    Calls Tryz.prog 140 #[v,.func (.func g) #[R] #[]] W fun e w'=>e=.returned (.int .i64 (idxG p l 0))∧Below W.heap.size W w':=by
  obtain ⟨ao,cap,rfl⟩:=ownv h
  obtain ⟨K,hK⟩:∃ K,l.length=K:=⟨_,rfl⟩
  have HA:Hid (W.ownsRow N 128 9 (.slice ao l.length cap) l.length (flat9 b l)):=h
  have HK:Hid (l.length=K):=hK
  have HP:Hid (∀ x∈l,∀ w,Below W.heap.size W w→Calls Tryz.prog g #[R,x.agg b] w fun e w'=>e=.returned (.bool (p x))∧Below w.heap.size w w'):=hp
  rw [hK] at hn ⊢
  clear hK h hp
  go_enter Tryz.func140,Tryz.ntmps140
  go_wp2
  go_loopw [8] (fun iv wr=>∃ i:Nat,iv=.int .i64 i∧i≤K∧Hid (Below W.heap.size W wr)∧Hid (idxG p (l.drop i) i=idxG p l 0)) (fun iv _=>K - (intOf iv).toNat)
  case atStart=>exact ⟨0,rfl,Nat.zero_le _,Below.refl _ _,rfl⟩
  case round =>
    obtain ⟨i,rfl,hi,hb,hs⟩:=hrel
    by_cases hlt:i<K
    · have hlq:i<l.length:=by rw [HK.out];exact hlt
      obtain ⟨x,hx⟩:∃ x,l[i]?=some x:=⟨_,List.getElem?_eq_getElem hlq⟩
      obtain ⟨gm,cm,hform⟩:=Go.Joins.ownsRow_form HA.out (by omega)
      have hrow:=HA.out
      rw [hform] at hrow
      obtain ⟨e0,e1,e2,e3,e4,e5,e6,e7,e8,_⟩:=row9_cells (rowBelow hrow hb.out) hx
      injection hform with hao _ hcap
      subst hao hcap
      have hst:=idxG_at (p:=p) i x hx
      rw [hs.out] at hst
      have HC:Hid (Calls Tryz.prog g #[R,x.agg b] wr fun e w'=>e=.returned (.bool (p x))∧Below wr.heap.size wr w'):=HP.out x (List.mem_of_getElem? hx) wr hb.out
      generalize p x=q at *
      obtain ⟨xn,xd,xf,xl,xs,xa,xk,xo,xc,xi⟩:=x
      simp only [P9.agg] at e0 e1 e2 e3 e4 e5 e6 e7 e8 HC
      clear hs HA hx hrow hlq HP
      cases q with
      | true =>
        have HZ:Hid (idxG p l 0=(i:Int)):=by rw [Hid,hst];rfl
        clear hst
        go_wp2_with (go_at_fn g;refine (HC.out).mono ?_;rintro e w1 ⟨rfl,hb1⟩)
        go_ret
        exact ⟨ret_int HZ.out.symm,Below.step hb.out hb1⟩
      | false =>
        have HZ:Hid (idxG p (l.drop (i+1)) (i+1)=idxG p l 0):=by rw [Hid,hst];rfl
        clear hst
        go_wp2_with (go_at_fn g;refine (HC.out).mono ?_;rintro e w1 ⟨rfl,hb1⟩;have hb2:Hid (Below W.heap.size W w1):=Below.step hb.out hb1;clear hb1)
        go_roundw
        case rel=>exact ⟨i+1,by go_num,by omega,hb2,HZ⟩
        case measure=>simp [intOf];omega
    · have e:i=K:=by omega
      subst e
      have HZ:Hid (idxG p l 0=-1):=by rw [Hid,← hs.out,List.drop_of_length_le (by rw [HK.out];exact Nat.le_refl _)];rfl
      clear hs HA HP
      go_wp2
      go_ret
      exact ⟨ret_int HZ.out.symm,hb.out⟩
theorem con9_any (g:Nat) (eg:∀ args w,(callFunc g args).run Tryz.prog w=.ok (.enter g args) w) (R:Value) (p:P9→Bool) (N b:Nat) (l:List P9) (v:Value) (W:World) (h:W.ownsRow N 128 9 v l.length (flat9 b l)) (hn:l.length≤1000000) (hp:∀ x∈l,∀ w,Below W.heap.size W w→Calls Tryz.prog g #[R,x.agg b] w fun e w'=>e=.returned (.bool (p x))∧Below w.heap.size w w') :
    Calls Tryz.prog 86 #[v,.func (.func g) #[R] #[]] W fun e w'=>e=.returned (.bool (l.any p))∧Below W.heap.size W w':=by
  have HI:Hid (Calls Tryz.prog 140 #[v,.func (.func g) #[R] #[]] W fun e w'=>e=.returned (.int .i64 (idxG p l 0))∧Below W.heap.size W w'):=idx9_any g eg R p N b l v W h hn hp
  rcases idxG_any p l 0 with ⟨e,e2⟩|⟨j,e,e2⟩
  all_goals
    rw [e] at HI
    rw [e2]
    obtain ⟨ao,cap,rfl⟩:=ownv h
    clear h hp e e2
    go_enter Tryz.func86,Tryz.ntmps86
    go_wp2_with (go_at_call 140;refine HI.out.mono ?_;rintro e w1 ⟨rfl,hb⟩;have B1:Hid (Below W.heap.size W w1):=hb;clear hb HI)
    exact bodyPost_ret (results_tmp rfl _ _ _) rfl ⟨rfl,B1.out⟩
set_option maxHeartbeats 2000000 in
theorem rev_any (N g cap:Nat) (l:List Nat) (W:World) (h:W.ownsRow N 3 1 (.slice (some ⟨g,0,none⟩) l.length cap) l.length (l.map numV)) (hn:l.length≤1000000) :
    Calls Tryz.prog 139 #[.slice (some ⟨g,0,none⟩) l.length cap] W fun e w'=>e=.returned (.tuple #[])∧w'.ownsRow N 3 1 (.slice (some ⟨g,0,none⟩) l.length cap) l.length (l.reverse.map numV)∧Below N W w':=by
  have hgN:N≤g:=(h.lt g rfl).1
  obtain ⟨K,hK⟩:∃ K,l.length=K:=⟨_,rfl⟩
  have HK:Hid (l.length=K):=hK
  rw [hK] at hn h ⊢
  have HA:Hid (W.ownsRow N 3 1 (.slice (some ⟨g,0,none⟩) K cap) K (l.map numV)):=h
  clear hK h
  go_enter Tryz.func139,Tryz.ntmps139
  go_wp2
  go_loopw [2,3] (fun iv jv wr=>∃ (i:Nat) (jz:Int) (R:List Nat),iv=.int .i64 i∧jv=.int .i64 jz∧Hid (jz=(K:Int) - 1 - (i:Int))∧i≤K∧Hid (RevR l R i)∧Hid (wr.ownsRow N 3 1 (.slice (some ⟨g,0,none⟩) K cap) K (R.map numV))∧Hid (Below N W wr)) (fun iv _ _=>K - (intOf iv).toNat)
  case atStart=>exact ⟨0,_,l,rfl,rfl,(by simp [Hid]),Nat.zero_le _,RevR.start l,HA,Below.refl _ _⟩
  case round =>
    obtain ⟨i,jz,R,rfl,rfl,hjz,hiK,hR,hO,hB⟩:=hrel
    by_cases hlt:(i:Int)<jz
    · obtain ⟨j,rfl⟩:∃ j:Nat,jz=(j:Int):=⟨jz.toNat,by omega⟩
      have hsum:Hid (i+j+1=K):=by have:=hjz.out;rw [Hid];omega
      have hij:Hid (i<j):=by rw [Hid];omega
      have hRl:R.length=K:=hR.out.1.trans HK.out
      have hjK:j<K:=by have:=hsum.out;omega
      have hiK2:i<K:=by have:=hsum.out;omega
      obtain ⟨x,hx⟩:∃ x,R[i]?=some x:=⟨_,List.getElem?_eq_getElem (by omega)⟩
      obtain ⟨y,hy⟩:∃ y,R[j]?=some y:=⟨_,List.getElem?_eq_getElem (by omega)⟩
      have ci:wr.cell? ⟨g,i,none⟩=some (.int .i64 (x:Int)):=by
        rw [hO.out.cellAt i (by omega),List.getElem?_map,hx];rfl
      have cj:wr.cell? ⟨g,j,none⟩=some (.int .i64 (y:Int)):=by
        rw [hO.out.cellAt j (by omega),List.getElem?_map,hy];rfl
      obtain ⟨cur,hcur⟩:=row_cur hO.out
      have fi:=froz hcur i
      have fj:=froz hcur j
      have HX:Hid (R[i]?=some x):=hx
      have HY:Hid (R[j]?=some y):=hy
      clear hx hy hcur hRl hjz
      have hne:¬ (i=j):=by have:=hij.out;omega
      have hne2:¬ (j=i):=by have:=hij.out;omega
      go_wp2_with fail
      go_region
      all_goals go_wp2
      all_goals go_roundw
      case rel =>
        refine ⟨i+1,(j:Int) - 1,(R.set i y).set j x,(by go_num),(by first|rfl|simp),(by rw [Hid];have:=hsum.out;omega),(by omega),hR.out.swap hij.out (by rw [HK.out];exact hsum.out) HX.out HY.out,?_,?_⟩
        · rw [Hid,List.map_set,List.map_set]
          obtain ⟨s0,_⟩:=(hO.out.drew).stored i (numV y)
          exact (s0.stored j (numV x)).1
        · exact ((hB.out.drew).setCell hgN _).setCell hgN _
      case measure=>simp [intOf];omega
    · have hd:R=l.reverse:=hR.out.done (by have:=hjz.out;rw [HK.out];omega)
      subst hd
      clear hjz hR
      go_wp2
      go_end0
      exact ⟨rfl,(by rw [← List.map_reverse];exact hO.out),hB.out⟩
set_option maxHeartbeats 1000000 in
theorem down_c {b:Nat} {ps:List Plc} {W:World} (h:WAt b ps W) (hi:WI ps) (k:Nat) (q:Plc) (hq:ps[k]?=some q):Calls Tryz.prog 85 #[.pointer (some ⟨b,0,none⟩),.int .i64 (k:Int)] W fun e w'=>∃ g cap,e=.returned (.tuple #[.slice (some ⟨g,0,none⟩) (chL (ps.map nd) k).length cap,.int .i64 0])∧w'.ownsRow W.heap.size 3 1 (.slice (some ⟨g,0,none⟩) (chL (ps.map nd) k).length cap) (chL (ps.map nd) k).length ((chL (ps.map nd) k).reverse.map numV)∧Below W.heap.size W w':=by
  have hKb:=chL_len hi (List.getElem?_eq_some_iff.1 hq).1
  have hK0:0<(chL (ps.map nd) k).length:=by rw [chL];cases k <;> simp [upF]
  have HC:Hid (∀ w,Below W.heap.size W w→Calls Tryz.prog 14 #[.pointer (some ⟨b,0,none⟩),.int .i64 (k:Int)] w fun e w'=>∃ v,e=.returned (.tuple #[v,.int .i64 0])∧w'.ownsRow w.heap.size 3 1 v (chL (ps.map nd) k).length ((chL (ps.map nd) k).map numV)∧Below w.heap.size w w'):=fun w hb=>by
    obtain ⟨N,mb,vp,pv,h⟩:=h.below hb
    exact chain_yes N b mb ps vp pv k (List.getElem?_eq_some_iff.1 hq).1 hi.wo hi.hi w h
  generalize chL (ps.map nd) k=l at *
  have HRV:Hid (∀ (g cap:Nat) (w:World),w.ownsRow W.heap.size 3 1 (.slice (some ⟨g,0,none⟩) l.length cap) l.length (l.map numV)→Calls Tryz.prog 139 #[.slice (some ⟨g,0,none⟩) l.length cap] w fun e w'=>e=.returned (.tuple #[])∧w'.ownsRow W.heap.size 3 1 (.slice (some ⟨g,0,none⟩) l.length cap) l.length (l.reverse.map numV)∧Below W.heap.size w w'):=fun g cap w ho=>rev_any W.heap.size g cap l w ho hKb
  obtain ⟨K,hK⟩:∃ K,l.length=K:=⟨_,rfl⟩
  rw [hK] at hKb hK0 HC HRV ⊢
  clear h hi hq hK
  go_enter Tryz.func85,Tryz.ntmps85
  go_wp2_with (first
    | (go_at_call 14;refine (HC.out _ (Below.refl _ _)).mono ?_;rintro e w1 ⟨v,rfl,ho,hb⟩;obtain ⟨g,cap,rfl⟩:=Go.Joins.ownsRow_form ho hK0;have O1:Hid (w1.ownsRow W.heap.size 3 1 (.slice (some ⟨g,0,none⟩) K cap) K (l.map numV)):=ho;have B1:Hid (Below W.heap.size W w1):=hb;clear ho hb HC)
    | (go_at_call 139;refine (HRV.out _ _ _ O1.out).mono ?_;rintro e w2 ⟨rfl,ho,hb⟩;have O2:Hid (w2.ownsRow W.heap.size 3 1 (.slice (some ⟨g,0,none⟩) K cap) K (l.reverse.map numV)):=ho;have B2:Hid (Below W.heap.size W w2):=B1.out.trans hb;clear ho hb HRV))
  exact bodyPost_ret (v:=.tuple #[.slice (some ⟨g,0,none⟩) K cap,.int .i64 0]) (by simp [results,Tryz.results85,go_sem, *]) rfl ⟨g,cap,rfl,O2.out,B2.out⟩
def ifcC (cs:List Cls) (i:Int):Bool:=match clsI cs i with
  | some c=>hasI c.fl 512
  | none=>false
theorem rIsIface_c {b:Nat} {cs:List Cls} {W:World} (h:RAt b cs W) (i:Int):Calls Tryz.prog 72 #[.pointer (some ⟨b,0,none⟩),.int .i64 i] W fun e w'=>e=.returned (.bool (ifcC cs i))∧w'=W:=by
  have HI:Hid (∀ y,(clsI cs i).isSome=y→Calls Tryz.prog 75 #[.pointer (some ⟨b,0,none⟩),.int .i64 i] W fun e w'=>e=.returned (.bool y)∧w'=W):=fun y hy=>by rw [← hy];exact rIn_c h i
  rcases clsI_cases cs i with ⟨h1,h2⟩|⟨k,c,rfl,h2,h1⟩
  · have e:ifcC cs i=false:=by rw [ifcC,h1]
    rw [e]
    have HI:Hid (Calls Tryz.prog 75 #[.pointer (some ⟨b,0,none⟩),.int .i64 i] W fun e w'=>e=.returned (.bool false)∧w'=W):=HI.out false (by rw [h1];rfl)
    clear h h1 h2 e
    go_enter Tryz.func72,Tryz.ntmps72
    go_wp2_with (go_at_call 75;refine HI.out.mono ?_;rintro e w9 ⟨rfl,hw9⟩;rw [hw9];clear hw9 w9)
    exact bodyPost_ret (results_tmp rfl _ _ _) rfl ⟨rfl,rfl⟩
  · have e:ifcC cs k=hasI c.fl 512:=by rw [ifcC,h1]
    rw [e]
    have HI:Hid (Calls Tryz.prog 75 #[.pointer (some ⟨b,0,none⟩),.int .i64 (k:Int)] W fun e w'=>e=.returned (.bool true)∧w'=W):=HI.out true (by rw [h1];rfl)
    obtain ⟨g,cap,vi,vm,b0,_,_,c0,c1,c2,c3,c4,c5,_⟩:=h.cells h2
    have hkI:(k:Int)<(cs.length:Int):=by have:=(List.getElem?_eq_some_iff.1 h2).1;omega
    have HF:Hid (∀ w:World,Calls Tryz.prog 73 #[.int .i64 c.fl,.int .i64 512] w fun e w'=>e=.returned (.bool (hasI c.fl 512))∧w'=w):=has_any c.fl 512
    generalize hasI c.fl 512=R at *
    clear h h1 h2 e
    go_enter Tryz.func72,Tryz.ntmps72
    go_wp2_with (first
      | (go_at_call 75;refine HI.out.mono ?_;rintro e w9 ⟨rfl,hw9⟩;rw [hw9];clear hw9 w9)
      | (go_at_call 73;refine (HF.out _).mono ?_;rintro e w9 ⟨rfl,hw9⟩;rw [hw9];clear hw9 w9))
    exact bodyPost_ret (results_tmp rfl _ _ _) rfl ⟨rfl,rfl⟩
def togB (p q:Cls):Bool:=(p.ld == q.ld)&&(pkgL p.nm.data.toList == pkgL q.nm.data.toList)
set_option maxHeartbeats 1000000 in
theorem rTog_c (p q:Cls) (vi vm vi' vm':Value) (hp:p.nm.size≤maxLen) (hq:q.nm.size≤maxLen) (W:World):Calls Tryz.prog 126 #[.agg #[.string p.nm,.string p.su,vi,.int .i64 p.fl,.int .i64 p.ld,vm],.agg #[.string q.nm,.string q.su,vi',.int .i64 q.fl,.int .i64 q.ld,vm']] W fun e w'=>e=.returned (.bool (togB p q))∧Below W.heap.size W w':=by
  have HP:Hid (∀ u w,u=p.nm→Calls Tryz.prog 170 #[.string u] w fun e w'=>e=.returned (.string (pkB p.nm))∧w'=w):=fun u w hu=>by rw [hu];exact rPackage_any p.nm hp w
  have HQ:Hid (∀ u w,u=q.nm→Calls Tryz.prog 170 #[.string u] w fun e w'=>e=.returned (.string (pkB q.nm))∧w'=w):=fun u w hu=>by rw [hu];exact rPackage_any q.nm hq w
  have HR:Hid (togB p q=((p.ld == q.ld)&&((pkB p.nm).toList == (pkB q.nm).toList))):=by
    rw [Hid,togB,Lib.toList_data,Lib.toList_data];rfl
  generalize togB p q=R at *
  generalize pkB p.nm=s1 at *
  generalize pkB q.nm=s2 at *
  clear hp hq
  by_cases hld:p.ld=q.ld
  · have hld2:(p.ld == q.ld)=true:=by rw [hld];simp
    cases hz:(s1.toList == s2.toList)
    all_goals
      rw [hld2,hz] at HR
      go_enter Tryz.func126,Tryz.ntmps126
      go_wp2
      go_quiet (first|(go_at_call 170;refine Calls.quiet_of_same (HP.out _ _ rfl))|(go_at_call 170;refine Calls.quiet_of_same (HQ.out _ _ rfl)))
      go_wp2
      exact bodyPost_ret (results_tmp rfl _ _ _) rfl ⟨by rw [HR.out];rfl,below_drewN (by repeat (first|exact Below.refl _ _|refine Below.setCell ?_ (by simp;try omega) _|refine Below.alloc ?_ (by simp;try omega) _|refine Below.drew ?_)) _⟩
  · have hld2:(p.ld == q.ld)=false:=by simpa using hld
    rw [hld2] at HR
    go_enter Tryz.func126,Tryz.ntmps126
    go_wp2
    go_quiet (first|(go_at_call 170;refine Calls.quiet_of_same (HP.out _ _ rfl)))
    go_wp2
    exact bodyPost_ret (results_tmp rfl _ _ _) rfl ⟨by rw [HR.out];rfl,below_drewN (by repeat (first|exact Below.refl _ _|refine Below.setCell ?_ (by simp;try omega) _|refine Below.alloc ?_ (by simp;try omega) _|refine Below.drew ?_)) _⟩
def spC (cs:List Cls) (a b:Int):Bool:=match clsI cs a,clsI cs b with
  | some p,some q=>togB p q
  | _,_=>false
theorem strs_slice {w:World} {v:Value} {l:List (List UInt8)} (h:IsStrs w v l):∃ a c,v=.slice a l.length c:=by
  obtain ⟨a,c,e,_⟩:=h
  exact ⟨a,c,e⟩
theorem mths_slice {w:World} {v:Value} {l:List Mth} (h:IsMths w v l):∃ a c,v=.slice a l.length c:=by
  obtain ⟨a,c,e,_⟩:=h
  exact ⟨a,c,e⟩
set_option maxHeartbeats 1000000 in
theorem rSame_c {b:Nat} {cs:List Cls} {W:World} (h:RAt b cs W) (hz:∀ c∈cs,c.nm.size≤maxLen) (x y:Int):Calls Tryz.prog 173 #[.pointer (some ⟨b,0,none⟩),.int .i64 x,.int .i64 y] W fun e w'=>e=.returned (.bool (spC cs x y))∧Below W.heap.size W w':=by
  obtain ⟨σ,V,hne,V1,V2⟩:=class_of' (fun w'=>Below W.heap.size W w') ⟨_,Below.refl _ _⟩
  have HI:Hid (∀ i z y s,i=z→(clsI cs z).isSome=y→Calls Tryz.prog 75 #[.pointer (some ⟨b,0,none⟩),.int .i64 i] (V s) fun e w''=>e=.returned (.bool y)∧∃ s',w''=V s'):=fun i z y s hi hy=>by
    rw [hi,← hy];exact (rIn_c (h.below (V1.out s)) z).mono fun e w'' zz=>⟨zz.1,s,zz.2⟩
  rcases clsI_cases cs x with ⟨h1,_⟩|⟨k,p,rfl,h2,h1⟩
  · have e:spC cs x y=false:=by rw [spC,h1]
    rw [e]
    have HX:Hid (∀ i s,i=x→Calls Tryz.prog 75 #[.pointer (some ⟨b,0,none⟩),.int .i64 i] (V s) fun e w''=>e=.returned (.bool false)∧∃ s',w''=V s'):=fun i s hi=>HI.out i x _ s hi (by rw [h1];rfl)
    clear h h1 e HI
    go_enter Tryz.func173,Tryz.ntmps173
    go_wp2
    refine wp_region_class (C:=fun w'=>∃ s,w'=V s) (by kernel_rfl) (by kernel_rfl) (V2.out _ ((Below.refl _ _).drew)) ?_
    repeat (go_big_quiet_step ((go_at_call 75;exact HX.out _ _ rfl)))
    refine wpQuiet_nil ?_
    intro w9 hw9
    obtain ⟨s9,rfl⟩:=hw9
    go_wp2
    exact bodyPost_ret (results_tmp rfl _ _ _) rfl ⟨rfl,V1.out s9⟩
  · have HX:Hid (∀ i s,i=(k:Int)→Calls Tryz.prog 75 #[.pointer (some ⟨b,0,none⟩),.int .i64 i] (V s) fun e w''=>e=.returned (.bool true)∧∃ s',w''=V s'):=fun i s hi=>HI.out i k _ s hi (by rw [h1];rfl)
    rcases clsI_cases cs y with ⟨g1,_⟩|⟨j,q,rfl,g2,g1⟩
    · have e:spC cs k y=false:=by rw [spC,h1,g1]
      rw [e]
      have HY:Hid (∀ i s,i=y→Calls Tryz.prog 75 #[.pointer (some ⟨b,0,none⟩),.int .i64 i] (V s) fun e w''=>e=.returned (.bool false)∧∃ s',w''=V s'):=fun i s hi=>HI.out i y _ s hi (by rw [g1];rfl)
      clear h h1 g1 e HI h2
      go_enter Tryz.func173,Tryz.ntmps173
      go_wp2
      refine wp_region_class (C:=fun w'=>∃ s,w'=V s) (by kernel_rfl) (by kernel_rfl) (V2.out _ ((Below.refl _ _).drew)) ?_
      repeat (go_big_quiet_step (first|(go_at_call 75;exact HX.out _ _ rfl)|(go_at_call 75;exact HY.out _ _ rfl)))
      refine wpQuiet_nil ?_
      intro w9 hw9
      obtain ⟨s9,rfl⟩:=hw9
      go_wp2
      exact bodyPost_ret (results_tmp rfl _ _ _) rfl ⟨rfl,V1.out s9⟩
    · have e:spC cs k j=togB p q:=by rw [spC,h1,g1]
      rw [e]
      have HY:Hid (∀ i s,i=(j:Int)→Calls Tryz.prog 75 #[.pointer (some ⟨b,0,none⟩),.int .i64 i] (V s) fun e w''=>e=.returned (.bool true)∧∃ s',w''=V s'):=fun i s hi=>HI.out i j _ s hi (by rw [g1];rfl)
      have HT:Hid (∀ vi vm vi' vm' s,Calls Tryz.prog 126 #[.agg #[.string p.nm,.string p.su,vi,.int .i64 p.fl,.int .i64 p.ld,vm],.agg #[.string q.nm,.string q.su,vi',.int .i64 q.fl,.int .i64 q.ld,vm']] (V s) fun e w''=>e=.returned (.bool (togB p q))∧∃ s',w''=V s'):=fun vi vm vi' vm' s=>(rTog_c p q vi vm vi' vm' (hz p (List.mem_of_getElem? h2)) (hz q (List.mem_of_getElem? g2)) (V s)).mono fun e w'' zz=>⟨zz.1,V2.out _ (bstep (V1.out s) zz.2)⟩
      obtain ⟨g,cap,vi,vm,b0,hlt,hgl,c0,c1,c2,c3,c4,c5,hi1,hi2⟩:=h.cells h2
      obtain ⟨g',cap',vi',vm',b0',_,_,d0,d1,d2,d3,d4,d5,hi3,hi4⟩:=h.cells g2
      rw [b0] at b0'
      simp only [Option.some.injEq,Value.slice.injEq,Addr.mk.injEq,and_true,true_and] at b0'
      obtain ⟨rfl,rfl⟩:=b0'
      obtain ⟨x1,x2,rfl⟩:=strs_slice hi1
      obtain ⟨x3,x4,rfl⟩:=mths_slice hi2
      obtain ⟨x5,x6,rfl⟩:=strs_slice hi3
      obtain ⟨x7,x8,rfl⟩:=mths_slice hi4
      have kp:∀ (s:σ) (bb j:Nat) (v:Value),bb<W.heap.size→W.cell? ⟨bb,j,none⟩=some v→(V s).cell? ⟨bb,j,none⟩=some v:=fun s bb j v hl h=>((V1.out s).cell (p:=⟨bb,j,none⟩) hl).trans h
      replace b0:=fun s=>kp s _ _ _ hlt b0
      replace c0:=fun s=>kp s _ _ _ hgl c0
      replace c1:=fun s=>kp s _ _ _ hgl c1
      replace c2:=fun s=>kp s _ _ _ hgl c2
      replace c3:=fun s=>kp s _ _ _ hgl c3
      replace c4:=fun s=>kp s _ _ _ hgl c4
      replace c5:=fun s=>kp s _ _ _ hgl c5
      replace d0:=fun s=>kp s _ _ _ hgl d0
      replace d1:=fun s=>kp s _ _ _ hgl d1
      replace d2:=fun s=>kp s _ _ _ hgl d2
      replace d3:=fun s=>kp s _ _ _ hgl d3
      replace d4:=fun s=>kp s _ _ _ hgl d4
      replace d5:=fun s=>kp s _ _ _ hgl d5
      have hxI:(k:Int)<(cs.length:Int):=by have:=(List.getElem?_eq_some_iff.1 h2).1;omega
      have hyI:(j:Int)<(cs.length:Int):=by have:=(List.getElem?_eq_some_iff.1 g2).1;omega
      generalize togB p q=R at *
      clear h h1 h2 g1 g2 e kp hlt hgl HI hi1 hi2 hi3 hi4 hz
      go_enter Tryz.func173,Tryz.ntmps173
      go_wp2
      refine wp_region_class (C:=fun w'=>∃ s,w'=V s) (by kernel_rfl) (by kernel_rfl) (V2.out _ ((Below.refl _ _).drew)) ?_
      repeat (go_big_quiet_step (first|(go_at_call 75;exact HX.out _ _ rfl)|(go_at_call 75;exact HY.out _ _ rfl)|(go_at_call 126;exact HT.out _ _ _ _ _)))
      refine wpQuiet_nil ?_
      intro w9 hw9
      obtain ⟨s9,rfl⟩:=hw9
      go_wp2
      exact bodyPost_ret (results_tmp rfl _ _ _) rfl ⟨rfl,V1.out s9⟩
set_option maxHeartbeats 1000000 in
theorem rOpen_c (c p:Cls) (vi vm vi' vm':Value) (hc:c.nm.size≤maxLen) (hp:p.nm.size≤maxLen) (W:World):Calls Tryz.prog 74 #[.agg #[.string c.nm,.string c.su,vi,.int .i64 c.fl,.int .i64 c.ld,vm],.agg #[.string p.nm,.string p.su,vi',.int .i64 p.fl,.int .i64 p.ld,vm']] W fun e w'=>e=.returned (.bool (hasI p.fl 1||togB c p))∧Below W.heap.size W w':=by
  have HT:Hid (∀ w,Calls Tryz.prog 126 #[.agg #[.string c.nm,.string c.su,vi,.int .i64 c.fl,.int .i64 c.ld,vm],.agg #[.string p.nm,.string p.su,vi',.int .i64 p.fl,.int .i64 p.ld,vm']] w fun e w'=>e=.returned (.bool (togB c p))∧Below w.heap.size w w'):=fun w=>rTog_c c p vi vm vi' vm' hc hp w
  have HF:Hid (∀ w:World,Calls Tryz.prog 73 #[.int .i64 p.fl,.int .i64 1] w fun e w'=>e=.returned (.bool (hasI p.fl 1))∧w'=w):=has_any p.fl 1
  generalize hasI p.fl 1=b1 at *
  generalize togB c p=b2 at *
  clear hc hp
  cases b1
  all_goals
    go_enter Tryz.func74,Tryz.ntmps74
    go_wp2_with (first
      | (go_at_call 73;refine (HF.out _).mono ?_;rintro e w9 ⟨rfl,hw9⟩;rw [hw9];clear hw9 w9)
      | (go_at_call 126;refine (HT.out _).mono ?_;rintro e w1 ⟨rfl,hb⟩;have B1:Hid (Below W.heap.size W w1):=bstep (by repeat (first|exact Below.refl _ _|refine Below.setCell ?_ (by simp;try omega) _|refine Below.alloc ?_ (by simp;try omega) _|refine Below.drew ?_)) hb;clear hb HT))
    first
      | exact bodyPost_ret (results_tmp rfl _ _ _) rfl ⟨rfl,B1.out⟩
      | exact bodyPost_ret (results_tmp rfl _ _ _) rfl ⟨rfl,(by repeat (first|exact Below.refl _ _|refine Below.setCell ?_ (by simp;try omega) _|refine Below.alloc ?_ (by simp;try omega) _|refine Below.drew ?_))⟩
end Go.Proofs.YtfjekhmnjfcbeaaGreat
