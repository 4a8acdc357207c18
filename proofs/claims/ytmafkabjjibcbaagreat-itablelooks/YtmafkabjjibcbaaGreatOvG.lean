import Derived.Test.YtmafkabjjibcbaaGreatChB
set_option maxHeartbeats 8000000
set_option maxRecDepth 100000
namespace Go.Proofs.YtmafkabjjibcbaaGreat
open Go.RowKit Go.Maps
def rdV (b:Nat) (c i:Int):Option HM→Ending→Prop
 | none,e=>e=.returned (.tuple #[.agg #[.string ⟨#[]⟩,.string ⟨#[]⟩,.int .i64 0,.int .i64 0,.int .i64 0,.slice none 0 0,.int .i64 0,.int .i64 0,.pointer none],.int .i64 3])
 | some m,e=>∃ a k o,e=.returned (.tuple #[.agg #[.string m.nm,.string m.ds,.int .i64 m.fl,.int .i64 m.lo,.int .i64 m.st,.slice a k o,.int .i64 c,.int .i64 i,.pointer (some ⟨b,0,none⟩)],.int .i64 0])
theorem read_no {b:Nat} {ps:List Plc} {W:World} (h:WAt b ps W) (hi:WI ps) (c i:Int) (hm:Zm ps c i=none):Calls Tryz.prog 118 #[.pointer (some ⟨b,0,none⟩),.agg #[.int .i64 c,.int .i64 i]] W fun e w'=>rdV b c i none e∧Bw W w':=by
 have HM:Hid (∀ w,Bw W w→Calls Tryz.prog 46 #[.pointer (some ⟨b,0,none⟩),.agg #[.int .i64 c,.int .i64 i]] w fun e w'=>e=.returned noM∧Bw w w'):=fun w hb=>by
  have:=Jz (h.below hb) hi.pb c i
  rw [hm] at this
  exact this
 simp only [noM] at HM
 clear h hi hm
 have BB:Hid (Bw W W):=Below.refl _ _
 go_enter Tryz.func118,Tryz.ntmps118
 go_upto_region 5 with (first
  | (go_at_call 46;refine (HM.out _ sqR).mono ?_;rintro e w1 ⟨rfl,hb⟩;have rd:w1.heap[W.heap.size+1]?=some (.cells #[.string ⟨#[]⟩,.string ⟨#[]⟩,.int .i64 0,.int .i64 0,.int .i64 0,.slice none 0 0,.int .i64 0,.int .i64 0,.pointer none] 171 (0,0)):=(hb.block (W.heap.size+1) (by first|omega|(simp;try omega))).trans (by first|exact rB.out|exact Zg rB.out|exact Zg (Zg rB.out)|exact Za _ _ rfl|exact heap_alloc2_old _ _ _|exact heap_alloc2_new _ _ _|exact Zg (Za _ _ rfl)|exact Zg (Zg (Za _ _ rfl))|exact Za _ _ (by simp;done));(try clear rB rL rN r0 r1 r2 r3 r4 r5 r6 r7 r8 rf0 rf1 rf2 rf3 rf4 rf5 rf6 rf7 rf8);have rB:Hid (w1.heap[W.heap.size+1]?=some (.cells #[.string ⟨#[]⟩,.string ⟨#[]⟩,.int .i64 0,.int .i64 0,.int .i64 0,.slice none 0 0,.int .i64 0,.int .i64 0,.pointer none] 171 (0,0))):=rd;have r0:w1.cell? ⟨W.heap.size+1,0,none⟩=some (.string ⟨#[]⟩):=(cell_of_row w1 (W.heap.size+1) 0 _ _ _ rd).trans rfl;have rf0:=frozen_of_row w1 (W.heap.size+1) 0 _ _ rd;have r1:w1.cell? ⟨W.heap.size+1,1,none⟩=some (.string ⟨#[]⟩):=(cell_of_row w1 (W.heap.size+1) 1 _ _ _ rd).trans rfl;have rf1:=frozen_of_row w1 (W.heap.size+1) 1 _ _ rd;have r2:w1.cell? ⟨W.heap.size+1,2,none⟩=some (.int .i64 0):=(cell_of_row w1 (W.heap.size+1) 2 _ _ _ rd).trans rfl;have rf2:=frozen_of_row w1 (W.heap.size+1) 2 _ _ rd;have r3:w1.cell? ⟨W.heap.size+1,3,none⟩=some (.int .i64 0):=(cell_of_row w1 (W.heap.size+1) 3 _ _ _ rd).trans rfl;have rf3:=frozen_of_row w1 (W.heap.size+1) 3 _ _ rd;have r4:w1.cell? ⟨W.heap.size+1,4,none⟩=some (.int .i64 0):=(cell_of_row w1 (W.heap.size+1) 4 _ _ _ rd).trans rfl;have rf4:=frozen_of_row w1 (W.heap.size+1) 4 _ _ rd;have r5:w1.cell? ⟨W.heap.size+1,5,none⟩=some (.slice none 0 0):=(cell_of_row w1 (W.heap.size+1) 5 _ _ _ rd).trans rfl;have rf5:=frozen_of_row w1 (W.heap.size+1) 5 _ _ rd;have r6:w1.cell? ⟨W.heap.size+1,6,none⟩=some (.int .i64 0):=(cell_of_row w1 (W.heap.size+1) 6 _ _ _ rd).trans rfl;have rf6:=frozen_of_row w1 (W.heap.size+1) 6 _ _ rd;have r7:w1.cell? ⟨W.heap.size+1,7,none⟩=some (.int .i64 0):=(cell_of_row w1 (W.heap.size+1) 7 _ _ _ rd).trans rfl;have rf7:=frozen_of_row w1 (W.heap.size+1) 7 _ _ rd;have r8:w1.cell? ⟨W.heap.size+1,8,none⟩=some (.pointer none):=(cell_of_row w1 (W.heap.size+1) 8 _ _ _ rd).trans rfl;have rf8:=frozen_of_row w1 (W.heap.size+1) 8 _ _ rd;have rL:W.heap.size+1<w1.heap.size:=(Array.getElem?_eq_some_iff.1 rd).1;have rN:¬ W.heap.size+1=w1.heap.size:=(by omega);clear rd;have BB2:Bw W w1:=Zb sqR hb;clear BB;have BB:Hid (Bw W w1):=BB2;clear BB2 hb;clear HM))
 obtain ⟨Wm,hWm⟩:∃ x,x=w1.alloc (.cells #[.string ⟨#[]⟩,.string ⟨#[]⟩,.int .i64 0,.int .i64 0,.int .i64 0,.slice none 0 0] 87):=⟨_,rfl⟩
 have BM:Hid (Bw W Wm):=by rw [hWm];exact BB.out.alloc BB.out.size _
 have hd0:Wm.heap[W.heap.size+1]?=some (.cells #[.string ⟨#[]⟩,.string ⟨#[]⟩,.int .i64 0,.int .i64 0,.int .i64 0,.slice none 0 0,.int .i64 0,.int .i64 0,.pointer none] 171 (0,0)):=by rw [hWm];exact Zg rB.out
 have p0:=cell_of_row Wm (W.heap.size+1) 0 _ _ _ hd0
 have pf0:=frozen_of_row Wm (W.heap.size+1) 0 _ _ hd0
 have p1:=cell_of_row Wm (W.heap.size+1) 1 _ _ _ hd0
 have pf1:=frozen_of_row Wm (W.heap.size+1) 1 _ _ hd0
 have p2:=cell_of_row Wm (W.heap.size+1) 2 _ _ _ hd0
 have pf2:=frozen_of_row Wm (W.heap.size+1) 2 _ _ hd0
 have p3:=cell_of_row Wm (W.heap.size+1) 3 _ _ _ hd0
 have pf3:=frozen_of_row Wm (W.heap.size+1) 3 _ _ hd0
 have p4:=cell_of_row Wm (W.heap.size+1) 4 _ _ _ hd0
 have pf4:=frozen_of_row Wm (W.heap.size+1) 4 _ _ hd0
 have p5:=cell_of_row Wm (W.heap.size+1) 5 _ _ _ hd0
 have pf5:=frozen_of_row Wm (W.heap.size+1) 5 _ _ hd0
 have p6:=cell_of_row Wm (W.heap.size+1) 6 _ _ _ hd0
 have pf6:=frozen_of_row Wm (W.heap.size+1) 6 _ _ hd0
 have p7:=cell_of_row Wm (W.heap.size+1) 7 _ _ _ hd0
 have pf7:=frozen_of_row Wm (W.heap.size+1) 7 _ _ hd0
 have p8:=cell_of_row Wm (W.heap.size+1) 8 _ _ _ hd0
 have pf8:=frozen_of_row Wm (W.heap.size+1) 8 _ _ hd0
 rw [← hWm]
 simp at p0 p1 p2 p3 p4 p5 p6 p7 p8
 clear hWm hd0  BB rB r0 r1 r2 r3 r4 r5 r6 r7 r8 rf0 rf1 rf2 rf3 rf4 rf5 rf6 rf7 rf8 rL rN
 go_wp2
 exact bodyPost_ret (v:=.tuple #[.agg #[.string ⟨#[]⟩,.string ⟨#[]⟩,.int .i64 0,.int .i64 0,.int .i64 0,.slice none 0 0,.int .i64 0,.int .i64 0,.pointer none],.int .i64 3]) (by simp [results,Tryz.results118,go_sem, *]) rfl ⟨rfl,(sqE BM)⟩
theorem read_yes {b:Nat} {ps:List Plc} {W:World} (h:WAt b ps W) (hi:WI ps) (c i:Int) (m:HM) (hm:Zm ps c i=some m):Calls Tryz.prog 118 #[.pointer (some ⟨b,0,none⟩),.agg #[.int .i64 c,.int .i64 i]] W fun e w'=>rdV b c i (some m) e∧Bw W w':=by
 have HM:Hid (∀ w,Bw W w→Calls Tryz.prog 46 #[.pointer (some ⟨b,0,none⟩),.agg #[.int .i64 c,.int .i64 i]] w fun e w'=>(∃ xa xk xo,e=.returned (.tuple #[.agg #[.string m.nm,.string m.ds,.int .i64 m.fl,.int .i64 m.lo,.int .i64 m.st,.slice xa xk xo],.int .i64 0]))∧Bw w w'):=fun w hb=>by
  have:=Jz (h.below hb) hi.pb c i
  rw [hm] at this
  refine this.mono fun e w' zz=>⟨?_,zz.2⟩
  obtain ⟨vv,rfl,hown⟩:=zz.1
  obtain ⟨a1,c1,rfl⟩:=ownv hown
  exact ⟨a1,_,c1,rfl⟩
 clear h hi hm
 have BB:Hid (Bw W W):=Below.refl _ _
 go_enter Tryz.func118,Tryz.ntmps118
 go_upto_region 6 with (first
  | (go_at_call 46;refine (HM.out _ sqR).mono ?_;rintro e w1 ⟨⟨xa,xk,xo,rfl⟩,hb⟩;have ud:w1.heap[W.heap.size]?=some (.cells #[.int .i64 c,.int .i64 i] 38 (0,0)):=(hb.block (W.heap.size) (by first|omega|(simp;try omega))).trans (by first|exact uB.out|exact Zg uB.out|exact Zg (Zg uB.out)|exact Za _ _ rfl|exact heap_alloc2_old _ _ _|exact heap_alloc2_new _ _ _|exact Zg (Za _ _ rfl)|exact Zg (Zg (Za _ _ rfl))|exact Za _ _ (by simp;done));(try clear uB uL uN u0 u1 uf0 uf1);have uB:Hid (w1.heap[W.heap.size]?=some (.cells #[.int .i64 c,.int .i64 i] 38 (0,0))):=ud;have u0:w1.cell? ⟨W.heap.size,0,none⟩=some (.int .i64 c):=(cell_of_row w1 (W.heap.size) 0 _ _ _ ud).trans rfl;have uf0:=frozen_of_row w1 (W.heap.size) 0 _ _ ud;have u1:w1.cell? ⟨W.heap.size,1,none⟩=some (.int .i64 i):=(cell_of_row w1 (W.heap.size) 1 _ _ _ ud).trans rfl;have uf1:=frozen_of_row w1 (W.heap.size) 1 _ _ ud;have uL:W.heap.size<w1.heap.size:=(Array.getElem?_eq_some_iff.1 ud).1;have uN:¬ W.heap.size=w1.heap.size:=(by omega);clear ud;have rd:w1.heap[W.heap.size+1]?=some (.cells #[.string ⟨#[]⟩,.string ⟨#[]⟩,.int .i64 0,.int .i64 0,.int .i64 0,.slice none 0 0,.int .i64 0,.int .i64 0,.pointer none] 171 (0,0)):=(hb.block (W.heap.size+1) (by first|omega|(simp;try omega))).trans (by first|exact rB.out|exact Zg rB.out|exact Zg (Zg rB.out)|exact Za _ _ rfl|exact heap_alloc2_old _ _ _|exact heap_alloc2_new _ _ _|exact Zg (Za _ _ rfl)|exact Zg (Zg (Za _ _ rfl))|exact Za _ _ (by simp;done));(try clear rB rL rN r0 r1 r2 r3 r4 r5 r6 r7 r8 rf0 rf1 rf2 rf3 rf4 rf5 rf6 rf7 rf8);have rB:Hid (w1.heap[W.heap.size+1]?=some (.cells #[.string ⟨#[]⟩,.string ⟨#[]⟩,.int .i64 0,.int .i64 0,.int .i64 0,.slice none 0 0,.int .i64 0,.int .i64 0,.pointer none] 171 (0,0))):=rd;have r0:w1.cell? ⟨W.heap.size+1,0,none⟩=some (.string ⟨#[]⟩):=(cell_of_row w1 (W.heap.size+1) 0 _ _ _ rd).trans rfl;have rf0:=frozen_of_row w1 (W.heap.size+1) 0 _ _ rd;have r1:w1.cell? ⟨W.heap.size+1,1,none⟩=some (.string ⟨#[]⟩):=(cell_of_row w1 (W.heap.size+1) 1 _ _ _ rd).trans rfl;have rf1:=frozen_of_row w1 (W.heap.size+1) 1 _ _ rd;have r2:w1.cell? ⟨W.heap.size+1,2,none⟩=some (.int .i64 0):=(cell_of_row w1 (W.heap.size+1) 2 _ _ _ rd).trans rfl;have rf2:=frozen_of_row w1 (W.heap.size+1) 2 _ _ rd;have r3:w1.cell? ⟨W.heap.size+1,3,none⟩=some (.int .i64 0):=(cell_of_row w1 (W.heap.size+1) 3 _ _ _ rd).trans rfl;have rf3:=frozen_of_row w1 (W.heap.size+1) 3 _ _ rd;have r4:w1.cell? ⟨W.heap.size+1,4,none⟩=some (.int .i64 0):=(cell_of_row w1 (W.heap.size+1) 4 _ _ _ rd).trans rfl;have rf4:=frozen_of_row w1 (W.heap.size+1) 4 _ _ rd;have r5:w1.cell? ⟨W.heap.size+1,5,none⟩=some (.slice none 0 0):=(cell_of_row w1 (W.heap.size+1) 5 _ _ _ rd).trans rfl;have rf5:=frozen_of_row w1 (W.heap.size+1) 5 _ _ rd;have r6:w1.cell? ⟨W.heap.size+1,6,none⟩=some (.int .i64 0):=(cell_of_row w1 (W.heap.size+1) 6 _ _ _ rd).trans rfl;have rf6:=frozen_of_row w1 (W.heap.size+1) 6 _ _ rd;have r7:w1.cell? ⟨W.heap.size+1,7,none⟩=some (.int .i64 0):=(cell_of_row w1 (W.heap.size+1) 7 _ _ _ rd).trans rfl;have rf7:=frozen_of_row w1 (W.heap.size+1) 7 _ _ rd;have r8:w1.cell? ⟨W.heap.size+1,8,none⟩=some (.pointer none):=(cell_of_row w1 (W.heap.size+1) 8 _ _ _ rd).trans rfl;have rf8:=frozen_of_row w1 (W.heap.size+1) 8 _ _ rd;have rL:W.heap.size+1<w1.heap.size:=(Array.getElem?_eq_some_iff.1 rd).1;have rN:¬ W.heap.size+1=w1.heap.size:=(by omega);clear rd;have BB2:Bw W w1:=Zb sqR hb;clear BB;have BB:Hid (Bw W w1):=BB2;clear BB2 hb;clear HM))
 obtain ⟨Wm,hWm⟩:∃ x,x=w1.alloc (.cells #[.string m.nm,.string m.ds,.int .i64 m.fl,.int .i64 m.lo,.int .i64 m.st,.slice xa xk xo] 87):=⟨_,rfl⟩
 have BM:Hid (Bw W Wm):=by rw [hWm];exact BB.out.alloc BB.out.size _
 have hd0:Wm.heap[W.heap.size+1]?=some (.cells #[.string ⟨#[]⟩,.string ⟨#[]⟩,.int .i64 0,.int .i64 0,.int .i64 0,.slice none 0 0,.int .i64 0,.int .i64 0,.pointer none] 171 (0,0)):=by rw [hWm];exact Zg rB.out
 have p0:=cell_of_row Wm (W.heap.size+1) 0 _ _ _ hd0
 have pf0:=frozen_of_row Wm (W.heap.size+1) 0 _ _ hd0
 have p1:=cell_of_row Wm (W.heap.size+1) 1 _ _ _ hd0
 have pf1:=frozen_of_row Wm (W.heap.size+1) 1 _ _ hd0
 have p2:=cell_of_row Wm (W.heap.size+1) 2 _ _ _ hd0
 have pf2:=frozen_of_row Wm (W.heap.size+1) 2 _ _ hd0
 have p3:=cell_of_row Wm (W.heap.size+1) 3 _ _ _ hd0
 have pf3:=frozen_of_row Wm (W.heap.size+1) 3 _ _ hd0
 have p4:=cell_of_row Wm (W.heap.size+1) 4 _ _ _ hd0
 have pf4:=frozen_of_row Wm (W.heap.size+1) 4 _ _ hd0
 have p5:=cell_of_row Wm (W.heap.size+1) 5 _ _ _ hd0
 have pf5:=frozen_of_row Wm (W.heap.size+1) 5 _ _ hd0
 have p6:=cell_of_row Wm (W.heap.size+1) 6 _ _ _ hd0
 have pf6:=frozen_of_row Wm (W.heap.size+1) 6 _ _ hd0
 have p7:=cell_of_row Wm (W.heap.size+1) 7 _ _ _ hd0
 have pf7:=frozen_of_row Wm (W.heap.size+1) 7 _ _ hd0
 have p8:=cell_of_row Wm (W.heap.size+1) 8 _ _ _ hd0
 have pf8:=frozen_of_row Wm (W.heap.size+1) 8 _ _ hd0
 have hd1:Wm.heap[w1.heap.size]?=some (.cells #[.string m.nm,.string m.ds,.int .i64 m.fl,.int .i64 m.lo,.int .i64 m.st,.slice xa xk xo] 87 (0,0)):=by rw [hWm];exact Zo _ _
 have m0:=cell_of_row Wm w1.heap.size 0 _ _ _ hd1
 have m1:=cell_of_row Wm w1.heap.size 1 _ _ _ hd1
 have m2:=cell_of_row Wm w1.heap.size 2 _ _ _ hd1
 have m3:=cell_of_row Wm w1.heap.size 3 _ _ _ hd1
 have m4:=cell_of_row Wm w1.heap.size 4 _ _ _ hd1
 have m5:=cell_of_row Wm w1.heap.size 5 _ _ _ hd1
 have hd2:Wm.heap[W.heap.size]?=some (.cells #[.int .i64 c,.int .i64 i] 38 (0,0)):=by rw [hWm];exact Zg uB.out
 have i0:=cell_of_row Wm W.heap.size 0 _ _ _ hd2
 have i1:=cell_of_row Wm W.heap.size 1 _ _ _ hd2
 rw [← hWm]
 simp at p0 p1 p2 p3 p4 p5 p6 p7 p8 m0 m1 m2 m3 m4 m5 i0 i1
 clear hWm hd0 hd1 hd2 uB u0 u1 uf0 uf1 uL uN BB rB r0 r1 r2 r3 r4 r5 r6 r7 r8 rf0 rf1 rf2 rf3 rf4 rf5 rf6 rf7 rf8 rL rN
 go_wp2
 exact bodyPost_ret (v:=.tuple #[.agg #[.string m.nm,.string m.ds,.int .i64 m.fl,.int .i64 m.lo,.int .i64 m.st,.slice xa xk xo,.int .i64 c,.int .i64 i,.pointer (some ⟨b,0,none⟩)],.int .i64 0]) (by simp [results,Tryz.results118,go_sem, *]) rfl ⟨⟨xa,xk,xo,rfl⟩,(sqE BM)⟩
theorem Zhv {b:Nat} {ps:List Plc} {W:World} (h:WAt b ps W) (hi:WI ps) (c i:Int):Calls Tryz.prog 118 #[.pointer (some ⟨b,0,none⟩),.agg #[.int .i64 c,.int .i64 i]] W fun e w'=>rdV b c i (Zm ps c i) e∧Bw W w':=by
 cases hm:Zm ps c i with
 | none=>exact read_no h hi c i hm
 | some m=>exact read_yes h hi c i m hm
theorem Tryz.hinfoP9:(Tryz.prog.info? 171).map (fun i=>(i.zero,i.size,i.bytes))=some (some (.agg #[.string ⟨#[]⟩,.string ⟨#[]⟩,.int .i64 0,.int .i64 0,.int .i64 0,.slice none 0 0,.int .i64 0,.int .i64 0,.pointer none]),9,104):=by kernel_rfl
theorem Zb2 {ps:List Plc} {nm ds:ByteArray} {a:Int} {l:List Nat} {j i:Nat} (h:l[j]?=some i):nskL ps nm ds a (l.take (j+1))=nskL ps nm ds a (l.take j)++(if (fndI ps (i:Int) nm ds).2=0∧(i:Int)≠a then [((i:Int),(fndI ps (i:Int) nm ds).1)] else []):=by
 rw [List.take_add_one,h,Zh2]
 congr 1
theorem own9_one {w:World} {N g b:Nat} {x:P9} (hg:N≤g) (h:w.heap[g]?=some (.cells (x.cells b).toArray 171 (0,0))):w.ownsRow N 171 9 (.slice (some ⟨g,0,none⟩) [x].length 1) [x].length (Zx b [x]) :=
 ⟨rfl,.inr ⟨g,1,_,rfl,hg,h,Nat.le_refl _,by unfold maxLen;omega,rfl,rfl⟩⟩
theorem nsk_c {b:Nat} {ps:List Plc} {W:World} (h:WAt b ps W) (hi:WI ps) (x:P9) (hx:OkP ps x) (v:Value) (l:List Nat) (hv:Rds W v l.length 1 (l.map numV)) (hn:l.length≤300) :
 Calls Tryz.prog 176 #[x.agg b,v] W fun e w'=>∃ (L:List P9) (g cap:Nat),e=.returned (.slice (some ⟨g,0,none⟩) L.length cap)∧(∀ y∈L,OkP ps y)∧L.map P9.id=x.id::nskL ps x.nm x.ds x.c l∧w'.ownsRow W.heap.size 171 9 (.slice (some ⟨g,0,none⟩) L.length cap) L.length (Zx b L)∧Bw W w':=by
 obtain ⟨i0,hi0,hz0,hz1,hz2⟩:=info_parts Tryz.hinfoP9
 have HX:Hid (OkP ps x):=hx
 obtain ⟨X,hX⟩:∃ X,X=x:=⟨_,rfl⟩
 obtain ⟨an,ad,af,al,az,aa,ak,ao,ac,ai⟩:=x
 have HXE:Hid (X=⟨an,ad,af,al,az,aa,ak,ao,ac,ai⟩):=hX
 simp only [P9.agg]
 obtain ⟨K,hK⟩:∃ K,l.length=K:=⟨_,rfl⟩
 have HK:Hid (l.length=K):=hK
 obtain ⟨va,vc,rfl⟩:=hv.slice
 have HV:Hid (Rds W (.slice va l.length vc) l.length 1 (l.map numV)):=hv
 have HU:Hid (WAt b ps (W.alloc (.cells #[.string an,.string ad,.int .i64 af,.int .i64 al,.int .i64 az,.slice aa ak ao,.int .i64 ac,.int .i64 ai,.pointer (some ⟨b,0,none⟩)] 171))):=h.below ((Below.refl _ _).alloc (Nat.le_refl _) _)
 have HA9:Hid ((W.alloc (.cells #[.string an,.string ad,.int .i64 af,.int .i64 al,.int .i64 az,.slice aa ak ao,.int .i64 ac,.int .i64 ai,.pointer (some ⟨b,0,none⟩)] 171)).heap[W.heap.size]?=some (.cells #[.string an,.string ad,.int .i64 af,.int .i64 al,.int .i64 az,.slice aa ak ao,.int .i64 ac,.int .i64 ai,.pointer (some ⟨b,0,none⟩)] 171 (0,0))):=Zo _ _
 have HI:Hid (WI ps):=hi
 rw [hK] at hn ⊢
 clear hv hK h hi hx hX
 go_enter Tryz.func176,Tryz.ntmps176
 go_wp2
 go_loopw [5,16] (fun sv kv wr=>∃ (j:Nat) (L:List P9) (g cap:Nat),sv=.slice (some ⟨g,0,none⟩) L.length cap∧kv=.int .i64 j∧j≤K∧Hid (∀ y∈L,OkP ps y)∧Hid (L.map P9.id=(ac,ai)::nskL ps an ad ac (l.take j))∧Hid (wr.ownsRow (W.heap.size+1) 171 9 (.slice (some ⟨g,0,none⟩) L.length cap) L.length (Zx b L))∧Hid (Below (W.heap.size+1) (W.alloc (.cells #[.string an,.string ad,.int .i64 af,.int .i64 al,.int .i64 az,.slice aa ak ao,.int .i64 ac,.int .i64 ai,.pointer (some ⟨b,0,none⟩)] 171)) wr)) (fun _ kv _=>K - (intOf kv).toNat)
 case atStart=>exact ⟨0,[⟨an,ad,af,al,az,aa,ak,ao,ac,ai⟩],W.heap.size+1,1,rfl,rfl,Nat.zero_le _,(by intro y hy;rw [List.mem_singleton] at hy;subst hy;exact HX.out),rfl,own9_one (Nat.le_refl _) (Za _ _ (by simp)),(Below.refl _ _).alloc (by simp) _⟩
 case round =>
  obtain ⟨j,L,g,cap,rfl,rfl,hj,hOk,hM,hO,hB⟩:=hrel
  have hNr:W.heap.size+1≤wr.heap.size:=by have:=hB.out.size;simpa using this
  have hLl:L.length≤301:=by
   have e:=congrArg List.length hM.out
   have:=Zbh ps an ad ac (l.take j)
   rw [List.length_map,List.length_cons] at e
   rw [List.length_take] at this
   omega
  have BW:Hid (Bw W wr):=((Below.refl _ W).alloc (Nat.le_refl _) _).trans (hB.out.mono (by omega))
  by_cases hlt:j<K
  ·have hjl:j<l.length:=by rw [HK.out];exact hlt
   obtain ⟨i,hil⟩:∃ i,l[j]?=some i:=⟨_,List.getElem?_eq_getElem hjl⟩
   have hv2:=HV.out.keep BW.out
   obtain ⟨bk,oo,rfl,hbk,hcr⟩:=Zkm hv2 hil
   rw [HK.out] at hv2
   have HWr:Hid (WAt b ps wr):=HU.out.below (by simpa [Bw] using hB.out)
   have HF:Hid (Calls Tryz.prog 193 #[.pointer (some ⟨b,0,none⟩),.int .i64 (i:Int),.string an,.string ad] wr fun e w'=>e=.returned (.tuple #[.int .i64 (fndI ps i an ad).1,.int .i64 (fndI ps i an ad).2])∧Bw wr w'):=Zly HWr.out HI.out.pb i an ad
   have hst:=Zb2 (ps:=ps) (nm:=an) (ds:=ad) (a:=ac) hil
   obtain ⟨q0,q1,q2,q3,q4,q5,q6,q7,q8,qL⟩:=row9 ((hB.out.block W.heap.size (by omega)).trans HA9.out)
   by_cases hF:(fndI ps i an ad).2=0
   ·obtain ⟨hff,_⟩:=J5 hF
    obtain ⟨m,hm⟩:∃ m,Zm ps (i:Int) (fndI ps i an ad).1=some m:=⟨_,hff.choose_spec.1⟩
    have HR:Hid (∀ w,Below (W.heap.size+1) (W.alloc (.cells #[.string an,.string ad,.int .i64 af,.int .i64 al,.int .i64 az,.slice aa ak ao,.int .i64 ac,.int .i64 ai,.pointer (some ⟨b,0,none⟩)] 171)) w→Calls Tryz.prog 118 #[.pointer (some ⟨b,0,none⟩),.agg #[.int .i64 (i:Int),.int .i64 (fndI ps i an ad).1]] w fun e w'=>(∃ ma mk mo,e=.returned (.tuple #[.agg #[.string m.nm,.string m.ds,.int .i64 m.fl,.int .i64 m.lo,.int .i64 m.st,.slice ma mk mo,.int .i64 (i:Int),.int .i64 (fndI ps i an ad).1,.pointer (some ⟨b,0,none⟩)],.int .i64 0]))∧Bw w w'):=fun w hb=>by
     have:=Zhv (HU.out.below (by simpa [Bw] using hb)) HI.out (i:Int) (fndI ps i an ad).1
     rw [hm] at this
     exact this
    have HM:Hid (Zm ps (i:Int) (fndI ps i an ad).1=some m):=hm
    rw [hF] at hst HF
    clear hff hm hF hil hjl hv2
    generalize (fndI ps i an ad).1=F1 at *
    by_cases hic:(i:Int)=ac
    ·have hst2:nskL ps an ad ac (List.take (j+1) l)=nskL ps an ad ac (List.take j l):=by rw [hst,if_neg (fun h=>h.2 hic),List.append_nil]
     have HST:Hid _:=hst2
     have hic2:((i:Int) == ac)=true:=by simp [hic]
     clear hst hst2 hic HR
     go_wp2_with (first
      | (go_at_call 193;refine HF.out.mono ?_;rintro e w2 ⟨rfl,hb⟩;have B2:Hid (Below (W.heap.size+1) (W.alloc (.cells #[.string an,.string ad,.int .i64 af,.int .i64 al,.int .i64 az,.slice aa ak ao,.int .i64 ac,.int .i64 ai,.pointer (some ⟨b,0,none⟩)] 171)) w2):=hB.out.trans (hb.mono hNr);have O2:Hid (w2.ownsRow (W.heap.size+1) 171 9 (.slice (some ⟨g,0,none⟩) L.length cap) L.length (Zx b L)):=Zd hO.out hb;clear q0 q1 q2 q3 q4 q5 q6 q7 q8 qL;obtain ⟨q0,q1,q2,q3,q4,q5,q6,q7,q8,qL⟩:=row9 ((B2.out.block W.heap.size (by omega)).trans HA9.out);clear hb HF))
     refine ⟨⟨j+1,L,g,cap,rfl,by simp,by omega,hOk,?_,O2,B2⟩,by simp [intOf];omega⟩
     rw [HST.out];exact hM
    ·have hst2:nskL ps an ad ac (List.take (j+1) l)=nskL ps an ad ac (List.take j l)++[((i:Int),F1)]:=by rw [hst,if_pos ⟨rfl,hic⟩]
     have HST:Hid _:=hst2
     have hic2:((i:Int) == ac)=false:=beq_eq_false_iff_ne.2 hic
     clear hst hst2
     go_wp2_with (first
      | (go_at_call 193;refine HF.out.mono ?_;rintro e w2 ⟨rfl,hb⟩;have B2:Hid (Below (W.heap.size+1) (W.alloc (.cells #[.string an,.string ad,.int .i64 af,.int .i64 al,.int .i64 az,.slice aa ak ao,.int .i64 ac,.int .i64 ai,.pointer (some ⟨b,0,none⟩)] 171)) w2):=hB.out.trans (hb.mono hNr);have O2:Hid (w2.ownsRow (W.heap.size+1) 171 9 (.slice (some ⟨g,0,none⟩) L.length cap) L.length (Zx b L)):=Zd hO.out hb;clear q0 q1 q2 q3 q4 q5 q6 q7 q8 qL;obtain ⟨q0,q1,q2,q3,q4,q5,q6,q7,q8,qL⟩:=row9 ((B2.out.block W.heap.size (by omega)).trans HA9.out);clear hb HF)
      | (go_at_call 118;refine (HR.out _ B2.out).mono ?_;rintro e w3 ⟨⟨ma,mk,mo,rfl⟩,hb⟩;have B3:Hid (Below (W.heap.size+1) (W.alloc (.cells #[.string an,.string ad,.int .i64 af,.int .i64 al,.int .i64 az,.slice aa ak ao,.int .i64 ac,.int .i64 ai,.pointer (some ⟨b,0,none⟩)] 171)) w3):=B2.out.trans (hb.mono (Nat.le_trans (by simp) B2.out.size));have O3:Hid (w3.ownsRow (W.heap.size+1) 171 9 (.slice (some ⟨g,0,none⟩) L.length cap) L.length (Zx b L)):=Zd O2.out hb;clear hb HR)
      | (at_builtin;refine wpList_append_lies _ rfl _ _ 174 rfl (W.heap.size+1) 171 i0 (.agg #[.string ⟨#[]⟩,.string ⟨#[]⟩,.int .i64 0,.int .i64 0,.int .i64 0,.slice none 0 0,.int .i64 0,.int .i64 0,.pointer none]) 9 104 Tryz.underlying174 hi0 hz0 hz1 hz2 rfl (by decide) (.slice (some ⟨g,0,none⟩) L.length cap) L.length (Zx b L) rfl ((O3.out.alloc _).alloc _) ⟨w3.heap.size+1,0,none⟩ 1 1 (P9.cells b ⟨m.nm,m.ds,m.fl,m.lo,m.st,ma,mk,mo,(i:Int),F1⟩) rfl rfl ?c1 ?c2 (by omega) ?c3 ?c4 ?c5 _ rfl ?_))
     case c1 =>
      intro jj u hj
      rw [addr_add,Nat.zero_add]
      have hd:((w3.alloc (.cells #[.string m.nm,.string m.ds,.int .i64 m.fl,.int .i64 m.lo,.int .i64 m.st,.slice ma mk mo,.int .i64 (i:Int),.int .i64 F1,.pointer (some ⟨b,0,none⟩)] 171)).alloc (.cells #[.string m.nm,.string m.ds,.int .i64 m.fl,.int .i64 m.lo,.int .i64 m.st,.slice ma mk mo,.int .i64 (i:Int),.int .i64 F1,.pointer (some ⟨b,0,none⟩)] 171)).heap[w3.heap.size+1]?=some (.cells #[.string m.nm,.string m.ds,.int .i64 m.fl,.int .i64 m.lo,.int .i64 m.st,.slice ma mk mo,.int .i64 (i:Int),.int .i64 F1,.pointer (some ⟨b,0,none⟩)] 171 (0,0)):=Za _ _ (by simp)
      rw [cell_of_row _ _ jj _ _ _ hd,← hj]
      simp only [P9.cells,List.getElem?_toArray]
     case c2=>intro u hu;exact J6 b [⟨m.nm,m.ds,m.fl,m.lo,m.st,ma,mk,mo,(i:Int),F1⟩] u (by rw [Z4];exact List.mem_append_left _ hu)
     case c3=>unfold maxLen;omega
     case c4=>omega
     case c5=>have:=B3.out.size;simp at this;simp;omega
     intro g2 cap2 w4 hown hgrow _ _
     have B4:Hid (Below (W.heap.size+1) (W.alloc (.cells #[.string an,.string ad,.int .i64 af,.int .i64 al,.int .i64 az,.slice aa ak ao,.int .i64 ac,.int .i64 ai,.pointer (some ⟨b,0,none⟩)] 171)) w4):=by
      have hs3:W.heap.size+1≤w3.heap.size:=by have:=B3.out.size;simpa using this
      have hb1:Below (W.heap.size+1) (W.alloc (.cells #[.string an,.string ad,.int .i64 af,.int .i64 al,.int .i64 az,.slice aa ak ao,.int .i64 ac,.int .i64 ai,.pointer (some ⟨b,0,none⟩)] 171)) ((w3.alloc (.cells #[.string m.nm,.string m.ds,.int .i64 m.fl,.int .i64 m.lo,.int .i64 m.st,.slice ma mk mo,.int .i64 (i:Int),.int .i64 F1,.pointer (some ⟨b,0,none⟩)] 171)).alloc (.cells #[.string m.nm,.string m.ds,.int .i64 m.fl,.int .i64 m.lo,.int .i64 m.st,.slice ma mk mo,.int .i64 (i:Int),.int .i64 F1,.pointer (some ⟨b,0,none⟩)] 171)):=(B3.out.alloc hs3 _).alloc (by simp;omega) _
      refine hb1.grown hgrow (by simp;omega) (fun x hx=>?_)
      have:=(O3.out.lt x hx).1
      omega
     have O4:Hid (w4.ownsRow (W.heap.size+1) 171 9 (.slice (some ⟨g2,0,none⟩) (L.length+1) cap2) (L++([⟨m.nm,m.ds,m.fl,m.lo,m.st,ma,mk,mo,(i:Int),F1⟩]:List P9)).length (Zx b (L++([⟨m.nm,m.ds,m.fl,m.lo,m.st,ma,mk,mo,(i:Int),F1⟩]:List P9)))):=by
      rw [Hid,List.length_append,Xh];exact hown
     go_wp2
     refine ⟨⟨j+1,L++([⟨m.nm,m.ds,m.fl,m.lo,m.st,ma,mk,mo,(i:Int),F1⟩]:List P9),g2,cap2,(by simp),by simp,by omega,?_,?_,?_,B4⟩,by simp [intOf];omega⟩
     ·intro y hy
      rcases List.mem_append.1 hy with hy|hy
      ·exact hOk.out y hy
      ·rw [List.mem_singleton] at hy
       subst hy
       exact ⟨m,HM.out,rfl,rfl,rfl⟩
     ·rw [Hid,List.map_append,hM.out,HST.out];rfl
     ·have:=O4.out;rw [List.length_append] at this ⊢;exact this
   ·have hst2:nskL ps an ad ac (List.take (j+1) l)=nskL ps an ad ac (List.take j l):=by rw [hst,if_neg (fun h=>hF h.1),List.append_nil]
    have HST:Hid _:=hst2
    generalize fndI ps i an ad=F at *
    obtain ⟨F1,F2⟩:=F
    simp only at HF hF
    clear hst hst2 hil hjl hv2
    go_wp2_with (first
     | (go_at_call 193;refine HF.out.mono ?_;rintro e w2 ⟨rfl,hb⟩;have B2:Hid (Below (W.heap.size+1) (W.alloc (.cells #[.string an,.string ad,.int .i64 af,.int .i64 al,.int .i64 az,.slice aa ak ao,.int .i64 ac,.int .i64 ai,.pointer (some ⟨b,0,none⟩)] 171)) w2):=hB.out.trans (hb.mono hNr);have O2:Hid (w2.ownsRow (W.heap.size+1) 171 9 (.slice (some ⟨g,0,none⟩) L.length cap) L.length (Zx b L)):=Zd hO.out hb;clear q0 q1 q2 q3 q4 q5 q6 q7 q8 qL;obtain ⟨q0,q1,q2,q3,q4,q5,q6,q7,q8,qL⟩:=row9 ((B2.out.block W.heap.size (by omega)).trans HA9.out);clear hb HF))
    refine ⟨⟨j+1,L,g,cap,rfl,by simp,by omega,hOk,?_,O2,B2⟩,by simp [intOf];omega⟩
    rw [HST.out];exact hM
  ·have e:j=K:=by omega
   subst e
   have HE:Hid (l.take j=l):=by rw [Hid,List.take_of_length_le (by rw [HK.out];exact Nat.le_refl _)]
   go_wp2
   refine bodyPost_ret (results_tmp rfl _ _ _) rfl ⟨L,g,cap,rfl,hOk.out,?_,Go.Joins.ownsRow_le hO.out (by omega),BW.out⟩
   rw [hM.out,HE.out];rfl
theorem Zmr {ps:List Plc} {x:P9} (hx:OkP ps x):∀ {l:List P9},(∀ y∈l,OkP ps y)→l.any (fun y=>plnB ps x.nm x.ds x.fl x.c y.nm y.ds y.fl y.c)=(l.map P9.id).any (plI ps x.id)
 | [],_=>rfl
 | y::r,h=>by
   rw [List.any_cons,List.map_cons,List.any_cons,hx.pl (h y List.mem_cons_self),Zmr hx (fun z hz=>h z (List.mem_cons_of_mem _ hz))]
structure GthR (ps:List Plc) (a:Int×Int) (L R:List P9) (k i:Nat):Prop where
 ki:k≤i
 iL:i≤L.length
 len:R.length=L.length
 suf:∀ n,i≤n→R[n]?=L[n]?
 ok:∀ y∈R,OkP ps y
 pre:(R.take k).map P9.id=gthL ps a ((L.take i).map P9.id)
theorem GthR.start {ps:List Plc} {a:Int×Int} {L:List P9} (h:∀ y∈L,OkP ps y):GthR ps a L L 0 0:=⟨Nat.le_refl _,Nat.zero_le _,rfl,fun _ _=>rfl,h,rfl⟩
theorem GthR.next {ps:List Plc} {a:Int×Int} {L R:List P9} {k i:Nat} (h:GthR ps a L R k i) {x:P9} (hx:L[i]?=some x):gthL ps a ((L.take (i+1)).map P9.id)=gth1 ps a ((R.take k).map P9.id) x.id:=by
 rw [List.take_add_one,hx,List.map_append,h.pre]
 exact Zb6 _ _ _ _
theorem GthR.mem {ps:List Plc} {a:Int×Int} {L R:List P9} {k i:Nat} (h:GthR ps a L R k i) {x:P9} (hx:L[i]?=some x):OkP ps x:=h.ok x (List.mem_of_getElem? ((h.suf i (Nat.le_refl _)).trans hx))
theorem GthR.keep {ps:List Plc} {a:Int×Int} {L R:List P9} {k i:Nat} (h:GthR ps a L R k i) {x:P9} (hx:L[i]?=some x) (hc:((eqI x.id a&&!stB x.fl)||(R.take k).any (fun y=>plnB ps x.nm x.ds x.fl x.c y.nm y.ds y.fl y.c))=true):GthR ps a L (R.take k++[x]++R.drop (k+1)) (k+1) (i+1):=by
 have hi:=(List.getElem?_eq_some_iff.1 hx).1
 have h1:=h.ki
 have h2:=h.len
 have hok:=h.mem hx
 have htl:(R.take k++[x]).length=k+1:=by simp;omega
 refine ⟨by omega,by omega,by simp;omega,fun n hn=>?_,fun y hy=>?_,?_⟩
 ·rw [List.getElem?_append_right (by rw [htl];omega),htl,List.getElem?_drop,show k+1+(n - (k+1))=n by omega]
  exact h.suf n (by omega)
 ·rcases List.mem_append.1 hy with hy|hy
  ·rcases List.mem_append.1 hy with hy|hy
   ·exact h.ok y (List.mem_of_mem_take hy)
   ·rw [List.mem_singleton] at hy;subst hy;exact hok
  ·exact h.ok y (List.mem_of_mem_drop hy)
 ·rw [h.next hx,List.take_left' htl,gth1]
  rw [hok.st,Zmr hok (fun y hy=>h.ok y (List.mem_of_mem_take hy))] at hc
  rw [if_pos hc,List.map_append];rfl
theorem GthR.skip {ps:List Plc} {a:Int×Int} {L R:List P9} {k i:Nat} (h:GthR ps a L R k i) {x:P9} (hx:L[i]?=some x) (hc:((eqI x.id a&&!stB x.fl)||(R.take k).any (fun y=>plnB ps x.nm x.ds x.fl x.c y.nm y.ds y.fl y.c))=false):GthR ps a L R k (i+1):=by
 have hi:=(List.getElem?_eq_some_iff.1 hx).1
 have h1:=h.ki
 have hok:=h.mem hx
 refine ⟨by omega,by omega,h.len,fun n hn=>h.suf n (by omega),h.ok,?_⟩
 rw [h.next hx,gth1]
 rw [hok.st,Zmr hok (fun y hy=>h.ok y (List.mem_of_mem_take hy))] at hc
 rw [if_neg (by rw [hc];decide)]
theorem callPl (vs:Array Value) (w:World):(callFunc 180 vs).run Tryz.prog w=.ok (.enter 180 vs) w:=by simp [go_sem]
theorem gth_c {b:Nat} {ps:List Plc} {W:World} (h:WAt b ps W) (hi:WI ps) (x:P9) (hx:OkP ps x) (v:Value) (l:List Nat) (hv:Rds W v l.length 1 (l.map numV)) (hn:l.length≤300) :
 Calls Tryz.prog 120 #[x.agg b,v] W fun e w'=>∃ (L:List P9) (g cap:Nat),e=.returned (.slice (some ⟨g,0,none⟩) L.length cap)∧(∀ y∈L,OkP ps y)∧L.map P9.id=gthL ps x.id (x.id::nskL ps x.nm x.ds x.c l)∧w'.ownsRow W.heap.size 171 9 (.slice (some ⟨g,0,none⟩) L.length cap) L.length (Zx b L)∧Bw W w':=by
 obtain ⟨i0,hi0,hz0,hz1,hz2⟩:=info_parts Tryz.hinfoP9
 have HNS:Hid (∀ w,Bw W w→Calls Tryz.prog 176 #[x.agg b,v] w fun e w'=>∃ (L:List P9) (g cap:Nat),e=.returned (.slice (some ⟨g,0,none⟩) L.length cap)∧(∀ y∈L,OkP ps y)∧L.map P9.id=x.id::nskL ps x.nm x.ds x.c l∧w'.ownsRow w.heap.size 171 9 (.slice (some ⟨g,0,none⟩) L.length cap) L.length (Zx b L)∧Bw w w'):=fun w hb=>nsk_c (h.below hb) hi x hx v l (hv.keep hb) hn
 have hll:(x.id::nskL ps x.nm x.ds x.c l).length≤301:=by
  have:=Zbh ps x.nm x.ds x.c l
  rw [List.length_cons];omega
 generalize x.id::nskL ps x.nm x.ds x.c l=I at *
 obtain ⟨va,vc,rfl⟩:=hv.slice
 obtain ⟨an,ad,af,al,az,aa,ak,ao,ac,ai⟩:=x
 simp only [P9.agg,P9.id] at HNS ⊢
 have HU:Hid (WAt b ps (W.alloc (.cells #[.string an,.string ad,.int .i64 af,.int .i64 al,.int .i64 az,.slice aa ak ao,.int .i64 ac,.int .i64 ai,.pointer (some ⟨b,0,none⟩)] 171))):=h.below ((Below.refl _ _).alloc (Nat.le_refl _) _)
 have HA9:Hid ((W.alloc (.cells #[.string an,.string ad,.int .i64 af,.int .i64 al,.int .i64 az,.slice aa ak ao,.int .i64 ac,.int .i64 ai,.pointer (some ⟨b,0,none⟩)] 171)).heap[W.heap.size]?=some (.cells #[.string an,.string ad,.int .i64 af,.int .i64 al,.int .i64 az,.slice aa ak ao,.int .i64 ac,.int .i64 ai,.pointer (some ⟨b,0,none⟩)] 171 (0,0))):=Zo _ _
 have HI:Hid (WI ps):=hi
 clear hv h hi hx
 go_enter Tryz.func120,Tryz.ntmps120
 go_wp2_with (go_at_call 176;refine (HNS.out _ sqR).mono ?_;rintro e w1 ⟨L,g,cap,rfl,hok,hid,ho,hb⟩;have OK1:Hid (∀ y∈L,OkP ps y):=hok;have ID1:Hid (L.map P9.id=I):=hid;have O1:Hid (w1.ownsRow (W.heap.size+1) 171 9 (.slice (some ⟨g,0,none⟩) L.length cap) L.length (Zx b L)):=Go.Joins.ownsRow_le ho (by simp);have B1:Hid (Below (W.heap.size+1) (W.alloc (.cells #[.string an,.string ad,.int .i64 af,.int .i64 al,.int .i64 az,.slice aa ak ao,.int .i64 ac,.int .i64 ai,.pointer (some ⟨b,0,none⟩)] 171)) w1):=Below.mono hb (by simp);clear ho hb hok hid HNS)
 have hll2:L.length≤301:=by rw [← ID1.out,List.length_map] at hll;exact hll
 obtain ⟨K,hK⟩:∃ K,L.length=K:=⟨_,rfl⟩
 have HK:Hid (L.length=K):=hK
 rw [hK] at O1 hll2
 rw [hK]
 have hgN:W.heap.size+1≤g:=(O1.out.lt g rfl).1
 have hKc:K≤cap:=by
  rcases O1.out.2 with ⟨e,_⟩|⟨g',cap',cur,e,_,_,h3,_⟩
  ·simp at e
  ·simp only [Value.slice.injEq,Option.some.injEq,Addr.mk.injEq,and_true,true_and] at e
   obtain ⟨rfl,rfl⟩:=e
   exact h3
 clear hK hll
 go_wp2
 go_loopw [6,16] (fun sv kv wr=>∃ (i k:Nat) (R:List P9),sv=.slice (some ⟨g,0,none⟩) k cap∧kv=.int .i64 i∧k≤i∧i≤K∧Hid (GthR ps (ac,ai) L R k i)∧Hid (wr.ownsRow (W.heap.size+1) 171 9 (.slice (some ⟨g,0,none⟩) K cap) K (Zx b R))∧Hid (Below (W.heap.size+1) (W.alloc (.cells #[.string an,.string ad,.int .i64 af,.int .i64 al,.int .i64 az,.slice aa ak ao,.int .i64 ac,.int .i64 ai,.pointer (some ⟨b,0,none⟩)] 171)) wr)) (fun _ kv _=>K - (intOf kv).toNat)
 case atStart=>exact ⟨0,0,L,rfl,rfl,Nat.le_refl _,Nat.zero_le _,GthR.start OK1.out,O1,B1⟩
 case round =>
  obtain ⟨i,k,R,rfl,rfl,hki,hiK,hG,hO,hB⟩:=hrel
  have hNr:W.heap.size+1≤wr.heap.size:=by have:=hB.out.size;simpa using this
  by_cases hlt:i<K
  ·obtain ⟨x,hx⟩:∃ x,L[i]?=some x:=⟨_,List.getElem?_eq_getElem (by rw [HK.out];exact hlt)⟩
   obtain ⟨e0,e1,e2,e3,e4,e5,e6,e7,e8,_⟩:=Zak hO.out ((hG.out.suf i (Nat.le_refl _)).trans hx)
   obtain ⟨q0,q1,q2,q3,q4,q5,q6,q7,q8,qL⟩:=row9 ((hB.out.block W.heap.size (by omega)).trans HA9.out)
   have hRK:R.length=K:=hG.out.len.trans HK.out
   have HKE:Hid (((eqI x.id (ac,ai)&&!stB x.fl)||(R.take k).any (fun y=>plnB ps x.nm x.ds x.fl x.c y.nm y.ds y.fl y.c))=true→GthR ps (ac,ai) L (R.take k++[x]++R.drop (k+1)) (k+1) (i+1)):=hG.out.keep hx
   have HSK:Hid (((eqI x.id (ac,ai)&&!stB x.fl)||(R.take k).any (fun y=>plnB ps x.nm x.ds x.fl x.c y.nm y.ds y.fl y.c))=false→GthR ps (ac,ai) L R k (i+1)):=hG.out.skip hx
   have HC9:Hid (∀ w,Bw wr w→Calls Tryz.prog 179 #[.slice (some ⟨g,0,none⟩) k cap,.func (.func 180) #[x.agg b] #[]] w fun e w'=>e=.returned (.bool ((R.take k).any (fun y=>plnB ps x.nm x.ds x.fl x.c y.nm y.ds y.fl y.c)))∧Bw w w'):=fun w hb=>by
    have hcut:=Zkc (Zd hO.out hb) (show k≤K by omega)
    rw [Xe] at hcut
    have hkl:(R.take k).length=k:=by rw [List.length_take];omega
    have:=con9_any 180 callPl (x.agg b) (fun y=>plnB ps x.nm x.ds x.fl x.c y.nm y.ds y.fl y.c) (W.heap.size+1) b (R.take k) (.slice (some ⟨g,0,none⟩) k cap) w (by rw [hkl];exact hcut) (by rw [hkl];omega) (fun y _ w2 hb2=>plain_c (HU.out.below (by have:=(hB.out.trans (hb.mono hNr)).trans (hb2.mono (Nat.le_trans hNr hb.size));simpa [Bw] using this)) HI.out x.nm x.ds x.fl x.lo x.st x.sa x.sk x.so x.c x.i y.nm y.ds y.fl y.lo y.st y.sa y.sk y.so y.c y.i)
    exact this
   have HI9:Hid (∀ w:World,Calls Tryz.prog 177 #[x.agg b,.agg #[.string an,.string ad,.int .i64 af,.int .i64 al,.int .i64 az,.slice aa ak ao,.int .i64 ac,.int .i64 ai,.pointer (some ⟨b,0,none⟩)]] w fun e w'=>e=.returned (.bool (eqI x.id (ac,ai)))∧Bw w w'):=fun w=>is_c b x.nm x.ds x.fl x.lo x.st x.sa x.sk x.so x.c x.i an ad af al az aa ak ao ac ai w
   have HS9:Hid (∀ w:World,Calls Tryz.prog 178 #[x.agg b] w fun e w'=>e=.returned (.bool (stB x.fl))∧Bw w w'):=fun w=>Zc9 b x.nm x.ds x.fl x.lo x.st x.sa x.sk x.so x.c x.i w
   generalize eqI x.id (ac,ai)=E at *
   generalize (R.take k).any (fun y=>plnB ps x.nm x.ds x.fl x.c y.nm y.ds y.fl y.c)=Q at *
   obtain ⟨xn,xd,xf,xl,xs,xa,xk,xo,xc,xi⟩:=x
   simp only [P9.agg] at e0 e1 e2 e3 e4 e5 e6 e7 e8 HC9 HI9 HS9 HKE HSK
   generalize stB xf=S at *
   have HX9:Hid ((wr.alloc (.cells #[.string xn,.string xd,.int .i64 xf,.int .i64 xl,.int .i64 xs,.slice xa xk xo,.int .i64 xc,.int .i64 xi,.pointer (some ⟨b,0,none⟩)] 171)).heap[wr.heap.size]?=some (.cells #[.string xn,.string xd,.int .i64 xf,.int .i64 xl,.int .i64 xs,.slice xa xk xo,.int .i64 xc,.int .i64 xi,.pointer (some ⟨b,0,none⟩)] 171 (0,0))):=Zo _ _
   clear hx
   cases E
   case false =>
    clear HS9
    cases Q
    case false =>
     go_wp2_with (first
      | (go_at_call 177;refine (HI9.out _).mono ?_;rintro e w2 ⟨rfl,hb⟩;have Bw2:Hid (Below (wr.heap.size+1) (wr.alloc (.cells #[.string xn,.string xd,.int .i64 xf,.int .i64 xl,.int .i64 xs,.slice xa xk xo,.int .i64 xc,.int .i64 xi,.pointer (some ⟨b,0,none⟩)] 171)) w2):=Below.mono hb (by simp);have Ow2:Hid (w2.ownsRow (W.heap.size+1) 171 9 (.slice (some ⟨g,0,none⟩) K cap) K (Zx b R)):=Zd (hO.out.alloc _) hb;obtain ⟨r0,r1,r2,r3,r4,r5,r6,r7,r8,rL⟩:=row9 ((Bw2.out.block wr.heap.size (by omega)).trans HX9.out);clear hb HI9)
      | (go_at_call 179;refine (HC9.out _ (Below.trans ((Below.refl _ _).alloc (Nat.le_refl _) _) (Bw2.out.mono (by omega)))).mono ?_;rintro e w3 ⟨rfl,hb⟩;have Bw3:Hid (Below (wr.heap.size+1) (wr.alloc (.cells #[.string xn,.string xd,.int .i64 xf,.int .i64 xl,.int .i64 xs,.slice xa xk xo,.int .i64 xc,.int .i64 xi,.pointer (some ⟨b,0,none⟩)] 171)) w3):=Bw2.out.trans (hb.mono (Nat.le_trans (by simp) Bw2.out.size));have Ow3:Hid (w3.ownsRow (W.heap.size+1) 171 9 (.slice (some ⟨g,0,none⟩) K cap) K (Zx b R)):=Zd Ow2.out hb;clear r0 r1 r2 r3 r4 r5 r6 r7 r8 rL;obtain ⟨r0,r1,r2,r3,r4,r5,r6,r7,r8,rL⟩:=row9 ((Bw3.out.block wr.heap.size (by omega)).trans HX9.out);clear hb))
     have hsz:wr.heap.size+1≤w3.heap.size:=by have:=Bw3.out.size;simpa using this
     have B8:Hid (Below (W.heap.size+1) (W.alloc (.cells #[.string an,.string ad,.int .i64 af,.int .i64 al,.int .i64 az,.slice aa ak ao,.int .i64 ac,.int .i64 ai,.pointer (some ⟨b,0,none⟩)] 171)) w3):=(hB.out.alloc hNr _).trans (Bw3.out.mono (by omega))
     refine ⟨⟨i+1,k,R,rfl,by simp,by omega,by omega,HSK.out rfl,Ow3,B8⟩,by simp [intOf];omega⟩
    case true =>
     go_wp2_with (first
      | (go_at_call 177;refine (HI9.out _).mono ?_;rintro e w2 ⟨rfl,hb⟩;have Bw2:Hid (Below (wr.heap.size+1) (wr.alloc (.cells #[.string xn,.string xd,.int .i64 xf,.int .i64 xl,.int .i64 xs,.slice xa xk xo,.int .i64 xc,.int .i64 xi,.pointer (some ⟨b,0,none⟩)] 171)) w2):=Below.mono hb (by simp);have Ow2:Hid (w2.ownsRow (W.heap.size+1) 171 9 (.slice (some ⟨g,0,none⟩) K cap) K (Zx b R)):=Zd (hO.out.alloc _) hb;obtain ⟨r0,r1,r2,r3,r4,r5,r6,r7,r8,rL⟩:=row9 ((Bw2.out.block wr.heap.size (by omega)).trans HX9.out);clear hb HI9)
      | (go_at_call 179;refine (HC9.out _ (Below.trans ((Below.refl _ _).alloc (Nat.le_refl _) _) (Bw2.out.mono (by omega)))).mono ?_;rintro e w3 ⟨rfl,hb⟩;have Bw3:Hid (Below (wr.heap.size+1) (wr.alloc (.cells #[.string xn,.string xd,.int .i64 xf,.int .i64 xl,.int .i64 xs,.slice xa xk xo,.int .i64 xc,.int .i64 xi,.pointer (some ⟨b,0,none⟩)] 171)) w3):=Bw2.out.trans (hb.mono (Nat.le_trans (by simp) Bw2.out.size));have Ow3:Hid (w3.ownsRow (W.heap.size+1) 171 9 (.slice (some ⟨g,0,none⟩) K cap) K (Zx b R)):=Zd Ow2.out hb;clear r0 r1 r2 r3 r4 r5 r6 r7 r8 rL;obtain ⟨r0,r1,r2,r3,r4,r5,r6,r7,r8,rL⟩:=row9 ((Bw3.out.block wr.heap.size (by omega)).trans HX9.out);clear hb)
      | (at_builtin;refine Yu _ rfl _ _ 174 rfl (W.heap.size+1) 171 i0 9 Tryz.underlying174 hi0 hz1 g k K cap (Zx b R) rfl (Ow3.out.alloc _) ⟨w3.heap.size,0,none⟩ 1 1 (P9.cells b ⟨xn,xd,xf,xl,xs,xa,xk,xo,xc,xi⟩) rfl rfl ?c1 ?c2 (by omega) ?_))
     case c1 =>
      intro jj u hj
      rw [addr_add,Nat.zero_add]
      have hd:(w3.alloc (.cells #[.string xn,.string xd,.int .i64 xf,.int .i64 xl,.int .i64 xs,.slice xa xk xo,.int .i64 xc,.int .i64 xi,.pointer (some ⟨b,0,none⟩)] 171)).heap[w3.heap.size]?=some (.cells #[.string xn,.string xd,.int .i64 xf,.int .i64 xl,.int .i64 xs,.slice xa xk xo,.int .i64 xc,.int .i64 xi,.pointer (some ⟨b,0,none⟩)] 171 (0,0)):=Zo _ _
      rw [cell_of_row _ _ jj _ _ _ hd,← hj]
      simp only [P9.cells,List.getElem?_toArray]
     case c2=>intro u hu;exact J6 b [⟨xn,xd,xf,xl,xs,xa,xk,xo,xc,xi⟩] u (by rw [Z4];exact List.mem_append_left _ hu)
     intro w8 hown hgrow
     have hGK:=hG.out.len
     have O8:Hid (w8.ownsRow (W.heap.size+1) 171 9 (.slice (some ⟨g,0,none⟩) K cap) K (Zx b (R.take k++[(⟨xn,xd,xf,xl,xs,xa,xk,xo,xc,xi⟩:P9)]++R.drop (k+1)))):=by
      rw [Hid,Xh,Xh,← Xe,← Qz]
      have e:Zx b [(⟨xn,xd,xf,xl,xs,xa,xk,xo,xc,xi⟩:P9)]=P9.cells b ⟨xn,xd,xf,xl,xs,xa,xk,xo,xc,xi⟩:=by rw [Z4];exact List.append_nil _
      rw [e,List.append_assoc];exact hown
     have hsz:wr.heap.size+1≤w3.heap.size:=by have:=Bw3.out.size;simpa using this
     have B8:Hid (Below (W.heap.size+1) (W.alloc (.cells #[.string an,.string ad,.int .i64 af,.int .i64 al,.int .i64 az,.slice aa ak ao,.int .i64 ac,.int .i64 ai,.pointer (some ⟨b,0,none⟩)] 171)) w8):=by
      have hb1:Below (W.heap.size+1) (W.alloc (.cells #[.string an,.string ad,.int .i64 af,.int .i64 al,.int .i64 az,.slice aa ak ao,.int .i64 ac,.int .i64 ai,.pointer (some ⟨b,0,none⟩)] 171)) (w3.alloc (.cells #[.string xn,.string xd,.int .i64 xf,.int .i64 xl,.int .i64 xs,.slice xa xk xo,.int .i64 xc,.int .i64 xi,.pointer (some ⟨b,0,none⟩)] 171)):=((hB.out.alloc hNr _).trans (Bw3.out.mono (by omega))).alloc (by omega) _
      refine hb1.grown hgrow (by simp;omega) (fun x hx=>?_)
      cases hx;exact hgN
     go_wp2
     refine ⟨⟨i+1,k+1,R.take k++[(⟨xn,xd,xf,xl,xs,xa,xk,xo,xc,xi⟩:P9)]++R.drop (k+1),rfl,by simp,by omega,by omega,HKE.out rfl,O8,B8⟩,by simp [intOf];omega⟩
   case true =>
    cases S
    case false =>
     clear HC9
     go_wp2_with (first
      | (go_at_call 177;refine (HI9.out _).mono ?_;rintro e w2 ⟨rfl,hb⟩;have Bw2:Hid (Below (wr.heap.size+1) (wr.alloc (.cells #[.string xn,.string xd,.int .i64 xf,.int .i64 xl,.int .i64 xs,.slice xa xk xo,.int .i64 xc,.int .i64 xi,.pointer (some ⟨b,0,none⟩)] 171)) w2):=Below.mono hb (by simp);have Ow2:Hid (w2.ownsRow (W.heap.size+1) 171 9 (.slice (some ⟨g,0,none⟩) K cap) K (Zx b R)):=Zd (hO.out.alloc _) hb;obtain ⟨r0,r1,r2,r3,r4,r5,r6,r7,r8,rL⟩:=row9 ((Bw2.out.block wr.heap.size (by omega)).trans HX9.out);clear hb HI9)
      | (go_at_call 178;refine (HS9.out _).mono ?_;rintro e w3 ⟨rfl,hb⟩;have Bw3:Hid (Below (wr.heap.size+1) (wr.alloc (.cells #[.string xn,.string xd,.int .i64 xf,.int .i64 xl,.int .i64 xs,.slice xa xk xo,.int .i64 xc,.int .i64 xi,.pointer (some ⟨b,0,none⟩)] 171)) w3):=Bw2.out.trans (hb.mono (Nat.le_trans (by simp) Bw2.out.size));have Ow3:Hid (w3.ownsRow (W.heap.size+1) 171 9 (.slice (some ⟨g,0,none⟩) K cap) K (Zx b R)):=Zd Ow2.out hb;clear r0 r1 r2 r3 r4 r5 r6 r7 r8 rL;obtain ⟨r0,r1,r2,r3,r4,r5,r6,r7,r8,rL⟩:=row9 ((Bw3.out.block wr.heap.size (by omega)).trans HX9.out);clear hb)
      | (at_builtin;refine Yu _ rfl _ _ 174 rfl (W.heap.size+1) 171 i0 9 Tryz.underlying174 hi0 hz1 g k K cap (Zx b R) rfl (Ow3.out.alloc _) ⟨w3.heap.size,0,none⟩ 1 1 (P9.cells b ⟨xn,xd,xf,xl,xs,xa,xk,xo,xc,xi⟩) rfl rfl ?c1 ?c2 (by omega) ?_))
     case c1 =>
      intro jj u hj
      rw [addr_add,Nat.zero_add]
      have hd:(w3.alloc (.cells #[.string xn,.string xd,.int .i64 xf,.int .i64 xl,.int .i64 xs,.slice xa xk xo,.int .i64 xc,.int .i64 xi,.pointer (some ⟨b,0,none⟩)] 171)).heap[w3.heap.size]?=some (.cells #[.string xn,.string xd,.int .i64 xf,.int .i64 xl,.int .i64 xs,.slice xa xk xo,.int .i64 xc,.int .i64 xi,.pointer (some ⟨b,0,none⟩)] 171 (0,0)):=Zo _ _
      rw [cell_of_row _ _ jj _ _ _ hd,← hj]
      simp only [P9.cells,List.getElem?_toArray]
     case c2=>intro u hu;exact J6 b [⟨xn,xd,xf,xl,xs,xa,xk,xo,xc,xi⟩] u (by rw [Z4];exact List.mem_append_left _ hu)
     intro w8 hown hgrow
     have hGK:=hG.out.len
     have O8:Hid (w8.ownsRow (W.heap.size+1) 171 9 (.slice (some ⟨g,0,none⟩) K cap) K (Zx b (R.take k++[(⟨xn,xd,xf,xl,xs,xa,xk,xo,xc,xi⟩:P9)]++R.drop (k+1)))):=by
      rw [Hid,Xh,Xh,← Xe,← Qz]
      have e:Zx b [(⟨xn,xd,xf,xl,xs,xa,xk,xo,xc,xi⟩:P9)]=P9.cells b ⟨xn,xd,xf,xl,xs,xa,xk,xo,xc,xi⟩:=by rw [Z4];exact List.append_nil _
      rw [e,List.append_assoc];exact hown
     have hsz:wr.heap.size+1≤w3.heap.size:=by have:=Bw3.out.size;simpa using this
     have B8:Hid (Below (W.heap.size+1) (W.alloc (.cells #[.string an,.string ad,.int .i64 af,.int .i64 al,.int .i64 az,.slice aa ak ao,.int .i64 ac,.int .i64 ai,.pointer (some ⟨b,0,none⟩)] 171)) w8):=by
      have hb1:Below (W.heap.size+1) (W.alloc (.cells #[.string an,.string ad,.int .i64 af,.int .i64 al,.int .i64 az,.slice aa ak ao,.int .i64 ac,.int .i64 ai,.pointer (some ⟨b,0,none⟩)] 171)) (w3.alloc (.cells #[.string xn,.string xd,.int .i64 xf,.int .i64 xl,.int .i64 xs,.slice xa xk xo,.int .i64 xc,.int .i64 xi,.pointer (some ⟨b,0,none⟩)] 171)):=((hB.out.alloc hNr _).trans (Bw3.out.mono (by omega))).alloc (by omega) _
      refine hb1.grown hgrow (by simp;omega) (fun x hx=>?_)
      cases hx;exact hgN
     go_wp2
     refine ⟨⟨i+1,k+1,R.take k++[(⟨xn,xd,xf,xl,xs,xa,xk,xo,xc,xi⟩:P9)]++R.drop (k+1),rfl,by simp,by omega,by omega,HKE.out rfl,O8,B8⟩,by simp [intOf];omega⟩
    case true =>
     cases Q
     case false =>
      go_wp2_with (first
       | (go_at_call 177;refine (HI9.out _).mono ?_;rintro e w2 ⟨rfl,hb⟩;have Bw2:Hid (Below (wr.heap.size+1) (wr.alloc (.cells #[.string xn,.string xd,.int .i64 xf,.int .i64 xl,.int .i64 xs,.slice xa xk xo,.int .i64 xc,.int .i64 xi,.pointer (some ⟨b,0,none⟩)] 171)) w2):=Below.mono hb (by simp);have Ow2:Hid (w2.ownsRow (W.heap.size+1) 171 9 (.slice (some ⟨g,0,none⟩) K cap) K (Zx b R)):=Zd (hO.out.alloc _) hb;obtain ⟨r0,r1,r2,r3,r4,r5,r6,r7,r8,rL⟩:=row9 ((Bw2.out.block wr.heap.size (by omega)).trans HX9.out);clear hb HI9)
       | (go_at_call 178;refine (HS9.out _).mono ?_;rintro e w3 ⟨rfl,hb⟩;have Bw3:Hid (Below (wr.heap.size+1) (wr.alloc (.cells #[.string xn,.string xd,.int .i64 xf,.int .i64 xl,.int .i64 xs,.slice xa xk xo,.int .i64 xc,.int .i64 xi,.pointer (some ⟨b,0,none⟩)] 171)) w3):=Bw2.out.trans (hb.mono (Nat.le_trans (by simp) Bw2.out.size));have Ow3:Hid (w3.ownsRow (W.heap.size+1) 171 9 (.slice (some ⟨g,0,none⟩) K cap) K (Zx b R)):=Zd Ow2.out hb;clear r0 r1 r2 r3 r4 r5 r6 r7 r8 rL;obtain ⟨r0,r1,r2,r3,r4,r5,r6,r7,r8,rL⟩:=row9 ((Bw3.out.block wr.heap.size (by omega)).trans HX9.out);clear hb)
       | (go_at_call 179;refine (HC9.out _ (Below.trans ((Below.refl _ _).alloc (Nat.le_refl _) _) (Bw3.out.mono (by omega)))).mono ?_;rintro e w4 ⟨rfl,hb⟩;have Bw4:Hid (Below (wr.heap.size+1) (wr.alloc (.cells #[.string xn,.string xd,.int .i64 xf,.int .i64 xl,.int .i64 xs,.slice xa xk xo,.int .i64 xc,.int .i64 xi,.pointer (some ⟨b,0,none⟩)] 171)) w4):=Bw3.out.trans (hb.mono (Nat.le_trans (by simp) Bw3.out.size));have Ow4:Hid (w4.ownsRow (W.heap.size+1) 171 9 (.slice (some ⟨g,0,none⟩) K cap) K (Zx b R)):=Zd Ow3.out hb;clear r0 r1 r2 r3 r4 r5 r6 r7 r8 rL;obtain ⟨r0,r1,r2,r3,r4,r5,r6,r7,r8,rL⟩:=row9 ((Bw4.out.block wr.heap.size (by omega)).trans HX9.out);clear hb))
      have hsz:wr.heap.size+1≤w4.heap.size:=by have:=Bw4.out.size;simpa using this
      have B8:Hid (Below (W.heap.size+1) (W.alloc (.cells #[.string an,.string ad,.int .i64 af,.int .i64 al,.int .i64 az,.slice aa ak ao,.int .i64 ac,.int .i64 ai,.pointer (some ⟨b,0,none⟩)] 171)) w4):=(hB.out.alloc hNr _).trans (Bw4.out.mono (by omega))
      refine ⟨⟨i+1,k,R,rfl,by simp,by omega,by omega,HSK.out rfl,Ow4,B8⟩,by simp [intOf];omega⟩
     case true =>
      go_wp2_with (first
       | (go_at_call 177;refine (HI9.out _).mono ?_;rintro e w2 ⟨rfl,hb⟩;have Bw2:Hid (Below (wr.heap.size+1) (wr.alloc (.cells #[.string xn,.string xd,.int .i64 xf,.int .i64 xl,.int .i64 xs,.slice xa xk xo,.int .i64 xc,.int .i64 xi,.pointer (some ⟨b,0,none⟩)] 171)) w2):=Below.mono hb (by simp);have Ow2:Hid (w2.ownsRow (W.heap.size+1) 171 9 (.slice (some ⟨g,0,none⟩) K cap) K (Zx b R)):=Zd (hO.out.alloc _) hb;obtain ⟨r0,r1,r2,r3,r4,r5,r6,r7,r8,rL⟩:=row9 ((Bw2.out.block wr.heap.size (by omega)).trans HX9.out);clear hb HI9)
       | (go_at_call 178;refine (HS9.out _).mono ?_;rintro e w3 ⟨rfl,hb⟩;have Bw3:Hid (Below (wr.heap.size+1) (wr.alloc (.cells #[.string xn,.string xd,.int .i64 xf,.int .i64 xl,.int .i64 xs,.slice xa xk xo,.int .i64 xc,.int .i64 xi,.pointer (some ⟨b,0,none⟩)] 171)) w3):=Bw2.out.trans (hb.mono (Nat.le_trans (by simp) Bw2.out.size));have Ow3:Hid (w3.ownsRow (W.heap.size+1) 171 9 (.slice (some ⟨g,0,none⟩) K cap) K (Zx b R)):=Zd Ow2.out hb;clear r0 r1 r2 r3 r4 r5 r6 r7 r8 rL;obtain ⟨r0,r1,r2,r3,r4,r5,r6,r7,r8,rL⟩:=row9 ((Bw3.out.block wr.heap.size (by omega)).trans HX9.out);clear hb)
       | (go_at_call 179;refine (HC9.out _ (Below.trans ((Below.refl _ _).alloc (Nat.le_refl _) _) (Bw3.out.mono (by omega)))).mono ?_;rintro e w4 ⟨rfl,hb⟩;have Bw4:Hid (Below (wr.heap.size+1) (wr.alloc (.cells #[.string xn,.string xd,.int .i64 xf,.int .i64 xl,.int .i64 xs,.slice xa xk xo,.int .i64 xc,.int .i64 xi,.pointer (some ⟨b,0,none⟩)] 171)) w4):=Bw3.out.trans (hb.mono (Nat.le_trans (by simp) Bw3.out.size));have Ow4:Hid (w4.ownsRow (W.heap.size+1) 171 9 (.slice (some ⟨g,0,none⟩) K cap) K (Zx b R)):=Zd Ow3.out hb;clear r0 r1 r2 r3 r4 r5 r6 r7 r8 rL;obtain ⟨r0,r1,r2,r3,r4,r5,r6,r7,r8,rL⟩:=row9 ((Bw4.out.block wr.heap.size (by omega)).trans HX9.out);clear hb)
       | (at_builtin;refine Yu _ rfl _ _ 174 rfl (W.heap.size+1) 171 i0 9 Tryz.underlying174 hi0 hz1 g k K cap (Zx b R) rfl (Ow4.out.alloc _) ⟨w4.heap.size,0,none⟩ 1 1 (P9.cells b ⟨xn,xd,xf,xl,xs,xa,xk,xo,xc,xi⟩) rfl rfl ?c1 ?c2 (by omega) ?_))
      case c1 =>
       intro jj u hj
       rw [addr_add,Nat.zero_add]
       have hd:(w4.alloc (.cells #[.string xn,.string xd,.int .i64 xf,.int .i64 xl,.int .i64 xs,.slice xa xk xo,.int .i64 xc,.int .i64 xi,.pointer (some ⟨b,0,none⟩)] 171)).heap[w4.heap.size]?=some (.cells #[.string xn,.string xd,.int .i64 xf,.int .i64 xl,.int .i64 xs,.slice xa xk xo,.int .i64 xc,.int .i64 xi,.pointer (some ⟨b,0,none⟩)] 171 (0,0)):=Zo _ _
       rw [cell_of_row _ _ jj _ _ _ hd,← hj]
       simp only [P9.cells,List.getElem?_toArray]
      case c2=>intro u hu;exact J6 b [⟨xn,xd,xf,xl,xs,xa,xk,xo,xc,xi⟩] u (by rw [Z4];exact List.mem_append_left _ hu)
      intro w8 hown hgrow
      have hGK:=hG.out.len
      have O8:Hid (w8.ownsRow (W.heap.size+1) 171 9 (.slice (some ⟨g,0,none⟩) K cap) K (Zx b (R.take k++[(⟨xn,xd,xf,xl,xs,xa,xk,xo,xc,xi⟩:P9)]++R.drop (k+1)))):=by
       rw [Hid,Xh,Xh,← Xe,← Qz]
       have e:Zx b [(⟨xn,xd,xf,xl,xs,xa,xk,xo,xc,xi⟩:P9)]=P9.cells b ⟨xn,xd,xf,xl,xs,xa,xk,xo,xc,xi⟩:=by rw [Z4];exact List.append_nil _
       rw [e,List.append_assoc];exact hown
      have hsz:wr.heap.size+1≤w4.heap.size:=by have:=Bw4.out.size;simpa using this
      have B8:Hid (Below (W.heap.size+1) (W.alloc (.cells #[.string an,.string ad,.int .i64 af,.int .i64 al,.int .i64 az,.slice aa ak ao,.int .i64 ac,.int .i64 ai,.pointer (some ⟨b,0,none⟩)] 171)) w8):=by
       have hb1:Below (W.heap.size+1) (W.alloc (.cells #[.string an,.string ad,.int .i64 af,.int .i64 al,.int .i64 az,.slice aa ak ao,.int .i64 ac,.int .i64 ai,.pointer (some ⟨b,0,none⟩)] 171)) (w4.alloc (.cells #[.string xn,.string xd,.int .i64 xf,.int .i64 xl,.int .i64 xs,.slice xa xk xo,.int .i64 xc,.int .i64 xi,.pointer (some ⟨b,0,none⟩)] 171)):=((hB.out.alloc hNr _).trans (Bw4.out.mono (by omega))).alloc (by omega) _
       refine hb1.grown hgrow (by simp;omega) (fun x hx=>?_)
       cases hx;exact hgN
      go_wp2
      refine ⟨⟨i+1,k+1,R.take k++[(⟨xn,xd,xf,xl,xs,xa,xk,xo,xc,xi⟩:P9)]++R.drop (k+1),rfl,by simp,by omega,by omega,HKE.out rfl,O8,B8⟩,by simp [intOf];omega⟩
  ·have e:i=K:=by omega
   subst e
   have HE:Hid ((R.take k).map P9.id=gthL ps (ac,ai) I):=by
    rw [Hid,hG.out.pre,List.take_of_length_le (by rw [HK.out];exact Nat.le_refl _),ID1.out]
   have hRK:R.length=i:=hG.out.len.trans HK.out
   have hkl:(R.take k).length=k:=by rw [List.length_take];omega
   have O9:Hid (wr.ownsRow W.heap.size 171 9 (.slice (some ⟨g,0,none⟩) k cap) k (Zx b (R.take k))):=by
    have:=Zkc hO.out hki
    rw [Xe] at this
    exact Go.Joins.ownsRow_le this (by omega)
   have OK9:Hid (∀ y∈R.take k,OkP ps y):=fun y hy=>hG.out.ok y (List.mem_of_mem_take hy)
   have B9:Hid (Bw W wr):=((Below.refl _ W).alloc (Nat.le_refl _) _).trans (hB.out.mono (by omega))
   go_wp2
   refine bodyPost_ret (results_tmp rfl _ _ _) rfl ⟨R.take k,g,cap,(by rw [hkl];rfl),OK9.out,HE.out,by rw [hkl];exact O9.out,B9.out⟩
end Go.Proofs.YtmafkabjjibcbaaGreat
