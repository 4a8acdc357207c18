import Derived.Test.YtfoldbhlmmmpeaaGreatRsE
import Derived.Test.YtfoldbhlmmmpeaaGreatOwnL
import Derived.Test.YtfoldbhlmmmpeaaGreatRsC
set_option maxRecDepth 100000
namespace Go.Proofs.YtfoldbhlmmmpeaaGreat
open Go.RowKit Go.Maps
def moP (ps:List Plc) (d c i n:Int):Bool×Int:=match plcI ps d,plcI ps n,plcI ps c,methI ps c i with
  | some p,some _,some q,some m=>(mOpen ps d c n m.fl (samePk q p),0)
  | _,_,_,_=>(false,3)
theorem moI_eq (ps:List Plc) (d c i n:Int):moI ps d c i n=.tuple #[.bool (moP ps d c i n).1,.int .i64 (moP ps d c i n).2]:=by
  unfold moI moP
  cases plcI ps d <;> cases plcI ps n <;> cases plcI ps c <;> cases methI ps c i <;> rfl
def metS (ps:List Plc) (d:Int) (y:Bool) (c n ds:ByteArray):(Int×Int)×Int :=
  if (clsR ps d c.data.toList).2=0 then
    (if (hldR ps (clsR ps d c.data.toList).1.1 (clsR ps d c.data.toList).1.2).2=0 then
      (if (lbyR ps y n ds (hldR ps (clsR ps d c.data.toList).1.1 (clsR ps d c.data.toList).1.2).1).2=0 then
        (if shuI (moP ps d (lbyR ps y n ds (hldR ps (clsR ps d c.data.toList).1.1 (clsR ps d c.data.toList).1.2).1).1.1 (lbyR ps y n ds (hldR ps (clsR ps d c.data.toList).1.1 (clsR ps d c.data.toList).1.2).1).1.2 (hldR ps (clsR ps d c.data.toList).1.1 (clsR ps d c.data.toList).1.2).1).1 (moP ps d (lbyR ps y n ds (hldR ps (clsR ps d c.data.toList).1.1 (clsR ps d c.data.toList).1.2).1).1.1 (lbyR ps y n ds (hldR ps (clsR ps d c.data.toList).1.1 (clsR ps d c.data.toList).1.2).1).1.2 (hldR ps (clsR ps d c.data.toList).1.1 (clsR ps d c.data.toList).1.2).1).2=0 then ((lbyR ps y n ds (hldR ps (clsR ps d c.data.toList).1.1 (clsR ps d c.data.toList).1.2).1).1,0)
          else ((0,0),shuI (moP ps d (lbyR ps y n ds (hldR ps (clsR ps d c.data.toList).1.1 (clsR ps d c.data.toList).1.2).1).1.1 (lbyR ps y n ds (hldR ps (clsR ps d c.data.toList).1.1 (clsR ps d c.data.toList).1.2).1).1.2 (hldR ps (clsR ps d c.data.toList).1.1 (clsR ps d c.data.toList).1.2).1).1 (moP ps d (lbyR ps y n ds (hldR ps (clsR ps d c.data.toList).1.1 (clsR ps d c.data.toList).1.2).1).1.1 (lbyR ps y n ds (hldR ps (clsR ps d c.data.toList).1.1 (clsR ps d c.data.toList).1.2).1).1.2 (hldR ps (clsR ps d c.data.toList).1.1 (clsR ps d c.data.toList).1.2).1).2))
        else ((0,0),(lbyR ps y n ds (hldR ps (clsR ps d c.data.toList).1.1 (clsR ps d c.data.toList).1.2).1).2))
      else ((0,0),(hldR ps (clsR ps d c.data.toList).1.1 (clsR ps d c.data.toList).1.2).2))
    else ((0,0),(clsR ps d c.data.toList).2)
def metR (ps:List Plc) (d:Int) (y:Bool) (c n ds:ByteArray):(Int×Int)×Int :=
  if rckI ps d=0 then (if rckE c.data.toList n.data.toList ds.data.toList=0 then metS ps d y c n ds else ((0,0),1)) else ((0,0),rckI ps d)
theorem cls_size (ps:List Plc) (d:Int) (l:List UInt8):(clsR ps d l).1.2.size≤maxLen:=by
  unfold clsR
  split
  · split
    · rename_i h0
      split
      · have hl:=(prf_len2 _ h0).1
        have:(tyS l).size=(prfT l).2.length:=by simp [tyS,ByteArray.size]
        show (tyS l).size≤_
        rw [this];unfold maxLen;omega
      · exact Nat.zero_le _
    · exact Nat.zero_le _
  · exact Nat.zero_le _
set_option maxHeartbeats 4000000 in
theorem met_c {b:Nat} {ps:List Plc} {W:World} (h:WAt b ps W) (hi:WI ps) (d:Int) (y:Bool) (c n ds:ByteArray) (hc:c.size≤maxLen) (hn:n.size≤maxLen) (hd:ds.size≤maxLen):Calls Tryz.prog 31 #[.pointer (some ⟨b,0,none⟩),.int .i64 d,.agg #[.bool y,.string c,.string n,.string ds]] W fun e w'=>e=.returned (idE (metR ps d y c n ds))∧Below W.heap.size W w':=by
  have HC:Hid (∀ w,Below W.heap.size W w→Calls Tryz.prog 72 #[.pointer (some ⟨b,0,none⟩),.int .i64 d] w fun e w'=>e=.returned (.int .i64 (rckI ps d))∧Below w.heap.size w w'):=fun w hb=>(rck_c (h.below hb) d).mono fun e w' zz=>⟨zz.1,by rw [zz.2];exact Below.refl _ _⟩
  have HR:Hid (∀ w:World,Calls Tryz.prog 73 #[.agg #[.bool y,.string c,.string n,.string ds]] w fun e w'=>e=.returned (.int .i64 (rckE c.data.toList n.data.toList ds.data.toList))∧Below w.heap.size w w'):=refCheck_any y c n ds hc hn hd
  have HK:Hid (∀ w,Below W.heap.size W w→Calls Tryz.prog 49 #[.pointer (some ⟨b,0,none⟩),.int .i64 d,.string c] w fun e w'=>e=.returned (tyE (clsR ps d c.data.toList))∧Below w.heap.size w w'):=fun w hb=>cls_c (h.below hb) hi d c hc
  have hsz:=cls_size ps d c.data.toList
  have HS:Hid (∀ o x (w:World),Calls Tryz.prog 75 #[.bool o,.int .i64 x] w fun e w'=>e=.returned (.int .i64 (shuI o x))∧w'=w):=shut_c
  unfold metR metS
  generalize clsR ps d c.data.toList=K at *
  obtain ⟨⟨t1,t2⟩,t3⟩:=K
  simp only [tyE] at HK hsz ⊢
  have HH:Hid (∀ w,Below W.heap.size W w→Calls Tryz.prog 48 #[.pointer (some ⟨b,0,none⟩),.agg #[.int .i64 t1,.string t2]] w fun e w'=>e=.returned (.tuple #[.int .i64 (hldR ps t1 t2).1,.int .i64 (hldR ps t1 t2).2])∧Below w.heap.size w w'):=fun w hb=>hld_c (h.below hb) t1 t2 hsz
  generalize hldR ps t1 t2=H at *
  obtain ⟨h1,h2⟩:=H
  simp only at HH ⊢
  have HB:Hid (∀ w,Below W.heap.size W w→Calls Tryz.prog 74 #[.pointer (some ⟨b,0,none⟩),.int .i64 h1,.agg #[.bool y,.string c,.string n,.string ds]] w fun e w'=>e=.returned (idE (lbyR ps y n ds h1))∧Below w.heap.size w w'):=fun w hb=>lby_c (h.below hb) hi h1 y c n ds
  generalize lbyR ps y n ds h1=M at *
  obtain ⟨⟨m1,m2⟩,m3⟩:=M
  simp only [idE] at HB ⊢
  have HO:Hid (∀ w,Below W.heap.size W w→Calls Tryz.prog 76 #[.pointer (some ⟨b,0,none⟩),.int .i64 d,.agg #[.int .i64 m1,.int .i64 m2],.int .i64 h1] w fun e w'=>e=.returned (.tuple #[.bool (moP ps d m1 m2 h1).1,.int .i64 (moP ps d m1 m2 h1).2])∧Below w.heap.size w w'):=fun w hb=>(methodOpen_c (h.below hb) hi d m1 m2 h1).mono fun e w' zz=>⟨by rw [zz.1,moI_eq],zz.2⟩
  generalize moP ps d m1 m2 h1=O at *
  obtain ⟨o1,o2⟩:=O
  simp only at HO ⊢
  replace HS:Hid (∀ (w:World),Calls Tryz.prog 75 #[.bool o1,.int .i64 o2] w fun e w'=>e=.returned (.int .i64 (shuI o1 o2))∧w'=w):=HS.out o1 o2
  generalize shuI o1 o2=sh at *
  generalize rckI ps d=ck at *
  generalize rckE c.data.toList n.data.toList ds.data.toList=rc at *
  clear h hi hc hn hd hsz
  by_cases h0:ck=0
  · subst h0
    rw [if_pos rfl]
    by_cases h3:rc=0
    · subst h3
      rw [if_pos rfl]
      by_cases h4:t3=0
      · subst h4
        rw [if_pos rfl]
        by_cases h5:h2=0
        · subst h5
          rw [if_pos rfl]
          by_cases h6:m3=0
          · subst h6
            rw [if_pos rfl]
            by_cases h7:sh=0
            · subst h7
              rw [if_pos rfl]
              go_enter Tryz.func31,Tryz.ntmps31
              go_wp2_with (first
                | (go_at_call 72;refine (HC.out _ (by repeat (first|exact Below.refl _ _|refine Below.setCell ?_ (by simp;try omega) _|refine Below.alloc ?_ (by simp;try omega) _|refine Below.drew ?_))).mono ?_;rintro e w1 ⟨rfl,hb⟩;have rd:w1.heap[W.heap.size]?=some (.cells #[.bool y,.string c,.string n,.string ds] 53 (0,0)):=(hb.block (W.heap.size) (by first|omega|(simp;try omega))).trans (by first|exact rB.out|exact hkeep rB.out|exact hkeep (hkeep rB.out)|exact halloc2 _ _ rfl|exact heap_alloc2_old _ _ _|exact heap_alloc2_new _ _ _|exact hkeep (halloc2 _ _ rfl)|exact hkeep (hkeep (halloc2 _ _ rfl))|exact halloc2 _ _ (by simp;done));(try clear rB rL rN r0 r1 r2 r3 rf0 rf1 rf2 rf3);have rB:Hid (w1.heap[W.heap.size]?=some (.cells #[.bool y,.string c,.string n,.string ds] 53 (0,0))):=rd;have r0:w1.cell? ⟨W.heap.size,0,none⟩=some (.bool y):=(cell_of_row w1 (W.heap.size) 0 _ _ _ rd).trans rfl;have rf0:=frozen_of_row w1 (W.heap.size) 0 _ _ rd;have r1:w1.cell? ⟨W.heap.size,1,none⟩=some (.string c):=(cell_of_row w1 (W.heap.size) 1 _ _ _ rd).trans rfl;have rf1:=frozen_of_row w1 (W.heap.size) 1 _ _ rd;have r2:w1.cell? ⟨W.heap.size,2,none⟩=some (.string n):=(cell_of_row w1 (W.heap.size) 2 _ _ _ rd).trans rfl;have rf2:=frozen_of_row w1 (W.heap.size) 2 _ _ rd;have r3:w1.cell? ⟨W.heap.size,3,none⟩=some (.string ds):=(cell_of_row w1 (W.heap.size) 3 _ _ _ rd).trans rfl;have rf3:=frozen_of_row w1 (W.heap.size) 3 _ _ rd;have rL:W.heap.size<w1.heap.size:=(Array.getElem?_eq_some_iff.1 rd).1;have rN:¬ W.heap.size=w1.heap.size:=(by omega);clear rd;have zd:w1.heap[W.heap.size+1]?=some (.cells #[.int .i64 0,.int .i64 0] 24 (0,0)):=(hb.block (W.heap.size+1) (by first|omega|(simp;try omega))).trans (by first|exact zB.out|exact hkeep zB.out|exact hkeep (hkeep zB.out)|exact halloc2 _ _ rfl|exact heap_alloc2_old _ _ _|exact heap_alloc2_new _ _ _|exact hkeep (halloc2 _ _ rfl)|exact hkeep (hkeep (halloc2 _ _ rfl))|exact halloc2 _ _ (by simp;done));(try clear zB zL zN z0 z1 zf0 zf1);have zB:Hid (w1.heap[W.heap.size+1]?=some (.cells #[.int .i64 0,.int .i64 0] 24 (0,0))):=zd;have z0:w1.cell? ⟨W.heap.size+1,0,none⟩=some (.int .i64 0):=(cell_of_row w1 (W.heap.size+1) 0 _ _ _ zd).trans rfl;have zf0:=frozen_of_row w1 (W.heap.size+1) 0 _ _ zd;have z1:w1.cell? ⟨W.heap.size+1,1,none⟩=some (.int .i64 0):=(cell_of_row w1 (W.heap.size+1) 1 _ _ _ zd).trans rfl;have zf1:=frozen_of_row w1 (W.heap.size+1) 1 _ _ zd;have zL:W.heap.size+1<w1.heap.size:=(Array.getElem?_eq_some_iff.1 zd).1;have zN:¬ W.heap.size+1=w1.heap.size:=(by omega);clear zd;have B1:Hid (Below W.heap.size W w1):=bstep (by repeat (first|exact Below.refl _ _|refine Below.setCell ?_ (by simp;try omega) _|refine Below.alloc ?_ (by simp;try omega) _|refine Below.drew ?_)) hb;clear hb HC)
                | (go_at_call 73;refine (HR.out _).mono ?_;rintro e w2 ⟨rfl,hb⟩;have rd:w2.heap[W.heap.size]?=some (.cells #[.bool y,.string c,.string n,.string ds] 53 (0,0)):=(hb.block (W.heap.size) (by first|omega|(simp;try omega))).trans (by first|exact rB.out|exact hkeep rB.out|exact hkeep (hkeep rB.out)|exact halloc2 _ _ rfl|exact heap_alloc2_old _ _ _|exact heap_alloc2_new _ _ _|exact hkeep (halloc2 _ _ rfl)|exact hkeep (hkeep (halloc2 _ _ rfl))|exact halloc2 _ _ (by simp;done));(try clear rB rL rN r0 r1 r2 r3 rf0 rf1 rf2 rf3);have rB:Hid (w2.heap[W.heap.size]?=some (.cells #[.bool y,.string c,.string n,.string ds] 53 (0,0))):=rd;have r0:w2.cell? ⟨W.heap.size,0,none⟩=some (.bool y):=(cell_of_row w2 (W.heap.size) 0 _ _ _ rd).trans rfl;have rf0:=frozen_of_row w2 (W.heap.size) 0 _ _ rd;have r1:w2.cell? ⟨W.heap.size,1,none⟩=some (.string c):=(cell_of_row w2 (W.heap.size) 1 _ _ _ rd).trans rfl;have rf1:=frozen_of_row w2 (W.heap.size) 1 _ _ rd;have r2:w2.cell? ⟨W.heap.size,2,none⟩=some (.string n):=(cell_of_row w2 (W.heap.size) 2 _ _ _ rd).trans rfl;have rf2:=frozen_of_row w2 (W.heap.size) 2 _ _ rd;have r3:w2.cell? ⟨W.heap.size,3,none⟩=some (.string ds):=(cell_of_row w2 (W.heap.size) 3 _ _ _ rd).trans rfl;have rf3:=frozen_of_row w2 (W.heap.size) 3 _ _ rd;have rL:W.heap.size<w2.heap.size:=(Array.getElem?_eq_some_iff.1 rd).1;have rN:¬ W.heap.size=w2.heap.size:=(by omega);clear rd;have zd:w2.heap[W.heap.size+1]?=some (.cells #[.int .i64 0,.int .i64 0] 24 (0,0)):=(hb.block (W.heap.size+1) (by first|omega|(simp;try omega))).trans (by first|exact zB.out|exact hkeep zB.out|exact hkeep (hkeep zB.out)|exact halloc2 _ _ rfl|exact heap_alloc2_old _ _ _|exact heap_alloc2_new _ _ _|exact hkeep (halloc2 _ _ rfl)|exact hkeep (hkeep (halloc2 _ _ rfl))|exact halloc2 _ _ (by simp;done));(try clear zB zL zN z0 z1 zf0 zf1);have zB:Hid (w2.heap[W.heap.size+1]?=some (.cells #[.int .i64 0,.int .i64 0] 24 (0,0))):=zd;have z0:w2.cell? ⟨W.heap.size+1,0,none⟩=some (.int .i64 0):=(cell_of_row w2 (W.heap.size+1) 0 _ _ _ zd).trans rfl;have zf0:=frozen_of_row w2 (W.heap.size+1) 0 _ _ zd;have z1:w2.cell? ⟨W.heap.size+1,1,none⟩=some (.int .i64 0):=(cell_of_row w2 (W.heap.size+1) 1 _ _ _ zd).trans rfl;have zf1:=frozen_of_row w2 (W.heap.size+1) 1 _ _ zd;have zL:W.heap.size+1<w2.heap.size:=(Array.getElem?_eq_some_iff.1 zd).1;have zN:¬ W.heap.size+1=w2.heap.size:=(by omega);clear zd;have B2:Hid (Below W.heap.size W w2):=bstep B1.out hb;clear hb HR)
                | (go_at_call 49;refine (HK.out _ B2.out).mono ?_;rintro e w3 ⟨rfl,hb⟩;have rd:w3.heap[W.heap.size]?=some (.cells #[.bool y,.string c,.string n,.string ds] 53 (0,0)):=(hb.block (W.heap.size) (by first|omega|(simp;try omega))).trans (by first|exact rB.out|exact hkeep rB.out|exact hkeep (hkeep rB.out)|exact halloc2 _ _ rfl|exact heap_alloc2_old _ _ _|exact heap_alloc2_new _ _ _|exact hkeep (halloc2 _ _ rfl)|exact hkeep (hkeep (halloc2 _ _ rfl))|exact halloc2 _ _ (by simp;done));(try clear rB rL rN r0 r1 r2 r3 rf0 rf1 rf2 rf3);have rB:Hid (w3.heap[W.heap.size]?=some (.cells #[.bool y,.string c,.string n,.string ds] 53 (0,0))):=rd;have r0:w3.cell? ⟨W.heap.size,0,none⟩=some (.bool y):=(cell_of_row w3 (W.heap.size) 0 _ _ _ rd).trans rfl;have rf0:=frozen_of_row w3 (W.heap.size) 0 _ _ rd;have r1:w3.cell? ⟨W.heap.size,1,none⟩=some (.string c):=(cell_of_row w3 (W.heap.size) 1 _ _ _ rd).trans rfl;have rf1:=frozen_of_row w3 (W.heap.size) 1 _ _ rd;have r2:w3.cell? ⟨W.heap.size,2,none⟩=some (.string n):=(cell_of_row w3 (W.heap.size) 2 _ _ _ rd).trans rfl;have rf2:=frozen_of_row w3 (W.heap.size) 2 _ _ rd;have r3:w3.cell? ⟨W.heap.size,3,none⟩=some (.string ds):=(cell_of_row w3 (W.heap.size) 3 _ _ _ rd).trans rfl;have rf3:=frozen_of_row w3 (W.heap.size) 3 _ _ rd;have rL:W.heap.size<w3.heap.size:=(Array.getElem?_eq_some_iff.1 rd).1;have rN:¬ W.heap.size=w3.heap.size:=(by omega);clear rd;have zd:w3.heap[W.heap.size+1]?=some (.cells #[.int .i64 0,.int .i64 0] 24 (0,0)):=(hb.block (W.heap.size+1) (by first|omega|(simp;try omega))).trans (by first|exact zB.out|exact hkeep zB.out|exact hkeep (hkeep zB.out)|exact halloc2 _ _ rfl|exact heap_alloc2_old _ _ _|exact heap_alloc2_new _ _ _|exact hkeep (halloc2 _ _ rfl)|exact hkeep (hkeep (halloc2 _ _ rfl))|exact halloc2 _ _ (by simp;done));(try clear zB zL zN z0 z1 zf0 zf1);have zB:Hid (w3.heap[W.heap.size+1]?=some (.cells #[.int .i64 0,.int .i64 0] 24 (0,0))):=zd;have z0:w3.cell? ⟨W.heap.size+1,0,none⟩=some (.int .i64 0):=(cell_of_row w3 (W.heap.size+1) 0 _ _ _ zd).trans rfl;have zf0:=frozen_of_row w3 (W.heap.size+1) 0 _ _ zd;have z1:w3.cell? ⟨W.heap.size+1,1,none⟩=some (.int .i64 0):=(cell_of_row w3 (W.heap.size+1) 1 _ _ _ zd).trans rfl;have zf1:=frozen_of_row w3 (W.heap.size+1) 1 _ _ zd;have zL:W.heap.size+1<w3.heap.size:=(Array.getElem?_eq_some_iff.1 zd).1;have zN:¬ W.heap.size+1=w3.heap.size:=(by omega);clear zd;have B3:Hid (Below W.heap.size W w3):=bstep B2.out hb;clear hb HK)
                | (go_at_call 48;refine (HH.out _ (B3.out.alloc B3.out.size _)).mono ?_;rintro e w4 ⟨rfl,hb⟩;have rd:w4.heap[W.heap.size]?=some (.cells #[.bool y,.string c,.string n,.string ds] 53 (0,0)):=(hb.block (W.heap.size) (by first|omega|(simp;try omega))).trans (by first|exact rB.out|exact hkeep rB.out|exact hkeep (hkeep rB.out)|exact halloc2 _ _ rfl|exact heap_alloc2_old _ _ _|exact heap_alloc2_new _ _ _|exact hkeep (halloc2 _ _ rfl)|exact hkeep (hkeep (halloc2 _ _ rfl))|exact halloc2 _ _ (by simp;done));(try clear rB rL rN r0 r1 r2 r3 rf0 rf1 rf2 rf3);have rB:Hid (w4.heap[W.heap.size]?=some (.cells #[.bool y,.string c,.string n,.string ds] 53 (0,0))):=rd;have r0:w4.cell? ⟨W.heap.size,0,none⟩=some (.bool y):=(cell_of_row w4 (W.heap.size) 0 _ _ _ rd).trans rfl;have rf0:=frozen_of_row w4 (W.heap.size) 0 _ _ rd;have r1:w4.cell? ⟨W.heap.size,1,none⟩=some (.string c):=(cell_of_row w4 (W.heap.size) 1 _ _ _ rd).trans rfl;have rf1:=frozen_of_row w4 (W.heap.size) 1 _ _ rd;have r2:w4.cell? ⟨W.heap.size,2,none⟩=some (.string n):=(cell_of_row w4 (W.heap.size) 2 _ _ _ rd).trans rfl;have rf2:=frozen_of_row w4 (W.heap.size) 2 _ _ rd;have r3:w4.cell? ⟨W.heap.size,3,none⟩=some (.string ds):=(cell_of_row w4 (W.heap.size) 3 _ _ _ rd).trans rfl;have rf3:=frozen_of_row w4 (W.heap.size) 3 _ _ rd;have rL:W.heap.size<w4.heap.size:=(Array.getElem?_eq_some_iff.1 rd).1;have rN:¬ W.heap.size=w4.heap.size:=(by omega);clear rd;have zd:w4.heap[W.heap.size+1]?=some (.cells #[.int .i64 0,.int .i64 0] 24 (0,0)):=(hb.block (W.heap.size+1) (by first|omega|(simp;try omega))).trans (by first|exact zB.out|exact hkeep zB.out|exact hkeep (hkeep zB.out)|exact halloc2 _ _ rfl|exact heap_alloc2_old _ _ _|exact heap_alloc2_new _ _ _|exact hkeep (halloc2 _ _ rfl)|exact hkeep (hkeep (halloc2 _ _ rfl))|exact halloc2 _ _ (by simp;done));(try clear zB zL zN z0 z1 zf0 zf1);have zB:Hid (w4.heap[W.heap.size+1]?=some (.cells #[.int .i64 0,.int .i64 0] 24 (0,0))):=zd;have z0:w4.cell? ⟨W.heap.size+1,0,none⟩=some (.int .i64 0):=(cell_of_row w4 (W.heap.size+1) 0 _ _ _ zd).trans rfl;have zf0:=frozen_of_row w4 (W.heap.size+1) 0 _ _ zd;have z1:w4.cell? ⟨W.heap.size+1,1,none⟩=some (.int .i64 0):=(cell_of_row w4 (W.heap.size+1) 1 _ _ _ zd).trans rfl;have zf1:=frozen_of_row w4 (W.heap.size+1) 1 _ _ zd;have zL:W.heap.size+1<w4.heap.size:=(Array.getElem?_eq_some_iff.1 zd).1;have zN:¬ W.heap.size+1=w4.heap.size:=(by omega);clear zd;have B4:Hid (Below W.heap.size W w4):=bstep (B3.out.alloc B3.out.size _) hb;clear hb HH)
                | (go_at_call 74;refine (HB.out _ B4.out).mono ?_;rintro e w5 ⟨rfl,hb⟩;have zd:w5.heap[W.heap.size+1]?=some (.cells #[.int .i64 0,.int .i64 0] 24 (0,0)):=(hb.block (W.heap.size+1) (by first|omega|(simp;try omega))).trans (by first|exact zB.out|exact hkeep zB.out|exact hkeep (hkeep zB.out)|exact halloc2 _ _ rfl|exact heap_alloc2_old _ _ _|exact heap_alloc2_new _ _ _|exact hkeep (halloc2 _ _ rfl)|exact hkeep (hkeep (halloc2 _ _ rfl))|exact halloc2 _ _ (by simp;done));(try clear zB zL zN z0 z1 zf0 zf1);have zB:Hid (w5.heap[W.heap.size+1]?=some (.cells #[.int .i64 0,.int .i64 0] 24 (0,0))):=zd;have z0:w5.cell? ⟨W.heap.size+1,0,none⟩=some (.int .i64 0):=(cell_of_row w5 (W.heap.size+1) 0 _ _ _ zd).trans rfl;have zf0:=frozen_of_row w5 (W.heap.size+1) 0 _ _ zd;have z1:w5.cell? ⟨W.heap.size+1,1,none⟩=some (.int .i64 0):=(cell_of_row w5 (W.heap.size+1) 1 _ _ _ zd).trans rfl;have zf1:=frozen_of_row w5 (W.heap.size+1) 1 _ _ zd;have zL:W.heap.size+1<w5.heap.size:=(Array.getElem?_eq_some_iff.1 zd).1;have zN:¬ W.heap.size+1=w5.heap.size:=(by omega);clear zd;have B5:Hid (Below W.heap.size W w5):=bstep B4.out hb;clear hb HB)
                | (go_at_call 76;refine (HO.out _ (B5.out.alloc B5.out.size _)).mono ?_;rintro e w6 ⟨rfl,hb⟩;have hn6:¬ w5.heap.size=W.heap.size+1:=(by omega);have hm6:¬ W.heap.size+1=w5.heap.size:=(by omega);have zd:w6.heap[W.heap.size+1]?=some (.cells #[.int .i64 0,.int .i64 0] 24 (0,0)):=(hb.block (W.heap.size+1) (by first|omega|(simp;try omega))).trans (by first|exact zB.out|exact hkeep zB.out|exact hkeep (hkeep zB.out)|exact halloc2 _ _ rfl|exact heap_alloc2_old _ _ _|exact heap_alloc2_new _ _ _|exact hkeep (halloc2 _ _ rfl)|exact hkeep (hkeep (halloc2 _ _ rfl))|exact halloc2 _ _ (by simp;done));(try clear zB zL zN z0 z1 zf0 zf1);have zB:Hid (w6.heap[W.heap.size+1]?=some (.cells #[.int .i64 0,.int .i64 0] 24 (0,0))):=zd;have z0:w6.cell? ⟨W.heap.size+1,0,none⟩=some (.int .i64 0):=(cell_of_row w6 (W.heap.size+1) 0 _ _ _ zd).trans rfl;have zf0:=frozen_of_row w6 (W.heap.size+1) 0 _ _ zd;have z1:w6.cell? ⟨W.heap.size+1,1,none⟩=some (.int .i64 0):=(cell_of_row w6 (W.heap.size+1) 1 _ _ _ zd).trans rfl;have zf1:=frozen_of_row w6 (W.heap.size+1) 1 _ _ zd;have zL:W.heap.size+1<w6.heap.size:=(Array.getElem?_eq_some_iff.1 zd).1;have zN:¬ W.heap.size+1=w6.heap.size:=(by omega);clear zd;have gd:w6.heap[w5.heap.size]?=some (.cells #[.int .i64 m1,.int .i64 m2] 24 (0,0)):=(hb.block (w5.heap.size) (by first|omega|(simp;try omega))).trans (by first|exact gB.out|exact hkeep gB.out|exact hkeep (hkeep gB.out)|exact halloc2 _ _ rfl|exact heap_alloc2_old _ _ _|exact heap_alloc2_new _ _ _|exact hkeep (halloc2 _ _ rfl)|exact hkeep (hkeep (halloc2 _ _ rfl))|exact halloc2 _ _ (by simp;done));(try clear gB gL gN g0 g1 gf0 gf1);have gB:Hid (w6.heap[w5.heap.size]?=some (.cells #[.int .i64 m1,.int .i64 m2] 24 (0,0))):=gd;have g0:w6.cell? ⟨w5.heap.size,0,none⟩=some (.int .i64 m1):=(cell_of_row w6 (w5.heap.size) 0 _ _ _ gd).trans rfl;have gf0:=frozen_of_row w6 (w5.heap.size) 0 _ _ gd;have g1:w6.cell? ⟨w5.heap.size,1,none⟩=some (.int .i64 m2):=(cell_of_row w6 (w5.heap.size) 1 _ _ _ gd).trans rfl;have gf1:=frozen_of_row w6 (w5.heap.size) 1 _ _ gd;have gL:w5.heap.size<w6.heap.size:=(Array.getElem?_eq_some_iff.1 gd).1;have gN:¬ w5.heap.size=w6.heap.size:=(by omega);clear gd;have B6:Hid (Below W.heap.size W w6):=bstep (B5.out.alloc B5.out.size _) hb;clear hb HO)
                | (go_at_call 75;refine (HS.out _).mono ?_;rintro e w9 ⟨rfl,hw9⟩;rw [hw9];clear hw9 w9))
              exact bodyPost_ret (v:=idE ((m1,m2),0)) (by simp [results,Tryz.results31,go_sem,idE, *]) rfl ⟨rfl,(by repeat (first|exact B6.out|refine Below.setCell ?_ (by simp;try omega) _|refine Below.alloc ?_ (by have:=B6.out.size;simp;try omega) _|refine Below.drew ?_))⟩
            · rw [if_neg h7]
              go_enter Tryz.func31,Tryz.ntmps31
              go_wp2_with (first
                | (go_at_call 72;refine (HC.out _ (by repeat (first|exact Below.refl _ _|refine Below.setCell ?_ (by simp;try omega) _|refine Below.alloc ?_ (by simp;try omega) _|refine Below.drew ?_))).mono ?_;rintro e w1 ⟨rfl,hb⟩;have rd:w1.heap[W.heap.size]?=some (.cells #[.bool y,.string c,.string n,.string ds] 53 (0,0)):=(hb.block (W.heap.size) (by first|omega|(simp;try omega))).trans (by first|exact rB.out|exact hkeep rB.out|exact hkeep (hkeep rB.out)|exact halloc2 _ _ rfl|exact heap_alloc2_old _ _ _|exact heap_alloc2_new _ _ _|exact hkeep (halloc2 _ _ rfl)|exact hkeep (hkeep (halloc2 _ _ rfl))|exact halloc2 _ _ (by simp;done));(try clear rB rL rN r0 r1 r2 r3 rf0 rf1 rf2 rf3);have rB:Hid (w1.heap[W.heap.size]?=some (.cells #[.bool y,.string c,.string n,.string ds] 53 (0,0))):=rd;have r0:w1.cell? ⟨W.heap.size,0,none⟩=some (.bool y):=(cell_of_row w1 (W.heap.size) 0 _ _ _ rd).trans rfl;have rf0:=frozen_of_row w1 (W.heap.size) 0 _ _ rd;have r1:w1.cell? ⟨W.heap.size,1,none⟩=some (.string c):=(cell_of_row w1 (W.heap.size) 1 _ _ _ rd).trans rfl;have rf1:=frozen_of_row w1 (W.heap.size) 1 _ _ rd;have r2:w1.cell? ⟨W.heap.size,2,none⟩=some (.string n):=(cell_of_row w1 (W.heap.size) 2 _ _ _ rd).trans rfl;have rf2:=frozen_of_row w1 (W.heap.size) 2 _ _ rd;have r3:w1.cell? ⟨W.heap.size,3,none⟩=some (.string ds):=(cell_of_row w1 (W.heap.size) 3 _ _ _ rd).trans rfl;have rf3:=frozen_of_row w1 (W.heap.size) 3 _ _ rd;have rL:W.heap.size<w1.heap.size:=(Array.getElem?_eq_some_iff.1 rd).1;have rN:¬ W.heap.size=w1.heap.size:=(by omega);clear rd;have zd:w1.heap[W.heap.size+1]?=some (.cells #[.int .i64 0,.int .i64 0] 24 (0,0)):=(hb.block (W.heap.size+1) (by first|omega|(simp;try omega))).trans (by first|exact zB.out|exact hkeep zB.out|exact hkeep (hkeep zB.out)|exact halloc2 _ _ rfl|exact heap_alloc2_old _ _ _|exact heap_alloc2_new _ _ _|exact hkeep (halloc2 _ _ rfl)|exact hkeep (hkeep (halloc2 _ _ rfl))|exact halloc2 _ _ (by simp;done));(try clear zB zL zN z0 z1 zf0 zf1);have zB:Hid (w1.heap[W.heap.size+1]?=some (.cells #[.int .i64 0,.int .i64 0] 24 (0,0))):=zd;have z0:w1.cell? ⟨W.heap.size+1,0,none⟩=some (.int .i64 0):=(cell_of_row w1 (W.heap.size+1) 0 _ _ _ zd).trans rfl;have zf0:=frozen_of_row w1 (W.heap.size+1) 0 _ _ zd;have z1:w1.cell? ⟨W.heap.size+1,1,none⟩=some (.int .i64 0):=(cell_of_row w1 (W.heap.size+1) 1 _ _ _ zd).trans rfl;have zf1:=frozen_of_row w1 (W.heap.size+1) 1 _ _ zd;have zL:W.heap.size+1<w1.heap.size:=(Array.getElem?_eq_some_iff.1 zd).1;have zN:¬ W.heap.size+1=w1.heap.size:=(by omega);clear zd;have B1:Hid (Below W.heap.size W w1):=bstep (by repeat (first|exact Below.refl _ _|refine Below.setCell ?_ (by simp;try omega) _|refine Below.alloc ?_ (by simp;try omega) _|refine Below.drew ?_)) hb;clear hb HC)
                | (go_at_call 73;refine (HR.out _).mono ?_;rintro e w2 ⟨rfl,hb⟩;have rd:w2.heap[W.heap.size]?=some (.cells #[.bool y,.string c,.string n,.string ds] 53 (0,0)):=(hb.block (W.heap.size) (by first|omega|(simp;try omega))).trans (by first|exact rB.out|exact hkeep rB.out|exact hkeep (hkeep rB.out)|exact halloc2 _ _ rfl|exact heap_alloc2_old _ _ _|exact heap_alloc2_new _ _ _|exact hkeep (halloc2 _ _ rfl)|exact hkeep (hkeep (halloc2 _ _ rfl))|exact halloc2 _ _ (by simp;done));(try clear rB rL rN r0 r1 r2 r3 rf0 rf1 rf2 rf3);have rB:Hid (w2.heap[W.heap.size]?=some (.cells #[.bool y,.string c,.string n,.string ds] 53 (0,0))):=rd;have r0:w2.cell? ⟨W.heap.size,0,none⟩=some (.bool y):=(cell_of_row w2 (W.heap.size) 0 _ _ _ rd).trans rfl;have rf0:=frozen_of_row w2 (W.heap.size) 0 _ _ rd;have r1:w2.cell? ⟨W.heap.size,1,none⟩=some (.string c):=(cell_of_row w2 (W.heap.size) 1 _ _ _ rd).trans rfl;have rf1:=frozen_of_row w2 (W.heap.size) 1 _ _ rd;have r2:w2.cell? ⟨W.heap.size,2,none⟩=some (.string n):=(cell_of_row w2 (W.heap.size) 2 _ _ _ rd).trans rfl;have rf2:=frozen_of_row w2 (W.heap.size) 2 _ _ rd;have r3:w2.cell? ⟨W.heap.size,3,none⟩=some (.string ds):=(cell_of_row w2 (W.heap.size) 3 _ _ _ rd).trans rfl;have rf3:=frozen_of_row w2 (W.heap.size) 3 _ _ rd;have rL:W.heap.size<w2.heap.size:=(Array.getElem?_eq_some_iff.1 rd).1;have rN:¬ W.heap.size=w2.heap.size:=(by omega);clear rd;have zd:w2.heap[W.heap.size+1]?=some (.cells #[.int .i64 0,.int .i64 0] 24 (0,0)):=(hb.block (W.heap.size+1) (by first|omega|(simp;try omega))).trans (by first|exact zB.out|exact hkeep zB.out|exact hkeep (hkeep zB.out)|exact halloc2 _ _ rfl|exact heap_alloc2_old _ _ _|exact heap_alloc2_new _ _ _|exact hkeep (halloc2 _ _ rfl)|exact hkeep (hkeep (halloc2 _ _ rfl))|exact halloc2 _ _ (by simp;done));(try clear zB zL zN z0 z1 zf0 zf1);have zB:Hid (w2.heap[W.heap.size+1]?=some (.cells #[.int .i64 0,.int .i64 0] 24 (0,0))):=zd;have z0:w2.cell? ⟨W.heap.size+1,0,none⟩=some (.int .i64 0):=(cell_of_row w2 (W.heap.size+1) 0 _ _ _ zd).trans rfl;have zf0:=frozen_of_row w2 (W.heap.size+1) 0 _ _ zd;have z1:w2.cell? ⟨W.heap.size+1,1,none⟩=some (.int .i64 0):=(cell_of_row w2 (W.heap.size+1) 1 _ _ _ zd).trans rfl;have zf1:=frozen_of_row w2 (W.heap.size+1) 1 _ _ zd;have zL:W.heap.size+1<w2.heap.size:=(Array.getElem?_eq_some_iff.1 zd).1;have zN:¬ W.heap.size+1=w2.heap.size:=(by omega);clear zd;have B2:Hid (Below W.heap.size W w2):=bstep B1.out hb;clear hb HR)
                | (go_at_call 49;refine (HK.out _ B2.out).mono ?_;rintro e w3 ⟨rfl,hb⟩;have rd:w3.heap[W.heap.size]?=some (.cells #[.bool y,.string c,.string n,.string ds] 53 (0,0)):=(hb.block (W.heap.size) (by first|omega|(simp;try omega))).trans (by first|exact rB.out|exact hkeep rB.out|exact hkeep (hkeep rB.out)|exact halloc2 _ _ rfl|exact heap_alloc2_old _ _ _|exact heap_alloc2_new _ _ _|exact hkeep (halloc2 _ _ rfl)|exact hkeep (hkeep (halloc2 _ _ rfl))|exact halloc2 _ _ (by simp;done));(try clear rB rL rN r0 r1 r2 r3 rf0 rf1 rf2 rf3);have rB:Hid (w3.heap[W.heap.size]?=some (.cells #[.bool y,.string c,.string n,.string ds] 53 (0,0))):=rd;have r0:w3.cell? ⟨W.heap.size,0,none⟩=some (.bool y):=(cell_of_row w3 (W.heap.size) 0 _ _ _ rd).trans rfl;have rf0:=frozen_of_row w3 (W.heap.size) 0 _ _ rd;have r1:w3.cell? ⟨W.heap.size,1,none⟩=some (.string c):=(cell_of_row w3 (W.heap.size) 1 _ _ _ rd).trans rfl;have rf1:=frozen_of_row w3 (W.heap.size) 1 _ _ rd;have r2:w3.cell? ⟨W.heap.size,2,none⟩=some (.string n):=(cell_of_row w3 (W.heap.size) 2 _ _ _ rd).trans rfl;have rf2:=frozen_of_row w3 (W.heap.size) 2 _ _ rd;have r3:w3.cell? ⟨W.heap.size,3,none⟩=some (.string ds):=(cell_of_row w3 (W.heap.size) 3 _ _ _ rd).trans rfl;have rf3:=frozen_of_row w3 (W.heap.size) 3 _ _ rd;have rL:W.heap.size<w3.heap.size:=(Array.getElem?_eq_some_iff.1 rd).1;have rN:¬ W.heap.size=w3.heap.size:=(by omega);clear rd;have zd:w3.heap[W.heap.size+1]?=some (.cells #[.int .i64 0,.int .i64 0] 24 (0,0)):=(hb.block (W.heap.size+1) (by first|omega|(simp;try omega))).trans (by first|exact zB.out|exact hkeep zB.out|exact hkeep (hkeep zB.out)|exact halloc2 _ _ rfl|exact heap_alloc2_old _ _ _|exact heap_alloc2_new _ _ _|exact hkeep (halloc2 _ _ rfl)|exact hkeep (hkeep (halloc2 _ _ rfl))|exact halloc2 _ _ (by simp;done));(try clear zB zL zN z0 z1 zf0 zf1);have zB:Hid (w3.heap[W.heap.size+1]?=some (.cells #[.int .i64 0,.int .i64 0] 24 (0,0))):=zd;have z0:w3.cell? ⟨W.heap.size+1,0,none⟩=some (.int .i64 0):=(cell_of_row w3 (W.heap.size+1) 0 _ _ _ zd).trans rfl;have zf0:=frozen_of_row w3 (W.heap.size+1) 0 _ _ zd;have z1:w3.cell? ⟨W.heap.size+1,1,none⟩=some (.int .i64 0):=(cell_of_row w3 (W.heap.size+1) 1 _ _ _ zd).trans rfl;have zf1:=frozen_of_row w3 (W.heap.size+1) 1 _ _ zd;have zL:W.heap.size+1<w3.heap.size:=(Array.getElem?_eq_some_iff.1 zd).1;have zN:¬ W.heap.size+1=w3.heap.size:=(by omega);clear zd;have B3:Hid (Below W.heap.size W w3):=bstep B2.out hb;clear hb HK)
                | (go_at_call 48;refine (HH.out _ (B3.out.alloc B3.out.size _)).mono ?_;rintro e w4 ⟨rfl,hb⟩;have rd:w4.heap[W.heap.size]?=some (.cells #[.bool y,.string c,.string n,.string ds] 53 (0,0)):=(hb.block (W.heap.size) (by first|omega|(simp;try omega))).trans (by first|exact rB.out|exact hkeep rB.out|exact hkeep (hkeep rB.out)|exact halloc2 _ _ rfl|exact heap_alloc2_old _ _ _|exact heap_alloc2_new _ _ _|exact hkeep (halloc2 _ _ rfl)|exact hkeep (hkeep (halloc2 _ _ rfl))|exact halloc2 _ _ (by simp;done));(try clear rB rL rN r0 r1 r2 r3 rf0 rf1 rf2 rf3);have rB:Hid (w4.heap[W.heap.size]?=some (.cells #[.bool y,.string c,.string n,.string ds] 53 (0,0))):=rd;have r0:w4.cell? ⟨W.heap.size,0,none⟩=some (.bool y):=(cell_of_row w4 (W.heap.size) 0 _ _ _ rd).trans rfl;have rf0:=frozen_of_row w4 (W.heap.size) 0 _ _ rd;have r1:w4.cell? ⟨W.heap.size,1,none⟩=some (.string c):=(cell_of_row w4 (W.heap.size) 1 _ _ _ rd).trans rfl;have rf1:=frozen_of_row w4 (W.heap.size) 1 _ _ rd;have r2:w4.cell? ⟨W.heap.size,2,none⟩=some (.string n):=(cell_of_row w4 (W.heap.size) 2 _ _ _ rd).trans rfl;have rf2:=frozen_of_row w4 (W.heap.size) 2 _ _ rd;have r3:w4.cell? ⟨W.heap.size,3,none⟩=some (.string ds):=(cell_of_row w4 (W.heap.size) 3 _ _ _ rd).trans rfl;have rf3:=frozen_of_row w4 (W.heap.size) 3 _ _ rd;have rL:W.heap.size<w4.heap.size:=(Array.getElem?_eq_some_iff.1 rd).1;have rN:¬ W.heap.size=w4.heap.size:=(by omega);clear rd;have zd:w4.heap[W.heap.size+1]?=some (.cells #[.int .i64 0,.int .i64 0] 24 (0,0)):=(hb.block (W.heap.size+1) (by first|omega|(simp;try omega))).trans (by first|exact zB.out|exact hkeep zB.out|exact hkeep (hkeep zB.out)|exact halloc2 _ _ rfl|exact heap_alloc2_old _ _ _|exact heap_alloc2_new _ _ _|exact hkeep (halloc2 _ _ rfl)|exact hkeep (hkeep (halloc2 _ _ rfl))|exact halloc2 _ _ (by simp;done));(try clear zB zL zN z0 z1 zf0 zf1);have zB:Hid (w4.heap[W.heap.size+1]?=some (.cells #[.int .i64 0,.int .i64 0] 24 (0,0))):=zd;have z0:w4.cell? ⟨W.heap.size+1,0,none⟩=some (.int .i64 0):=(cell_of_row w4 (W.heap.size+1) 0 _ _ _ zd).trans rfl;have zf0:=frozen_of_row w4 (W.heap.size+1) 0 _ _ zd;have z1:w4.cell? ⟨W.heap.size+1,1,none⟩=some (.int .i64 0):=(cell_of_row w4 (W.heap.size+1) 1 _ _ _ zd).trans rfl;have zf1:=frozen_of_row w4 (W.heap.size+1) 1 _ _ zd;have zL:W.heap.size+1<w4.heap.size:=(Array.getElem?_eq_some_iff.1 zd).1;have zN:¬ W.heap.size+1=w4.heap.size:=(by omega);clear zd;have B4:Hid (Below W.heap.size W w4):=bstep (B3.out.alloc B3.out.size _) hb;clear hb HH)
                | (go_at_call 74;refine (HB.out _ B4.out).mono ?_;rintro e w5 ⟨rfl,hb⟩;have zd:w5.heap[W.heap.size+1]?=some (.cells #[.int .i64 0,.int .i64 0] 24 (0,0)):=(hb.block (W.heap.size+1) (by first|omega|(simp;try omega))).trans (by first|exact zB.out|exact hkeep zB.out|exact hkeep (hkeep zB.out)|exact halloc2 _ _ rfl|exact heap_alloc2_old _ _ _|exact heap_alloc2_new _ _ _|exact hkeep (halloc2 _ _ rfl)|exact hkeep (hkeep (halloc2 _ _ rfl))|exact halloc2 _ _ (by simp;done));(try clear zB zL zN z0 z1 zf0 zf1);have zB:Hid (w5.heap[W.heap.size+1]?=some (.cells #[.int .i64 0,.int .i64 0] 24 (0,0))):=zd;have z0:w5.cell? ⟨W.heap.size+1,0,none⟩=some (.int .i64 0):=(cell_of_row w5 (W.heap.size+1) 0 _ _ _ zd).trans rfl;have zf0:=frozen_of_row w5 (W.heap.size+1) 0 _ _ zd;have z1:w5.cell? ⟨W.heap.size+1,1,none⟩=some (.int .i64 0):=(cell_of_row w5 (W.heap.size+1) 1 _ _ _ zd).trans rfl;have zf1:=frozen_of_row w5 (W.heap.size+1) 1 _ _ zd;have zL:W.heap.size+1<w5.heap.size:=(Array.getElem?_eq_some_iff.1 zd).1;have zN:¬ W.heap.size+1=w5.heap.size:=(by omega);clear zd;have B5:Hid (Below W.heap.size W w5):=bstep B4.out hb;clear hb HB)
                | (go_at_call 76;refine (HO.out _ (B5.out.alloc B5.out.size _)).mono ?_;rintro e w6 ⟨rfl,hb⟩;have hn6:¬ w5.heap.size=W.heap.size+1:=(by omega);have hm6:¬ W.heap.size+1=w5.heap.size:=(by omega);have zd:w6.heap[W.heap.size+1]?=some (.cells #[.int .i64 0,.int .i64 0] 24 (0,0)):=(hb.block (W.heap.size+1) (by first|omega|(simp;try omega))).trans (by first|exact zB.out|exact hkeep zB.out|exact hkeep (hkeep zB.out)|exact halloc2 _ _ rfl|exact heap_alloc2_old _ _ _|exact heap_alloc2_new _ _ _|exact hkeep (halloc2 _ _ rfl)|exact hkeep (hkeep (halloc2 _ _ rfl))|exact halloc2 _ _ (by simp;done));(try clear zB zL zN z0 z1 zf0 zf1);have zB:Hid (w6.heap[W.heap.size+1]?=some (.cells #[.int .i64 0,.int .i64 0] 24 (0,0))):=zd;have z0:w6.cell? ⟨W.heap.size+1,0,none⟩=some (.int .i64 0):=(cell_of_row w6 (W.heap.size+1) 0 _ _ _ zd).trans rfl;have zf0:=frozen_of_row w6 (W.heap.size+1) 0 _ _ zd;have z1:w6.cell? ⟨W.heap.size+1,1,none⟩=some (.int .i64 0):=(cell_of_row w6 (W.heap.size+1) 1 _ _ _ zd).trans rfl;have zf1:=frozen_of_row w6 (W.heap.size+1) 1 _ _ zd;have zL:W.heap.size+1<w6.heap.size:=(Array.getElem?_eq_some_iff.1 zd).1;have zN:¬ W.heap.size+1=w6.heap.size:=(by omega);clear zd;have gd:w6.heap[w5.heap.size]?=some (.cells #[.int .i64 m1,.int .i64 m2] 24 (0,0)):=(hb.block (w5.heap.size) (by first|omega|(simp;try omega))).trans (by first|exact gB.out|exact hkeep gB.out|exact hkeep (hkeep gB.out)|exact halloc2 _ _ rfl|exact heap_alloc2_old _ _ _|exact heap_alloc2_new _ _ _|exact hkeep (halloc2 _ _ rfl)|exact hkeep (hkeep (halloc2 _ _ rfl))|exact halloc2 _ _ (by simp;done));(try clear gB gL gN g0 g1 gf0 gf1);have gB:Hid (w6.heap[w5.heap.size]?=some (.cells #[.int .i64 m1,.int .i64 m2] 24 (0,0))):=gd;have g0:w6.cell? ⟨w5.heap.size,0,none⟩=some (.int .i64 m1):=(cell_of_row w6 (w5.heap.size) 0 _ _ _ gd).trans rfl;have gf0:=frozen_of_row w6 (w5.heap.size) 0 _ _ gd;have g1:w6.cell? ⟨w5.heap.size,1,none⟩=some (.int .i64 m2):=(cell_of_row w6 (w5.heap.size) 1 _ _ _ gd).trans rfl;have gf1:=frozen_of_row w6 (w5.heap.size) 1 _ _ gd;have gL:w5.heap.size<w6.heap.size:=(Array.getElem?_eq_some_iff.1 gd).1;have gN:¬ w5.heap.size=w6.heap.size:=(by omega);clear gd;have B6:Hid (Below W.heap.size W w6):=bstep (B5.out.alloc B5.out.size _) hb;clear hb HO)
                | (go_at_call 75;refine (HS.out _).mono ?_;rintro e w9 ⟨rfl,hw9⟩;rw [hw9];clear hw9 w9))
              exact bodyPost_ret (v:=idE ((0,0),sh)) (by simp [results,Tryz.results31,go_sem,idE, *]) rfl ⟨rfl,(by repeat (first|exact B6.out|refine Below.setCell ?_ (by simp;try omega) _|refine Below.alloc ?_ (by have:=B6.out.size;simp;try omega) _|refine Below.drew ?_))⟩
          · rw [if_neg h6]
            go_enter Tryz.func31,Tryz.ntmps31
            go_wp2_with (first
              | (go_at_call 72;refine (HC.out _ (by repeat (first|exact Below.refl _ _|refine Below.setCell ?_ (by simp;try omega) _|refine Below.alloc ?_ (by simp;try omega) _|refine Below.drew ?_))).mono ?_;rintro e w1 ⟨rfl,hb⟩;have rd:w1.heap[W.heap.size]?=some (.cells #[.bool y,.string c,.string n,.string ds] 53 (0,0)):=(hb.block (W.heap.size) (by first|omega|(simp;try omega))).trans (by first|exact rB.out|exact hkeep rB.out|exact hkeep (hkeep rB.out)|exact halloc2 _ _ rfl|exact heap_alloc2_old _ _ _|exact heap_alloc2_new _ _ _|exact hkeep (halloc2 _ _ rfl)|exact hkeep (hkeep (halloc2 _ _ rfl))|exact halloc2 _ _ (by simp;done));(try clear rB rL rN r0 r1 r2 r3 rf0 rf1 rf2 rf3);have rB:Hid (w1.heap[W.heap.size]?=some (.cells #[.bool y,.string c,.string n,.string ds] 53 (0,0))):=rd;have r0:w1.cell? ⟨W.heap.size,0,none⟩=some (.bool y):=(cell_of_row w1 (W.heap.size) 0 _ _ _ rd).trans rfl;have rf0:=frozen_of_row w1 (W.heap.size) 0 _ _ rd;have r1:w1.cell? ⟨W.heap.size,1,none⟩=some (.string c):=(cell_of_row w1 (W.heap.size) 1 _ _ _ rd).trans rfl;have rf1:=frozen_of_row w1 (W.heap.size) 1 _ _ rd;have r2:w1.cell? ⟨W.heap.size,2,none⟩=some (.string n):=(cell_of_row w1 (W.heap.size) 2 _ _ _ rd).trans rfl;have rf2:=frozen_of_row w1 (W.heap.size) 2 _ _ rd;have r3:w1.cell? ⟨W.heap.size,3,none⟩=some (.string ds):=(cell_of_row w1 (W.heap.size) 3 _ _ _ rd).trans rfl;have rf3:=frozen_of_row w1 (W.heap.size) 3 _ _ rd;have rL:W.heap.size<w1.heap.size:=(Array.getElem?_eq_some_iff.1 rd).1;have rN:¬ W.heap.size=w1.heap.size:=(by omega);clear rd;have zd:w1.heap[W.heap.size+1]?=some (.cells #[.int .i64 0,.int .i64 0] 24 (0,0)):=(hb.block (W.heap.size+1) (by first|omega|(simp;try omega))).trans (by first|exact zB.out|exact hkeep zB.out|exact hkeep (hkeep zB.out)|exact halloc2 _ _ rfl|exact heap_alloc2_old _ _ _|exact heap_alloc2_new _ _ _|exact hkeep (halloc2 _ _ rfl)|exact hkeep (hkeep (halloc2 _ _ rfl))|exact halloc2 _ _ (by simp;done));(try clear zB zL zN z0 z1 zf0 zf1);have zB:Hid (w1.heap[W.heap.size+1]?=some (.cells #[.int .i64 0,.int .i64 0] 24 (0,0))):=zd;have z0:w1.cell? ⟨W.heap.size+1,0,none⟩=some (.int .i64 0):=(cell_of_row w1 (W.heap.size+1) 0 _ _ _ zd).trans rfl;have zf0:=frozen_of_row w1 (W.heap.size+1) 0 _ _ zd;have z1:w1.cell? ⟨W.heap.size+1,1,none⟩=some (.int .i64 0):=(cell_of_row w1 (W.heap.size+1) 1 _ _ _ zd).trans rfl;have zf1:=frozen_of_row w1 (W.heap.size+1) 1 _ _ zd;have zL:W.heap.size+1<w1.heap.size:=(Array.getElem?_eq_some_iff.1 zd).1;have zN:¬ W.heap.size+1=w1.heap.size:=(by omega);clear zd;have B1:Hid (Below W.heap.size W w1):=bstep (by repeat (first|exact Below.refl _ _|refine Below.setCell ?_ (by simp;try omega) _|refine Below.alloc ?_ (by simp;try omega) _|refine Below.drew ?_)) hb;clear hb HC)
              | (go_at_call 73;refine (HR.out _).mono ?_;rintro e w2 ⟨rfl,hb⟩;have rd:w2.heap[W.heap.size]?=some (.cells #[.bool y,.string c,.string n,.string ds] 53 (0,0)):=(hb.block (W.heap.size) (by first|omega|(simp;try omega))).trans (by first|exact rB.out|exact hkeep rB.out|exact hkeep (hkeep rB.out)|exact halloc2 _ _ rfl|exact heap_alloc2_old _ _ _|exact heap_alloc2_new _ _ _|exact hkeep (halloc2 _ _ rfl)|exact hkeep (hkeep (halloc2 _ _ rfl))|exact halloc2 _ _ (by simp;done));(try clear rB rL rN r0 r1 r2 r3 rf0 rf1 rf2 rf3);have rB:Hid (w2.heap[W.heap.size]?=some (.cells #[.bool y,.string c,.string n,.string ds] 53 (0,0))):=rd;have r0:w2.cell? ⟨W.heap.size,0,none⟩=some (.bool y):=(cell_of_row w2 (W.heap.size) 0 _ _ _ rd).trans rfl;have rf0:=frozen_of_row w2 (W.heap.size) 0 _ _ rd;have r1:w2.cell? ⟨W.heap.size,1,none⟩=some (.string c):=(cell_of_row w2 (W.heap.size) 1 _ _ _ rd).trans rfl;have rf1:=frozen_of_row w2 (W.heap.size) 1 _ _ rd;have r2:w2.cell? ⟨W.heap.size,2,none⟩=some (.string n):=(cell_of_row w2 (W.heap.size) 2 _ _ _ rd).trans rfl;have rf2:=frozen_of_row w2 (W.heap.size) 2 _ _ rd;have r3:w2.cell? ⟨W.heap.size,3,none⟩=some (.string ds):=(cell_of_row w2 (W.heap.size) 3 _ _ _ rd).trans rfl;have rf3:=frozen_of_row w2 (W.heap.size) 3 _ _ rd;have rL:W.heap.size<w2.heap.size:=(Array.getElem?_eq_some_iff.1 rd).1;have rN:¬ W.heap.size=w2.heap.size:=(by omega);clear rd;have zd:w2.heap[W.heap.size+1]?=some (.cells #[.int .i64 0,.int .i64 0] 24 (0,0)):=(hb.block (W.heap.size+1) (by first|omega|(simp;try omega))).trans (by first|exact zB.out|exact hkeep zB.out|exact hkeep (hkeep zB.out)|exact halloc2 _ _ rfl|exact heap_alloc2_old _ _ _|exact heap_alloc2_new _ _ _|exact hkeep (halloc2 _ _ rfl)|exact hkeep (hkeep (halloc2 _ _ rfl))|exact halloc2 _ _ (by simp;done));(try clear zB zL zN z0 z1 zf0 zf1);have zB:Hid (w2.heap[W.heap.size+1]?=some (.cells #[.int .i64 0,.int .i64 0] 24 (0,0))):=zd;have z0:w2.cell? ⟨W.heap.size+1,0,none⟩=some (.int .i64 0):=(cell_of_row w2 (W.heap.size+1) 0 _ _ _ zd).trans rfl;have zf0:=frozen_of_row w2 (W.heap.size+1) 0 _ _ zd;have z1:w2.cell? ⟨W.heap.size+1,1,none⟩=some (.int .i64 0):=(cell_of_row w2 (W.heap.size+1) 1 _ _ _ zd).trans rfl;have zf1:=frozen_of_row w2 (W.heap.size+1) 1 _ _ zd;have zL:W.heap.size+1<w2.heap.size:=(Array.getElem?_eq_some_iff.1 zd).1;have zN:¬ W.heap.size+1=w2.heap.size:=(by omega);clear zd;have B2:Hid (Below W.heap.size W w2):=bstep B1.out hb;clear hb HR)
              | (go_at_call 49;refine (HK.out _ B2.out).mono ?_;rintro e w3 ⟨rfl,hb⟩;have rd:w3.heap[W.heap.size]?=some (.cells #[.bool y,.string c,.string n,.string ds] 53 (0,0)):=(hb.block (W.heap.size) (by first|omega|(simp;try omega))).trans (by first|exact rB.out|exact hkeep rB.out|exact hkeep (hkeep rB.out)|exact halloc2 _ _ rfl|exact heap_alloc2_old _ _ _|exact heap_alloc2_new _ _ _|exact hkeep (halloc2 _ _ rfl)|exact hkeep (hkeep (halloc2 _ _ rfl))|exact halloc2 _ _ (by simp;done));(try clear rB rL rN r0 r1 r2 r3 rf0 rf1 rf2 rf3);have rB:Hid (w3.heap[W.heap.size]?=some (.cells #[.bool y,.string c,.string n,.string ds] 53 (0,0))):=rd;have r0:w3.cell? ⟨W.heap.size,0,none⟩=some (.bool y):=(cell_of_row w3 (W.heap.size) 0 _ _ _ rd).trans rfl;have rf0:=frozen_of_row w3 (W.heap.size) 0 _ _ rd;have r1:w3.cell? ⟨W.heap.size,1,none⟩=some (.string c):=(cell_of_row w3 (W.heap.size) 1 _ _ _ rd).trans rfl;have rf1:=frozen_of_row w3 (W.heap.size) 1 _ _ rd;have r2:w3.cell? ⟨W.heap.size,2,none⟩=some (.string n):=(cell_of_row w3 (W.heap.size) 2 _ _ _ rd).trans rfl;have rf2:=frozen_of_row w3 (W.heap.size) 2 _ _ rd;have r3:w3.cell? ⟨W.heap.size,3,none⟩=some (.string ds):=(cell_of_row w3 (W.heap.size) 3 _ _ _ rd).trans rfl;have rf3:=frozen_of_row w3 (W.heap.size) 3 _ _ rd;have rL:W.heap.size<w3.heap.size:=(Array.getElem?_eq_some_iff.1 rd).1;have rN:¬ W.heap.size=w3.heap.size:=(by omega);clear rd;have zd:w3.heap[W.heap.size+1]?=some (.cells #[.int .i64 0,.int .i64 0] 24 (0,0)):=(hb.block (W.heap.size+1) (by first|omega|(simp;try omega))).trans (by first|exact zB.out|exact hkeep zB.out|exact hkeep (hkeep zB.out)|exact halloc2 _ _ rfl|exact heap_alloc2_old _ _ _|exact heap_alloc2_new _ _ _|exact hkeep (halloc2 _ _ rfl)|exact hkeep (hkeep (halloc2 _ _ rfl))|exact halloc2 _ _ (by simp;done));(try clear zB zL zN z0 z1 zf0 zf1);have zB:Hid (w3.heap[W.heap.size+1]?=some (.cells #[.int .i64 0,.int .i64 0] 24 (0,0))):=zd;have z0:w3.cell? ⟨W.heap.size+1,0,none⟩=some (.int .i64 0):=(cell_of_row w3 (W.heap.size+1) 0 _ _ _ zd).trans rfl;have zf0:=frozen_of_row w3 (W.heap.size+1) 0 _ _ zd;have z1:w3.cell? ⟨W.heap.size+1,1,none⟩=some (.int .i64 0):=(cell_of_row w3 (W.heap.size+1) 1 _ _ _ zd).trans rfl;have zf1:=frozen_of_row w3 (W.heap.size+1) 1 _ _ zd;have zL:W.heap.size+1<w3.heap.size:=(Array.getElem?_eq_some_iff.1 zd).1;have zN:¬ W.heap.size+1=w3.heap.size:=(by omega);clear zd;have B3:Hid (Below W.heap.size W w3):=bstep B2.out hb;clear hb HK)
              | (go_at_call 48;refine (HH.out _ (B3.out.alloc B3.out.size _)).mono ?_;rintro e w4 ⟨rfl,hb⟩;have rd:w4.heap[W.heap.size]?=some (.cells #[.bool y,.string c,.string n,.string ds] 53 (0,0)):=(hb.block (W.heap.size) (by first|omega|(simp;try omega))).trans (by first|exact rB.out|exact hkeep rB.out|exact hkeep (hkeep rB.out)|exact halloc2 _ _ rfl|exact heap_alloc2_old _ _ _|exact heap_alloc2_new _ _ _|exact hkeep (halloc2 _ _ rfl)|exact hkeep (hkeep (halloc2 _ _ rfl))|exact halloc2 _ _ (by simp;done));(try clear rB rL rN r0 r1 r2 r3 rf0 rf1 rf2 rf3);have rB:Hid (w4.heap[W.heap.size]?=some (.cells #[.bool y,.string c,.string n,.string ds] 53 (0,0))):=rd;have r0:w4.cell? ⟨W.heap.size,0,none⟩=some (.bool y):=(cell_of_row w4 (W.heap.size) 0 _ _ _ rd).trans rfl;have rf0:=frozen_of_row w4 (W.heap.size) 0 _ _ rd;have r1:w4.cell? ⟨W.heap.size,1,none⟩=some (.string c):=(cell_of_row w4 (W.heap.size) 1 _ _ _ rd).trans rfl;have rf1:=frozen_of_row w4 (W.heap.size) 1 _ _ rd;have r2:w4.cell? ⟨W.heap.size,2,none⟩=some (.string n):=(cell_of_row w4 (W.heap.size) 2 _ _ _ rd).trans rfl;have rf2:=frozen_of_row w4 (W.heap.size) 2 _ _ rd;have r3:w4.cell? ⟨W.heap.size,3,none⟩=some (.string ds):=(cell_of_row w4 (W.heap.size) 3 _ _ _ rd).trans rfl;have rf3:=frozen_of_row w4 (W.heap.size) 3 _ _ rd;have rL:W.heap.size<w4.heap.size:=(Array.getElem?_eq_some_iff.1 rd).1;have rN:¬ W.heap.size=w4.heap.size:=(by omega);clear rd;have zd:w4.heap[W.heap.size+1]?=some (.cells #[.int .i64 0,.int .i64 0] 24 (0,0)):=(hb.block (W.heap.size+1) (by first|omega|(simp;try omega))).trans (by first|exact zB.out|exact hkeep zB.out|exact hkeep (hkeep zB.out)|exact halloc2 _ _ rfl|exact heap_alloc2_old _ _ _|exact heap_alloc2_new _ _ _|exact hkeep (halloc2 _ _ rfl)|exact hkeep (hkeep (halloc2 _ _ rfl))|exact halloc2 _ _ (by simp;done));(try clear zB zL zN z0 z1 zf0 zf1);have zB:Hid (w4.heap[W.heap.size+1]?=some (.cells #[.int .i64 0,.int .i64 0] 24 (0,0))):=zd;have z0:w4.cell? ⟨W.heap.size+1,0,none⟩=some (.int .i64 0):=(cell_of_row w4 (W.heap.size+1) 0 _ _ _ zd).trans rfl;have zf0:=frozen_of_row w4 (W.heap.size+1) 0 _ _ zd;have z1:w4.cell? ⟨W.heap.size+1,1,none⟩=some (.int .i64 0):=(cell_of_row w4 (W.heap.size+1) 1 _ _ _ zd).trans rfl;have zf1:=frozen_of_row w4 (W.heap.size+1) 1 _ _ zd;have zL:W.heap.size+1<w4.heap.size:=(Array.getElem?_eq_some_iff.1 zd).1;have zN:¬ W.heap.size+1=w4.heap.size:=(by omega);clear zd;have B4:Hid (Below W.heap.size W w4):=bstep (B3.out.alloc B3.out.size _) hb;clear hb HH)
              | (go_at_call 74;refine (HB.out _ B4.out).mono ?_;rintro e w5 ⟨rfl,hb⟩;have zd:w5.heap[W.heap.size+1]?=some (.cells #[.int .i64 0,.int .i64 0] 24 (0,0)):=(hb.block (W.heap.size+1) (by first|omega|(simp;try omega))).trans (by first|exact zB.out|exact hkeep zB.out|exact hkeep (hkeep zB.out)|exact halloc2 _ _ rfl|exact heap_alloc2_old _ _ _|exact heap_alloc2_new _ _ _|exact hkeep (halloc2 _ _ rfl)|exact hkeep (hkeep (halloc2 _ _ rfl))|exact halloc2 _ _ (by simp;done));(try clear zB zL zN z0 z1 zf0 zf1);have zB:Hid (w5.heap[W.heap.size+1]?=some (.cells #[.int .i64 0,.int .i64 0] 24 (0,0))):=zd;have z0:w5.cell? ⟨W.heap.size+1,0,none⟩=some (.int .i64 0):=(cell_of_row w5 (W.heap.size+1) 0 _ _ _ zd).trans rfl;have zf0:=frozen_of_row w5 (W.heap.size+1) 0 _ _ zd;have z1:w5.cell? ⟨W.heap.size+1,1,none⟩=some (.int .i64 0):=(cell_of_row w5 (W.heap.size+1) 1 _ _ _ zd).trans rfl;have zf1:=frozen_of_row w5 (W.heap.size+1) 1 _ _ zd;have zL:W.heap.size+1<w5.heap.size:=(Array.getElem?_eq_some_iff.1 zd).1;have zN:¬ W.heap.size+1=w5.heap.size:=(by omega);clear zd;have B5:Hid (Below W.heap.size W w5):=bstep B4.out hb;clear hb HB))
            exact bodyPost_ret (v:=idE ((0,0),m3)) (by simp [results,Tryz.results31,go_sem,idE, *]) rfl ⟨rfl,(by repeat (first|exact B5.out|refine Below.setCell ?_ (by simp;try omega) _|refine Below.alloc ?_ (by have:=B5.out.size;simp;try omega) _|refine Below.drew ?_))⟩
        · rw [if_neg h5]
          go_enter Tryz.func31,Tryz.ntmps31
          go_wp2_with (first
            | (go_at_call 72;refine (HC.out _ (by repeat (first|exact Below.refl _ _|refine Below.setCell ?_ (by simp;try omega) _|refine Below.alloc ?_ (by simp;try omega) _|refine Below.drew ?_))).mono ?_;rintro e w1 ⟨rfl,hb⟩;have rd:w1.heap[W.heap.size]?=some (.cells #[.bool y,.string c,.string n,.string ds] 53 (0,0)):=(hb.block (W.heap.size) (by first|omega|(simp;try omega))).trans (by first|exact rB.out|exact hkeep rB.out|exact hkeep (hkeep rB.out)|exact halloc2 _ _ rfl|exact heap_alloc2_old _ _ _|exact heap_alloc2_new _ _ _|exact hkeep (halloc2 _ _ rfl)|exact hkeep (hkeep (halloc2 _ _ rfl))|exact halloc2 _ _ (by simp;done));(try clear rB rL rN r0 r1 r2 r3 rf0 rf1 rf2 rf3);have rB:Hid (w1.heap[W.heap.size]?=some (.cells #[.bool y,.string c,.string n,.string ds] 53 (0,0))):=rd;have r0:w1.cell? ⟨W.heap.size,0,none⟩=some (.bool y):=(cell_of_row w1 (W.heap.size) 0 _ _ _ rd).trans rfl;have rf0:=frozen_of_row w1 (W.heap.size) 0 _ _ rd;have r1:w1.cell? ⟨W.heap.size,1,none⟩=some (.string c):=(cell_of_row w1 (W.heap.size) 1 _ _ _ rd).trans rfl;have rf1:=frozen_of_row w1 (W.heap.size) 1 _ _ rd;have r2:w1.cell? ⟨W.heap.size,2,none⟩=some (.string n):=(cell_of_row w1 (W.heap.size) 2 _ _ _ rd).trans rfl;have rf2:=frozen_of_row w1 (W.heap.size) 2 _ _ rd;have r3:w1.cell? ⟨W.heap.size,3,none⟩=some (.string ds):=(cell_of_row w1 (W.heap.size) 3 _ _ _ rd).trans rfl;have rf3:=frozen_of_row w1 (W.heap.size) 3 _ _ rd;have rL:W.heap.size<w1.heap.size:=(Array.getElem?_eq_some_iff.1 rd).1;have rN:¬ W.heap.size=w1.heap.size:=(by omega);clear rd;have zd:w1.heap[W.heap.size+1]?=some (.cells #[.int .i64 0,.int .i64 0] 24 (0,0)):=(hb.block (W.heap.size+1) (by first|omega|(simp;try omega))).trans (by first|exact zB.out|exact hkeep zB.out|exact hkeep (hkeep zB.out)|exact halloc2 _ _ rfl|exact heap_alloc2_old _ _ _|exact heap_alloc2_new _ _ _|exact hkeep (halloc2 _ _ rfl)|exact hkeep (hkeep (halloc2 _ _ rfl))|exact halloc2 _ _ (by simp;done));(try clear zB zL zN z0 z1 zf0 zf1);have zB:Hid (w1.heap[W.heap.size+1]?=some (.cells #[.int .i64 0,.int .i64 0] 24 (0,0))):=zd;have z0:w1.cell? ⟨W.heap.size+1,0,none⟩=some (.int .i64 0):=(cell_of_row w1 (W.heap.size+1) 0 _ _ _ zd).trans rfl;have zf0:=frozen_of_row w1 (W.heap.size+1) 0 _ _ zd;have z1:w1.cell? ⟨W.heap.size+1,1,none⟩=some (.int .i64 0):=(cell_of_row w1 (W.heap.size+1) 1 _ _ _ zd).trans rfl;have zf1:=frozen_of_row w1 (W.heap.size+1) 1 _ _ zd;have zL:W.heap.size+1<w1.heap.size:=(Array.getElem?_eq_some_iff.1 zd).1;have zN:¬ W.heap.size+1=w1.heap.size:=(by omega);clear zd;have B1:Hid (Below W.heap.size W w1):=bstep (by repeat (first|exact Below.refl _ _|refine Below.setCell ?_ (by simp;try omega) _|refine Below.alloc ?_ (by simp;try omega) _|refine Below.drew ?_)) hb;clear hb HC)
            | (go_at_call 73;refine (HR.out _).mono ?_;rintro e w2 ⟨rfl,hb⟩;have rd:w2.heap[W.heap.size]?=some (.cells #[.bool y,.string c,.string n,.string ds] 53 (0,0)):=(hb.block (W.heap.size) (by first|omega|(simp;try omega))).trans (by first|exact rB.out|exact hkeep rB.out|exact hkeep (hkeep rB.out)|exact halloc2 _ _ rfl|exact heap_alloc2_old _ _ _|exact heap_alloc2_new _ _ _|exact hkeep (halloc2 _ _ rfl)|exact hkeep (hkeep (halloc2 _ _ rfl))|exact halloc2 _ _ (by simp;done));(try clear rB rL rN r0 r1 r2 r3 rf0 rf1 rf2 rf3);have rB:Hid (w2.heap[W.heap.size]?=some (.cells #[.bool y,.string c,.string n,.string ds] 53 (0,0))):=rd;have r0:w2.cell? ⟨W.heap.size,0,none⟩=some (.bool y):=(cell_of_row w2 (W.heap.size) 0 _ _ _ rd).trans rfl;have rf0:=frozen_of_row w2 (W.heap.size) 0 _ _ rd;have r1:w2.cell? ⟨W.heap.size,1,none⟩=some (.string c):=(cell_of_row w2 (W.heap.size) 1 _ _ _ rd).trans rfl;have rf1:=frozen_of_row w2 (W.heap.size) 1 _ _ rd;have r2:w2.cell? ⟨W.heap.size,2,none⟩=some (.string n):=(cell_of_row w2 (W.heap.size) 2 _ _ _ rd).trans rfl;have rf2:=frozen_of_row w2 (W.heap.size) 2 _ _ rd;have r3:w2.cell? ⟨W.heap.size,3,none⟩=some (.string ds):=(cell_of_row w2 (W.heap.size) 3 _ _ _ rd).trans rfl;have rf3:=frozen_of_row w2 (W.heap.size) 3 _ _ rd;have rL:W.heap.size<w2.heap.size:=(Array.getElem?_eq_some_iff.1 rd).1;have rN:¬ W.heap.size=w2.heap.size:=(by omega);clear rd;have zd:w2.heap[W.heap.size+1]?=some (.cells #[.int .i64 0,.int .i64 0] 24 (0,0)):=(hb.block (W.heap.size+1) (by first|omega|(simp;try omega))).trans (by first|exact zB.out|exact hkeep zB.out|exact hkeep (hkeep zB.out)|exact halloc2 _ _ rfl|exact heap_alloc2_old _ _ _|exact heap_alloc2_new _ _ _|exact hkeep (halloc2 _ _ rfl)|exact hkeep (hkeep (halloc2 _ _ rfl))|exact halloc2 _ _ (by simp;done));(try clear zB zL zN z0 z1 zf0 zf1);have zB:Hid (w2.heap[W.heap.size+1]?=some (.cells #[.int .i64 0,.int .i64 0] 24 (0,0))):=zd;have z0:w2.cell? ⟨W.heap.size+1,0,none⟩=some (.int .i64 0):=(cell_of_row w2 (W.heap.size+1) 0 _ _ _ zd).trans rfl;have zf0:=frozen_of_row w2 (W.heap.size+1) 0 _ _ zd;have z1:w2.cell? ⟨W.heap.size+1,1,none⟩=some (.int .i64 0):=(cell_of_row w2 (W.heap.size+1) 1 _ _ _ zd).trans rfl;have zf1:=frozen_of_row w2 (W.heap.size+1) 1 _ _ zd;have zL:W.heap.size+1<w2.heap.size:=(Array.getElem?_eq_some_iff.1 zd).1;have zN:¬ W.heap.size+1=w2.heap.size:=(by omega);clear zd;have B2:Hid (Below W.heap.size W w2):=bstep B1.out hb;clear hb HR)
            | (go_at_call 49;refine (HK.out _ B2.out).mono ?_;rintro e w3 ⟨rfl,hb⟩;have rd:w3.heap[W.heap.size]?=some (.cells #[.bool y,.string c,.string n,.string ds] 53 (0,0)):=(hb.block (W.heap.size) (by first|omega|(simp;try omega))).trans (by first|exact rB.out|exact hkeep rB.out|exact hkeep (hkeep rB.out)|exact halloc2 _ _ rfl|exact heap_alloc2_old _ _ _|exact heap_alloc2_new _ _ _|exact hkeep (halloc2 _ _ rfl)|exact hkeep (hkeep (halloc2 _ _ rfl))|exact halloc2 _ _ (by simp;done));(try clear rB rL rN r0 r1 r2 r3 rf0 rf1 rf2 rf3);have rB:Hid (w3.heap[W.heap.size]?=some (.cells #[.bool y,.string c,.string n,.string ds] 53 (0,0))):=rd;have r0:w3.cell? ⟨W.heap.size,0,none⟩=some (.bool y):=(cell_of_row w3 (W.heap.size) 0 _ _ _ rd).trans rfl;have rf0:=frozen_of_row w3 (W.heap.size) 0 _ _ rd;have r1:w3.cell? ⟨W.heap.size,1,none⟩=some (.string c):=(cell_of_row w3 (W.heap.size) 1 _ _ _ rd).trans rfl;have rf1:=frozen_of_row w3 (W.heap.size) 1 _ _ rd;have r2:w3.cell? ⟨W.heap.size,2,none⟩=some (.string n):=(cell_of_row w3 (W.heap.size) 2 _ _ _ rd).trans rfl;have rf2:=frozen_of_row w3 (W.heap.size) 2 _ _ rd;have r3:w3.cell? ⟨W.heap.size,3,none⟩=some (.string ds):=(cell_of_row w3 (W.heap.size) 3 _ _ _ rd).trans rfl;have rf3:=frozen_of_row w3 (W.heap.size) 3 _ _ rd;have rL:W.heap.size<w3.heap.size:=(Array.getElem?_eq_some_iff.1 rd).1;have rN:¬ W.heap.size=w3.heap.size:=(by omega);clear rd;have zd:w3.heap[W.heap.size+1]?=some (.cells #[.int .i64 0,.int .i64 0] 24 (0,0)):=(hb.block (W.heap.size+1) (by first|omega|(simp;try omega))).trans (by first|exact zB.out|exact hkeep zB.out|exact hkeep (hkeep zB.out)|exact halloc2 _ _ rfl|exact heap_alloc2_old _ _ _|exact heap_alloc2_new _ _ _|exact hkeep (halloc2 _ _ rfl)|exact hkeep (hkeep (halloc2 _ _ rfl))|exact halloc2 _ _ (by simp;done));(try clear zB zL zN z0 z1 zf0 zf1);have zB:Hid (w3.heap[W.heap.size+1]?=some (.cells #[.int .i64 0,.int .i64 0] 24 (0,0))):=zd;have z0:w3.cell? ⟨W.heap.size+1,0,none⟩=some (.int .i64 0):=(cell_of_row w3 (W.heap.size+1) 0 _ _ _ zd).trans rfl;have zf0:=frozen_of_row w3 (W.heap.size+1) 0 _ _ zd;have z1:w3.cell? ⟨W.heap.size+1,1,none⟩=some (.int .i64 0):=(cell_of_row w3 (W.heap.size+1) 1 _ _ _ zd).trans rfl;have zf1:=frozen_of_row w3 (W.heap.size+1) 1 _ _ zd;have zL:W.heap.size+1<w3.heap.size:=(Array.getElem?_eq_some_iff.1 zd).1;have zN:¬ W.heap.size+1=w3.heap.size:=(by omega);clear zd;have B3:Hid (Below W.heap.size W w3):=bstep B2.out hb;clear hb HK)
            | (go_at_call 48;refine (HH.out _ (B3.out.alloc B3.out.size _)).mono ?_;rintro e w4 ⟨rfl,hb⟩;have rd:w4.heap[W.heap.size]?=some (.cells #[.bool y,.string c,.string n,.string ds] 53 (0,0)):=(hb.block (W.heap.size) (by first|omega|(simp;try omega))).trans (by first|exact rB.out|exact hkeep rB.out|exact hkeep (hkeep rB.out)|exact halloc2 _ _ rfl|exact heap_alloc2_old _ _ _|exact heap_alloc2_new _ _ _|exact hkeep (halloc2 _ _ rfl)|exact hkeep (hkeep (halloc2 _ _ rfl))|exact halloc2 _ _ (by simp;done));(try clear rB rL rN r0 r1 r2 r3 rf0 rf1 rf2 rf3);have rB:Hid (w4.heap[W.heap.size]?=some (.cells #[.bool y,.string c,.string n,.string ds] 53 (0,0))):=rd;have r0:w4.cell? ⟨W.heap.size,0,none⟩=some (.bool y):=(cell_of_row w4 (W.heap.size) 0 _ _ _ rd).trans rfl;have rf0:=frozen_of_row w4 (W.heap.size) 0 _ _ rd;have r1:w4.cell? ⟨W.heap.size,1,none⟩=some (.string c):=(cell_of_row w4 (W.heap.size) 1 _ _ _ rd).trans rfl;have rf1:=frozen_of_row w4 (W.heap.size) 1 _ _ rd;have r2:w4.cell? ⟨W.heap.size,2,none⟩=some (.string n):=(cell_of_row w4 (W.heap.size) 2 _ _ _ rd).trans rfl;have rf2:=frozen_of_row w4 (W.heap.size) 2 _ _ rd;have r3:w4.cell? ⟨W.heap.size,3,none⟩=some (.string ds):=(cell_of_row w4 (W.heap.size) 3 _ _ _ rd).trans rfl;have rf3:=frozen_of_row w4 (W.heap.size) 3 _ _ rd;have rL:W.heap.size<w4.heap.size:=(Array.getElem?_eq_some_iff.1 rd).1;have rN:¬ W.heap.size=w4.heap.size:=(by omega);clear rd;have zd:w4.heap[W.heap.size+1]?=some (.cells #[.int .i64 0,.int .i64 0] 24 (0,0)):=(hb.block (W.heap.size+1) (by first|omega|(simp;try omega))).trans (by first|exact zB.out|exact hkeep zB.out|exact hkeep (hkeep zB.out)|exact halloc2 _ _ rfl|exact heap_alloc2_old _ _ _|exact heap_alloc2_new _ _ _|exact hkeep (halloc2 _ _ rfl)|exact hkeep (hkeep (halloc2 _ _ rfl))|exact halloc2 _ _ (by simp;done));(try clear zB zL zN z0 z1 zf0 zf1);have zB:Hid (w4.heap[W.heap.size+1]?=some (.cells #[.int .i64 0,.int .i64 0] 24 (0,0))):=zd;have z0:w4.cell? ⟨W.heap.size+1,0,none⟩=some (.int .i64 0):=(cell_of_row w4 (W.heap.size+1) 0 _ _ _ zd).trans rfl;have zf0:=frozen_of_row w4 (W.heap.size+1) 0 _ _ zd;have z1:w4.cell? ⟨W.heap.size+1,1,none⟩=some (.int .i64 0):=(cell_of_row w4 (W.heap.size+1) 1 _ _ _ zd).trans rfl;have zf1:=frozen_of_row w4 (W.heap.size+1) 1 _ _ zd;have zL:W.heap.size+1<w4.heap.size:=(Array.getElem?_eq_some_iff.1 zd).1;have zN:¬ W.heap.size+1=w4.heap.size:=(by omega);clear zd;have B4:Hid (Below W.heap.size W w4):=bstep (B3.out.alloc B3.out.size _) hb;clear hb HH))
          exact bodyPost_ret (v:=idE ((0,0),h2)) (by simp [results,Tryz.results31,go_sem,idE, *]) rfl ⟨rfl,(by repeat (first|exact B4.out|refine Below.setCell ?_ (by simp;try omega) _|refine Below.alloc ?_ (by have:=B4.out.size;simp;try omega) _|refine Below.drew ?_))⟩
      · rw [if_neg h4]
        go_enter Tryz.func31,Tryz.ntmps31
        go_wp2_with (first
          | (go_at_call 72;refine (HC.out _ (by repeat (first|exact Below.refl _ _|refine Below.setCell ?_ (by simp;try omega) _|refine Below.alloc ?_ (by simp;try omega) _|refine Below.drew ?_))).mono ?_;rintro e w1 ⟨rfl,hb⟩;have rd:w1.heap[W.heap.size]?=some (.cells #[.bool y,.string c,.string n,.string ds] 53 (0,0)):=(hb.block (W.heap.size) (by first|omega|(simp;try omega))).trans (by first|exact rB.out|exact hkeep rB.out|exact hkeep (hkeep rB.out)|exact halloc2 _ _ rfl|exact heap_alloc2_old _ _ _|exact heap_alloc2_new _ _ _|exact hkeep (halloc2 _ _ rfl)|exact hkeep (hkeep (halloc2 _ _ rfl))|exact halloc2 _ _ (by simp;done));(try clear rB rL rN r0 r1 r2 r3 rf0 rf1 rf2 rf3);have rB:Hid (w1.heap[W.heap.size]?=some (.cells #[.bool y,.string c,.string n,.string ds] 53 (0,0))):=rd;have r0:w1.cell? ⟨W.heap.size,0,none⟩=some (.bool y):=(cell_of_row w1 (W.heap.size) 0 _ _ _ rd).trans rfl;have rf0:=frozen_of_row w1 (W.heap.size) 0 _ _ rd;have r1:w1.cell? ⟨W.heap.size,1,none⟩=some (.string c):=(cell_of_row w1 (W.heap.size) 1 _ _ _ rd).trans rfl;have rf1:=frozen_of_row w1 (W.heap.size) 1 _ _ rd;have r2:w1.cell? ⟨W.heap.size,2,none⟩=some (.string n):=(cell_of_row w1 (W.heap.size) 2 _ _ _ rd).trans rfl;have rf2:=frozen_of_row w1 (W.heap.size) 2 _ _ rd;have r3:w1.cell? ⟨W.heap.size,3,none⟩=some (.string ds):=(cell_of_row w1 (W.heap.size) 3 _ _ _ rd).trans rfl;have rf3:=frozen_of_row w1 (W.heap.size) 3 _ _ rd;have rL:W.heap.size<w1.heap.size:=(Array.getElem?_eq_some_iff.1 rd).1;have rN:¬ W.heap.size=w1.heap.size:=(by omega);clear rd;have zd:w1.heap[W.heap.size+1]?=some (.cells #[.int .i64 0,.int .i64 0] 24 (0,0)):=(hb.block (W.heap.size+1) (by first|omega|(simp;try omega))).trans (by first|exact zB.out|exact hkeep zB.out|exact hkeep (hkeep zB.out)|exact halloc2 _ _ rfl|exact heap_alloc2_old _ _ _|exact heap_alloc2_new _ _ _|exact hkeep (halloc2 _ _ rfl)|exact hkeep (hkeep (halloc2 _ _ rfl))|exact halloc2 _ _ (by simp;done));(try clear zB zL zN z0 z1 zf0 zf1);have zB:Hid (w1.heap[W.heap.size+1]?=some (.cells #[.int .i64 0,.int .i64 0] 24 (0,0))):=zd;have z0:w1.cell? ⟨W.heap.size+1,0,none⟩=some (.int .i64 0):=(cell_of_row w1 (W.heap.size+1) 0 _ _ _ zd).trans rfl;have zf0:=frozen_of_row w1 (W.heap.size+1) 0 _ _ zd;have z1:w1.cell? ⟨W.heap.size+1,1,none⟩=some (.int .i64 0):=(cell_of_row w1 (W.heap.size+1) 1 _ _ _ zd).trans rfl;have zf1:=frozen_of_row w1 (W.heap.size+1) 1 _ _ zd;have zL:W.heap.size+1<w1.heap.size:=(Array.getElem?_eq_some_iff.1 zd).1;have zN:¬ W.heap.size+1=w1.heap.size:=(by omega);clear zd;have B1:Hid (Below W.heap.size W w1):=bstep (by repeat (first|exact Below.refl _ _|refine Below.setCell ?_ (by simp;try omega) _|refine Below.alloc ?_ (by simp;try omega) _|refine Below.drew ?_)) hb;clear hb HC)
          | (go_at_call 73;refine (HR.out _).mono ?_;rintro e w2 ⟨rfl,hb⟩;have rd:w2.heap[W.heap.size]?=some (.cells #[.bool y,.string c,.string n,.string ds] 53 (0,0)):=(hb.block (W.heap.size) (by first|omega|(simp;try omega))).trans (by first|exact rB.out|exact hkeep rB.out|exact hkeep (hkeep rB.out)|exact halloc2 _ _ rfl|exact heap_alloc2_old _ _ _|exact heap_alloc2_new _ _ _|exact hkeep (halloc2 _ _ rfl)|exact hkeep (hkeep (halloc2 _ _ rfl))|exact halloc2 _ _ (by simp;done));(try clear rB rL rN r0 r1 r2 r3 rf0 rf1 rf2 rf3);have rB:Hid (w2.heap[W.heap.size]?=some (.cells #[.bool y,.string c,.string n,.string ds] 53 (0,0))):=rd;have r0:w2.cell? ⟨W.heap.size,0,none⟩=some (.bool y):=(cell_of_row w2 (W.heap.size) 0 _ _ _ rd).trans rfl;have rf0:=frozen_of_row w2 (W.heap.size) 0 _ _ rd;have r1:w2.cell? ⟨W.heap.size,1,none⟩=some (.string c):=(cell_of_row w2 (W.heap.size) 1 _ _ _ rd).trans rfl;have rf1:=frozen_of_row w2 (W.heap.size) 1 _ _ rd;have r2:w2.cell? ⟨W.heap.size,2,none⟩=some (.string n):=(cell_of_row w2 (W.heap.size) 2 _ _ _ rd).trans rfl;have rf2:=frozen_of_row w2 (W.heap.size) 2 _ _ rd;have r3:w2.cell? ⟨W.heap.size,3,none⟩=some (.string ds):=(cell_of_row w2 (W.heap.size) 3 _ _ _ rd).trans rfl;have rf3:=frozen_of_row w2 (W.heap.size) 3 _ _ rd;have rL:W.heap.size<w2.heap.size:=(Array.getElem?_eq_some_iff.1 rd).1;have rN:¬ W.heap.size=w2.heap.size:=(by omega);clear rd;have zd:w2.heap[W.heap.size+1]?=some (.cells #[.int .i64 0,.int .i64 0] 24 (0,0)):=(hb.block (W.heap.size+1) (by first|omega|(simp;try omega))).trans (by first|exact zB.out|exact hkeep zB.out|exact hkeep (hkeep zB.out)|exact halloc2 _ _ rfl|exact heap_alloc2_old _ _ _|exact heap_alloc2_new _ _ _|exact hkeep (halloc2 _ _ rfl)|exact hkeep (hkeep (halloc2 _ _ rfl))|exact halloc2 _ _ (by simp;done));(try clear zB zL zN z0 z1 zf0 zf1);have zB:Hid (w2.heap[W.heap.size+1]?=some (.cells #[.int .i64 0,.int .i64 0] 24 (0,0))):=zd;have z0:w2.cell? ⟨W.heap.size+1,0,none⟩=some (.int .i64 0):=(cell_of_row w2 (W.heap.size+1) 0 _ _ _ zd).trans rfl;have zf0:=frozen_of_row w2 (W.heap.size+1) 0 _ _ zd;have z1:w2.cell? ⟨W.heap.size+1,1,none⟩=some (.int .i64 0):=(cell_of_row w2 (W.heap.size+1) 1 _ _ _ zd).trans rfl;have zf1:=frozen_of_row w2 (W.heap.size+1) 1 _ _ zd;have zL:W.heap.size+1<w2.heap.size:=(Array.getElem?_eq_some_iff.1 zd).1;have zN:¬ W.heap.size+1=w2.heap.size:=(by omega);clear zd;have B2:Hid (Below W.heap.size W w2):=bstep B1.out hb;clear hb HR)
          | (go_at_call 49;refine (HK.out _ B2.out).mono ?_;rintro e w3 ⟨rfl,hb⟩;have rd:w3.heap[W.heap.size]?=some (.cells #[.bool y,.string c,.string n,.string ds] 53 (0,0)):=(hb.block (W.heap.size) (by first|omega|(simp;try omega))).trans (by first|exact rB.out|exact hkeep rB.out|exact hkeep (hkeep rB.out)|exact halloc2 _ _ rfl|exact heap_alloc2_old _ _ _|exact heap_alloc2_new _ _ _|exact hkeep (halloc2 _ _ rfl)|exact hkeep (hkeep (halloc2 _ _ rfl))|exact halloc2 _ _ (by simp;done));(try clear rB rL rN r0 r1 r2 r3 rf0 rf1 rf2 rf3);have rB:Hid (w3.heap[W.heap.size]?=some (.cells #[.bool y,.string c,.string n,.string ds] 53 (0,0))):=rd;have r0:w3.cell? ⟨W.heap.size,0,none⟩=some (.bool y):=(cell_of_row w3 (W.heap.size) 0 _ _ _ rd).trans rfl;have rf0:=frozen_of_row w3 (W.heap.size) 0 _ _ rd;have r1:w3.cell? ⟨W.heap.size,1,none⟩=some (.string c):=(cell_of_row w3 (W.heap.size) 1 _ _ _ rd).trans rfl;have rf1:=frozen_of_row w3 (W.heap.size) 1 _ _ rd;have r2:w3.cell? ⟨W.heap.size,2,none⟩=some (.string n):=(cell_of_row w3 (W.heap.size) 2 _ _ _ rd).trans rfl;have rf2:=frozen_of_row w3 (W.heap.size) 2 _ _ rd;have r3:w3.cell? ⟨W.heap.size,3,none⟩=some (.string ds):=(cell_of_row w3 (W.heap.size) 3 _ _ _ rd).trans rfl;have rf3:=frozen_of_row w3 (W.heap.size) 3 _ _ rd;have rL:W.heap.size<w3.heap.size:=(Array.getElem?_eq_some_iff.1 rd).1;have rN:¬ W.heap.size=w3.heap.size:=(by omega);clear rd;have zd:w3.heap[W.heap.size+1]?=some (.cells #[.int .i64 0,.int .i64 0] 24 (0,0)):=(hb.block (W.heap.size+1) (by first|omega|(simp;try omega))).trans (by first|exact zB.out|exact hkeep zB.out|exact hkeep (hkeep zB.out)|exact halloc2 _ _ rfl|exact heap_alloc2_old _ _ _|exact heap_alloc2_new _ _ _|exact hkeep (halloc2 _ _ rfl)|exact hkeep (hkeep (halloc2 _ _ rfl))|exact halloc2 _ _ (by simp;done));(try clear zB zL zN z0 z1 zf0 zf1);have zB:Hid (w3.heap[W.heap.size+1]?=some (.cells #[.int .i64 0,.int .i64 0] 24 (0,0))):=zd;have z0:w3.cell? ⟨W.heap.size+1,0,none⟩=some (.int .i64 0):=(cell_of_row w3 (W.heap.size+1) 0 _ _ _ zd).trans rfl;have zf0:=frozen_of_row w3 (W.heap.size+1) 0 _ _ zd;have z1:w3.cell? ⟨W.heap.size+1,1,none⟩=some (.int .i64 0):=(cell_of_row w3 (W.heap.size+1) 1 _ _ _ zd).trans rfl;have zf1:=frozen_of_row w3 (W.heap.size+1) 1 _ _ zd;have zL:W.heap.size+1<w3.heap.size:=(Array.getElem?_eq_some_iff.1 zd).1;have zN:¬ W.heap.size+1=w3.heap.size:=(by omega);clear zd;have B3:Hid (Below W.heap.size W w3):=bstep B2.out hb;clear hb HK))
        exact bodyPost_ret (v:=idE ((0,0),t3)) (by simp [results,Tryz.results31,go_sem,idE, *]) rfl ⟨rfl,(by repeat (first|exact B3.out|refine Below.setCell ?_ (by simp;try omega) _|refine Below.alloc ?_ (by have:=B3.out.size;simp;try omega) _|refine Below.drew ?_))⟩
    · rw [if_neg h3]
      go_enter Tryz.func31,Tryz.ntmps31
      go_wp2_with (first
        | (go_at_call 72;refine (HC.out _ (by repeat (first|exact Below.refl _ _|refine Below.setCell ?_ (by simp;try omega) _|refine Below.alloc ?_ (by simp;try omega) _|refine Below.drew ?_))).mono ?_;rintro e w1 ⟨rfl,hb⟩;have rd:w1.heap[W.heap.size]?=some (.cells #[.bool y,.string c,.string n,.string ds] 53 (0,0)):=(hb.block (W.heap.size) (by first|omega|(simp;try omega))).trans (by first|exact rB.out|exact hkeep rB.out|exact hkeep (hkeep rB.out)|exact halloc2 _ _ rfl|exact heap_alloc2_old _ _ _|exact heap_alloc2_new _ _ _|exact hkeep (halloc2 _ _ rfl)|exact hkeep (hkeep (halloc2 _ _ rfl))|exact halloc2 _ _ (by simp;done));(try clear rB rL rN r0 r1 r2 r3 rf0 rf1 rf2 rf3);have rB:Hid (w1.heap[W.heap.size]?=some (.cells #[.bool y,.string c,.string n,.string ds] 53 (0,0))):=rd;have r0:w1.cell? ⟨W.heap.size,0,none⟩=some (.bool y):=(cell_of_row w1 (W.heap.size) 0 _ _ _ rd).trans rfl;have rf0:=frozen_of_row w1 (W.heap.size) 0 _ _ rd;have r1:w1.cell? ⟨W.heap.size,1,none⟩=some (.string c):=(cell_of_row w1 (W.heap.size) 1 _ _ _ rd).trans rfl;have rf1:=frozen_of_row w1 (W.heap.size) 1 _ _ rd;have r2:w1.cell? ⟨W.heap.size,2,none⟩=some (.string n):=(cell_of_row w1 (W.heap.size) 2 _ _ _ rd).trans rfl;have rf2:=frozen_of_row w1 (W.heap.size) 2 _ _ rd;have r3:w1.cell? ⟨W.heap.size,3,none⟩=some (.string ds):=(cell_of_row w1 (W.heap.size) 3 _ _ _ rd).trans rfl;have rf3:=frozen_of_row w1 (W.heap.size) 3 _ _ rd;have rL:W.heap.size<w1.heap.size:=(Array.getElem?_eq_some_iff.1 rd).1;have rN:¬ W.heap.size=w1.heap.size:=(by omega);clear rd;have zd:w1.heap[W.heap.size+1]?=some (.cells #[.int .i64 0,.int .i64 0] 24 (0,0)):=(hb.block (W.heap.size+1) (by first|omega|(simp;try omega))).trans (by first|exact zB.out|exact hkeep zB.out|exact hkeep (hkeep zB.out)|exact halloc2 _ _ rfl|exact heap_alloc2_old _ _ _|exact heap_alloc2_new _ _ _|exact hkeep (halloc2 _ _ rfl)|exact hkeep (hkeep (halloc2 _ _ rfl))|exact halloc2 _ _ (by simp;done));(try clear zB zL zN z0 z1 zf0 zf1);have zB:Hid (w1.heap[W.heap.size+1]?=some (.cells #[.int .i64 0,.int .i64 0] 24 (0,0))):=zd;have z0:w1.cell? ⟨W.heap.size+1,0,none⟩=some (.int .i64 0):=(cell_of_row w1 (W.heap.size+1) 0 _ _ _ zd).trans rfl;have zf0:=frozen_of_row w1 (W.heap.size+1) 0 _ _ zd;have z1:w1.cell? ⟨W.heap.size+1,1,none⟩=some (.int .i64 0):=(cell_of_row w1 (W.heap.size+1) 1 _ _ _ zd).trans rfl;have zf1:=frozen_of_row w1 (W.heap.size+1) 1 _ _ zd;have zL:W.heap.size+1<w1.heap.size:=(Array.getElem?_eq_some_iff.1 zd).1;have zN:¬ W.heap.size+1=w1.heap.size:=(by omega);clear zd;have B1:Hid (Below W.heap.size W w1):=bstep (by repeat (first|exact Below.refl _ _|refine Below.setCell ?_ (by simp;try omega) _|refine Below.alloc ?_ (by simp;try omega) _|refine Below.drew ?_)) hb;clear hb HC)
        | (go_at_call 73;refine (HR.out _).mono ?_;rintro e w2 ⟨rfl,hb⟩;have rd:w2.heap[W.heap.size]?=some (.cells #[.bool y,.string c,.string n,.string ds] 53 (0,0)):=(hb.block (W.heap.size) (by first|omega|(simp;try omega))).trans (by first|exact rB.out|exact hkeep rB.out|exact hkeep (hkeep rB.out)|exact halloc2 _ _ rfl|exact heap_alloc2_old _ _ _|exact heap_alloc2_new _ _ _|exact hkeep (halloc2 _ _ rfl)|exact hkeep (hkeep (halloc2 _ _ rfl))|exact halloc2 _ _ (by simp;done));(try clear rB rL rN r0 r1 r2 r3 rf0 rf1 rf2 rf3);have rB:Hid (w2.heap[W.heap.size]?=some (.cells #[.bool y,.string c,.string n,.string ds] 53 (0,0))):=rd;have r0:w2.cell? ⟨W.heap.size,0,none⟩=some (.bool y):=(cell_of_row w2 (W.heap.size) 0 _ _ _ rd).trans rfl;have rf0:=frozen_of_row w2 (W.heap.size) 0 _ _ rd;have r1:w2.cell? ⟨W.heap.size,1,none⟩=some (.string c):=(cell_of_row w2 (W.heap.size) 1 _ _ _ rd).trans rfl;have rf1:=frozen_of_row w2 (W.heap.size) 1 _ _ rd;have r2:w2.cell? ⟨W.heap.size,2,none⟩=some (.string n):=(cell_of_row w2 (W.heap.size) 2 _ _ _ rd).trans rfl;have rf2:=frozen_of_row w2 (W.heap.size) 2 _ _ rd;have r3:w2.cell? ⟨W.heap.size,3,none⟩=some (.string ds):=(cell_of_row w2 (W.heap.size) 3 _ _ _ rd).trans rfl;have rf3:=frozen_of_row w2 (W.heap.size) 3 _ _ rd;have rL:W.heap.size<w2.heap.size:=(Array.getElem?_eq_some_iff.1 rd).1;have rN:¬ W.heap.size=w2.heap.size:=(by omega);clear rd;have zd:w2.heap[W.heap.size+1]?=some (.cells #[.int .i64 0,.int .i64 0] 24 (0,0)):=(hb.block (W.heap.size+1) (by first|omega|(simp;try omega))).trans (by first|exact zB.out|exact hkeep zB.out|exact hkeep (hkeep zB.out)|exact halloc2 _ _ rfl|exact heap_alloc2_old _ _ _|exact heap_alloc2_new _ _ _|exact hkeep (halloc2 _ _ rfl)|exact hkeep (hkeep (halloc2 _ _ rfl))|exact halloc2 _ _ (by simp;done));(try clear zB zL zN z0 z1 zf0 zf1);have zB:Hid (w2.heap[W.heap.size+1]?=some (.cells #[.int .i64 0,.int .i64 0] 24 (0,0))):=zd;have z0:w2.cell? ⟨W.heap.size+1,0,none⟩=some (.int .i64 0):=(cell_of_row w2 (W.heap.size+1) 0 _ _ _ zd).trans rfl;have zf0:=frozen_of_row w2 (W.heap.size+1) 0 _ _ zd;have z1:w2.cell? ⟨W.heap.size+1,1,none⟩=some (.int .i64 0):=(cell_of_row w2 (W.heap.size+1) 1 _ _ _ zd).trans rfl;have zf1:=frozen_of_row w2 (W.heap.size+1) 1 _ _ zd;have zL:W.heap.size+1<w2.heap.size:=(Array.getElem?_eq_some_iff.1 zd).1;have zN:¬ W.heap.size+1=w2.heap.size:=(by omega);clear zd;have B2:Hid (Below W.heap.size W w2):=bstep B1.out hb;clear hb HR))
      exact bodyPost_ret (v:=idE ((0,0),1)) (by simp [results,Tryz.results31,go_sem,idE, *]) rfl ⟨rfl,(by repeat (first|exact B2.out|refine Below.setCell ?_ (by simp;try omega) _|refine Below.alloc ?_ (by have:=B2.out.size;simp;try omega) _|refine Below.drew ?_))⟩
  · rw [if_neg h0]
    go_enter Tryz.func31,Tryz.ntmps31
    go_wp2_with (first
      | (go_at_call 72;refine (HC.out _ (by repeat (first|exact Below.refl _ _|refine Below.setCell ?_ (by simp;try omega) _|refine Below.alloc ?_ (by simp;try omega) _|refine Below.drew ?_))).mono ?_;rintro e w1 ⟨rfl,hb⟩;have rd:w1.heap[W.heap.size]?=some (.cells #[.bool y,.string c,.string n,.string ds] 53 (0,0)):=(hb.block (W.heap.size) (by first|omega|(simp;try omega))).trans (by first|exact rB.out|exact hkeep rB.out|exact hkeep (hkeep rB.out)|exact halloc2 _ _ rfl|exact heap_alloc2_old _ _ _|exact heap_alloc2_new _ _ _|exact hkeep (halloc2 _ _ rfl)|exact hkeep (hkeep (halloc2 _ _ rfl))|exact halloc2 _ _ (by simp;done));(try clear rB rL rN r0 r1 r2 r3 rf0 rf1 rf2 rf3);have rB:Hid (w1.heap[W.heap.size]?=some (.cells #[.bool y,.string c,.string n,.string ds] 53 (0,0))):=rd;have r0:w1.cell? ⟨W.heap.size,0,none⟩=some (.bool y):=(cell_of_row w1 (W.heap.size) 0 _ _ _ rd).trans rfl;have rf0:=frozen_of_row w1 (W.heap.size) 0 _ _ rd;have r1:w1.cell? ⟨W.heap.size,1,none⟩=some (.string c):=(cell_of_row w1 (W.heap.size) 1 _ _ _ rd).trans rfl;have rf1:=frozen_of_row w1 (W.heap.size) 1 _ _ rd;have r2:w1.cell? ⟨W.heap.size,2,none⟩=some (.string n):=(cell_of_row w1 (W.heap.size) 2 _ _ _ rd).trans rfl;have rf2:=frozen_of_row w1 (W.heap.size) 2 _ _ rd;have r3:w1.cell? ⟨W.heap.size,3,none⟩=some (.string ds):=(cell_of_row w1 (W.heap.size) 3 _ _ _ rd).trans rfl;have rf3:=frozen_of_row w1 (W.heap.size) 3 _ _ rd;have rL:W.heap.size<w1.heap.size:=(Array.getElem?_eq_some_iff.1 rd).1;have rN:¬ W.heap.size=w1.heap.size:=(by omega);clear rd;have zd:w1.heap[W.heap.size+1]?=some (.cells #[.int .i64 0,.int .i64 0] 24 (0,0)):=(hb.block (W.heap.size+1) (by first|omega|(simp;try omega))).trans (by first|exact zB.out|exact hkeep zB.out|exact hkeep (hkeep zB.out)|exact halloc2 _ _ rfl|exact heap_alloc2_old _ _ _|exact heap_alloc2_new _ _ _|exact hkeep (halloc2 _ _ rfl)|exact hkeep (hkeep (halloc2 _ _ rfl))|exact halloc2 _ _ (by simp;done));(try clear zB zL zN z0 z1 zf0 zf1);have zB:Hid (w1.heap[W.heap.size+1]?=some (.cells #[.int .i64 0,.int .i64 0] 24 (0,0))):=zd;have z0:w1.cell? ⟨W.heap.size+1,0,none⟩=some (.int .i64 0):=(cell_of_row w1 (W.heap.size+1) 0 _ _ _ zd).trans rfl;have zf0:=frozen_of_row w1 (W.heap.size+1) 0 _ _ zd;have z1:w1.cell? ⟨W.heap.size+1,1,none⟩=some (.int .i64 0):=(cell_of_row w1 (W.heap.size+1) 1 _ _ _ zd).trans rfl;have zf1:=frozen_of_row w1 (W.heap.size+1) 1 _ _ zd;have zL:W.heap.size+1<w1.heap.size:=(Array.getElem?_eq_some_iff.1 zd).1;have zN:¬ W.heap.size+1=w1.heap.size:=(by omega);clear zd;have B1:Hid (Below W.heap.size W w1):=bstep (by repeat (first|exact Below.refl _ _|refine Below.setCell ?_ (by simp;try omega) _|refine Below.alloc ?_ (by simp;try omega) _|refine Below.drew ?_)) hb;clear hb HC))
    exact bodyPost_ret (v:=idE ((0,0),ck)) (by simp [results,Tryz.results31,go_sem,idE, *]) rfl ⟨rfl,(by repeat (first|exact B1.out|refine Below.setCell ?_ (by simp;try omega) _|refine Below.alloc ?_ (by have:=B1.out.size;simp;try omega) _|refine Below.drew ?_))⟩
theorem sameID_c (a b:Int×Int) (w:World):Calls Tryz.prog 24 #[.agg #[.int .i64 a.1,.int .i64 a.2],.agg #[.int .i64 b.1,.int .i64 b.2]] w fun e w'=>e=.returned (.bool ((a.1 == b.1)&&(a.2 == b.2)))∧Below w.heap.size w w':=by
  obtain ⟨a1,a2⟩:=a
  obtain ⟨b1,b2⟩:=b
  by_cases h1:a1=b1
  · by_cases h2:a2=b2
    · subst h1 h2
      go_enter Tryz.func24,Tryz.ntmps24
      go_wp2
      exact bodyPost_ret (results_tmp rfl _ _ _) rfl ⟨by simp,(by repeat (first|exact Below.refl _ _|refine Below.setCell ?_ (by simp;try omega) _|refine Below.alloc ?_ (by simp;try omega) _|refine Below.drew ?_))⟩
    · subst h1
      go_enter Tryz.func24,Tryz.ntmps24
      go_wp2
      exact bodyPost_ret (results_tmp rfl _ _ _) rfl ⟨by simp,(by repeat (first|exact Below.refl _ _|refine Below.setCell ?_ (by simp;try omega) _|refine Below.alloc ?_ (by simp;try omega) _|refine Below.drew ?_))⟩
  · go_enter Tryz.func24,Tryz.ntmps24
    go_wp2
    exact bodyPost_ret (results_tmp rfl _ _ _) rfl ⟨by simp [h1],(by repeat (first|exact Below.refl _ _|refine Below.setCell ?_ (by simp;try omega) _|refine Below.alloc ?_ (by simp;try omega) _|refine Below.drew ?_))⟩
def FndF (ps:List Plc) (nm ds:ByteArray) (m:Int×Int):Prop:=∃ x,methI ps m.1 m.2=some x∧x.nm.toList=nm.toList∧x.ds.toList=ds.toList
theorem fnd_facts {ps:List Plc} {c:Int} {nm ds:ByteArray} (h:(fndI ps c nm ds).2=0):FndF ps nm ds (c,(fndI ps c nm ds).1)∧∃ (k:Nat) (q:Plc),c=(k:Int)∧ps[k]?=some q:=by
  rcases plcI_cases ps c with ⟨h1,h2⟩|⟨k,q,rfl,h2,h1⟩
  · rw [fndI,h1] at h;exact absurd h (by show ¬ (3:Int)=0;decide)
  · have e:fndI ps k nm ds=if findH nm ds q.c.ms 0<0 then (0,6) else (findH nm ds q.c.ms 0,0):=by rw [fndI,h1]
    refine ⟨?_,k,q,rfl,h2⟩
    rw [e] at h ⊢
    rcases findH_range nm ds q.c.ms 0 with e2|⟨j,x,e2,hj,hn,hd⟩
    · rw [e2,if_pos (by decide)] at h;exact absurd h (by decide)
    · rw [e2,if_neg (by omega)]
      refine ⟨x,?_,hn,hd⟩
      rw [methI,h1]
      show methP q ((0+j:Nat):Int)=some x
      rw [methP,if_pos (Int.natCast_nonneg _)]
      simpa using hj
theorem own_facts2 {ps:List Plc} {c:Int} {nm ds:ByteArray} {m:Int×Int} (h:ownR ps nm ds c=(m,0)):m=(c,(fndI ps c nm ds).1)∧(fndI ps c nm ds).2=0:=by
  unfold ownR at h
  split at h
  · rename_i h0
    exact ⟨(congrArg Prod.fst h).symm,h0⟩
  · rename_i h0
    exact absurd (congrArg Prod.snd h) h0
theorem up_facts {ps:List Plc} {nm ds:ByteArray} {m:Int×Int}:∀ {l:List Nat},upR ps nm ds l=(m,0)→∃ i∈l,ownR ps nm ds (i:Int)=(m,0)
  | [],h=>by simp [upR] at h
  | i::r,h=>by
    rw [upR] at h
    split at h
    · rename_i h0
      refine ⟨i,by simp,?_⟩
      have e1:(ownR ps nm ds (i:Int)).1=m:=by have:=congrArg Prod.fst h;exact this
      exact Prod.ext e1 h0
    · obtain ⟨j,hj,e⟩:=up_facts h
      exact ⟨j,by simp [hj],e⟩
theorem fir_facts {m:Int×Int}:∀ {l:List ((Int×Int)×Int)},firR l=(m,0)→(m,0)∈l
  | [],h=>by simp [firR] at h
  | x::r,h=>by
    rw [firR] at h
    split at h
    · rename_i h0
      have e1:x.1=m:=by have:=congrArg Prod.fst h;exact this
      have:x=(m,0):=Prod.ext e1 h0
      simp [this]
    · exact List.mem_cons_of_mem _ (fir_facts h)
theorem one_mem {ps:List Plc} {l:List (Int×Int)} {m:Int×Int} (h:oneV ps l=(m,0)):m∈l:=by
  unfold oneV at h
  split at h
  · simp at h
  · rename_i x e
    have:x=m:=congrArg Prod.fst h
    subst this
    have:x∈oneL ps l:=by rw [e];simp
    exact max_mem (List.mem_filter.1 this).1
  · simp at h
theorem some_mem {l:List (Int×Int)} {m:Int×Int} (h:someV l=(m,0)):m∈l:=by
  cases l with
  | nil=>simp [someV] at h
  | cons x r=>simp [someV] at h;simp [h]
theorem look_facts {ps:List Plc} (hW:WI ps) {c:Int} {nm ds:ByteArray} {m:Int×Int} (h:lookR ps nm ds c=(m,0)):FndF ps nm ds m∧extI ps c m.1=true∧ifcI ps c=false:=by
  rcases plcI_cases ps c with ⟨h1,h2⟩|⟨k,q,rfl,h2,h1⟩
  · rw [lookR,h1] at h;exact absurd (congrArg Prod.snd h) (by show ¬ (3:Int)=0;decide)
  · have hk:=(List.getElem?_eq_some_iff.1 h2).1
    rw [lookR,h1] at h
    simp only at h
    cases hf:ifcI ps (k:Int) with
    | true=>rw [hf,if_pos rfl] at h;exact absurd (congrArg Prod.snd h) (by show ¬ (23:Int)=0;decide)
    | false =>
      rw [hf,if_neg (by simp)] at h
      have hm:=fir_facts h
      simp only [List.mem_cons,List.not_mem_nil,or_false] at hm
      rcases hm with hm|hm|hm
      · obtain ⟨i,hi,hio⟩:=up_facts hm.symm
        obtain ⟨rfl,h0⟩:=own_facts2 hio
        obtain ⟨hF,j,p,hj,hp⟩:=fnd_facts h0
        have hij:i=j:=by omega
        subst hij
        have hil:=(List.getElem?_eq_some_iff.1 hp).1
        refine ⟨hF,?_,rfl⟩
        show extI ps (k:Int) (i:Int)=true
        rw [extI_nat hk hil,ext_iff]
        exact .inl hi
      · obtain ⟨_,_,he,x,h3,h4,h5,_⟩:=cand_facts hW h2 (one_mem hm.symm)
        exact ⟨⟨x,h3,h4,h5⟩,he,rfl⟩
      · obtain ⟨_,_,he,x,h3,h4,h5,_⟩:=cand_facts hW h2 (some_mem hm.symm)
        exact ⟨⟨x,h3,h4,h5⟩,he,rfl⟩
theorem top_facts {ps:List Plc} {nm ds:ByteArray} {m:Int×Int} (h:topR ps nm ds=(m,0)):ownR ps nm ds 0=(m,0):=by
  unfold topR at h
  split at h
  · split at h
    · split at h
      · exact h
      · exact absurd (congrArg Prod.snd h) (by show ¬ (6:Int)=0;decide)
    · exact absurd (congrArg Prod.snd h) (by show ¬ (3:Int)=0;decide)
  · rename_i h0
    exact absurd (congrArg Prod.snd h) h0
theorem lif_facts {ps:List Plc} (hW:WI ps) {c:Int} {nm ds:ByteArray} {m:Int×Int} (h:lifR ps nm ds c=(m,0)):FndF ps nm ds m∧extI ps c m.1=true∧ifcI ps c=true:=by
  rcases plcI_cases ps c with ⟨h1,h2⟩|⟨k,q,rfl,h2,h1⟩
  · rw [lifR,h1] at h;exact absurd (congrArg Prod.snd h) (by show ¬ (3:Int)=0;decide)
  · have hk:=(List.getElem?_eq_some_iff.1 h2).1
    rw [lifR,h1] at h
    simp only at h
    cases hf:ifcI ps (k:Int) with
    | false=>rw [hf,if_neg (by simp)] at h;exact absurd (congrArg Prod.snd h) (by show ¬ (23:Int)=0;decide)
    | true =>
      rw [hf,if_pos rfl] at h
      have hm:=fir_facts h
      simp only [List.mem_cons,List.not_mem_nil,or_false] at hm
      rcases hm with hm|hm|hm|hm
      · obtain ⟨rfl,h0⟩:=own_facts2 hm.symm
        obtain ⟨hF,_⟩:=fnd_facts h0
        refine ⟨hF,?_,rfl⟩
        show extI ps (k:Int) (k:Int)=true
        rw [extI_nat hk hk];exact ext_self _ _
      · obtain ⟨rfl,h0⟩:=own_facts2 (top_facts hm.symm)
        obtain ⟨hF,_⟩:=fnd_facts h0
        refine ⟨hF,?_,rfl⟩
        have:=hW.lo
        show extI ps (k:Int) ((0:Nat):Int)=true
        rw [extI_nat hk (by omega)];exact ext_top hW.wo (by simpa using hk)
      · obtain ⟨_,_,he,x,h3,h4,h5,_⟩:=cand_facts hW h2 (one_mem hm.symm)
        exact ⟨⟨x,h3,h4,h5⟩,he,rfl⟩
      · obtain ⟨_,_,he,x,h3,h4,h5,_⟩:=cand_facts hW h2 (some_mem hm.symm)
        exact ⟨⟨x,h3,h4,h5⟩,he,rfl⟩
theorem shu_zero {o:Bool} {e:Int} (h:shuI o e=0):o=true∧e=0:=by
  unfold shuI at h
  split at h
  · rename_i h0
    split at h
    · rename_i h1;exact ⟨h1,h0⟩
    · exact absurd h (by decide)
  · rename_i h0;exact absurd h h0
structure MetF (ps:List Plc) (d:Int) (y:Bool) (c n ds:ByteArray) (m:Int×Int):Prop where
  ck:rckI ps d=0
  rc:rckE c.data.toList n.data.toList ds.data.toList=0
  cl:(clsR ps d c.data.toList).2=0
  hl:(hldR ps (clsR ps d c.data.toList).1.1 (clsR ps d c.data.toList).1.2).2=0
  lb:lbyR ps y n ds (hldR ps (clsR ps d c.data.toList).1.1 (clsR ps d c.data.toList).1.2).1=(m,0)
  mo:moP ps d m.1 m.2 (hldR ps (clsR ps d c.data.toList).1.1 (clsR ps d c.data.toList).1.2).1=(true,0)
theorem met_facts {ps:List Plc} {d:Int} {y:Bool} {c n ds:ByteArray} {m:Int×Int} (h:metR ps d y c n ds=(m,0)):MetF ps d y c n ds m:=by
  unfold metR at h
  split at h
  · rename_i hck
    split at h
    · rename_i hrc
      unfold metS at h
      split at h
      · rename_i hcl
        split at h
        · rename_i hhl
          split at h
          · rename_i hlb
            split at h
            · rename_i hsh
              have hm:(lbyR ps y n ds (hldR ps (clsR ps d c.data.toList).1.1 (clsR ps d c.data.toList).1.2).1).1=m:=congrArg Prod.fst h
              obtain ⟨h1,h2⟩:=shu_zero hsh
              rw [hm] at h1 h2
              exact ⟨hck,hrc,hcl,hhl,Prod.ext hm hlb,Prod.ext h1 h2⟩
            · rename_i h0;exact absurd (congrArg Prod.snd h) h0
          · rename_i h0;exact absurd (congrArg Prod.snd h) h0
        · rename_i h0;exact absurd (congrArg Prod.snd h) h0
      · rename_i h0;exact absurd (congrArg Prod.snd h) h0
    · exact absurd (congrArg Prod.snd h) (by show ¬ (1:Int)=0;decide)
  · rename_i h0;exact absurd (congrArg Prod.snd h) h0
theorem lby_facts {ps:List Plc} (hW:WI ps) {y:Bool} {c:Int} {nm ds:ByteArray} {m:Int×Int} (h:lbyR ps y nm ds c=(m,0)):FndF ps nm ds m∧extI ps c m.1=true∧ifcI ps c=y:=by
  cases y with
  | true=>exact lif_facts hW h
  | false=>exact look_facts hW h
structure Gr (ps:List Plc) (p:Plc):Prop where
  wi:WI ps
  wi2:WI (ps++[p])
  nn:lookL ps (nameL p)=none
theorem clO_snoc (ns:List Nd) (p:Nd) {k:Nat} (hk:k<ns.length):clO (ns++[p]) k=clO ns k:=by rw [clO,clO,List.getElem?_append_left hk]
theorem spO_snoc (ns:List Nd) (p:Nd) {k:Nat} (hk:k<ns.length):spO (ns++[p]) k=spO ns k:=by rw [spO,spO,List.getElem?_append_left hk]
theorem chL_snoc {ns:List Nd} {p:Nd} (h:WO ns) (h2:WO (ns++[p])):∀ k,k<ns.length→chL (ns++[p]) k=chL ns k:=by
  refine ch_ind h (P:=fun k=>chL (ns++[p]) k=chL ns k) rfl ?_
  intro k hk h0 _ ih
  rw [chL_cons h hk h0,chL_cons h2 (by simp;omega) h0,spO_snoc ns p hk,ih]
theorem extB_snoc {ns:List Nd} {p:Nd} (h:WO ns) (h2:WO (ns++[p])) {k:Nat} (hk:k<ns.length) (m:Nat):extB (ns++[p]) k m=extB ns k m:=by
  rw [extB,extB,chL_snoc h h2 k hk,clO_snoc ns p hk]
theorem ch_in {ns:List Nd} (h:WO ns):∀ k,k<ns.length→∀ i∈chL ns k,i<ns.length:=by
  refine ch_ind h (P:=fun k=>∀ i∈chL ns k,i<ns.length) ?_ ?_
  · intro i hi
    have h0:chL ns 0=[0]:=by rfl
    rw [h0] at hi
    obtain ⟨n,hn,_⟩:=h.top
    have:=(List.getElem?_eq_some_iff.1 hn).1
    simp at hi;omega
  · intro k hk h0 _ ih i hi
    rw [chL_cons h hk h0] at hi
    rcases List.mem_cons.1 hi with rfl|hi
    · exact hk
    · exact ih i hi
section
variable {ps:List Plc} {p:Plc}
theorem Gr.plc {i:Int} {q:Plc} (hi:plcI ps i=some q):plcI (ps++[p]) i=some q:=by
  obtain ⟨h1,h2⟩:=plcI_lt hi
  rw [plcI,if_pos h1] at hi ⊢
  rw [List.getElem?_append_left (by omega)];exact hi
theorem plc_nat {k:Nat} (hk:k<ps.length):∃ q,plcI ps (k:Int)=some q:=⟨ps[k],by rw [plcI_nat];exact List.getElem?_eq_getElem hk⟩
theorem Gr.fnd {i:Int} {q:Plc} (hi:plcI ps i=some q) (nm ds:ByteArray):fndI (ps++[p]) i nm ds=fndI ps i nm ds:=by
  rw [fndI,fndI,hi,Gr.plc hi]
theorem Gr.met {i:Int} {q:Plc} (hi:plcI ps i=some q) (j:Int):methI (ps++[p]) i j=methI ps i j:=by
  rw [methI,methI,hi,Gr.plc hi]
theorem Gr.has {i:Int} {q:Plc} (hi:plcI ps i=some q) (j f:Int):hasS (ps++[p]) i j f=hasS ps i j f:=by
  rw [hasS,hasS,Gr.met hi]
theorem Gr.ifc {i:Int} {q:Plc} (hi:plcI ps i=some q):ifcI (ps++[p]) i=ifcI ps i:=by
  rw [ifcI,ifcI,hi,Gr.plc hi]
theorem Gr.own {i:Int} {q:Plc} (hi:plcI ps i=some q) (nm ds:ByteArray):ownR (ps++[p]) nm ds i=ownR ps nm ds i:=by
  rw [ownR,ownR,Gr.fnd hi]
theorem Gr.ext (h:Gr ps p) {i j:Int} {q r:Plc} (hi:plcI ps i=some q) (hj:plcI ps j=some r):extI (ps++[p]) i j=extI ps i j:=by
  have h1:=plcI_lt hi
  rw [extI,extI,hi,hj,Gr.plc hi,Gr.plc hj,List.map_append]
  show (_&&extB (ps.map nd++[nd p]) _ _)=_
  have hw:=h.wi2.wo
  rw [List.map_append] at hw
  rw [extB_snoc h.wi.wo hw (by simp;omega)]
theorem Gr.top (h:Gr ps p) (nm ds:ByteArray):topR (ps++[p]) nm ds=topR ps nm ds:=by
  have:=h.wi.lo
  obtain ⟨q,hq⟩:=plc_nat (ps:=ps) (k:=0) (by omega)
  have hq:plcI ps 0=some q:=hq
  rw [topR,topR,Gr.own hq]
  by_cases h0:(ownR ps nm ds 0).2=0
  · rw [if_pos h0,if_pos h0]
    have h1:(ownR ps nm ds 0).1.1=0:=by
      unfold ownR;split
      · rfl
      · rfl
    rw [h1,Gr.met hq]
  · rw [if_neg h0,if_neg h0]
theorem Gr.up (nm ds:ByteArray):∀ l:List Nat,(∀ i∈l,i<ps.length)→upR (ps++[p]) nm ds l=upR ps nm ds l
  | [],_=>rfl
  | i::r,h=>by
    obtain ⟨q,hq⟩:=plc_nat (h i (by simp))
    rw [upR,upR,Gr.own hq,Gr.up nm ds r (fun j hj=>h j (by simp [hj]))]
theorem Gr.cand (nm ds:ByteArray):∀ l:List Nat,(∀ i∈l,i<ps.length)→candL (ps++[p]) nm ds l=candL ps nm ds l
  | [],_=>rfl
  | i::r,h=>by
    obtain ⟨q,hq⟩:=plc_nat (h i (by simp))
    have e1:cand1 (ps++[p]) nm ds i=cand1 ps nm ds i:=by rw [cand1,cand1,Gr.fnd hq,Gr.has hq]
    have e2:=Gr.cand nm ds r (fun j hj=>h j (by simp [hj]))
    rw [candL] at e2 ⊢
    rw [candL] at e2 ⊢
    rw [List.flatMap_cons,List.flatMap_cons,e1,e2]
theorem cand_in {nm ds:ByteArray} {l:List Nat} (h:∀ i∈l,i<ps.length) {m:Int×Int} (hm:m∈candL ps nm ds l):∃ q,plcI ps m.1=some q:=by
  rw [candL] at hm
  obtain ⟨i,hi,hc⟩:=List.mem_flatMap.1 hm
  unfold cand1 at hc
  split at hc
  · simp at hc;subst hc;exact plc_nat (h i hi)
  · simp at hc
theorem Gr.max (h:Gr ps p) {l:List (Int×Int)} (hl:∀ m∈l,∃ q,plcI ps m.1=some q):maxL (ps++[p]) l=maxL ps l:=by
  rw [maxL,maxL]
  refine List.filter_congr fun m hm=>?_
  obtain ⟨q,hq⟩:=hl m hm
  have:overB (ps++[p]) l m=overB ps l m:=by
    rw [overB,overB,Bool.eq_iff_iff,List.any_eq_true,List.any_eq_true]
    constructor
    · rintro ⟨o,ho,hh⟩
      obtain ⟨r,hr⟩:=hl o ho
      exact ⟨o,ho,by rw [h.ext hr hq] at hh;exact hh⟩
    · rintro ⟨o,ho,hh⟩
      obtain ⟨r,hr⟩:=hl o ho
      exact ⟨o,ho,by rw [h.ext hr hq];exact hh⟩
  rw [this]
theorem Gr.one (h:Gr ps p) {l:List (Int×Int)} (hl:∀ m∈l,∃ q,plcI ps m.1=some q):oneV (ps++[p]) l=oneV ps l:=by
  have e:oneL (ps++[p]) l=oneL ps l:=by
    rw [oneL,oneL,h.max hl]
    refine List.filter_congr fun m hm=>?_
    obtain ⟨q,hq⟩:=hl m (max_mem hm)
    rw [Gr.has hq]
  rw [oneV,oneV,e]
theorem cl_in (h:WI ps) {i:Int} {q:Plc} (hi:plcI ps i=some q):∀ j∈q.cl,j<ps.length:=by
  intro j hj
  obtain ⟨h1,h2⟩:=plcI_lt hi
  rw [plcI,if_pos h1] at hi
  have:=((h.wo.cl i.toNat (nd q) (nd_at' hi)).2 j hj).1
  omega
theorem Gr.look (h:Gr ps p) {c:Int} {q:Plc} (hc:plcI ps c=some q) (nm ds:ByteArray):lookR (ps++[p]) nm ds c=lookR ps nm ds c:=by
  obtain ⟨h1,h2⟩:=plcI_lt hc
  have hw:=h.wi2.wo
  rw [List.map_append] at hw
  have hlt:c.toNat<(ps.map nd).length:=by simp;omega
  have hch:chL ((ps++[p]).map nd) c.toNat=chL (ps.map nd) c.toNat:=by rw [List.map_append];exact chL_snoc h.wi.wo hw _ hlt
  have hup:=Gr.up (ps:=ps) (p:=p) nm ds (chL (ps.map nd) c.toNat) (fun i hi=>by have:=ch_in h.wi.wo _ hlt i hi;simpa using this)
  rw [lookR,lookR,hc,Gr.plc hc]
  simp only
  rw [Gr.ifc hc,hch,hup,Gr.cand nm ds q.cl (cl_in h.wi hc),h.one (fun m hm=>cand_in (cl_in h.wi hc) hm)]
theorem Gr.lif (h:Gr ps p) {c:Int} {q:Plc} (hc:plcI ps c=some q) (nm ds:ByteArray):lifR (ps++[p]) nm ds c=lifR ps nm ds c:=by
  rw [lifR,lifR,hc,Gr.plc hc]
  simp only
  rw [Gr.ifc hc,Gr.own hc,h.top,Gr.cand nm ds q.cl (cl_in h.wi hc),h.one (fun m hm=>cand_in (cl_in h.wi hc) hm)]
theorem Gr.lby (h:Gr ps p) (y:Bool) {c:Int} {q:Plc} (hc:plcI ps c=some q) (nm ds:ByteArray):lbyR (ps++[p]) y nm ds c=lbyR ps y nm ds c:=by
  rw [lbyR,lbyR,h.look hc,h.lif hc]
theorem Gr.ld (h:Gr ps p) {x:Int} {s:ByteArray} (hn:ldI ps x s≠20):ldI (ps++[p]) x s=ldI ps x s:=by
  unfold ldI at hn ⊢
  split
  · rename_i h1
    rw [if_pos h1] at hn
    split
    · rfl
    · rename_i h2
      rw [if_neg h2] at hn
      cases hl:lookL ps s.data.toList with
      | none=>rw [hl] at hn;exact absurd rfl hn
      | some k=>rw [look_snoc hl h.nn]
  · rfl
theorem ld_some {x:Int} {s:ByteArray} (h0:ldI ps x s=0) (hs:¬ s.toList.isEmpty=true):∃ k,lookL ps s.data.toList=some k:=by
  unfold ldI at h0
  split at h0
  · try rw [if_neg hs] at h0
    cases hl:lookL ps s.data.toList with
    | none=>rw [hl] at h0;exact absurd h0 (by decide)
    | some k=>exact ⟨k,rfl⟩
  · exact absurd h0 (by decide)
theorem Gr.tyo (h:Gr ps p) {x:Int} {s:ByteArray} (h0:ldI ps x s=0) (r:Plc):tyO (ps++[p]) r s=tyO ps r s:=by
  unfold tyO
  split
  · rfl
  · rename_i h2
    obtain ⟨k,hk⟩:=ld_some h0 h2
    obtain ⟨q,hq,_⟩:=look_place hk
    rw [look_snoc hk h.nn,hk]
    simp only
    rw [List.getElem?_append_left (List.getElem?_eq_some_iff.1 hq).1]
theorem Gr.to (h:Gr ps p) {d x:Int} {s:ByteArray} {r:Plc} (hd:plcI ps d=some r) (hn:ldI ps x s≠20):toP (ps++[p]) d x s=toP ps d x s:=by
  rw [toP,toP,hd,Gr.plc hd]
  simp only
  rw [h.ld hn]
  by_cases h0:ldI ps x s=0
  · rw [if_pos h0,if_pos h0,h.tyo h0]
  · rw [if_neg h0,if_neg h0]
theorem rck_snoc {d:Int} (h:rckI ps d=0):∃ r,plcI ps d=some r∧rckI (ps++[p]) d=0:=by
  cases hd:plcI ps d with
  | none=>rw [rck_none hd] at h;exact absurd h (by decide)
  | some r=>exact ⟨r,rfl,rck_some (Gr.plc hd)⟩
theorem Gr.cls (h:Gr ps p) {d:Int} {l:List UInt8} (hd:rckI ps d=0) (hn:(clsR ps d l).2≠20):clsR (ps++[p]) d l=clsR ps d l:=by
  obtain ⟨r,hr,hd2⟩:=rck_snoc (p:=p) hd
  unfold clsR at hn ⊢
  rw [if_pos hd] at hn ⊢
  rw [if_pos hd2]
  by_cases h1:prfE l=0
  · rw [if_pos h1] at hn ⊢
    rw [if_pos h1]
    have hl:ldI ps (prfT l).1 (tyS l)≠20:=by
      intro e
      have e2:tyX ps d l=20:=by
        rw [tyX,toP,hr]
        simp only
        rw [e];rfl
      rw [e2] at hn
      exact hn rfl
    have:tyX (ps++[p]) d l=tyX ps d l:=by rw [tyX,tyX,h.to hr hl]
    rw [this]
  · rw [if_neg h1,if_neg h1]
theorem sndNeg (x:Int) (s:ByteArray) (h:sndB x s.data.toList=true) (hx:x<0):False:=by
  unfold sndB at h
  simp only [Bool.and_eq_true,decide_eq_true_eq] at h
  omega
theorem lby_in (hW:WI ps) {y:Bool} {n ds:ByteArray} {k:Int} (h:(lbyR ps y n ds k).2=0):∃ q,plcI ps (lbyR ps y n ds k).1.1=some q:=by
  have hF:FndF ps n ds (lbyR ps y n ds k).1:=by
    cases y with
    | true=>exact (lif_facts hW (c:=k) (Prod.ext rfl h)).1
    | false=>exact (look_facts hW (c:=k) (Prod.ext rfl h)).1
  obtain ⟨x,hx,_⟩:=hF
  cases hp:plcI ps (lbyR ps y n ds k).1.1 with
  | none=>rw [methI,hp] at hx;cases hx
  | some q=>exact ⟨q,rfl⟩
theorem Gr.hld (h:Gr ps p) {x:Int} {s:ByteArray} (hn:(hldR ps x s).2≠20):hldR (ps++[p]) x s=hldR ps x s∧∃ q,plcI ps (hldR ps x s).1=some q:=by
  have hlo:=h.wi.lo
  obtain ⟨q0,hq0⟩:=plc_nat (ps:=ps) (k:=0) (by omega)
  have hq0:plcI ps 0=some q0:=hq0
  unfold hldR at hn ⊢
  by_cases h0:ldI ps x s=0
  · have h2:ldI (ps++[p]) x s=0:=by rw [h.ld (by rw [h0];decide)];exact h0
    rw [if_pos h0,if_pos h2]
    by_cases h3:intB x s=true
    · rw [if_pos h3,if_pos h3];exact ⟨rfl,q0,hq0⟩
    · rw [if_neg h3,if_neg h3]
      by_cases h4:0<x
      · rw [if_pos h4,if_pos h4];exact ⟨rfl,q0,hq0⟩
      · rw [if_neg h4,if_neg h4]
        by_cases h5:s.toList.isEmpty=true
        · exfalso
          unfold ldI at h0
          split at h0
          · rename_i h6
            unfold intB at h3
            rw [h5] at h3
            have hx:x≠0:=fun e=>h3 (by rw [e];rfl)
            exact sndNeg x s h6 (by omega)
          · exact absurd h0 (by decide)
        · obtain ⟨k,hk⟩:=ld_some h0 h5
          obtain ⟨q,hq,_⟩:=look_place hk
          rw [look_snoc hk h.nn,hk]
          exact ⟨rfl,q,by show plcI ps (k:Int)=_;rw [plcI_nat];exact hq⟩
  · rw [if_neg h0] at hn ⊢
    have h2:=h.ld hn
    rw [if_neg (by rw [h2];exact h0),h2]
    exact ⟨rfl,q0,hq0⟩
theorem Gr.mo (h:Gr ps p) {d c i n:Int} {r1 r2 r3:Plc} (hd:plcI ps d=some r1) (hn:plcI ps n=some r2) (hc:plcI ps c=some r3):moP (ps++[p]) d c i n=moP ps d c i n:=by
  rw [moP,moP,hd,hn,hc,Gr.plc hd,Gr.plc hn,Gr.plc hc,Gr.met hc]
  cases methI ps c i with
  | none=>rfl
  | some m =>
    simp only
    rw [mOpen,mOpen,h.ext hd hc,Gr.ifc hc,h.ext hn hd,h.ext hd hn]
theorem Gr.metR (h:Gr ps p) {d:Int} {y:Bool} {c n ds:ByteArray} (h3:(Go.Proofs.YtfoldbhlmmmpeaaGreat.metR ps d y c n ds).2≠3) (h20:(Go.Proofs.YtfoldbhlmmmpeaaGreat.metR ps d y c n ds).2≠20):Go.Proofs.YtfoldbhlmmmpeaaGreat.metR (ps++[p]) d y c n ds=Go.Proofs.YtfoldbhlmmmpeaaGreat.metR ps d y c n ds:=by
  by_cases hd:rckI ps d=0
  · obtain ⟨r,hr,hd2⟩:=rck_snoc (p:=p) hd
    unfold Go.Proofs.YtfoldbhlmmmpeaaGreat.metR at h3 h20 ⊢
    rw [if_pos hd] at h3 h20 ⊢
    rw [if_pos hd2]
    by_cases h1:rckE c.data.toList n.data.toList ds.data.toList=0
    · rw [if_pos h1] at h3 h20 ⊢
      rw [if_pos h1]
      unfold metS at h3 h20 ⊢
      have hcl:(clsR ps d c.data.toList).2≠20:=by
        intro e
        rw [if_neg (by rw [e];decide),e] at h20
        exact h20 rfl
      rw [h.cls hd hcl]
      generalize clsR ps d c.data.toList=cl at *
      obtain ⟨⟨x,s⟩,e⟩:=cl
      by_cases he:e=0
      · subst he
        rw [if_pos rfl] at h3 h20 ⊢
        rw [if_pos rfl]
        simp only at h3 h20 ⊢
        have hh:(hldR ps x s).2≠20:=by
          intro e
          rw [if_neg (by rw [e];decide),e] at h20
          exact h20 rfl
        obtain ⟨e1,q,hq⟩:=h.hld hh
        rw [e1]
        generalize hldR ps x s=hl at *
        obtain ⟨k,e⟩:=hl
        by_cases he:e=0
        · subst he
          rw [if_pos rfl] at h3 h20 ⊢
          rw [if_pos rfl]
          simp only at h3 h20 hq ⊢
          rw [h.lby y hq]
          by_cases hl:(lbyR ps y n ds k).2=0
          · rw [if_pos hl,if_pos hl]
            have hm:∃ q,plcI ps (lbyR ps y n ds k).1.1=some q:=lby_in h.wi hl
            obtain ⟨q2,hq2⟩:=hm
            rw [h.mo hr hq hq2]
          · rw [if_neg hl,if_neg hl]
        · rw [if_neg he,if_neg he]
      · rw [if_neg he,if_neg he]
    · rw [if_neg h1,if_neg h1]
  · exfalso
    unfold Go.Proofs.YtfoldbhlmmmpeaaGreat.metR at h3
    rw [if_neg hd] at h3
    cases hp:plcI ps d with
    | none=>rw [rck_none hp] at h3;exact h3 rfl
    | some r=>exact hd (rck_some hp)
end
theorem rw2 {w:World} {n:Nat} {t:TypeId} {a0 a1:Value} (h:w.heap[n]?=some (.cells #[a0,a1] t (0,0))):w.cell? ⟨n,0,none⟩=some a0∧w.cell? ⟨n,1,none⟩=some a1∧(∀ k,w.frozen? ⟨n,k,none⟩=false)∧n<w.heap.size :=
  ⟨(cell_of_row w n 0 _ _ _ h).trans rfl,(cell_of_row w n 1 _ _ _ h).trans rfl,fun k=>frozen_of_row w n k _ _ h,(Array.getElem?_eq_some_iff.1 h).1⟩
theorem rw4 {w:World} {n:Nat} {t:TypeId} {a0 a1 a2 a3:Value} (h:w.heap[n]?=some (.cells #[a0,a1,a2,a3] t (0,0))):w.cell? ⟨n,0,none⟩=some a0∧w.cell? ⟨n,1,none⟩=some a1∧w.cell? ⟨n,2,none⟩=some a2∧w.cell? ⟨n,3,none⟩=some a3∧(∀ k,w.frozen? ⟨n,k,none⟩=false)∧n<w.heap.size :=
  ⟨(cell_of_row w n 0 _ _ _ h).trans rfl,(cell_of_row w n 1 _ _ _ h).trans rfl,(cell_of_row w n 2 _ _ _ h).trans rfl,(cell_of_row w n 3 _ _ _ h).trans rfl,fun k=>frozen_of_row w n k _ _ h,(Array.getElem?_eq_some_iff.1 h).1⟩
theorem rw6 {w:World} {n:Nat} {t:TypeId} {a0 a1 a2 a3 a4 a5:Value} (h:w.heap[n]?=some (.cells #[a0,a1,a2,a3,a4,a5] t (0,0))):w.cell? ⟨n,0,none⟩=some a0∧w.cell? ⟨n,1,none⟩=some a1∧w.cell? ⟨n,2,none⟩=some a2∧w.cell? ⟨n,3,none⟩=some a3∧w.cell? ⟨n,4,none⟩=some a4∧w.cell? ⟨n,5,none⟩=some a5∧(∀ k,w.frozen? ⟨n,k,none⟩=false)∧n<w.heap.size :=
  ⟨(cell_of_row w n 0 _ _ _ h).trans rfl,(cell_of_row w n 1 _ _ _ h).trans rfl,(cell_of_row w n 2 _ _ _ h).trans rfl,(cell_of_row w n 3 _ _ _ h).trans rfl,(cell_of_row w n 4 _ _ _ h).trans rfl,(cell_of_row w n 5 _ _ _ h).trans rfl,fun k=>frozen_of_row w n k _ _ h,(Array.getElem?_eq_some_iff.1 h).1⟩
end Go.Proofs.YtfoldbhlmmmpeaaGreat
