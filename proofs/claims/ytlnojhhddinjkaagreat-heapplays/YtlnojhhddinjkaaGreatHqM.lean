import Derived.Test.YtlnojhhddinjkaaGreatRfN
import Derived.Test.YtlnojhhddinjkaaGreatHqL
set_option maxHeartbeats 4000000
set_option maxRecDepth 100000
namespace Go.Proofs.YtlnojhhddinjkaaGreat
open Go.RowKit Go.Maps
theorem Zc1 (d:Int) (s:ByteArray) (W:World):Calls Tryz.prog 142 #[.agg #[.int .i64 d,.string s]] W fun e w'=>e=.returned (.bool (intB d s))∧Bw W w':=by
 obtain ⟨R,hR⟩:∃ R,intB d s=R:=⟨_,rfl⟩
 have HR:Hid (((d == 0)&&s.toList.isEmpty)=R):=hR
 rw [hR]
 clear hR
 go_enter Tryz.func142,Tryz.ntmps142
 go_wp2
 all_goals go_ret
 all_goals exact ⟨retB (by rw [← HR.out];simp [*]),sqR⟩
theorem Zgy (d:Nat) (hd:d≤255) (s:ByteArray) (W:World):Calls Tryz.prog 144 #[.agg #[.int .i64 ((d+1:Nat):Int),.string s]] W fun e w'=>e=.returned (.agg #[.int .i64 (d:Int),.string s])∧Bw W w':=by
 have e:((d+1:Nat):Int) - 1=(d:Int):=by omega
 go_enter Tryz.func144,Tryz.ntmps144
 go_wp2
 exact bodyPost_ret (v:=.agg #[.int .i64 (d:Int),.string s]) (by simp [results,Tryz.results144,go_sem]) rfl ⟨rfl,sqR⟩
theorem abv3_iff (t:ByteArray):abv3.contains t.data.toList=((t.toList == [79,98,106,101,99,116])||(t.toList == [67,108,111,110,101,97,98,108,101])||(t.toList == [83,101,114,105,97,108,105,122,97,98,108,101])):=by
 rw [Lib.toList_data]
 simp only [abv3,List.contains_cons,List.contains_nil,Bool.or_false,sObj,sClo,sSer,Bool.or_assoc]
theorem Zd8 {b:Nat} {cs:List Cls} {ps:List Plc} {W:World} (h:RAt b cs W) (ht:TwW cs ps) (s:ByteArray) (x:Nat) (hx:Zn ps s.data.toList=some x):Calls Tryz.prog 118 #[.pointer (some ⟨b,0,none⟩),.string s] W fun e w'=>e=.returned (.tuple #[.int .i64 (x:Int),.int .i64 0])∧w'=W:=by
 have hn:cs.length≤300:=by rw [ht.tw.len];exact ht.wi.hi
 refine (Zd9 h s hn).mono fun e w' zz=>⟨?_,zz.2⟩
 rw [zz.1,Lib.toList_data,Xn ht.tw ht.nm,hx]
 show Ending.returned (bnC (x:Int))=_
 rw [bnC,if_neg (by omega)]
theorem rBelow0 {b:Nat} {cs:List Cls} {ps:List Plc} {W:World} (h:RAt b cs W) (ht:TwW cs ps) (hJ:WJ ps) (da db:Nat) (s t:ByteArray) (hab:da=0∨db=0) (hld:s.toList.isEmpty=false→∃ x,Zn ps s.data.toList=some x) (hlt:t.toList.isEmpty=false→∃ x,Zn ps t.data.toList=some x):Calls Tryz.prog 120 #[.pointer (some ⟨b,0,none⟩),.agg #[.int .i64 (da:Int),.string s],.agg #[.int .i64 (db:Int),.string t]] W fun e w'=>e=.returned (.bool (belB ps da s db t))∧Bw W w':=by
 have HI1:Hid (∀ d u w,d=(da:Int)→u=s→Calls Tryz.prog 142 #[.agg #[.int .i64 d,.string u]] w fun e w'=>e=.returned (.bool (intB da s))∧Bw w w'):=fun d u w h1 h2=>by rw [h1,h2];exact Zc1 da s w
 have HI2:Hid (∀ d u w,d=(db:Int)→u=t→Calls Tryz.prog 142 #[.agg #[.int .i64 d,.string u]] w fun e w'=>e=.returned (.bool (intB db t))∧Bw w w'):=fun d u w h1 h2=>by rw [h1,h2];exact Zc1 db t w
 have hR:belB ps da s db t=if intB (da:Int) s||intB (db:Int) t then intB (da:Int) s&&intB (db:Int) t else belB ps da s db t:=by
  cases h1:intB (da:Int) s||intB (db:Int) t with
  | false=>rfl
  | true =>
    rw [if_pos rfl]
    unfold belB
    rw [h1,if_pos rfl]
    unfold intB at h1 ⊢
    simp only [Bool.or_eq_true,Bool.and_eq_true,beq_iff_eq,List.isEmpty_iff] at h1
    rw [Bool.eq_iff_iff]
    simp only [Bool.and_eq_true,beq_iff_eq,List.isEmpty_iff]
    rcases h1 with ⟨h1,h2⟩|⟨h1,h2⟩
    ·rw [h1,h2]
     exact ⟨fun ⟨a,b⟩=>⟨⟨rfl,rfl⟩,a.symm,b.symm⟩,fun ⟨_,a,b⟩=>⟨a.symm,b.symm⟩⟩
    ·rw [h1,h2]
     exact ⟨fun ⟨a,b⟩=>⟨⟨a,b⟩,rfl,rfl⟩,fun ⟨⟨a,b⟩,_⟩=>⟨a,b⟩⟩
 have ent:∀ (P:Prop),P→P:=fun _ h=>h
 clear ent
 cases h1:intB (da:Int) s with
 | true =>
   rw [h1] at HI1 hR
   simp only [Bool.true_or,if_true,Bool.true_and] at hR
   rw [hR]
   generalize intB (db:Int) t=i2 at *
   clear h ht hJ hld hlt h1 hR
   go_enter Tryz.func120,Tryz.ntmps120
   go_wp2_with (first
    | (go_at_call 142;refine (HI1.out _ _ _ (by rfl) (by rfl)).mono ?_;rintro e w1 ⟨rfl,hb⟩;have k1:=HI1;have ad:w1.heap[W.heap.size]?=some (.cells #[.int .i64 (da:Int),.string s] 40 (0,0)):=(hb.block (W.heap.size) (by first|omega|(simp;try omega))).trans (by first|exact aB.out|exact hkeep aB.out|exact hkeep (hkeep aB.out)|exact halloc2 _ _ rfl|exact heap_alloc2_old _ _ _|exact heap_alloc2_new _ _ _|exact hkeep (halloc2 _ _ rfl)|exact hkeep (hkeep (halloc2 _ _ rfl))|exact halloc2 _ _ (by simp;done));(try clear aB aL aN a0 a1 af0 af1);have aB:Hid (w1.heap[W.heap.size]?=some (.cells #[.int .i64 (da:Int),.string s] 40 (0,0))):=ad;have a0:w1.cell? ⟨W.heap.size,0,none⟩=some (.int .i64 (da:Int)):=(cell_of_row w1 (W.heap.size) 0 _ _ _ ad).trans rfl;have af0:=frozen_of_row w1 (W.heap.size) 0 _ _ ad;have a1:w1.cell? ⟨W.heap.size,1,none⟩=some (.string s):=(cell_of_row w1 (W.heap.size) 1 _ _ _ ad).trans rfl;have af1:=frozen_of_row w1 (W.heap.size) 1 _ _ ad;have aL:W.heap.size<w1.heap.size:=(Array.getElem?_eq_some_iff.1 ad).1;have aN:¬ W.heap.size=w1.heap.size:=(by omega);clear ad;have cd:w1.heap[W.heap.size+1]?=some (.cells #[.int .i64 (db:Int),.string t] 40 (0,0)):=(hb.block (W.heap.size+1) (by first|omega|(simp;try omega))).trans (by first|exact cB.out|exact hkeep cB.out|exact hkeep (hkeep cB.out)|exact halloc2 _ _ rfl|exact heap_alloc2_old _ _ _|exact heap_alloc2_new _ _ _|exact hkeep (halloc2 _ _ rfl)|exact hkeep (hkeep (halloc2 _ _ rfl))|exact halloc2 _ _ (by simp;done));(try clear cB cL cN c0 c1 cf0 cf1);have cB:Hid (w1.heap[W.heap.size+1]?=some (.cells #[.int .i64 (db:Int),.string t] 40 (0,0))):=cd;have c0:w1.cell? ⟨W.heap.size+1,0,none⟩=some (.int .i64 (db:Int)):=(cell_of_row w1 (W.heap.size+1) 0 _ _ _ cd).trans rfl;have cf0:=frozen_of_row w1 (W.heap.size+1) 0 _ _ cd;have c1:w1.cell? ⟨W.heap.size+1,1,none⟩=some (.string t):=(cell_of_row w1 (W.heap.size+1) 1 _ _ _ cd).trans rfl;have cf1:=frozen_of_row w1 (W.heap.size+1) 1 _ _ cd;have cL:W.heap.size+1<w1.heap.size:=(Array.getElem?_eq_some_iff.1 cd).1;have cN:¬ W.heap.size+1=w1.heap.size:=(by omega);clear cd;have B1:Hid (Bw W w1):=Za sqR hb;clear hb HI1)
    | (go_at_call 142;refine (k1.out _ _ _ (by rfl) (by rfl)).mono ?_;rintro e w2 ⟨rfl,hb⟩;have cd:w2.heap[W.heap.size+1]?=some (.cells #[.int .i64 (db:Int),.string t] 40 (0,0)):=(hb.block (W.heap.size+1) (by first|omega|(simp;try omega))).trans (by first|exact cB.out|exact hkeep cB.out|exact hkeep (hkeep cB.out)|exact halloc2 _ _ rfl|exact heap_alloc2_old _ _ _|exact heap_alloc2_new _ _ _|exact hkeep (halloc2 _ _ rfl)|exact hkeep (hkeep (halloc2 _ _ rfl))|exact halloc2 _ _ (by simp;done));(try clear cB cL cN c0 c1 cf0 cf1);have cB:Hid (w2.heap[W.heap.size+1]?=some (.cells #[.int .i64 (db:Int),.string t] 40 (0,0))):=cd;have c0:w2.cell? ⟨W.heap.size+1,0,none⟩=some (.int .i64 (db:Int)):=(cell_of_row w2 (W.heap.size+1) 0 _ _ _ cd).trans rfl;have cf0:=frozen_of_row w2 (W.heap.size+1) 0 _ _ cd;have c1:w2.cell? ⟨W.heap.size+1,1,none⟩=some (.string t):=(cell_of_row w2 (W.heap.size+1) 1 _ _ _ cd).trans rfl;have cf1:=frozen_of_row w2 (W.heap.size+1) 1 _ _ cd;have cL:W.heap.size+1<w2.heap.size:=(Array.getElem?_eq_some_iff.1 cd).1;have cN:¬ W.heap.size+1=w2.heap.size:=(by omega);clear cd;have B2:Hid (Bw W w2):=Za B1.out hb;clear hb k1)
    | (go_at_call 142;refine (HI2.out _ _ _ (by rfl) (by rfl)).mono ?_;rintro e w3 ⟨rfl,hb⟩;have B3:Hid (Bw W w3):=Za B2.out hb;clear hb HI2))
   exact bodyPost_ret (results_tmp rfl _ _ _) rfl ⟨rfl,B3.out⟩
 | false =>
   rw [h1] at HI1 hR
   cases h2:intB (db:Int) t with
   | true =>
     rw [h2] at HI2 hR
     simp only [Bool.or_true,if_true,Bool.false_and] at hR
     rw [hR]
     clear h ht hJ hld hlt h1 h2 hR
     go_enter Tryz.func120,Tryz.ntmps120
     go_wp2_with (first
      | (go_at_call 142;refine (HI1.out _ _ _ (by rfl) (by rfl)).mono ?_;rintro e w1 ⟨rfl,hb⟩;have k1:=HI1;have ad:w1.heap[W.heap.size]?=some (.cells #[.int .i64 (da:Int),.string s] 40 (0,0)):=(hb.block (W.heap.size) (by first|omega|(simp;try omega))).trans (by first|exact aB.out|exact hkeep aB.out|exact hkeep (hkeep aB.out)|exact halloc2 _ _ rfl|exact heap_alloc2_old _ _ _|exact heap_alloc2_new _ _ _|exact hkeep (halloc2 _ _ rfl)|exact hkeep (hkeep (halloc2 _ _ rfl))|exact halloc2 _ _ (by simp;done));(try clear aB aL aN a0 a1 af0 af1);have aB:Hid (w1.heap[W.heap.size]?=some (.cells #[.int .i64 (da:Int),.string s] 40 (0,0))):=ad;have a0:w1.cell? ⟨W.heap.size,0,none⟩=some (.int .i64 (da:Int)):=(cell_of_row w1 (W.heap.size) 0 _ _ _ ad).trans rfl;have af0:=frozen_of_row w1 (W.heap.size) 0 _ _ ad;have a1:w1.cell? ⟨W.heap.size,1,none⟩=some (.string s):=(cell_of_row w1 (W.heap.size) 1 _ _ _ ad).trans rfl;have af1:=frozen_of_row w1 (W.heap.size) 1 _ _ ad;have aL:W.heap.size<w1.heap.size:=(Array.getElem?_eq_some_iff.1 ad).1;have aN:¬ W.heap.size=w1.heap.size:=(by omega);clear ad;have cd:w1.heap[W.heap.size+1]?=some (.cells #[.int .i64 (db:Int),.string t] 40 (0,0)):=(hb.block (W.heap.size+1) (by first|omega|(simp;try omega))).trans (by first|exact cB.out|exact hkeep cB.out|exact hkeep (hkeep cB.out)|exact halloc2 _ _ rfl|exact heap_alloc2_old _ _ _|exact heap_alloc2_new _ _ _|exact hkeep (halloc2 _ _ rfl)|exact hkeep (hkeep (halloc2 _ _ rfl))|exact halloc2 _ _ (by simp;done));(try clear cB cL cN c0 c1 cf0 cf1);have cB:Hid (w1.heap[W.heap.size+1]?=some (.cells #[.int .i64 (db:Int),.string t] 40 (0,0))):=cd;have c0:w1.cell? ⟨W.heap.size+1,0,none⟩=some (.int .i64 (db:Int)):=(cell_of_row w1 (W.heap.size+1) 0 _ _ _ cd).trans rfl;have cf0:=frozen_of_row w1 (W.heap.size+1) 0 _ _ cd;have c1:w1.cell? ⟨W.heap.size+1,1,none⟩=some (.string t):=(cell_of_row w1 (W.heap.size+1) 1 _ _ _ cd).trans rfl;have cf1:=frozen_of_row w1 (W.heap.size+1) 1 _ _ cd;have cL:W.heap.size+1<w1.heap.size:=(Array.getElem?_eq_some_iff.1 cd).1;have cN:¬ W.heap.size+1=w1.heap.size:=(by omega);clear cd;have B1:Hid (Bw W w1):=Za sqR hb;clear hb HI1)
      | (go_at_call 142;refine (HI2.out _ _ _ (by rfl) (by rfl)).mono ?_;rintro e w2 ⟨rfl,hb⟩;have ad:w2.heap[W.heap.size]?=some (.cells #[.int .i64 (da:Int),.string s] 40 (0,0)):=(hb.block (W.heap.size) (by first|omega|(simp;try omega))).trans (by first|exact aB.out|exact hkeep aB.out|exact hkeep (hkeep aB.out)|exact halloc2 _ _ rfl|exact heap_alloc2_old _ _ _|exact heap_alloc2_new _ _ _|exact hkeep (halloc2 _ _ rfl)|exact hkeep (hkeep (halloc2 _ _ rfl))|exact halloc2 _ _ (by simp;done));(try clear aB aL aN a0 a1 af0 af1);have aB:Hid (w2.heap[W.heap.size]?=some (.cells #[.int .i64 (da:Int),.string s] 40 (0,0))):=ad;have a0:w2.cell? ⟨W.heap.size,0,none⟩=some (.int .i64 (da:Int)):=(cell_of_row w2 (W.heap.size) 0 _ _ _ ad).trans rfl;have af0:=frozen_of_row w2 (W.heap.size) 0 _ _ ad;have a1:w2.cell? ⟨W.heap.size,1,none⟩=some (.string s):=(cell_of_row w2 (W.heap.size) 1 _ _ _ ad).trans rfl;have af1:=frozen_of_row w2 (W.heap.size) 1 _ _ ad;have aL:W.heap.size<w2.heap.size:=(Array.getElem?_eq_some_iff.1 ad).1;have aN:¬ W.heap.size=w2.heap.size:=(by omega);clear ad;have B2:Hid (Bw W w2):=Za B1.out hb;clear hb HI2)
      | (go_at_call 142;refine (k1.out _ _ _ (by rfl) (by rfl)).mono ?_;rintro e w3 ⟨rfl,hb⟩;have B3:Hid (Bw W w3):=Za B2.out hb;clear hb k1))
     exact bodyPost_ret (results_tmp rfl _ _ _) rfl ⟨rfl,B3.out⟩
   | false =>
     rw [h2] at HI2
     clear hR
     have hR:belB ps da s db t=if 0<db then false else if 0<da then abv3.contains t.data.toList else match Zn ps s.data.toList,Zn ps t.data.toList with
      | some x,some y=>extB (ps.map nd) x y
      | _,_=>false:=by
      unfold belB;rw [h1,h2];rfl
     rw [hR]
     clear hR
     by_cases hdb:0<db
     ·have hda:da=0:=by omega
      subst hda
      rw [if_pos hdb]
      have g1:¬ (db:Int)=0:=by omega
      have g2:((db:Int) == 0)=false:=by simpa using g1
      clear h ht hJ hld hlt h1 h2 hab
      go_enter Tryz.func120,Tryz.ntmps120
      go_wp2_with (first
       | (go_at_call 142;refine (HI1.out _ _ _ (by rfl) (by rfl)).mono ?_;rintro e w1 ⟨rfl,hb⟩;have ad:w1.heap[W.heap.size]?=some (.cells #[.int .i64 0,.string s] 40 (0,0)):=(hb.block (W.heap.size) (by first|omega|(simp;try omega))).trans (by first|exact aB.out|exact hkeep aB.out|exact hkeep (hkeep aB.out)|exact halloc2 _ _ rfl|exact heap_alloc2_old _ _ _|exact heap_alloc2_new _ _ _|exact hkeep (halloc2 _ _ rfl)|exact hkeep (hkeep (halloc2 _ _ rfl))|exact halloc2 _ _ (by simp;done));(try clear aB aL aN a0 a1 af0 af1);have aB:Hid (w1.heap[W.heap.size]?=some (.cells #[.int .i64 0,.string s] 40 (0,0))):=ad;have a0:w1.cell? ⟨W.heap.size,0,none⟩=some (.int .i64 0):=(cell_of_row w1 (W.heap.size) 0 _ _ _ ad).trans rfl;have af0:=frozen_of_row w1 (W.heap.size) 0 _ _ ad;have a1:w1.cell? ⟨W.heap.size,1,none⟩=some (.string s):=(cell_of_row w1 (W.heap.size) 1 _ _ _ ad).trans rfl;have af1:=frozen_of_row w1 (W.heap.size) 1 _ _ ad;have aL:W.heap.size<w1.heap.size:=(Array.getElem?_eq_some_iff.1 ad).1;have aN:¬ W.heap.size=w1.heap.size:=(by omega);clear ad;have cd:w1.heap[W.heap.size+1]?=some (.cells #[.int .i64 (db:Int),.string t] 40 (0,0)):=(hb.block (W.heap.size+1) (by first|omega|(simp;try omega))).trans (by first|exact cB.out|exact hkeep cB.out|exact hkeep (hkeep cB.out)|exact halloc2 _ _ rfl|exact heap_alloc2_old _ _ _|exact heap_alloc2_new _ _ _|exact hkeep (halloc2 _ _ rfl)|exact hkeep (hkeep (halloc2 _ _ rfl))|exact halloc2 _ _ (by simp;done));(try clear cB cL cN c0 c1 cf0 cf1);have cB:Hid (w1.heap[W.heap.size+1]?=some (.cells #[.int .i64 (db:Int),.string t] 40 (0,0))):=cd;have c0:w1.cell? ⟨W.heap.size+1,0,none⟩=some (.int .i64 (db:Int)):=(cell_of_row w1 (W.heap.size+1) 0 _ _ _ cd).trans rfl;have cf0:=frozen_of_row w1 (W.heap.size+1) 0 _ _ cd;have c1:w1.cell? ⟨W.heap.size+1,1,none⟩=some (.string t):=(cell_of_row w1 (W.heap.size+1) 1 _ _ _ cd).trans rfl;have cf1:=frozen_of_row w1 (W.heap.size+1) 1 _ _ cd;have cL:W.heap.size+1<w1.heap.size:=(Array.getElem?_eq_some_iff.1 cd).1;have cN:¬ W.heap.size+1=w1.heap.size:=(by omega);clear cd;have B1:Hid (Bw W w1):=Za sqR hb;clear hb HI1)
       | (go_at_call 142;refine (HI2.out _ _ _ (by rfl) (by rfl)).mono ?_;rintro e w2 ⟨rfl,hb⟩;have ad:w2.heap[W.heap.size]?=some (.cells #[.int .i64 0,.string s] 40 (0,0)):=(hb.block (W.heap.size) (by first|omega|(simp;try omega))).trans (by first|exact aB.out|exact hkeep aB.out|exact hkeep (hkeep aB.out)|exact halloc2 _ _ rfl|exact heap_alloc2_old _ _ _|exact heap_alloc2_new _ _ _|exact hkeep (halloc2 _ _ rfl)|exact hkeep (hkeep (halloc2 _ _ rfl))|exact halloc2 _ _ (by simp;done));(try clear aB aL aN a0 a1 af0 af1);have aB:Hid (w2.heap[W.heap.size]?=some (.cells #[.int .i64 0,.string s] 40 (0,0))):=ad;have a0:w2.cell? ⟨W.heap.size,0,none⟩=some (.int .i64 0):=(cell_of_row w2 (W.heap.size) 0 _ _ _ ad).trans rfl;have af0:=frozen_of_row w2 (W.heap.size) 0 _ _ ad;have a1:w2.cell? ⟨W.heap.size,1,none⟩=some (.string s):=(cell_of_row w2 (W.heap.size) 1 _ _ _ ad).trans rfl;have af1:=frozen_of_row w2 (W.heap.size) 1 _ _ ad;have aL:W.heap.size<w2.heap.size:=(Array.getElem?_eq_some_iff.1 ad).1;have aN:¬ W.heap.size=w2.heap.size:=(by omega);clear ad;have cd:w2.heap[W.heap.size+1]?=some (.cells #[.int .i64 (db:Int),.string t] 40 (0,0)):=(hb.block (W.heap.size+1) (by first|omega|(simp;try omega))).trans (by first|exact cB.out|exact hkeep cB.out|exact hkeep (hkeep cB.out)|exact halloc2 _ _ rfl|exact heap_alloc2_old _ _ _|exact heap_alloc2_new _ _ _|exact hkeep (halloc2 _ _ rfl)|exact hkeep (hkeep (halloc2 _ _ rfl))|exact halloc2 _ _ (by simp;done));(try clear cB cL cN c0 c1 cf0 cf1);have cB:Hid (w2.heap[W.heap.size+1]?=some (.cells #[.int .i64 (db:Int),.string t] 40 (0,0))):=cd;have c0:w2.cell? ⟨W.heap.size+1,0,none⟩=some (.int .i64 (db:Int)):=(cell_of_row w2 (W.heap.size+1) 0 _ _ _ cd).trans rfl;have cf0:=frozen_of_row w2 (W.heap.size+1) 0 _ _ cd;have c1:w2.cell? ⟨W.heap.size+1,1,none⟩=some (.string t):=(cell_of_row w2 (W.heap.size+1) 1 _ _ _ cd).trans rfl;have cf1:=frozen_of_row w2 (W.heap.size+1) 1 _ _ cd;have cL:W.heap.size+1<w2.heap.size:=(Array.getElem?_eq_some_iff.1 cd).1;have cN:¬ W.heap.size+1=w2.heap.size:=(by omega);clear cd;have B2:Hid (Bw W w2):=Za B1.out hb;clear hb HI2))
      exact bodyPost_ret (results_tmp rfl _ _ _) rfl ⟨rfl,B2.out⟩
     ·have hdb0:db=0:=by omega
      subst hdb0
      rw [if_neg hdb]
      by_cases hda:0<da
      ·rw [if_pos hda]
       have g1:¬ (da:Int)=0:=by omega
       have g2:((da:Int) == 0)=false:=by simpa using g1
       have HAB:Hid (abv3.contains t.data.toList=((t.toList == [79,98,106,101,99,116])||(t.toList == [67,108,111,110,101,97,98,108,101])||(t.toList == [83,101,114,105,97,108,105,122,97,98,108,101]))):=abv3_iff t
       generalize abv3.contains t.data.toList=R at *
       clear h ht hJ hld hlt h1 h2 hab hdb
       go_enter Tryz.func120,Tryz.ntmps120
       go_wp2_with (first
        | (go_at_call 142;refine (HI1.out _ _ _ (by rfl) (by rfl)).mono ?_;rintro e w1 ⟨rfl,hb⟩;have ad:w1.heap[W.heap.size]?=some (.cells #[.int .i64 (da:Int),.string s] 40 (0,0)):=(hb.block (W.heap.size) (by first|omega|(simp;try omega))).trans (by first|exact aB.out|exact hkeep aB.out|exact hkeep (hkeep aB.out)|exact halloc2 _ _ rfl|exact heap_alloc2_old _ _ _|exact heap_alloc2_new _ _ _|exact hkeep (halloc2 _ _ rfl)|exact hkeep (hkeep (halloc2 _ _ rfl))|exact halloc2 _ _ (by simp;done));(try clear aB aL aN a0 a1 af0 af1);have aB:Hid (w1.heap[W.heap.size]?=some (.cells #[.int .i64 (da:Int),.string s] 40 (0,0))):=ad;have a0:w1.cell? ⟨W.heap.size,0,none⟩=some (.int .i64 (da:Int)):=(cell_of_row w1 (W.heap.size) 0 _ _ _ ad).trans rfl;have af0:=frozen_of_row w1 (W.heap.size) 0 _ _ ad;have a1:w1.cell? ⟨W.heap.size,1,none⟩=some (.string s):=(cell_of_row w1 (W.heap.size) 1 _ _ _ ad).trans rfl;have af1:=frozen_of_row w1 (W.heap.size) 1 _ _ ad;have aL:W.heap.size<w1.heap.size:=(Array.getElem?_eq_some_iff.1 ad).1;have aN:¬ W.heap.size=w1.heap.size:=(by omega);clear ad;have cd:w1.heap[W.heap.size+1]?=some (.cells #[.int .i64 0,.string t] 40 (0,0)):=(hb.block (W.heap.size+1) (by first|omega|(simp;try omega))).trans (by first|exact cB.out|exact hkeep cB.out|exact hkeep (hkeep cB.out)|exact halloc2 _ _ rfl|exact heap_alloc2_old _ _ _|exact heap_alloc2_new _ _ _|exact hkeep (halloc2 _ _ rfl)|exact hkeep (hkeep (halloc2 _ _ rfl))|exact halloc2 _ _ (by simp;done));(try clear cB cL cN c0 c1 cf0 cf1);have cB:Hid (w1.heap[W.heap.size+1]?=some (.cells #[.int .i64 0,.string t] 40 (0,0))):=cd;have c0:w1.cell? ⟨W.heap.size+1,0,none⟩=some (.int .i64 0):=(cell_of_row w1 (W.heap.size+1) 0 _ _ _ cd).trans rfl;have cf0:=frozen_of_row w1 (W.heap.size+1) 0 _ _ cd;have c1:w1.cell? ⟨W.heap.size+1,1,none⟩=some (.string t):=(cell_of_row w1 (W.heap.size+1) 1 _ _ _ cd).trans rfl;have cf1:=frozen_of_row w1 (W.heap.size+1) 1 _ _ cd;have cL:W.heap.size+1<w1.heap.size:=(Array.getElem?_eq_some_iff.1 cd).1;have cN:¬ W.heap.size+1=w1.heap.size:=(by omega);clear cd;have B1:Hid (Bw W w1):=Za sqR hb;clear hb HI1)
        | (go_at_call 142;refine (HI2.out _ _ _ (by rfl) (by rfl)).mono ?_;rintro e w2 ⟨rfl,hb⟩;have ad:w2.heap[W.heap.size]?=some (.cells #[.int .i64 (da:Int),.string s] 40 (0,0)):=(hb.block (W.heap.size) (by first|omega|(simp;try omega))).trans (by first|exact aB.out|exact hkeep aB.out|exact hkeep (hkeep aB.out)|exact halloc2 _ _ rfl|exact heap_alloc2_old _ _ _|exact heap_alloc2_new _ _ _|exact hkeep (halloc2 _ _ rfl)|exact hkeep (hkeep (halloc2 _ _ rfl))|exact halloc2 _ _ (by simp;done));(try clear aB aL aN a0 a1 af0 af1);have aB:Hid (w2.heap[W.heap.size]?=some (.cells #[.int .i64 (da:Int),.string s] 40 (0,0))):=ad;have a0:w2.cell? ⟨W.heap.size,0,none⟩=some (.int .i64 (da:Int)):=(cell_of_row w2 (W.heap.size) 0 _ _ _ ad).trans rfl;have af0:=frozen_of_row w2 (W.heap.size) 0 _ _ ad;have a1:w2.cell? ⟨W.heap.size,1,none⟩=some (.string s):=(cell_of_row w2 (W.heap.size) 1 _ _ _ ad).trans rfl;have af1:=frozen_of_row w2 (W.heap.size) 1 _ _ ad;have aL:W.heap.size<w2.heap.size:=(Array.getElem?_eq_some_iff.1 ad).1;have aN:¬ W.heap.size=w2.heap.size:=(by omega);clear ad;have cd:w2.heap[W.heap.size+1]?=some (.cells #[.int .i64 0,.string t] 40 (0,0)):=(hb.block (W.heap.size+1) (by first|omega|(simp;try omega))).trans (by first|exact cB.out|exact hkeep cB.out|exact hkeep (hkeep cB.out)|exact halloc2 _ _ rfl|exact heap_alloc2_old _ _ _|exact heap_alloc2_new _ _ _|exact hkeep (halloc2 _ _ rfl)|exact hkeep (hkeep (halloc2 _ _ rfl))|exact halloc2 _ _ (by simp;done));(try clear cB cL cN c0 c1 cf0 cf1);have cB:Hid (w2.heap[W.heap.size+1]?=some (.cells #[.int .i64 0,.string t] 40 (0,0))):=cd;have c0:w2.cell? ⟨W.heap.size+1,0,none⟩=some (.int .i64 0):=(cell_of_row w2 (W.heap.size+1) 0 _ _ _ cd).trans rfl;have cf0:=frozen_of_row w2 (W.heap.size+1) 0 _ _ cd;have c1:w2.cell? ⟨W.heap.size+1,1,none⟩=some (.string t):=(cell_of_row w2 (W.heap.size+1) 1 _ _ _ cd).trans rfl;have cf1:=frozen_of_row w2 (W.heap.size+1) 1 _ _ cd;have cL:W.heap.size+1<w2.heap.size:=(Array.getElem?_eq_some_iff.1 cd).1;have cN:¬ W.heap.size+1=w2.heap.size:=(by omega);clear cd;have B2:Hid (Bw W w2):=Za B1.out hb;clear hb HI2))
       all_goals go_ret
       all_goals exact ⟨retB (by rw [HAB.out];try simp [*]),B2.out⟩
      ·have hda0:da=0:=by omega
       subst hda0
       rw [if_neg hda]
       have hse:s.toList.isEmpty=false:=by
        unfold intB at h1;simpa using h1
       have hte:t.toList.isEmpty=false:=by
        unfold intB at h2;simpa using h2
       obtain ⟨x,hx⟩:=hld hse
       obtain ⟨y,hy⟩:=hlt hte
       rw [hx,hy]
       simp only
       obtain ⟨p,hp,_⟩:=Z9 hx
       obtain ⟨q,hq,_⟩:=Z9 hy
       have he:extI ps x y=extB (ps.map nd) x y:=by rw [extI,Qk,Qk,hp,hq];rfl
       have HX:Hid (∀ u w,Bw W w→u=s→Calls Tryz.prog 118 #[.pointer (some ⟨b,0,none⟩),.string u] w fun e w'=>e=.returned (.tuple #[.int .i64 (x:Int),.int .i64 0])∧w'=w):=fun u w hb hu=>by rw [hu];exact Zd8 (h.below hb) ht s x hx
       have HY:Hid (∀ u w,Bw W w→u=t→Calls Tryz.prog 118 #[.pointer (some ⟨b,0,none⟩),.string u] w fun e w'=>e=.returned (.tuple #[.int .i64 (y:Int),.int .i64 0])∧w'=w):=fun u w hb hu=>by rw [hu];exact Zd8 (h.below hb) ht t y hy
       have HE:Hid (∀ w,Bw W w→Calls Tryz.prog 143 #[.pointer (some ⟨b,0,none⟩),.int .i64 (x:Int),.int .i64 (y:Int)] w fun e w'=>e=.returned (.bool (extB (ps.map nd) x y))∧Bw w w'):=fun w hb=>(Zh9 (h.below hb) ht hJ x y).mono fun e w' zz=>⟨by rw [zz.1,he],zz.2⟩
       generalize extB (ps.map nd) x y=R at *
       clear h ht hJ hld hlt h1 h2 hab hdb hda hse hte hx hy hp hq he
       go_enter Tryz.func120,Tryz.ntmps120
       go_wp2_with (first
        | (go_at_call 142;refine (HI1.out _ _ _ (by rfl) (by rfl)).mono ?_;rintro e w1 ⟨rfl,hb⟩;have ad:w1.heap[W.heap.size]?=some (.cells #[.int .i64 0,.string s] 40 (0,0)):=(hb.block (W.heap.size) (by first|omega|(simp;try omega))).trans (by first|exact aB.out|exact hkeep aB.out|exact hkeep (hkeep aB.out)|exact halloc2 _ _ rfl|exact heap_alloc2_old _ _ _|exact heap_alloc2_new _ _ _|exact hkeep (halloc2 _ _ rfl)|exact hkeep (hkeep (halloc2 _ _ rfl))|exact halloc2 _ _ (by simp;done));(try clear aB aL aN a0 a1 af0 af1);have aB:Hid (w1.heap[W.heap.size]?=some (.cells #[.int .i64 0,.string s] 40 (0,0))):=ad;have a0:w1.cell? ⟨W.heap.size,0,none⟩=some (.int .i64 0):=(cell_of_row w1 (W.heap.size) 0 _ _ _ ad).trans rfl;have af0:=frozen_of_row w1 (W.heap.size) 0 _ _ ad;have a1:w1.cell? ⟨W.heap.size,1,none⟩=some (.string s):=(cell_of_row w1 (W.heap.size) 1 _ _ _ ad).trans rfl;have af1:=frozen_of_row w1 (W.heap.size) 1 _ _ ad;have aL:W.heap.size<w1.heap.size:=(Array.getElem?_eq_some_iff.1 ad).1;have aN:¬ W.heap.size=w1.heap.size:=(by omega);clear ad;have cd:w1.heap[W.heap.size+1]?=some (.cells #[.int .i64 0,.string t] 40 (0,0)):=(hb.block (W.heap.size+1) (by first|omega|(simp;try omega))).trans (by first|exact cB.out|exact hkeep cB.out|exact hkeep (hkeep cB.out)|exact halloc2 _ _ rfl|exact heap_alloc2_old _ _ _|exact heap_alloc2_new _ _ _|exact hkeep (halloc2 _ _ rfl)|exact hkeep (hkeep (halloc2 _ _ rfl))|exact halloc2 _ _ (by simp;done));(try clear cB cL cN c0 c1 cf0 cf1);have cB:Hid (w1.heap[W.heap.size+1]?=some (.cells #[.int .i64 0,.string t] 40 (0,0))):=cd;have c0:w1.cell? ⟨W.heap.size+1,0,none⟩=some (.int .i64 0):=(cell_of_row w1 (W.heap.size+1) 0 _ _ _ cd).trans rfl;have cf0:=frozen_of_row w1 (W.heap.size+1) 0 _ _ cd;have c1:w1.cell? ⟨W.heap.size+1,1,none⟩=some (.string t):=(cell_of_row w1 (W.heap.size+1) 1 _ _ _ cd).trans rfl;have cf1:=frozen_of_row w1 (W.heap.size+1) 1 _ _ cd;have cL:W.heap.size+1<w1.heap.size:=(Array.getElem?_eq_some_iff.1 cd).1;have cN:¬ W.heap.size+1=w1.heap.size:=(by omega);clear cd;have B1:Hid (Bw W w1):=Za sqR hb;clear hb HI1)
        | (go_at_call 142;refine (HI2.out _ _ _ (by rfl) (by rfl)).mono ?_;rintro e w2 ⟨rfl,hb⟩;have ad:w2.heap[W.heap.size]?=some (.cells #[.int .i64 0,.string s] 40 (0,0)):=(hb.block (W.heap.size) (by first|omega|(simp;try omega))).trans (by first|exact aB.out|exact hkeep aB.out|exact hkeep (hkeep aB.out)|exact halloc2 _ _ rfl|exact heap_alloc2_old _ _ _|exact heap_alloc2_new _ _ _|exact hkeep (halloc2 _ _ rfl)|exact hkeep (hkeep (halloc2 _ _ rfl))|exact halloc2 _ _ (by simp;done));(try clear aB aL aN a0 a1 af0 af1);have aB:Hid (w2.heap[W.heap.size]?=some (.cells #[.int .i64 0,.string s] 40 (0,0))):=ad;have a0:w2.cell? ⟨W.heap.size,0,none⟩=some (.int .i64 0):=(cell_of_row w2 (W.heap.size) 0 _ _ _ ad).trans rfl;have af0:=frozen_of_row w2 (W.heap.size) 0 _ _ ad;have a1:w2.cell? ⟨W.heap.size,1,none⟩=some (.string s):=(cell_of_row w2 (W.heap.size) 1 _ _ _ ad).trans rfl;have af1:=frozen_of_row w2 (W.heap.size) 1 _ _ ad;have aL:W.heap.size<w2.heap.size:=(Array.getElem?_eq_some_iff.1 ad).1;have aN:¬ W.heap.size=w2.heap.size:=(by omega);clear ad;have cd:w2.heap[W.heap.size+1]?=some (.cells #[.int .i64 0,.string t] 40 (0,0)):=(hb.block (W.heap.size+1) (by first|omega|(simp;try omega))).trans (by first|exact cB.out|exact hkeep cB.out|exact hkeep (hkeep cB.out)|exact halloc2 _ _ rfl|exact heap_alloc2_old _ _ _|exact heap_alloc2_new _ _ _|exact hkeep (halloc2 _ _ rfl)|exact hkeep (hkeep (halloc2 _ _ rfl))|exact halloc2 _ _ (by simp;done));(try clear cB cL cN c0 c1 cf0 cf1);have cB:Hid (w2.heap[W.heap.size+1]?=some (.cells #[.int .i64 0,.string t] 40 (0,0))):=cd;have c0:w2.cell? ⟨W.heap.size+1,0,none⟩=some (.int .i64 0):=(cell_of_row w2 (W.heap.size+1) 0 _ _ _ cd).trans rfl;have cf0:=frozen_of_row w2 (W.heap.size+1) 0 _ _ cd;have c1:w2.cell? ⟨W.heap.size+1,1,none⟩=some (.string t):=(cell_of_row w2 (W.heap.size+1) 1 _ _ _ cd).trans rfl;have cf1:=frozen_of_row w2 (W.heap.size+1) 1 _ _ cd;have cL:W.heap.size+1<w2.heap.size:=(Array.getElem?_eq_some_iff.1 cd).1;have cN:¬ W.heap.size+1=w2.heap.size:=(by omega);clear cd;have B2:Hid (Bw W w2):=Za B1.out hb;clear hb HI2)
        | (go_at_call 118;refine (HX.out _ _ B2.out (by rfl)).mono ?_;rintro e w9 ⟨rfl,hw9⟩;rw [hw9];clear hw9 w9 HX)
        | (go_at_call 118;refine (HY.out _ _ B2.out (by rfl)).mono ?_;rintro e w9 ⟨rfl,hw9⟩;rw [hw9];clear hw9 w9 HY)
        | (go_at_call 143;refine (HE.out _ B2.out).mono ?_;rintro e w3 ⟨rfl,hb⟩;have B3:Hid (Bw W w3):=Za B2.out hb;clear hb HE))
       exact bodyPost_ret (results_tmp rfl _ _ _) rfl ⟨rfl,B3.out⟩
theorem rBelowS {b:Nat} {W:World} (x y:Nat) (hx:x≤255) (hy:y≤255) (s t:ByteArray) (R:Bool) (hrec:∀ w,Bw W w→Calls Tryz.prog 120 #[.pointer (some ⟨b,0,none⟩),.agg #[.int .i64 (x:Int),.string s],.agg #[.int .i64 (y:Int),.string t]] w fun e w'=>e=.returned (.bool R)∧Bw w w'):Calls Tryz.prog 120 #[.pointer (some ⟨b,0,none⟩),.agg #[.int .i64 ((x+1:Nat):Int),.string s],.agg #[.int .i64 ((y+1:Nat):Int),.string t]] W fun e w'=>e=.returned (.bool R)∧Bw W w':=by
 have hi1:∀ (z:Nat) (u:ByteArray),intB ((z+1:Nat):Int) u=false:=fun z u=>by
  unfold intB
  have:(((z+1:Nat):Int) == 0)=false:=by
   have h0:¬ ((z+1:Nat):Int)=0:=by omega
   simpa using h0
  rw [this];rfl
 have HI:Hid (∀ (z:Nat) u w,Calls Tryz.prog 142 #[.agg #[.int .i64 ((z:Int)+1),.string u]] w fun e w'=>e=.returned (.bool false)∧Bw w w'):=fun z u w=>by
  have:=Zc1 ((z+1:Nat):Int) u w
  rw [hi1 z u] at this
  exact this
 obtain ⟨σ,V,hne,V1,V2⟩:=class_of' (fun w'=>Below (W.heap.size+2) ((W.alloc (.cells #[.int .i64 ((x:Int)+1),.string s] 40)).alloc (.cells #[.int .i64 ((y:Int)+1),.string t] 40)) w') ⟨_,Below.refl _ _⟩
 have hBV:∀ s0,Bw W (V s0):=fun s0=>(((Below.refl _ W).alloc (Nat.le_refl _) _).alloc (by simp) _).trans ((V1.out s0).mono (by omega))
 have HL1:Hid (∀ s0 (d:Int) u,d=(x:Int)+1→u=s→Calls Tryz.prog 144 #[.agg #[.int .i64 d,.string u]] (V s0) fun e w''=>e=.returned (.agg #[.int .i64 (x:Int),.string s])∧∃ s',w''=V s'):=fun s0 d u h1 h2=>by
  rw [h1,h2]
  have:=Zgy x hx s (V s0)
  exact this.mono fun e w'' zz=>⟨zz.1,V2.out _ ((V1.out s0).trans (zz.2.mono (by have:=(V1.out s0).size;simp at this;omega)))⟩
 have HL2:Hid (∀ s0 (d:Int) u,d=(y:Int)+1→u=t→Calls Tryz.prog 144 #[.agg #[.int .i64 d,.string u]] (V s0) fun e w''=>e=.returned (.agg #[.int .i64 (y:Int),.string t])∧∃ s',w''=V s'):=fun s0 d u h1 h2=>by
  rw [h1,h2]
  have:=Zgy y hy t (V s0)
  exact this.mono fun e w'' zz=>⟨zz.1,V2.out _ ((V1.out s0).trans (zz.2.mono (by have:=(V1.out s0).size;simp at this;omega)))⟩
 have HB:Hid (∀ s0,Calls Tryz.prog 120 #[.pointer (some ⟨b,0,none⟩),.agg #[.int .i64 (x:Int),.string s],.agg #[.int .i64 (y:Int),.string t]] (V s0) fun e w''=>e=.returned (.bool R)∧∃ s',w''=V s'):=fun s0=>(hrec _ (hBV s0)).mono fun e w'' zz=>⟨zz.1,V2.out _ ((V1.out s0).trans (zz.2.mono (by have:=(V1.out s0).size;simp at this;omega)))⟩
 have HBV:Hid (∀ s0,Bw W (V s0)):=hBV
 have a0:∀ s0,(V s0).cell? ⟨W.heap.size,0,none⟩=some (.int .i64 ((x:Int)+1)):=fun s0=>((V1.out s0).cell (p:=⟨W.heap.size,0,none⟩) (show W.heap.size<W.heap.size+2 by omega)).trans (by simp [go_sem])
 have a1:∀ s0,(V s0).cell? ⟨W.heap.size,1,none⟩=some (.string s):=fun s0=>((V1.out s0).cell (p:=⟨W.heap.size,1,none⟩) (show W.heap.size<W.heap.size+2 by omega)).trans (by simp [go_sem])
 have c0:∀ s0,(V s0).cell? ⟨W.heap.size+1,0,none⟩=some (.int .i64 ((y:Int)+1)):=fun s0=>((V1.out s0).cell (p:=⟨W.heap.size+1,0,none⟩) (show W.heap.size+1<W.heap.size+2 by omega)).trans (by simp [go_sem])
 have c1:∀ s0,(V s0).cell? ⟨W.heap.size+1,1,none⟩=some (.string t):=fun s0=>((V1.out s0).cell (p:=⟨W.heap.size+1,1,none⟩) (show W.heap.size+1<W.heap.size+2 by omega)).trans (by simp [go_sem])
 have VI:Hid (∀ (z:Nat) u w,(∃ s0,w=V s0)→Calls Tryz.prog 142 #[.agg #[.int .i64 ((z:Int)+1),.string u]] w fun e w'=>e=.returned (.bool false)∧∃ s',w'=V s'):=fun z u w hw=>by
  obtain ⟨s0,rfl⟩:=hw
  exact (HI.out z u _).mono fun e w' zz=>⟨zz.1,V2.out _ ((V1.out s0).trans (zz.2.mono (by have:=(V1.out s0).size;simp at this;omega)))⟩
 have V20:Hid (∃ s0,((W.alloc (.cells #[.int .i64 ((x:Int)+1),.string s] 40)).alloc (.cells #[.int .i64 ((y:Int)+1),.string t] 40))=V s0):=V2.out _ (Below.refl _ _)
 have VD:Hid (∀ s0,∃ s1,(V s0).drew=V s1):=fun s0=>V2.out _ ((V1.out s0).drew)
 have gx:¬ ((x:Int)+1)=0:=by omega
 have gy:¬ ((y:Int)+1)=0:=by omega
 have gx2:(((x:Int)+1) == 0)=false:=by simpa using gx
 have gy2:(((y:Int)+1) == 0)=false:=by simpa using gy
 have ex:((x+1:Nat):Int)=(x:Int)+1:=by omega
 have ey:((y+1:Nat):Int)=(y:Int)+1:=by omega
 rw [ex,ey]
 clear hrec hi1 HI hBV V1 V2 ex ey
 go_enter Tryz.func120,Tryz.ntmps120
 go_wp2_with (first
  | (go_at_call 142;refine (VI.out _ _ _ V20.out).mono ?_;rintro e w1 ⟨rfl,⟨s1,rfl⟩⟩;clear V20)
  | (go_at_call 142;refine (VI.out _ _ _ ⟨_,rfl⟩).mono ?_;rintro e w2 ⟨rfl,⟨s2,rfl⟩⟩))
 refine Zc (C:=fun w'=>∃ s0,w'=V s0) (by kernel_rfl) (by kernel_rfl) (VD.out _) ?_
 repeat (go_big_quiet_step (first|(go_at_call 144;exact HL1.out _ _ _ rfl rfl)|(go_at_call 144;exact HL2.out _ _ _ rfl rfl)|(go_at_call 120;exact HB.out _)))
 refine wpQuiet_nil ?_
 intro w9 hw9
 obtain ⟨s9,rfl⟩:=hw9
 go_wp2
 exact bodyPost_ret (results_tmp rfl _ _ _) rfl ⟨rfl,HBV.out s9⟩
theorem Zgz {b:Nat} {cs:List Cls} {ps:List Plc} (ht:TwW cs ps) (hJ:WJ ps) (da db:Nat) (s t:ByteArray) (hab:da=0∨db=0) (hld:s.toList.isEmpty=false→∃ x,Zn ps s.data.toList=some x) (hlt:t.toList.isEmpty=false→∃ x,Zn ps t.data.toList=some x):∀ (M:Nat),da+M≤255→db+M≤255→∀ W:World,RAt b cs W→Calls Tryz.prog 120 #[.pointer (some ⟨b,0,none⟩),.agg #[.int .i64 ((da+M:Nat):Int),.string s],.agg #[.int .i64 ((db+M:Nat):Int),.string t]] W fun e w'=>e=.returned (.bool (belB ps da s db t))∧Bw W w'
 | 0,_,_,W,h=>rBelow0 h ht hJ da db s t hab hld hlt
 | M+1,h1,h2,W,h=>rBelowS (da+M) (db+M) (by omega) (by omega) s t _ fun w hb=>Zgz ht hJ da db s t hab hld hlt M (by omega) (by omega) w (h.below hb)
theorem Zha {cs:List Cls} {ps:List Plc} (ht:TwW cs ps) (x:Int) (s:ByteArray):ldC cs x s=ldI ps x s:=by
 unfold ldC ldI
 rw [Lib.toList_data s,Xn ht.tw ht.nm]
 cases Zn ps s.data.toList with
 | none=>rfl
 | some k =>
   have:¬ lkI (some k)<0:=by show ¬ ((k:Nat):Int)<0;omega
   simp only [this,if_false]
   try (split <;> split <;> rfl)
theorem rSub_c {b:Nat} {cs:List Cls} {ps:List Plc} {W:World} (h:RAt b cs W) (hT:TwW cs ps) (hJ:WJ ps) (x:Int) (s:ByteArray) (y:Int) (t:ByteArray) (hs:s.size≤maxLen) (ht:t.size≤maxLen):Calls Tryz.prog 88 #[.pointer (some ⟨b,0,none⟩),.agg #[.int .i64 x,.string s],.agg #[.int .i64 y,.string t]] W fun e w'=>e=.returned (suI ps x s y t)∧Bw W w':=by
 have hn:cs.length≤300:=by rw [hT.tw.len];exact hT.wi.hi
 have HL1:Hid (∀ z u w,Bw W w→z=x→u=s→Calls Tryz.prog 77 #[.pointer (some ⟨b,0,none⟩),.agg #[.int .i64 z,.string u]] w fun e w'=>e=.returned (.int .i64 (ldI ps x s))∧Bw w w'):=fun z u w hb hz hu=>by rw [hz,hu,← Zha hT];exact Jm (h.below hb) hn x s hs
 have HL2:Hid (∀ z u w,Bw W w→z=y→u=t→Calls Tryz.prog 77 #[.pointer (some ⟨b,0,none⟩),.agg #[.int .i64 z,.string u]] w fun e w'=>e=.returned (.int .i64 (ldI ps y t))∧Bw w w'):=fun z u w hb hz hu=>by rw [hz,hu,← Zha hT];exact Jm (h.below hb) hn y t ht
 by_cases h1:ldI ps x s=0
 ·by_cases h2:ldI ps y t=0
  ·have e:suI ps x s y t=.tuple #[.bool (subB ps x s y t),.int .i64 0]:=by rw [suI,if_pos h1,if_pos h2]
   rw [e]
   obtain ⟨x0,x1,xk⟩:=Qn h1
   obtain ⟨y0,y1,yk⟩:=Qn h2
   have HB:Hid (∀ w,Bw W w→Calls Tryz.prog 120 #[.pointer (some ⟨b,0,none⟩),.agg #[.int .i64 x,.string s],.agg #[.int .i64 y,.string t]] w fun e w'=>e=.returned (.bool (subB ps x s y t))∧Bw w w'):=fun w hb=>by
    have hq:=Zgz (b:=b) hT hJ (x.toNat - min x.toNat y.toNat) (y.toNat - min x.toNat y.toNat) s t (by omega) xk yk (min x.toNat y.toNat) (by omega) (by omega) w (h.below hb)
    rw [show ((x.toNat - min x.toNat y.toNat+min x.toNat y.toNat:Nat):Int)=x by omega,show ((y.toNat - min x.toNat y.toNat+min x.toNat y.toNat:Nat):Int)=y by omega] at hq
    exact hq
   rw [h1] at HL1
   rw [h2] at HL2
   generalize subB ps x s y t=R at *
   clear h hT hJ hs ht h1 h2 e x0 x1 xk y0 y1 yk hn
   go_enter Tryz.func88,Tryz.ntmps88
   go_wp2_with (first
    | (go_at_call 77;refine (HL1.out _ _ _ sqR (by rfl) (by rfl)).mono ?_;rintro e w1 ⟨rfl,hb⟩;have ad:w1.heap[W.heap.size]?=some (.cells #[.int .i64 x,.string s] 40 (0,0)):=(hb.block (W.heap.size) (by first|omega|(simp;try omega))).trans (by first|exact aB.out|exact hkeep aB.out|exact hkeep (hkeep aB.out)|exact halloc2 _ _ rfl|exact heap_alloc2_old _ _ _|exact heap_alloc2_new _ _ _|exact hkeep (halloc2 _ _ rfl)|exact hkeep (hkeep (halloc2 _ _ rfl))|exact halloc2 _ _ (by simp;done));(try clear aB aL aN a0 a1 af0 af1);have aB:Hid (w1.heap[W.heap.size]?=some (.cells #[.int .i64 x,.string s] 40 (0,0))):=ad;have a0:w1.cell? ⟨W.heap.size,0,none⟩=some (.int .i64 x):=(cell_of_row w1 (W.heap.size) 0 _ _ _ ad).trans rfl;have af0:=frozen_of_row w1 (W.heap.size) 0 _ _ ad;have a1:w1.cell? ⟨W.heap.size,1,none⟩=some (.string s):=(cell_of_row w1 (W.heap.size) 1 _ _ _ ad).trans rfl;have af1:=frozen_of_row w1 (W.heap.size) 1 _ _ ad;have aL:W.heap.size<w1.heap.size:=(Array.getElem?_eq_some_iff.1 ad).1;have aN:¬ W.heap.size=w1.heap.size:=(by omega);clear ad;have cd:w1.heap[W.heap.size+1]?=some (.cells #[.int .i64 y,.string t] 40 (0,0)):=(hb.block (W.heap.size+1) (by first|omega|(simp;try omega))).trans (by first|exact cB.out|exact hkeep cB.out|exact hkeep (hkeep cB.out)|exact halloc2 _ _ rfl|exact heap_alloc2_old _ _ _|exact heap_alloc2_new _ _ _|exact hkeep (halloc2 _ _ rfl)|exact hkeep (hkeep (halloc2 _ _ rfl))|exact halloc2 _ _ (by simp;done));(try clear cB cL cN c0 c1 cf0 cf1);have cB:Hid (w1.heap[W.heap.size+1]?=some (.cells #[.int .i64 y,.string t] 40 (0,0))):=cd;have c0:w1.cell? ⟨W.heap.size+1,0,none⟩=some (.int .i64 y):=(cell_of_row w1 (W.heap.size+1) 0 _ _ _ cd).trans rfl;have cf0:=frozen_of_row w1 (W.heap.size+1) 0 _ _ cd;have c1:w1.cell? ⟨W.heap.size+1,1,none⟩=some (.string t):=(cell_of_row w1 (W.heap.size+1) 1 _ _ _ cd).trans rfl;have cf1:=frozen_of_row w1 (W.heap.size+1) 1 _ _ cd;have cL:W.heap.size+1<w1.heap.size:=(Array.getElem?_eq_some_iff.1 cd).1;have cN:¬ W.heap.size+1=w1.heap.size:=(by omega);clear cd;have B1:Hid (Bw W w1):=Za sqR hb;clear hb HL1)
    | (go_at_call 77;refine (HL2.out _ _ _ B1.out (by rfl) (by rfl)).mono ?_;rintro e w2 ⟨rfl,hb⟩;have ad:w2.heap[W.heap.size]?=some (.cells #[.int .i64 x,.string s] 40 (0,0)):=(hb.block (W.heap.size) (by first|omega|(simp;try omega))).trans (by first|exact aB.out|exact hkeep aB.out|exact hkeep (hkeep aB.out)|exact halloc2 _ _ rfl|exact heap_alloc2_old _ _ _|exact heap_alloc2_new _ _ _|exact hkeep (halloc2 _ _ rfl)|exact hkeep (hkeep (halloc2 _ _ rfl))|exact halloc2 _ _ (by simp;done));(try clear aB aL aN a0 a1 af0 af1);have aB:Hid (w2.heap[W.heap.size]?=some (.cells #[.int .i64 x,.string s] 40 (0,0))):=ad;have a0:w2.cell? ⟨W.heap.size,0,none⟩=some (.int .i64 x):=(cell_of_row w2 (W.heap.size) 0 _ _ _ ad).trans rfl;have af0:=frozen_of_row w2 (W.heap.size) 0 _ _ ad;have a1:w2.cell? ⟨W.heap.size,1,none⟩=some (.string s):=(cell_of_row w2 (W.heap.size) 1 _ _ _ ad).trans rfl;have af1:=frozen_of_row w2 (W.heap.size) 1 _ _ ad;have aL:W.heap.size<w2.heap.size:=(Array.getElem?_eq_some_iff.1 ad).1;have aN:¬ W.heap.size=w2.heap.size:=(by omega);clear ad;have cd:w2.heap[W.heap.size+1]?=some (.cells #[.int .i64 y,.string t] 40 (0,0)):=(hb.block (W.heap.size+1) (by first|omega|(simp;try omega))).trans (by first|exact cB.out|exact hkeep cB.out|exact hkeep (hkeep cB.out)|exact halloc2 _ _ rfl|exact heap_alloc2_old _ _ _|exact heap_alloc2_new _ _ _|exact hkeep (halloc2 _ _ rfl)|exact hkeep (hkeep (halloc2 _ _ rfl))|exact halloc2 _ _ (by simp;done));(try clear cB cL cN c0 c1 cf0 cf1);have cB:Hid (w2.heap[W.heap.size+1]?=some (.cells #[.int .i64 y,.string t] 40 (0,0))):=cd;have c0:w2.cell? ⟨W.heap.size+1,0,none⟩=some (.int .i64 y):=(cell_of_row w2 (W.heap.size+1) 0 _ _ _ cd).trans rfl;have cf0:=frozen_of_row w2 (W.heap.size+1) 0 _ _ cd;have c1:w2.cell? ⟨W.heap.size+1,1,none⟩=some (.string t):=(cell_of_row w2 (W.heap.size+1) 1 _ _ _ cd).trans rfl;have cf1:=frozen_of_row w2 (W.heap.size+1) 1 _ _ cd;have cL:W.heap.size+1<w2.heap.size:=(Array.getElem?_eq_some_iff.1 cd).1;have cN:¬ W.heap.size+1=w2.heap.size:=(by omega);clear cd;have B2:Hid (Bw W w2):=Za B1.out hb;clear hb HL2)
    | (go_at_call 120;refine (HB.out _ B2.out).mono ?_;rintro e w3 ⟨rfl,hb⟩;have B3:Hid (Bw W w3):=Za B2.out hb;clear hb HB))
   exact bodyPost_ret (results_tmp2 rfl _ _ _) rfl ⟨rfl,B3.out⟩
  ·have e:suI ps x s y t=.tuple #[.bool false,.int .i64 (ldI ps y t)]:=by rw [suI,if_pos h1,if_neg h2]
   rw [e]
   rw [h1] at HL1
   generalize ldI ps y t=R at *
   clear h hT hJ hs ht h1 e hn
   go_enter Tryz.func88,Tryz.ntmps88
   go_wp2_with (first
    | (go_at_call 77;refine (HL1.out _ _ _ sqR (by rfl) (by rfl)).mono ?_;rintro e w1 ⟨rfl,hb⟩;have cd:w1.heap[W.heap.size+1]?=some (.cells #[.int .i64 y,.string t] 40 (0,0)):=(hb.block (W.heap.size+1) (by first|omega|(simp;try omega))).trans (by first|exact cB.out|exact hkeep cB.out|exact hkeep (hkeep cB.out)|exact halloc2 _ _ rfl|exact heap_alloc2_old _ _ _|exact heap_alloc2_new _ _ _|exact hkeep (halloc2 _ _ rfl)|exact hkeep (hkeep (halloc2 _ _ rfl))|exact halloc2 _ _ (by simp;done));(try clear cB cL cN c0 c1 cf0 cf1);have cB:Hid (w1.heap[W.heap.size+1]?=some (.cells #[.int .i64 y,.string t] 40 (0,0))):=cd;have c0:w1.cell? ⟨W.heap.size+1,0,none⟩=some (.int .i64 y):=(cell_of_row w1 (W.heap.size+1) 0 _ _ _ cd).trans rfl;have cf0:=frozen_of_row w1 (W.heap.size+1) 0 _ _ cd;have c1:w1.cell? ⟨W.heap.size+1,1,none⟩=some (.string t):=(cell_of_row w1 (W.heap.size+1) 1 _ _ _ cd).trans rfl;have cf1:=frozen_of_row w1 (W.heap.size+1) 1 _ _ cd;have cL:W.heap.size+1<w1.heap.size:=(Array.getElem?_eq_some_iff.1 cd).1;have cN:¬ W.heap.size+1=w1.heap.size:=(by omega);clear cd;have B1:Hid (Bw W w1):=Za sqR hb;clear hb HL1)
    | (go_at_call 77;refine (HL2.out _ _ _ B1.out (by rfl) (by rfl)).mono ?_;rintro e w2 ⟨rfl,hb⟩;have B2:Hid (Bw W w2):=Za B1.out hb;clear hb HL2))
   exact bodyPost_ret (results_tmp2 rfl _ _ _) rfl ⟨rfl,B2.out⟩
 ·have e:suI ps x s y t=.tuple #[.bool false,.int .i64 (ldI ps x s)]:=by rw [suI,if_neg h1]
  rw [e]
  generalize ldI ps x s=R at *
  clear h hT hJ hs ht e hn
  go_enter Tryz.func88,Tryz.ntmps88
  go_wp2_with (first
   | (go_at_call 77;refine (HL1.out _ _ _ sqR (by rfl) (by rfl)).mono ?_;rintro e w1 ⟨rfl,hb⟩;have B1:Hid (Bw W w1):=Za sqR hb;clear hb HL1))
  exact bodyPost_ret (results_tmp2 rfl _ _ _) rfl ⟨rfl,B1.out⟩
def dcsE (ps:List Plc) (es:List Dv) (d:Int) (nm:ByteArray) (r:Int):Int:=match dvI es r with
 | none=>obE r
 | some o=>if sbB ps o.d o.nm (outD (cmpE d nm.data.toList) (d - 1)) (outS (cmpE d nm.data.toList) nm) then 0 else 28
def dstE (ps:List Plc) (es:List Dv) (r i:Int) (Rf:Bool) (N:Int):Int:=match daO es r with
 | none=>daF es r
 | some o=>if rfD o.d o.nm=Rf then (if Rf=false∧i32B N=false then 35 else if 0≤i∧i<(o.vs.length:Int) then (if Rf=true∧¬ N=0 then dcsE ps es o.d o.nm N else 0) else 31) else 35
def dstL (ps:List Plc) (es:List Dv) (r i:Int) (Rf:Bool) (N:Int):List Dv:=match daO es r with
 | none=>es
 | some o=>if dstE ps es r i Rf N=0 then es.set (r - 1).toNat { o with vs:=o.vs.set i.toNat (Rf,N) } else es
theorem RhAt.stored {W w':World} {S:Nat→Prop} {r b:Nat} {tv ev:Value} {es:List Dv} (h:RhAt W S r b tv ev es) {k j g:Nat} {o:Dv} (hk:es[k]?=some o) (hg:o.eb=some g) (v:Bool×Int) (hl:Below W.heap.size ((W.setCell ⟨g,j * 2,none⟩ (.bool v.1)).setCell ⟨g,j * 2+1,none⟩ (.int .i64 v.2)) w'):RhN S W w' r b (es.set k { o with vs:=o.vs.set j v }):=by
 have hm:=List.mem_of_getElem? hk
 have hgb:=h.el o hm g hg
 have hgl:=h.lte hm hg
 have hz:=hl.size
 simp at hz
 have hs:=h.setV (w':=w') hk hg (o.vs.set j v) (by simp) hz (fun x hx hne=>(hl.block x hx).trans ((Below.heap_setCell _ _ _ _ hne).trans (Below.heap_setCell _ _ _ _ hne))) ?_
 ·refine ⟨⟨tv,ev,hs.mono (fun x hx=>hx.elim (fun y=>hs.sz x y) (fun y=>y.2)) (fun _ _ x=>.inl x)⟩,?_⟩
  have gS0:=h.eS o hm g hg
  have T:=((Tch.refl S W).set (p:=⟨g,j * 2,none⟩) (.inl gS0) (.bool v.1)).set (p:=⟨g,j * 2+1,none⟩) (.inl gS0) (.int .i64 v.2)
  exact T.bel (by simpa [Bw] using hl)
 ·rw [hl.block g hgl,Go.Joins.block_setCell (i:=j * 2+1) (Go.Joins.block_setCell (i:=j * 2) hgb _),Zex]
  simp
theorem set_d {W:World} {S:Nat→Prop} {r b:Nat} {tv ev:Value} {es:List Dv} (h:RhAt W S r b tv ev es) {cs:List Cls} {ps:List Plc} (hw:RAt b cs W) (hT:TwW cs ps) (hJ:WJ ps) (hsz:∀ o∈es,o.nm.size≤maxLen) (x i N:Int) (Rf:Bool) :
 Calls Tryz.prog 47 #[.pointer (some ⟨r,0,none⟩),.int .i64 x,.int .i64 i,.agg #[.bool Rf,.int .i64 N]] W fun e w'=>e=.returned (.int .i64 (dstE ps es x i Rf N))∧RhN S W w' r b (dstL ps es x i Rf N):=by
 cases ho:daO es x with
 | none =>
   have e1:dstE ps es x i Rf N=daF es x:=by rw [dstE,ho]
   have e2:dstL ps es x i Rf N=es:=by rw [dstL,ho]
   rw [e1,e2]
   exact (dst_err (Zhn ho) (fun w hb=>Zke (h.below hb) x)).mono (fun e w' z=>⟨z.1,h.stay z.2⟩)
 | some o =>
   obtain ⟨hx,hd⟩:=Zgg ho
   rcases Xg es x with ⟨hn,_⟩|⟨k,o',rfl,hk,hx'⟩
   ·rw [hn] at hx;cases hx
   ·obtain rfl:o'=o:=by rw [hx'] at hx;exact Option.some.inj hx
    have hm:=List.mem_of_getElem? hk
    have hkl:=(List.getElem?_eq_some_iff.1 hk).1
    have hn1:=h.n1
    obtain ⟨gt,k1,gv,k2,sd⟩:=h.sd hk
    have HL:Hid (∀ w,Bw W w→Calls Tryz.prog 9 #[.pointer (some ⟨r,0,none⟩),.int .i64 ((k:Int)+1)] w fun e w'=>e=.returned (.tuple #[.int .i64 (o'.vs.length:Int),.int .i64 0])∧Bw w w'):=fun w hb=>by
     have:=Zke (h.below hb) ((k:Int)+1)
     rw [ho,Zhm ho] at this
     exact this
    have stay:∀ {E:Int},dstE ps es ((k:Int)+1) i Rf N=E→¬ E=0→Calls Tryz.prog 47 #[.pointer (some ⟨r,0,none⟩),.int .i64 ((k:Int)+1),.int .i64 i,.agg #[.bool Rf,.int .i64 N]] W (fun e w'=>e=.returned (.int .i64 E)∧Bw W w')→Calls Tryz.prog 47 #[.pointer (some ⟨r,0,none⟩),.int .i64 ((k:Int)+1),.int .i64 i,.agg #[.bool Rf,.int .i64 N]] W fun e w'=>e=.returned (.int .i64 (dstE ps es ((k:Int)+1) i Rf N))∧RhN S W w' r b (dstL ps es ((k:Int)+1) i Rf N):=fun {E} hE h0 hc=>by
     have e2:dstL ps es ((k:Int)+1) i Rf N=es:=by rw [dstL,ho];simp only [hE,h0,if_false]
     rw [hE,e2]
     exact hc.mono (fun e w' z=>⟨z.1,h.stay z.2⟩)
    by_cases hR:rfD o'.d o'.nm=Rf
    ·by_cases hI:Rf=false∧i32B N=false
     ·have e1:dstE ps es ((k:Int)+1) i Rf N=35:=by rw [dstE,ho];simp only [hR,hI,and_self,if_true]
      refine stay e1 (by decide) ?_
      obtain ⟨rfl,hI2⟩:=hI
      by_cases h3:N < -2147483648
      ·exact dst_wide sd hkl hn1 rfl HL rfl hR h3
      ·exact Zku sd hkl hn1 rfl HL rfl hR h3 (by simp [i32B] at hI2;omega)
     ·by_cases hi:0≤i∧i<(o'.vs.length:Int)
      ·obtain ⟨j,rfl⟩:∃ j:Nat,i=(j:Int):=⟨i.toNat,by omega⟩
       have hj:j<o'.vs.length:=by omega
       obtain ⟨g,hg⟩:∃ g,o'.eb=some g:=by
        cases e:o'.eb with
        | none=>rw [h.no o' hm e] at hj;simp at hj
        | some g=>exact ⟨g,rfl⟩
       have hgb:=h.el o' hm g hg
       have hdv:dvV o'=.slice (some ⟨g,0,none⟩) o'.vs.length o'.vs.length:=by rw [dvV,hg,ebV]
       rw [hdv] at sd
       obtain ⟨g0,g1⟩:=Xp o'.vs j _ (List.getElem?_eq_getElem hj)
       have f0:W.cell? ⟨g,j * 2,none⟩=some (.bool o'.vs[j].1):=by rw [cell_of_row W g (j * 2) _ _ _ hgb];simpa using g0
       have f1:W.cell? ⟨g,j * 2+1,none⟩=some (.int .i64 o'.vs[j].2):=by rw [cell_of_row W g (j * 2+1) _ _ _ hgb];simpa using g1
       have z0:=frozen_of_row W g (j * 2) _ _ hgb
       have z1:=frozen_of_row W g (j * 2+1) _ _ hgb
       have store:dstE ps es ((k:Int)+1) (j:Int) Rf N=0→Calls Tryz.prog 47 #[.pointer (some ⟨r,0,none⟩),.int .i64 ((k:Int)+1),.int .i64 (j:Int),.agg #[.bool Rf,.int .i64 N]] W (fun e w'=>e=.returned (.int .i64 0)∧Below W.heap.size ((W.setCell ⟨g,j * 2,none⟩ (.bool Rf)).setCell ⟨g,j * 2+1,none⟩ (.int .i64 N)) w')→Calls Tryz.prog 47 #[.pointer (some ⟨r,0,none⟩),.int .i64 ((k:Int)+1),.int .i64 (j:Int),.agg #[.bool Rf,.int .i64 N]] W fun e w'=>e=.returned (.int .i64 (dstE ps es ((k:Int)+1) (j:Int) Rf N))∧RhN S W w' r b (dstL ps es ((k:Int)+1) (j:Int) Rf N):=fun hE hc=>by
        have e2:dstL ps es ((k:Int)+1) (j:Int) Rf N=es.set k { o' with vs:=o'.vs.set j (Rf,N) }:=by
         rw [dstL,ho]
         simp only [hE,if_true]
         congr 1
         omega
        rw [hE,e2]
        exact hc.mono (fun e w' z=>⟨z.1,h.stored hk hg (Rf,N) z.2⟩)
       cases Rf with
       | false =>
         have hI2:i32B N=true:=by cases e:i32B N with
          | true=>rfl
          | false=>exact absurd ⟨rfl,e⟩ hI
         have e1:dstE ps es ((k:Int)+1) (j:Int) false N=0:=by rw [dstE,ho];simp [hR,hI2,hj]
         refine store e1 ?_
         have hb:=hI2
         simp [i32B] at hb
         exact dst_iok (y:=o'.vs[j]) sd hkl hn1 rfl HL rfl hR (by omega) (by omega) f0 f1 z0 z1 hj rfl
       | true =>
         by_cases hN:N=0
         ·have e1:dstE ps es ((k:Int)+1) (j:Int) true N=0:=by rw [dstE,ho];simp [hR,hN,hj]
          refine store e1 ?_
          exact dst_null (y:=o'.vs[j]) sd hkl hn1 rfl HL rfl hR hN f0 f1 z0 z1 hj rfl
         ·have e1:dstE ps es ((k:Int)+1) (j:Int) true N=dcsE ps es o'.d o'.nm N:=by rw [dstE,ho];simp [hR,hN,hj]
          have hnz:=hsz o' hm
          have hz2:(outS (cmpE o'.d o'.nm.data.toList) o'.nm).size≤maxLen:=by unfold outS;split;exact hnz;exact Nat.zero_le _
          cases hv:dvI es N with
          | none =>
            have e3:dcsE ps es o'.d o'.nm N=obE N:=by rw [dcsE,hv]
            refine stay (e1.trans e3) (Zba N) ?_
            refine dst_rerr (td:=0) (tn:=⟨#[]⟩) sd hkl hn1 rfl HL rfl hR hN (fun w hb=>?_) (Zba N) (by omega) (by omega)
            have:=typ_d (h.below hb) N
            have e4:dvF es N=obE N:=by rw [dvF,hv]
            rw [hv,e4] at this
            exact this
          | some t =>
            have e3:dcsE ps es o'.d o'.nm N=if sbB ps t.d t.nm (outD (cmpE o'.d o'.nm.data.toList) (o'.d - 1)) (outS (cmpE o'.d o'.nm.data.toList) o'.nm) then 0 else 28:=by rw [dcsE,hv]
            have HT:Hid (∀ w,Bw W w→Calls Tryz.prog 40 #[.pointer (some ⟨r,0,none⟩),.int .i64 N] w fun e w'=>e=.returned (.tuple #[.agg #[.int .i64 t.d,.string t.nm],.int .i64 0])∧Bw w w'):=fun w hb=>by
             have:=typ_d (h.below hb) N
             have e4:dvF es N=0:=by rw [dvF,hv]
             rw [hv,e4] at this
             exact this
            have HU:Hid (∀ w,Bw W w→Calls Tryz.prog 88 #[.pointer (some ⟨b,0,none⟩),.agg #[.int .i64 t.d,.string t.nm],.agg #[.int .i64 (outD (cmpE o'.d o'.nm.data.toList) (o'.d - 1)),.string (outS (cmpE o'.d o'.nm.data.toList) o'.nm)]] w fun e w'=>e=.returned (.tuple #[.bool (sbB ps t.d t.nm (outD (cmpE o'.d o'.nm.data.toList) (o'.d - 1)) (outS (cmpE o'.d o'.nm.data.toList) o'.nm)),.int .i64 (sbE ps t.d t.nm (outD (cmpE o'.d o'.nm.data.toList) (o'.d - 1)) (outS (cmpE o'.d o'.nm.data.toList) o'.nm))])∧Bw w w'):=fun w hb=>by
             have:=rSub_c (hw.below hb) hT hJ t.d t.nm (outD (cmpE o'.d o'.nm.data.toList) (o'.d - 1)) (outS (cmpE o'.d o'.nm.data.toList) o'.nm) (hsz t (dvI_mem hv)) hz2
             rw [suI_eq] at this
             exact this
            cases hq:sbB ps t.d t.nm (outD (cmpE o'.d o'.nm.data.toList) (o'.d - 1)) (outS (cmpE o'.d o'.nm.data.toList) o'.nm) with
            | false =>
              rw [hq] at e3 HU
              refine stay (e1.trans e3) (by decide) ?_
              exact dst_rno sd hkl hn1 rfl HL rfl hR hN HT (Qz o'.d o'.nm hnz) HU rfl (by omega) (by omega)
            | true =>
              rw [hq] at e3 HU
              refine store (e1.trans e3) ?_
              exact dst_rok (y:=o'.vs[j]) sd hkl hn1 rfl HL rfl hR hN HT (Qz o'.d o'.nm hnz) HU rfl f0 f1 z0 z1 hj rfl
      ·have e1:dstE ps es ((k:Int)+1) i Rf N=31:=by rw [dstE,ho];simp only [hR,hI,hi,if_true,if_false]
       refine stay e1 (by decide) ?_
       cases Rf with
       | false =>
         have hb:i32B N=true:=by cases e:i32B N with
          | true=>rfl
          | false=>exact absurd ⟨rfl,e⟩ hI
         simp [i32B] at hb
         by_cases h5:i<0
         ·exact dst_i31a sd hkl hn1 rfl HL rfl hR (by omega) (by omega) h5
         ·exact dst_i31b sd hkl hn1 rfl HL rfl hR (by omega) (by omega) h5 (by omega)
       | true =>
         by_cases h5:i<0
         ·exact dst_r31a sd hkl hn1 rfl HL rfl hR h5
         ·exact dst_r31b sd hkl hn1 rfl HL rfl hR h5 (by omega)
    ·have e1:dstE ps es ((k:Int)+1) i Rf N=35:=by rw [dstE,ho];simp only [hR,if_false]
     exact stay e1 (by decide) (dst_kind sd hkl hn1 rfl HL (fun e=>hR e.symm))
end Go.Proofs.YtlnojhhddinjkaaGreat
