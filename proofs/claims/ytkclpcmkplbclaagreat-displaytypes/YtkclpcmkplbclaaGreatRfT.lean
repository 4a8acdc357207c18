import Derived.Test.YtkclpcmkplbclaaGreatRfH
import Derived.Test.YtkclpcmkplbclaaGreatDsG
set_option maxRecDepth 100000
namespace Go.Proofs.YtkclpcmkplbclaaGreat
open Go.RowKit Go.Maps
theorem rIsInt_c (d:Int) (s:ByteArray) (W:World):Calls Tryz.prog 107 #[.agg #[.int .i64 d,.string s]] W fun e w'=>e=.returned (.bool (intB d s))∧Below W.heap.size W w':=by
  obtain ⟨R,hR⟩:∃ R,intB d s=R:=⟨_,rfl⟩
  have HR:Hid (((d == 0)&&s.toList.isEmpty)=R):=hR
  rw [hR]
  clear hR
  go_enter Tryz.func107,Tryz.ntmps107
  go_wp2
  all_goals go_ret
  all_goals exact ⟨retB (by rw [← HR.out];simp [*]),(by repeat (first|exact Below.refl _ _|refine Below.setCell ?_ (by simp;try omega) _|refine Below.alloc ?_ (by simp;try omega) _|refine Below.drew ?_))⟩
theorem rLower_c (d:Nat) (hd:d≤255) (s:ByteArray) (W:World):Calls Tryz.prog 146 #[.agg #[.int .i64 ((d+1:Nat):Int),.string s]] W fun e w'=>e=.returned (.agg #[.int .i64 (d:Int),.string s])∧Below W.heap.size W w':=by
  have e:((d+1:Nat):Int) - 1=(d:Int):=by omega
  go_enter Tryz.func146,Tryz.ntmps146
  go_wp2
  exact bodyPost_ret (v:=.agg #[.int .i64 (d:Int),.string s]) (by simp [results,Tryz.results146,go_sem]) rfl ⟨rfl,(by repeat (first|exact Below.refl _ _|refine Below.setCell ?_ (by simp;try omega) _|refine Below.alloc ?_ (by simp;try omega) _|refine Below.drew ?_))⟩
theorem abv3_iff (t:ByteArray):abv3.contains t.data.toList=((t.toList == [79,98,106,101,99,116])||(t.toList == [67,108,111,110,101,97,98,108,101])||(t.toList == [83,101,114,105,97,108,105,122,97,98,108,101])):=by
  rw [Lib.toList_data]
  simp only [abv3,List.contains_cons,List.contains_nil,Bool.or_false,sObj,sClo,sSer,Bool.or_assoc]
theorem rByName_t {b:Nat} {cs:List Cls} {ps:List Plc} {W:World} (h:RAt b cs W) (ht:TwW cs ps) (s:ByteArray) (x:Nat) (hx:lookL ps s.data.toList=some x):Calls Tryz.prog 57 #[.pointer (some ⟨b,0,none⟩),.string s] W fun e w'=>e=.returned (.tuple #[.int .i64 (x:Int),.int .i64 0])∧w'=W:=by
  have hn:cs.length≤300:=by rw [ht.tw.len];exact ht.wi.hi
  refine (rByName_c h s hn).mono fun e w' zz=>⟨?_,zz.2⟩
  rw [zz.1,Lib.toList_data,look_nmd ht.tw ht.nm,hx]
  show Ending.returned (bnC (x:Int))=_
  rw [bnC,if_neg (by omega)]
set_option maxHeartbeats 4000000 in
theorem rBelow0 {b:Nat} {cs:List Cls} {ps:List Plc} {W:World} (h:RAt b cs W) (ht:TwW cs ps) (hJ:WJ ps) (da db:Nat) (s t:ByteArray) (hab:da=0∨db=0) (hld:s.toList.isEmpty=false→∃ x,lookL ps s.data.toList=some x) (hlt:t.toList.isEmpty=false→∃ x,lookL ps t.data.toList=some x):Calls Tryz.prog 129 #[.pointer (some ⟨b,0,none⟩),.agg #[.int .i64 (da:Int),.string s],.agg #[.int .i64 (db:Int),.string t]] W fun e w'=>e=.returned (.bool (belB ps da s db t))∧Below W.heap.size W w':=by
  have HI1:Hid (∀ d u w,d=(da:Int)→u=s→Calls Tryz.prog 107 #[.agg #[.int .i64 d,.string u]] w fun e w'=>e=.returned (.bool (intB da s))∧Below w.heap.size w w'):=fun d u w h1 h2=>by rw [h1,h2];exact rIsInt_c da s w
  have HI2:Hid (∀ d u w,d=(db:Int)→u=t→Calls Tryz.prog 107 #[.agg #[.int .i64 d,.string u]] w fun e w'=>e=.returned (.bool (intB db t))∧Below w.heap.size w w'):=fun d u w h1 h2=>by rw [h1,h2];exact rIsInt_c db t w
  have hR:belB ps da s db t=if intB (da:Int) s||intB (db:Int) t then intB (da:Int) s&&intB (db:Int) t else belB ps da s db t:=by
    cases h1:intB (da:Int) s||intB (db:Int) t with
    | false=>rfl
    | true =>
      rw [if_pos rfl]
      unfold belB
      rw [h1,if_pos rfl]
      unfold intB at h1 ⊢
      simp only [Bool.or_eq_true,Bool.and_eq_true,beq_iff_eq,List.isEmpty_iff] at h1
      rw [Bool.eq_iff_iff]
      simp only [Bool.and_eq_true,beq_iff_eq,List.isEmpty_iff]
      rcases h1 with ⟨h1,h2⟩|⟨h1,h2⟩
      · rw [h1,h2]
        exact ⟨fun ⟨a,b⟩=>⟨⟨rfl,rfl⟩,a.symm,b.symm⟩,fun ⟨_,a,b⟩=>⟨a.symm,b.symm⟩⟩
      · rw [h1,h2]
        exact ⟨fun ⟨a,b⟩=>⟨⟨a,b⟩,rfl,rfl⟩,fun ⟨⟨a,b⟩,_⟩=>⟨a,b⟩⟩
  have ent:∀ (P:Prop),P→P:=fun _ h=>h
  clear ent
  cases h1:intB (da:Int) s with
  | true =>
    rw [h1] at HI1 hR
    simp only [Bool.true_or,if_true,Bool.true_and] at hR
    rw [hR]
    generalize intB (db:Int) t=i2 at *
    clear h ht hJ hld hlt h1 hR
    go_enter Tryz.func129,Tryz.ntmps129
    go_wp2_with (first
      | (go_at_call 107;refine (HI1.out _ _ _ (by rfl) (by rfl)).mono ?_;rintro e w1 ⟨rfl,hb⟩;have k1:=HI1;have ad:w1.heap[W.heap.size]?=some (.cells #[.int .i64 (da:Int),.string s] 24 (0,0)):=(hb.block (W.heap.size) (by first|omega|(simp;try omega))).trans (by first|exact aB.out|exact hkeep aB.out|exact hkeep (hkeep aB.out)|exact halloc2 _ _ rfl|exact heap_alloc2_old _ _ _|exact heap_alloc2_new _ _ _|exact hkeep (halloc2 _ _ rfl)|exact hkeep (hkeep (halloc2 _ _ rfl))|exact halloc2 _ _ (by simp;done));(try clear aB aL aN a0 a1 af0 af1);have aB:Hid (w1.heap[W.heap.size]?=some (.cells #[.int .i64 (da:Int),.string s] 24 (0,0))):=ad;have a0:w1.cell? ⟨W.heap.size,0,none⟩=some (.int .i64 (da:Int)):=(cell_of_row w1 (W.heap.size) 0 _ _ _ ad).trans rfl;have af0:=frozen_of_row w1 (W.heap.size) 0 _ _ ad;have a1:w1.cell? ⟨W.heap.size,1,none⟩=some (.string s):=(cell_of_row w1 (W.heap.size) 1 _ _ _ ad).trans rfl;have af1:=frozen_of_row w1 (W.heap.size) 1 _ _ ad;have aL:W.heap.size<w1.heap.size:=(Array.getElem?_eq_some_iff.1 ad).1;have aN:¬ W.heap.size=w1.heap.size:=(by omega);clear ad;have cd:w1.heap[W.heap.size+1]?=some (.cells #[.int .i64 (db:Int),.string t] 24 (0,0)):=(hb.block (W.heap.size+1) (by first|omega|(simp;try omega))).trans (by first|exact cB.out|exact hkeep cB.out|exact hkeep (hkeep cB.out)|exact halloc2 _ _ rfl|exact heap_alloc2_old _ _ _|exact heap_alloc2_new _ _ _|exact hkeep (halloc2 _ _ rfl)|exact hkeep (hkeep (halloc2 _ _ rfl))|exact halloc2 _ _ (by simp;done));(try clear cB cL cN c0 c1 cf0 cf1);have cB:Hid (w1.heap[W.heap.size+1]?=some (.cells #[.int .i64 (db:Int),.string t] 24 (0,0))):=cd;have c0:w1.cell? ⟨W.heap.size+1,0,none⟩=some (.int .i64 (db:Int)):=(cell_of_row w1 (W.heap.size+1) 0 _ _ _ cd).trans rfl;have cf0:=frozen_of_row w1 (W.heap.size+1) 0 _ _ cd;have c1:w1.cell? ⟨W.heap.size+1,1,none⟩=some (.string t):=(cell_of_row w1 (W.heap.size+1) 1 _ _ _ cd).trans rfl;have cf1:=frozen_of_row w1 (W.heap.size+1) 1 _ _ cd;have cL:W.heap.size+1<w1.heap.size:=(Array.getElem?_eq_some_iff.1 cd).1;have cN:¬ W.heap.size+1=w1.heap.size:=(by omega);clear cd;have B1:Hid (Below W.heap.size W w1):=bstep (by repeat (first|exact Below.refl _ _|refine Below.setCell ?_ (by simp;try omega) _|refine Below.alloc ?_ (by simp;try omega) _|refine Below.drew ?_)) hb;clear hb HI1)
      | (go_at_call 107;refine (k1.out _ _ _ (by rfl) (by rfl)).mono ?_;rintro e w2 ⟨rfl,hb⟩;have cd:w2.heap[W.heap.size+1]?=some (.cells #[.int .i64 (db:Int),.string t] 24 (0,0)):=(hb.block (W.heap.size+1) (by first|omega|(simp;try omega))).trans (by first|exact cB.out|exact hkeep cB.out|exact hkeep (hkeep cB.out)|exact halloc2 _ _ rfl|exact heap_alloc2_old _ _ _|exact heap_alloc2_new _ _ _|exact hkeep (halloc2 _ _ rfl)|exact hkeep (hkeep (halloc2 _ _ rfl))|exact halloc2 _ _ (by simp;done));(try clear cB cL cN c0 c1 cf0 cf1);have cB:Hid (w2.heap[W.heap.size+1]?=some (.cells #[.int .i64 (db:Int),.string t] 24 (0,0))):=cd;have c0:w2.cell? ⟨W.heap.size+1,0,none⟩=some (.int .i64 (db:Int)):=(cell_of_row w2 (W.heap.size+1) 0 _ _ _ cd).trans rfl;have cf0:=frozen_of_row w2 (W.heap.size+1) 0 _ _ cd;have c1:w2.cell? ⟨W.heap.size+1,1,none⟩=some (.string t):=(cell_of_row w2 (W.heap.size+1) 1 _ _ _ cd).trans rfl;have cf1:=frozen_of_row w2 (W.heap.size+1) 1 _ _ cd;have cL:W.heap.size+1<w2.heap.size:=(Array.getElem?_eq_some_iff.1 cd).1;have cN:¬ W.heap.size+1=w2.heap.size:=(by omega);clear cd;have B2:Hid (Below W.heap.size W w2):=bstep B1.out hb;clear hb k1)
      | (go_at_call 107;refine (HI2.out _ _ _ (by rfl) (by rfl)).mono ?_;rintro e w3 ⟨rfl,hb⟩;have B3:Hid (Below W.heap.size W w3):=bstep B2.out hb;clear hb HI2))
    exact bodyPost_ret (results_tmp rfl _ _ _) rfl ⟨rfl,B3.out⟩
  | false =>
    rw [h1] at HI1 hR
    cases h2:intB (db:Int) t with
    | true =>
      rw [h2] at HI2 hR
      simp only [Bool.or_true,if_true,Bool.false_and] at hR
      rw [hR]
      clear h ht hJ hld hlt h1 h2 hR
      go_enter Tryz.func129,Tryz.ntmps129
      go_wp2_with (first
        | (go_at_call 107;refine (HI1.out _ _ _ (by rfl) (by rfl)).mono ?_;rintro e w1 ⟨rfl,hb⟩;have k1:=HI1;have ad:w1.heap[W.heap.size]?=some (.cells #[.int .i64 (da:Int),.string s] 24 (0,0)):=(hb.block (W.heap.size) (by first|omega|(simp;try omega))).trans (by first|exact aB.out|exact hkeep aB.out|exact hkeep (hkeep aB.out)|exact halloc2 _ _ rfl|exact heap_alloc2_old _ _ _|exact heap_alloc2_new _ _ _|exact hkeep (halloc2 _ _ rfl)|exact hkeep (hkeep (halloc2 _ _ rfl))|exact halloc2 _ _ (by simp;done));(try clear aB aL aN a0 a1 af0 af1);have aB:Hid (w1.heap[W.heap.size]?=some (.cells #[.int .i64 (da:Int),.string s] 24 (0,0))):=ad;have a0:w1.cell? ⟨W.heap.size,0,none⟩=some (.int .i64 (da:Int)):=(cell_of_row w1 (W.heap.size) 0 _ _ _ ad).trans rfl;have af0:=frozen_of_row w1 (W.heap.size) 0 _ _ ad;have a1:w1.cell? ⟨W.heap.size,1,none⟩=some (.string s):=(cell_of_row w1 (W.heap.size) 1 _ _ _ ad).trans rfl;have af1:=frozen_of_row w1 (W.heap.size) 1 _ _ ad;have aL:W.heap.size<w1.heap.size:=(Array.getElem?_eq_some_iff.1 ad).1;have aN:¬ W.heap.size=w1.heap.size:=(by omega);clear ad;have cd:w1.heap[W.heap.size+1]?=some (.cells #[.int .i64 (db:Int),.string t] 24 (0,0)):=(hb.block (W.heap.size+1) (by first|omega|(simp;try omega))).trans (by first|exact cB.out|exact hkeep cB.out|exact hkeep (hkeep cB.out)|exact halloc2 _ _ rfl|exact heap_alloc2_old _ _ _|exact heap_alloc2_new _ _ _|exact hkeep (halloc2 _ _ rfl)|exact hkeep (hkeep (halloc2 _ _ rfl))|exact halloc2 _ _ (by simp;done));(try clear cB cL cN c0 c1 cf0 cf1);have cB:Hid (w1.heap[W.heap.size+1]?=some (.cells #[.int .i64 (db:Int),.string t] 24 (0,0))):=cd;have c0:w1.cell? ⟨W.heap.size+1,0,none⟩=some (.int .i64 (db:Int)):=(cell_of_row w1 (W.heap.size+1) 0 _ _ _ cd).trans rfl;have cf0:=frozen_of_row w1 (W.heap.size+1) 0 _ _ cd;have c1:w1.cell? ⟨W.heap.size+1,1,none⟩=some (.string t):=(cell_of_row w1 (W.heap.size+1) 1 _ _ _ cd).trans rfl;have cf1:=frozen_of_row w1 (W.heap.size+1) 1 _ _ cd;have cL:W.heap.size+1<w1.heap.size:=(Array.getElem?_eq_some_iff.1 cd).1;have cN:¬ W.heap.size+1=w1.heap.size:=(by omega);clear cd;have B1:Hid (Below W.heap.size W w1):=bstep (by repeat (first|exact Below.refl _ _|refine Below.setCell ?_ (by simp;try omega) _|refine Below.alloc ?_ (by simp;try omega) _|refine Below.drew ?_)) hb;clear hb HI1)
        | (go_at_call 107;refine (HI2.out _ _ _ (by rfl) (by rfl)).mono ?_;rintro e w2 ⟨rfl,hb⟩;have ad:w2.heap[W.heap.size]?=some (.cells #[.int .i64 (da:Int),.string s] 24 (0,0)):=(hb.block (W.heap.size) (by first|omega|(simp;try omega))).trans (by first|exact aB.out|exact hkeep aB.out|exact hkeep (hkeep aB.out)|exact halloc2 _ _ rfl|exact heap_alloc2_old _ _ _|exact heap_alloc2_new _ _ _|exact hkeep (halloc2 _ _ rfl)|exact hkeep (hkeep (halloc2 _ _ rfl))|exact halloc2 _ _ (by simp;done));(try clear aB aL aN a0 a1 af0 af1);have aB:Hid (w2.heap[W.heap.size]?=some (.cells #[.int .i64 (da:Int),.string s] 24 (0,0))):=ad;have a0:w2.cell? ⟨W.heap.size,0,none⟩=some (.int .i64 (da:Int)):=(cell_of_row w2 (W.heap.size) 0 _ _ _ ad).trans rfl;have af0:=frozen_of_row w2 (W.heap.size) 0 _ _ ad;have a1:w2.cell? ⟨W.heap.size,1,none⟩=some (.string s):=(cell_of_row w2 (W.heap.size) 1 _ _ _ ad).trans rfl;have af1:=frozen_of_row w2 (W.heap.size) 1 _ _ ad;have aL:W.heap.size<w2.heap.size:=(Array.getElem?_eq_some_iff.1 ad).1;have aN:¬ W.heap.size=w2.heap.size:=(by omega);clear ad;have B2:Hid (Below W.heap.size W w2):=bstep B1.out hb;clear hb HI2)
        | (go_at_call 107;refine (k1.out _ _ _ (by rfl) (by rfl)).mono ?_;rintro e w3 ⟨rfl,hb⟩;have B3:Hid (Below W.heap.size W w3):=bstep B2.out hb;clear hb k1))
      exact bodyPost_ret (results_tmp rfl _ _ _) rfl ⟨rfl,B3.out⟩
    | false =>
      rw [h2] at HI2
      clear hR
      have hR:belB ps da s db t=if 0<db then false else if 0<da then abv3.contains t.data.toList else match lookL ps s.data.toList,lookL ps t.data.toList with
          | some x,some y=>extB (ps.map nd) x y
          | _,_=>false:=by
        unfold belB;rw [h1,h2];rfl
      rw [hR]
      clear hR
      by_cases hdb:0<db
      · have hda:da=0:=by omega
        subst hda
        rw [if_pos hdb]
        have g1:¬ (db:Int)=0:=by omega
        have g2:((db:Int) == 0)=false:=by simpa using g1
        clear h ht hJ hld hlt h1 h2 hab
        go_enter Tryz.func129,Tryz.ntmps129
        go_wp2_with (first
          | (go_at_call 107;refine (HI1.out _ _ _ (by rfl) (by rfl)).mono ?_;rintro e w1 ⟨rfl,hb⟩;have ad:w1.heap[W.heap.size]?=some (.cells #[.int .i64 0,.string s] 24 (0,0)):=(hb.block (W.heap.size) (by first|omega|(simp;try omega))).trans (by first|exact aB.out|exact hkeep aB.out|exact hkeep (hkeep aB.out)|exact halloc2 _ _ rfl|exact heap_alloc2_old _ _ _|exact heap_alloc2_new _ _ _|exact hkeep (halloc2 _ _ rfl)|exact hkeep (hkeep (halloc2 _ _ rfl))|exact halloc2 _ _ (by simp;done));(try clear aB aL aN a0 a1 af0 af1);have aB:Hid (w1.heap[W.heap.size]?=some (.cells #[.int .i64 0,.string s] 24 (0,0))):=ad;have a0:w1.cell? ⟨W.heap.size,0,none⟩=some (.int .i64 0):=(cell_of_row w1 (W.heap.size) 0 _ _ _ ad).trans rfl;have af0:=frozen_of_row w1 (W.heap.size) 0 _ _ ad;have a1:w1.cell? ⟨W.heap.size,1,none⟩=some (.string s):=(cell_of_row w1 (W.heap.size) 1 _ _ _ ad).trans rfl;have af1:=frozen_of_row w1 (W.heap.size) 1 _ _ ad;have aL:W.heap.size<w1.heap.size:=(Array.getElem?_eq_some_iff.1 ad).1;have aN:¬ W.heap.size=w1.heap.size:=(by omega);clear ad;have cd:w1.heap[W.heap.size+1]?=some (.cells #[.int .i64 (db:Int),.string t] 24 (0,0)):=(hb.block (W.heap.size+1) (by first|omega|(simp;try omega))).trans (by first|exact cB.out|exact hkeep cB.out|exact hkeep (hkeep cB.out)|exact halloc2 _ _ rfl|exact heap_alloc2_old _ _ _|exact heap_alloc2_new _ _ _|exact hkeep (halloc2 _ _ rfl)|exact hkeep (hkeep (halloc2 _ _ rfl))|exact halloc2 _ _ (by simp;done));(try clear cB cL cN c0 c1 cf0 cf1);have cB:Hid (w1.heap[W.heap.size+1]?=some (.cells #[.int .i64 (db:Int),.string t] 24 (0,0))):=cd;have c0:w1.cell? ⟨W.heap.size+1,0,none⟩=some (.int .i64 (db:Int)):=(cell_of_row w1 (W.heap.size+1) 0 _ _ _ cd).trans rfl;have cf0:=frozen_of_row w1 (W.heap.size+1) 0 _ _ cd;have c1:w1.cell? ⟨W.heap.size+1,1,none⟩=some (.string t):=(cell_of_row w1 (W.heap.size+1) 1 _ _ _ cd).trans rfl;have cf1:=frozen_of_row w1 (W.heap.size+1) 1 _ _ cd;have cL:W.heap.size+1<w1.heap.size:=(Array.getElem?_eq_some_iff.1 cd).1;have cN:¬ W.heap.size+1=w1.heap.size:=(by omega);clear cd;have B1:Hid (Below W.heap.size W w1):=bstep (by repeat (first|exact Below.refl _ _|refine Below.setCell ?_ (by simp;try omega) _|refine Below.alloc ?_ (by simp;try omega) _|refine Below.drew ?_)) hb;clear hb HI1)
          | (go_at_call 107;refine (HI2.out _ _ _ (by rfl) (by rfl)).mono ?_;rintro e w2 ⟨rfl,hb⟩;have ad:w2.heap[W.heap.size]?=some (.cells #[.int .i64 0,.string s] 24 (0,0)):=(hb.block (W.heap.size) (by first|omega|(simp;try omega))).trans (by first|exact aB.out|exact hkeep aB.out|exact hkeep (hkeep aB.out)|exact halloc2 _ _ rfl|exact heap_alloc2_old _ _ _|exact heap_alloc2_new _ _ _|exact hkeep (halloc2 _ _ rfl)|exact hkeep (hkeep (halloc2 _ _ rfl))|exact halloc2 _ _ (by simp;done));(try clear aB aL aN a0 a1 af0 af1);have aB:Hid (w2.heap[W.heap.size]?=some (.cells #[.int .i64 0,.string s] 24 (0,0))):=ad;have a0:w2.cell? ⟨W.heap.size,0,none⟩=some (.int .i64 0):=(cell_of_row w2 (W.heap.size) 0 _ _ _ ad).trans rfl;have af0:=frozen_of_row w2 (W.heap.size) 0 _ _ ad;have a1:w2.cell? ⟨W.heap.size,1,none⟩=some (.string s):=(cell_of_row w2 (W.heap.size) 1 _ _ _ ad).trans rfl;have af1:=frozen_of_row w2 (W.heap.size) 1 _ _ ad;have aL:W.heap.size<w2.heap.size:=(Array.getElem?_eq_some_iff.1 ad).1;have aN:¬ W.heap.size=w2.heap.size:=(by omega);clear ad;have cd:w2.heap[W.heap.size+1]?=some (.cells #[.int .i64 (db:Int),.string t] 24 (0,0)):=(hb.block (W.heap.size+1) (by first|omega|(simp;try omega))).trans (by first|exact cB.out|exact hkeep cB.out|exact hkeep (hkeep cB.out)|exact halloc2 _ _ rfl|exact heap_alloc2_old _ _ _|exact heap_alloc2_new _ _ _|exact hkeep (halloc2 _ _ rfl)|exact hkeep (hkeep (halloc2 _ _ rfl))|exact halloc2 _ _ (by simp;done));(try clear cB cL cN c0 c1 cf0 cf1);have cB:Hid (w2.heap[W.heap.size+1]?=some (.cells #[.int .i64 (db:Int),.string t] 24 (0,0))):=cd;have c0:w2.cell? ⟨W.heap.size+1,0,none⟩=some (.int .i64 (db:Int)):=(cell_of_row w2 (W.heap.size+1) 0 _ _ _ cd).trans rfl;have cf0:=frozen_of_row w2 (W.heap.size+1) 0 _ _ cd;have c1:w2.cell? ⟨W.heap.size+1,1,none⟩=some (.string t):=(cell_of_row w2 (W.heap.size+1) 1 _ _ _ cd).trans rfl;have cf1:=frozen_of_row w2 (W.heap.size+1) 1 _ _ cd;have cL:W.heap.size+1<w2.heap.size:=(Array.getElem?_eq_some_iff.1 cd).1;have cN:¬ W.heap.size+1=w2.heap.size:=(by omega);clear cd;have B2:Hid (Below W.heap.size W w2):=bstep B1.out hb;clear hb HI2))
        exact bodyPost_ret (results_tmp rfl _ _ _) rfl ⟨rfl,B2.out⟩
      · have hdb0:db=0:=by omega
        subst hdb0
        rw [if_neg hdb]
        by_cases hda:0<da
        · rw [if_pos hda]
          have g1:¬ (da:Int)=0:=by omega
          have g2:((da:Int) == 0)=false:=by simpa using g1
          have HAB:Hid (abv3.contains t.data.toList=((t.toList == [79,98,106,101,99,116])||(t.toList == [67,108,111,110,101,97,98,108,101])||(t.toList == [83,101,114,105,97,108,105,122,97,98,108,101]))):=abv3_iff t
          generalize abv3.contains t.data.toList=R at *
          clear h ht hJ hld hlt h1 h2 hab hdb
          go_enter Tryz.func129,Tryz.ntmps129
          go_wp2_with (first
            | (go_at_call 107;refine (HI1.out _ _ _ (by rfl) (by rfl)).mono ?_;rintro e w1 ⟨rfl,hb⟩;have ad:w1.heap[W.heap.size]?=some (.cells #[.int .i64 (da:Int),.string s] 24 (0,0)):=(hb.block (W.heap.size) (by first|omega|(simp;try omega))).trans (by first|exact aB.out|exact hkeep aB.out|exact hkeep (hkeep aB.out)|exact halloc2 _ _ rfl|exact heap_alloc2_old _ _ _|exact heap_alloc2_new _ _ _|exact hkeep (halloc2 _ _ rfl)|exact hkeep (hkeep (halloc2 _ _ rfl))|exact halloc2 _ _ (by simp;done));(try clear aB aL aN a0 a1 af0 af1);have aB:Hid (w1.heap[W.heap.size]?=some (.cells #[.int .i64 (da:Int),.string s] 24 (0,0))):=ad;have a0:w1.cell? ⟨W.heap.size,0,none⟩=some (.int .i64 (da:Int)):=(cell_of_row w1 (W.heap.size) 0 _ _ _ ad).trans rfl;have af0:=frozen_of_row w1 (W.heap.size) 0 _ _ ad;have a1:w1.cell? ⟨W.heap.size,1,none⟩=some (.string s):=(cell_of_row w1 (W.heap.size) 1 _ _ _ ad).trans rfl;have af1:=frozen_of_row w1 (W.heap.size) 1 _ _ ad;have aL:W.heap.size<w1.heap.size:=(Array.getElem?_eq_some_iff.1 ad).1;have aN:¬ W.heap.size=w1.heap.size:=(by omega);clear ad;have cd:w1.heap[W.heap.size+1]?=some (.cells #[.int .i64 0,.string t] 24 (0,0)):=(hb.block (W.heap.size+1) (by first|omega|(simp;try omega))).trans (by first|exact cB.out|exact hkeep cB.out|exact hkeep (hkeep cB.out)|exact halloc2 _ _ rfl|exact heap_alloc2_old _ _ _|exact heap_alloc2_new _ _ _|exact hkeep (halloc2 _ _ rfl)|exact hkeep (hkeep (halloc2 _ _ rfl))|exact halloc2 _ _ (by simp;done));(try clear cB cL cN c0 c1 cf0 cf1);have cB:Hid (w1.heap[W.heap.size+1]?=some (.cells #[.int .i64 0,.string t] 24 (0,0))):=cd;have c0:w1.cell? ⟨W.heap.size+1,0,none⟩=some (.int .i64 0):=(cell_of_row w1 (W.heap.size+1) 0 _ _ _ cd).trans rfl;have cf0:=frozen_of_row w1 (W.heap.size+1) 0 _ _ cd;have c1:w1.cell? ⟨W.heap.size+1,1,none⟩=some (.string t):=(cell_of_row w1 (W.heap.size+1) 1 _ _ _ cd).trans rfl;have cf1:=frozen_of_row w1 (W.heap.size+1) 1 _ _ cd;have cL:W.heap.size+1<w1.heap.size:=(Array.getElem?_eq_some_iff.1 cd).1;have cN:¬ W.heap.size+1=w1.heap.size:=(by omega);clear cd;have B1:Hid (Below W.heap.size W w1):=bstep (by repeat (first|exact Below.refl _ _|refine Below.setCell ?_ (by simp;try omega) _|refine Below.alloc ?_ (by simp;try omega) _|refine Below.drew ?_)) hb;clear hb HI1)
            | (go_at_call 107;refine (HI2.out _ _ _ (by rfl) (by rfl)).mono ?_;rintro e w2 ⟨rfl,hb⟩;have ad:w2.heap[W.heap.size]?=some (.cells #[.int .i64 (da:Int),.string s] 24 (0,0)):=(hb.block (W.heap.size) (by first|omega|(simp;try omega))).trans (by first|exact aB.out|exact hkeep aB.out|exact hkeep (hkeep aB.out)|exact halloc2 _ _ rfl|exact heap_alloc2_old _ _ _|exact heap_alloc2_new _ _ _|exact hkeep (halloc2 _ _ rfl)|exact hkeep (hkeep (halloc2 _ _ rfl))|exact halloc2 _ _ (by simp;done));(try clear aB aL aN a0 a1 af0 af1);have aB:Hid (w2.heap[W.heap.size]?=some (.cells #[.int .i64 (da:Int),.string s] 24 (0,0))):=ad;have a0:w2.cell? ⟨W.heap.size,0,none⟩=some (.int .i64 (da:Int)):=(cell_of_row w2 (W.heap.size) 0 _ _ _ ad).trans rfl;have af0:=frozen_of_row w2 (W.heap.size) 0 _ _ ad;have a1:w2.cell? ⟨W.heap.size,1,none⟩=some (.string s):=(cell_of_row w2 (W.heap.size) 1 _ _ _ ad).trans rfl;have af1:=frozen_of_row w2 (W.heap.size) 1 _ _ ad;have aL:W.heap.size<w2.heap.size:=(Array.getElem?_eq_some_iff.1 ad).1;have aN:¬ W.heap.size=w2.heap.size:=(by omega);clear ad;have cd:w2.heap[W.heap.size+1]?=some (.cells #[.int .i64 0,.string t] 24 (0,0)):=(hb.block (W.heap.size+1) (by first|omega|(simp;try omega))).trans (by first|exact cB.out|exact hkeep cB.out|exact hkeep (hkeep cB.out)|exact halloc2 _ _ rfl|exact heap_alloc2_old _ _ _|exact heap_alloc2_new _ _ _|exact hkeep (halloc2 _ _ rfl)|exact hkeep (hkeep (halloc2 _ _ rfl))|exact halloc2 _ _ (by simp;done));(try clear cB cL cN c0 c1 cf0 cf1);have cB:Hid (w2.heap[W.heap.size+1]?=some (.cells #[.int .i64 0,.string t] 24 (0,0))):=cd;have c0:w2.cell? ⟨W.heap.size+1,0,none⟩=some (.int .i64 0):=(cell_of_row w2 (W.heap.size+1) 0 _ _ _ cd).trans rfl;have cf0:=frozen_of_row w2 (W.heap.size+1) 0 _ _ cd;have c1:w2.cell? ⟨W.heap.size+1,1,none⟩=some (.string t):=(cell_of_row w2 (W.heap.size+1) 1 _ _ _ cd).trans rfl;have cf1:=frozen_of_row w2 (W.heap.size+1) 1 _ _ cd;have cL:W.heap.size+1<w2.heap.size:=(Array.getElem?_eq_some_iff.1 cd).1;have cN:¬ W.heap.size+1=w2.heap.size:=(by omega);clear cd;have B2:Hid (Below W.heap.size W w2):=bstep B1.out hb;clear hb HI2))
          all_goals go_ret
          all_goals exact ⟨retB (by rw [HAB.out];try simp [*]),B2.out⟩
        · have hda0:da=0:=by omega
          subst hda0
          rw [if_neg hda]
          have hse:s.toList.isEmpty=false:=by
            unfold intB at h1;simpa using h1
          have hte:t.toList.isEmpty=false:=by
            unfold intB at h2;simpa using h2
          obtain ⟨x,hx⟩:=hld hse
          obtain ⟨y,hy⟩:=hlt hte
          rw [hx,hy]
          simp only
          obtain ⟨p,hp,_⟩:=look_place hx
          obtain ⟨q,hq,_⟩:=look_place hy
          have he:extI ps x y=extB (ps.map nd) x y:=by rw [extI,plcI_nat,plcI_nat,hp,hq];rfl
          have HX:Hid (∀ u w,Below W.heap.size W w→u=s→Calls Tryz.prog 57 #[.pointer (some ⟨b,0,none⟩),.string u] w fun e w'=>e=.returned (.tuple #[.int .i64 (x:Int),.int .i64 0])∧w'=w):=fun u w hb hu=>by rw [hu];exact rByName_t (h.below hb) ht s x hx
          have HY:Hid (∀ u w,Below W.heap.size W w→u=t→Calls Tryz.prog 57 #[.pointer (some ⟨b,0,none⟩),.string u] w fun e w'=>e=.returned (.tuple #[.int .i64 (y:Int),.int .i64 0])∧w'=w):=fun u w hb hu=>by rw [hu];exact rByName_t (h.below hb) ht t y hy
          have HE:Hid (∀ w,Below W.heap.size W w→Calls Tryz.prog 47 #[.pointer (some ⟨b,0,none⟩),.int .i64 (x:Int),.int .i64 (y:Int)] w fun e w'=>e=.returned (.bool (extB (ps.map nd) x y))∧Below w.heap.size w w'):=fun w hb=>(rExtends_c (h.below hb) ht hJ x y).mono fun e w' zz=>⟨by rw [zz.1,he],zz.2⟩
          generalize extB (ps.map nd) x y=R at *
          clear h ht hJ hld hlt h1 h2 hab hdb hda hse hte hx hy hp hq he
          go_enter Tryz.func129,Tryz.ntmps129
          go_wp2_with (first
            | (go_at_call 107;refine (HI1.out _ _ _ (by rfl) (by rfl)).mono ?_;rintro e w1 ⟨rfl,hb⟩;have ad:w1.heap[W.heap.size]?=some (.cells #[.int .i64 0,.string s] 24 (0,0)):=(hb.block (W.heap.size) (by first|omega|(simp;try omega))).trans (by first|exact aB.out|exact hkeep aB.out|exact hkeep (hkeep aB.out)|exact halloc2 _ _ rfl|exact heap_alloc2_old _ _ _|exact heap_alloc2_new _ _ _|exact hkeep (halloc2 _ _ rfl)|exact hkeep (hkeep (halloc2 _ _ rfl))|exact halloc2 _ _ (by simp;done));(try clear aB aL aN a0 a1 af0 af1);have aB:Hid (w1.heap[W.heap.size]?=some (.cells #[.int .i64 0,.string s] 24 (0,0))):=ad;have a0:w1.cell? ⟨W.heap.size,0,none⟩=some (.int .i64 0):=(cell_of_row w1 (W.heap.size) 0 _ _ _ ad).trans rfl;have af0:=frozen_of_row w1 (W.heap.size) 0 _ _ ad;have a1:w1.cell? ⟨W.heap.size,1,none⟩=some (.string s):=(cell_of_row w1 (W.heap.size) 1 _ _ _ ad).trans rfl;have af1:=frozen_of_row w1 (W.heap.size) 1 _ _ ad;have aL:W.heap.size<w1.heap.size:=(Array.getElem?_eq_some_iff.1 ad).1;have aN:¬ W.heap.size=w1.heap.size:=(by omega);clear ad;have cd:w1.heap[W.heap.size+1]?=some (.cells #[.int .i64 0,.string t] 24 (0,0)):=(hb.block (W.heap.size+1) (by first|omega|(simp;try omega))).trans (by first|exact cB.out|exact hkeep cB.out|exact hkeep (hkeep cB.out)|exact halloc2 _ _ rfl|exact heap_alloc2_old _ _ _|exact heap_alloc2_new _ _ _|exact hkeep (halloc2 _ _ rfl)|exact hkeep (hkeep (halloc2 _ _ rfl))|exact halloc2 _ _ (by simp;done));(try clear cB cL cN c0 c1 cf0 cf1);have cB:Hid (w1.heap[W.heap.size+1]?=some (.cells #[.int .i64 0,.string t] 24 (0,0))):=cd;have c0:w1.cell? ⟨W.heap.size+1,0,none⟩=some (.int .i64 0):=(cell_of_row w1 (W.heap.size+1) 0 _ _ _ cd).trans rfl;have cf0:=frozen_of_row w1 (W.heap.size+1) 0 _ _ cd;have c1:w1.cell? ⟨W.heap.size+1,1,none⟩=some (.string t):=(cell_of_row w1 (W.heap.size+1) 1 _ _ _ cd).trans rfl;have cf1:=frozen_of_row w1 (W.heap.size+1) 1 _ _ cd;have cL:W.heap.size+1<w1.heap.size:=(Array.getElem?_eq_some_iff.1 cd).1;have cN:¬ W.heap.size+1=w1.heap.size:=(by omega);clear cd;have B1:Hid (Below W.heap.size W w1):=bstep (by repeat (first|exact Below.refl _ _|refine Below.setCell ?_ (by simp;try omega) _|refine Below.alloc ?_ (by simp;try omega) _|refine Below.drew ?_)) hb;clear hb HI1)
            | (go_at_call 107;refine (HI2.out _ _ _ (by rfl) (by rfl)).mono ?_;rintro e w2 ⟨rfl,hb⟩;have ad:w2.heap[W.heap.size]?=some (.cells #[.int .i64 0,.string s] 24 (0,0)):=(hb.block (W.heap.size) (by first|omega|(simp;try omega))).trans (by first|exact aB.out|exact hkeep aB.out|exact hkeep (hkeep aB.out)|exact halloc2 _ _ rfl|exact heap_alloc2_old _ _ _|exact heap_alloc2_new _ _ _|exact hkeep (halloc2 _ _ rfl)|exact hkeep (hkeep (halloc2 _ _ rfl))|exact halloc2 _ _ (by simp;done));(try clear aB aL aN a0 a1 af0 af1);have aB:Hid (w2.heap[W.heap.size]?=some (.cells #[.int .i64 0,.string s] 24 (0,0))):=ad;have a0:w2.cell? ⟨W.heap.size,0,none⟩=some (.int .i64 0):=(cell_of_row w2 (W.heap.size) 0 _ _ _ ad).trans rfl;have af0:=frozen_of_row w2 (W.heap.size) 0 _ _ ad;have a1:w2.cell? ⟨W.heap.size,1,none⟩=some (.string s):=(cell_of_row w2 (W.heap.size) 1 _ _ _ ad).trans rfl;have af1:=frozen_of_row w2 (W.heap.size) 1 _ _ ad;have aL:W.heap.size<w2.heap.size:=(Array.getElem?_eq_some_iff.1 ad).1;have aN:¬ W.heap.size=w2.heap.size:=(by omega);clear ad;have cd:w2.heap[W.heap.size+1]?=some (.cells #[.int .i64 0,.string t] 24 (0,0)):=(hb.block (W.heap.size+1) (by first|omega|(simp;try omega))).trans (by first|exact cB.out|exact hkeep cB.out|exact hkeep (hkeep cB.out)|exact halloc2 _ _ rfl|exact heap_alloc2_old _ _ _|exact heap_alloc2_new _ _ _|exact hkeep (halloc2 _ _ rfl)|exact hkeep (hkeep (halloc2 _ _ rfl))|exact halloc2 _ _ (by simp;done));(try clear cB cL cN c0 c1 cf0 cf1);have cB:Hid (w2.heap[W.heap.size+1]?=some (.cells #[.int .i64 0,.string t] 24 (0,0))):=cd;have c0:w2.cell? ⟨W.heap.size+1,0,none⟩=some (.int .i64 0):=(cell_of_row w2 (W.heap.size+1) 0 _ _ _ cd).trans rfl;have cf0:=frozen_of_row w2 (W.heap.size+1) 0 _ _ cd;have c1:w2.cell? ⟨W.heap.size+1,1,none⟩=some (.string t):=(cell_of_row w2 (W.heap.size+1) 1 _ _ _ cd).trans rfl;have cf1:=frozen_of_row w2 (W.heap.size+1) 1 _ _ cd;have cL:W.heap.size+1<w2.heap.size:=(Array.getElem?_eq_some_iff.1 cd).1;have cN:¬ W.heap.size+1=w2.heap.size:=(by omega);clear cd;have B2:Hid (Below W.heap.size W w2):=bstep B1.out hb;clear hb HI2)
            | (go_at_call 57;refine (HX.out _ _ B2.out (by rfl)).mono ?_;rintro e w9 ⟨rfl,hw9⟩;rw [hw9];clear hw9 w9 HX)
            | (go_at_call 57;refine (HY.out _ _ B2.out (by rfl)).mono ?_;rintro e w9 ⟨rfl,hw9⟩;rw [hw9];clear hw9 w9 HY)
            | (go_at_call 47;refine (HE.out _ B2.out).mono ?_;rintro e w3 ⟨rfl,hb⟩;have B3:Hid (Below W.heap.size W w3):=bstep B2.out hb;clear hb HE))
          exact bodyPost_ret (results_tmp rfl _ _ _) rfl ⟨rfl,B3.out⟩
set_option maxHeartbeats 4000000 in
theorem rBelowS {b:Nat} {W:World} (x y:Nat) (hx:x≤255) (hy:y≤255) (s t:ByteArray) (R:Bool) (hrec:∀ w,Below W.heap.size W w→Calls Tryz.prog 129 #[.pointer (some ⟨b,0,none⟩),.agg #[.int .i64 (x:Int),.string s],.agg #[.int .i64 (y:Int),.string t]] w fun e w'=>e=.returned (.bool R)∧Below w.heap.size w w'):Calls Tryz.prog 129 #[.pointer (some ⟨b,0,none⟩),.agg #[.int .i64 ((x+1:Nat):Int),.string s],.agg #[.int .i64 ((y+1:Nat):Int),.string t]] W fun e w'=>e=.returned (.bool R)∧Below W.heap.size W w':=by
  have hi1:∀ (z:Nat) (u:ByteArray),intB ((z+1:Nat):Int) u=false:=fun z u=>by
    unfold intB
    have:(((z+1:Nat):Int) == 0)=false:=by
      have h0:¬ ((z+1:Nat):Int)=0:=by omega
      simpa using h0
    rw [this];rfl
  have HI:Hid (∀ (z:Nat) u w,Calls Tryz.prog 107 #[.agg #[.int .i64 ((z:Int)+1),.string u]] w fun e w'=>e=.returned (.bool false)∧Below w.heap.size w w'):=fun z u w=>by
    have:=rIsInt_c ((z+1:Nat):Int) u w
    rw [hi1 z u] at this
    exact this
  obtain ⟨σ,V,hne,V1,V2⟩:=class_of' (fun w'=>Below (W.heap.size+2) ((W.alloc (.cells #[.int .i64 ((x:Int)+1),.string s] 24)).alloc (.cells #[.int .i64 ((y:Int)+1),.string t] 24)) w') ⟨_,Below.refl _ _⟩
  have hBV:∀ s0,Below W.heap.size W (V s0):=fun s0=>(((Below.refl _ W).alloc (Nat.le_refl _) _).alloc (by simp) _).trans ((V1.out s0).mono (by omega))
  have HL1:Hid (∀ s0 (d:Int) u,d=(x:Int)+1→u=s→Calls Tryz.prog 146 #[.agg #[.int .i64 d,.string u]] (V s0) fun e w''=>e=.returned (.agg #[.int .i64 (x:Int),.string s])∧∃ s',w''=V s'):=fun s0 d u h1 h2=>by
    rw [h1,h2]
    have:=rLower_c x hx s (V s0)
    exact this.mono fun e w'' zz=>⟨zz.1,V2.out _ ((V1.out s0).trans (zz.2.mono (by have:=(V1.out s0).size;simp at this;omega)))⟩
  have HL2:Hid (∀ s0 (d:Int) u,d=(y:Int)+1→u=t→Calls Tryz.prog 146 #[.agg #[.int .i64 d,.string u]] (V s0) fun e w''=>e=.returned (.agg #[.int .i64 (y:Int),.string t])∧∃ s',w''=V s'):=fun s0 d u h1 h2=>by
    rw [h1,h2]
    have:=rLower_c y hy t (V s0)
    exact this.mono fun e w'' zz=>⟨zz.1,V2.out _ ((V1.out s0).trans (zz.2.mono (by have:=(V1.out s0).size;simp at this;omega)))⟩
  have HB:Hid (∀ s0,Calls Tryz.prog 129 #[.pointer (some ⟨b,0,none⟩),.agg #[.int .i64 (x:Int),.string s],.agg #[.int .i64 (y:Int),.string t]] (V s0) fun e w''=>e=.returned (.bool R)∧∃ s',w''=V s'):=fun s0=>(hrec _ (hBV s0)).mono fun e w'' zz=>⟨zz.1,V2.out _ ((V1.out s0).trans (zz.2.mono (by have:=(V1.out s0).size;simp at this;omega)))⟩
  have HBV:Hid (∀ s0,Below W.heap.size W (V s0)):=hBV
  have a0:∀ s0,(V s0).cell? ⟨W.heap.size,0,none⟩=some (.int .i64 ((x:Int)+1)):=fun s0=>((V1.out s0).cell (p:=⟨W.heap.size,0,none⟩) (show W.heap.size<W.heap.size+2 by omega)).trans (by simp [go_sem])
  have a1:∀ s0,(V s0).cell? ⟨W.heap.size,1,none⟩=some (.string s):=fun s0=>((V1.out s0).cell (p:=⟨W.heap.size,1,none⟩) (show W.heap.size<W.heap.size+2 by omega)).trans (by simp [go_sem])
  have c0:∀ s0,(V s0).cell? ⟨W.heap.size+1,0,none⟩=some (.int .i64 ((y:Int)+1)):=fun s0=>((V1.out s0).cell (p:=⟨W.heap.size+1,0,none⟩) (show W.heap.size+1<W.heap.size+2 by omega)).trans (by simp [go_sem])
  have c1:∀ s0,(V s0).cell? ⟨W.heap.size+1,1,none⟩=some (.string t):=fun s0=>((V1.out s0).cell (p:=⟨W.heap.size+1,1,none⟩) (show W.heap.size+1<W.heap.size+2 by omega)).trans (by simp [go_sem])
  have VI:Hid (∀ (z:Nat) u w,(∃ s0,w=V s0)→Calls Tryz.prog 107 #[.agg #[.int .i64 ((z:Int)+1),.string u]] w fun e w'=>e=.returned (.bool false)∧∃ s',w'=V s'):=fun z u w hw=>by
    obtain ⟨s0,rfl⟩:=hw
    exact (HI.out z u _).mono fun e w' zz=>⟨zz.1,V2.out _ ((V1.out s0).trans (zz.2.mono (by have:=(V1.out s0).size;simp at this;omega)))⟩
  have V20:Hid (∃ s0,((W.alloc (.cells #[.int .i64 ((x:Int)+1),.string s] 24)).alloc (.cells #[.int .i64 ((y:Int)+1),.string t] 24))=V s0):=V2.out _ (Below.refl _ _)
  have VD:Hid (∀ s0,∃ s1,(V s0).drew=V s1):=fun s0=>V2.out _ ((V1.out s0).drew)
  have gx:¬ ((x:Int)+1)=0:=by omega
  have gy:¬ ((y:Int)+1)=0:=by omega
  have gx2:(((x:Int)+1) == 0)=false:=by simpa using gx
  have gy2:(((y:Int)+1) == 0)=false:=by simpa using gy
  have ex:((x+1:Nat):Int)=(x:Int)+1:=by omega
  have ey:((y+1:Nat):Int)=(y:Int)+1:=by omega
  rw [ex,ey]
  clear hrec hi1 HI hBV V1 V2 ex ey
  go_enter Tryz.func129,Tryz.ntmps129
  go_wp2_with (first
    | (go_at_call 107;refine (VI.out _ _ _ V20.out).mono ?_;rintro e w1 ⟨rfl,⟨s1,rfl⟩⟩;clear V20)
    | (go_at_call 107;refine (VI.out _ _ _ ⟨_,rfl⟩).mono ?_;rintro e w2 ⟨rfl,⟨s2,rfl⟩⟩))
  refine wp_region_class (C:=fun w'=>∃ s0,w'=V s0) (by kernel_rfl) (by kernel_rfl) (VD.out _) ?_
  repeat (go_big_quiet_step (first|(go_at_call 146;exact HL1.out _ _ _ rfl rfl)|(go_at_call 146;exact HL2.out _ _ _ rfl rfl)|(go_at_call 129;exact HB.out _)))
  refine wpQuiet_nil ?_
  intro w9 hw9
  obtain ⟨s9,rfl⟩:=hw9
  go_wp2
  exact bodyPost_ret (results_tmp rfl _ _ _) rfl ⟨rfl,HBV.out s9⟩
theorem rBelow_c {b:Nat} {cs:List Cls} {ps:List Plc} (ht:TwW cs ps) (hJ:WJ ps) (da db:Nat) (s t:ByteArray) (hab:da=0∨db=0) (hld:s.toList.isEmpty=false→∃ x,lookL ps s.data.toList=some x) (hlt:t.toList.isEmpty=false→∃ x,lookL ps t.data.toList=some x):∀ (M:Nat),da+M≤255→db+M≤255→∀ W:World,RAt b cs W→Calls Tryz.prog 129 #[.pointer (some ⟨b,0,none⟩),.agg #[.int .i64 ((da+M:Nat):Int),.string s],.agg #[.int .i64 ((db+M:Nat):Int),.string t]] W fun e w'=>e=.returned (.bool (belB ps da s db t))∧Below W.heap.size W w'
  | 0,_,_,W,h=>rBelow0 h ht hJ da db s t hab hld hlt
  | M+1,h1,h2,W,h=>rBelowS (da+M) (db+M) (by omega) (by omega) s t _ fun w hb=>rBelow_c ht hJ da db s t hab hld hlt M (by omega) (by omega) w (h.below hb)
theorem ldC_eq {cs:List Cls} {ps:List Plc} (ht:TwW cs ps) (x:Int) (s:ByteArray):ldC cs x s=ldI ps x s:=by
  unfold ldC ldI
  rw [Lib.toList_data s,look_nmd ht.tw ht.nm]
  cases lookL ps s.data.toList with
  | none=>rfl
  | some k =>
    have:¬ lkI (some k)<0:=by show ¬ ((k:Nat):Int)<0;omega
    simp only [this,if_false]
    try (split <;> split <;> rfl)
set_option maxHeartbeats 1000000 in
theorem rSub_c {b:Nat} {cs:List Cls} {ps:List Plc} {W:World} (h:RAt b cs W) (hT:TwW cs ps) (hJ:WJ ps) (x:Int) (s:ByteArray) (y:Int) (t:ByteArray) (hs:s.size≤maxLen) (ht:t.size≤maxLen):Calls Tryz.prog 87 #[.pointer (some ⟨b,0,none⟩),.agg #[.int .i64 x,.string s],.agg #[.int .i64 y,.string t]] W fun e w'=>e=.returned (suI ps x s y t)∧Below W.heap.size W w':=by
  have hn:cs.length≤300:=by rw [hT.tw.len];exact hT.wi.hi
  have HL1:Hid (∀ z u w,Below W.heap.size W w→z=x→u=s→Calls Tryz.prog 106 #[.pointer (some ⟨b,0,none⟩),.agg #[.int .i64 z,.string u]] w fun e w'=>e=.returned (.int .i64 (ldI ps x s))∧Below w.heap.size w w'):=fun z u w hb hz hu=>by rw [hz,hu,← ldC_eq hT];exact rLoaded_c (h.below hb) hn x s hs
  have HL2:Hid (∀ z u w,Below W.heap.size W w→z=y→u=t→Calls Tryz.prog 106 #[.pointer (some ⟨b,0,none⟩),.agg #[.int .i64 z,.string u]] w fun e w'=>e=.returned (.int .i64 (ldI ps y t))∧Below w.heap.size w w'):=fun z u w hb hz hu=>by rw [hz,hu,← ldC_eq hT];exact rLoaded_c (h.below hb) hn y t ht
  by_cases h1:ldI ps x s=0
  · by_cases h2:ldI ps y t=0
    · have e:suI ps x s y t=.tuple #[.bool (subB ps x s y t),.int .i64 0]:=by rw [suI,if_pos h1,if_pos h2]
      rw [e]
      obtain ⟨x0,x1,xk⟩:=ld_facts h1
      obtain ⟨y0,y1,yk⟩:=ld_facts h2
      have HB:Hid (∀ w,Below W.heap.size W w→Calls Tryz.prog 129 #[.pointer (some ⟨b,0,none⟩),.agg #[.int .i64 x,.string s],.agg #[.int .i64 y,.string t]] w fun e w'=>e=.returned (.bool (subB ps x s y t))∧Below w.heap.size w w'):=fun w hb=>by
        have hq:=rBelow_c (b:=b) hT hJ (x.toNat - min x.toNat y.toNat) (y.toNat - min x.toNat y.toNat) s t (by omega) xk yk (min x.toNat y.toNat) (by omega) (by omega) w (h.below hb)
        rw [show ((x.toNat - min x.toNat y.toNat+min x.toNat y.toNat:Nat):Int)=x by omega,show ((y.toNat - min x.toNat y.toNat+min x.toNat y.toNat:Nat):Int)=y by omega] at hq
        exact hq
      rw [h1] at HL1
      rw [h2] at HL2
      generalize subB ps x s y t=R at *
      clear h hT hJ hs ht h1 h2 e x0 x1 xk y0 y1 yk hn
      go_enter Tryz.func87,Tryz.ntmps87
      go_wp2_with (first
        | (go_at_call 106;refine (HL1.out _ _ _ (by repeat (first|exact Below.refl _ _|refine Below.setCell ?_ (by simp;try omega) _|refine Below.alloc ?_ (by simp;try omega) _|refine Below.drew ?_)) (by rfl) (by rfl)).mono ?_;rintro e w1 ⟨rfl,hb⟩;have ad:w1.heap[W.heap.size]?=some (.cells #[.int .i64 x,.string s] 24 (0,0)):=(hb.block (W.heap.size) (by first|omega|(simp;try omega))).trans (by first|exact aB.out|exact hkeep aB.out|exact hkeep (hkeep aB.out)|exact halloc2 _ _ rfl|exact heap_alloc2_old _ _ _|exact heap_alloc2_new _ _ _|exact hkeep (halloc2 _ _ rfl)|exact hkeep (hkeep (halloc2 _ _ rfl))|exact halloc2 _ _ (by simp;done));(try clear aB aL aN a0 a1 af0 af1);have aB:Hid (w1.heap[W.heap.size]?=some (.cells #[.int .i64 x,.string s] 24 (0,0))):=ad;have a0:w1.cell? ⟨W.heap.size,0,none⟩=some (.int .i64 x):=(cell_of_row w1 (W.heap.size) 0 _ _ _ ad).trans rfl;have af0:=frozen_of_row w1 (W.heap.size) 0 _ _ ad;have a1:w1.cell? ⟨W.heap.size,1,none⟩=some (.string s):=(cell_of_row w1 (W.heap.size) 1 _ _ _ ad).trans rfl;have af1:=frozen_of_row w1 (W.heap.size) 1 _ _ ad;have aL:W.heap.size<w1.heap.size:=(Array.getElem?_eq_some_iff.1 ad).1;have aN:¬ W.heap.size=w1.heap.size:=(by omega);clear ad;have cd:w1.heap[W.heap.size+1]?=some (.cells #[.int .i64 y,.string t] 24 (0,0)):=(hb.block (W.heap.size+1) (by first|omega|(simp;try omega))).trans (by first|exact cB.out|exact hkeep cB.out|exact hkeep (hkeep cB.out)|exact halloc2 _ _ rfl|exact heap_alloc2_old _ _ _|exact heap_alloc2_new _ _ _|exact hkeep (halloc2 _ _ rfl)|exact hkeep (hkeep (halloc2 _ _ rfl))|exact halloc2 _ _ (by simp;done));(try clear cB cL cN c0 c1 cf0 cf1);have cB:Hid (w1.heap[W.heap.size+1]?=some (.cells #[.int .i64 y,.string t] 24 (0,0))):=cd;have c0:w1.cell? ⟨W.heap.size+1,0,none⟩=some (.int .i64 y):=(cell_of_row w1 (W.heap.size+1) 0 _ _ _ cd).trans rfl;have cf0:=frozen_of_row w1 (W.heap.size+1) 0 _ _ cd;have c1:w1.cell? ⟨W.heap.size+1,1,none⟩=some (.string t):=(cell_of_row w1 (W.heap.size+1) 1 _ _ _ cd).trans rfl;have cf1:=frozen_of_row w1 (W.heap.size+1) 1 _ _ cd;have cL:W.heap.size+1<w1.heap.size:=(Array.getElem?_eq_some_iff.1 cd).1;have cN:¬ W.heap.size+1=w1.heap.size:=(by omega);clear cd;have B1:Hid (Below W.heap.size W w1):=bstep (by repeat (first|exact Below.refl _ _|refine Below.setCell ?_ (by simp;try omega) _|refine Below.alloc ?_ (by simp;try omega) _|refine Below.drew ?_)) hb;clear hb HL1)
        | (go_at_call 106;refine (HL2.out _ _ _ B1.out (by rfl) (by rfl)).mono ?_;rintro e w2 ⟨rfl,hb⟩;have ad:w2.heap[W.heap.size]?=some (.cells #[.int .i64 x,.string s] 24 (0,0)):=(hb.block (W.heap.size) (by first|omega|(simp;try omega))).trans (by first|exact aB.out|exact hkeep aB.out|exact hkeep (hkeep aB.out)|exact halloc2 _ _ rfl|exact heap_alloc2_old _ _ _|exact heap_alloc2_new _ _ _|exact hkeep (halloc2 _ _ rfl)|exact hkeep (hkeep (halloc2 _ _ rfl))|exact halloc2 _ _ (by simp;done));(try clear aB aL aN a0 a1 af0 af1);have aB:Hid (w2.heap[W.heap.size]?=some (.cells #[.int .i64 x,.string s] 24 (0,0))):=ad;have a0:w2.cell? ⟨W.heap.size,0,none⟩=some (.int .i64 x):=(cell_of_row w2 (W.heap.size) 0 _ _ _ ad).trans rfl;have af0:=frozen_of_row w2 (W.heap.size) 0 _ _ ad;have a1:w2.cell? ⟨W.heap.size,1,none⟩=some (.string s):=(cell_of_row w2 (W.heap.size) 1 _ _ _ ad).trans rfl;have af1:=frozen_of_row w2 (W.heap.size) 1 _ _ ad;have aL:W.heap.size<w2.heap.size:=(Array.getElem?_eq_some_iff.1 ad).1;have aN:¬ W.heap.size=w2.heap.size:=(by omega);clear ad;have cd:w2.heap[W.heap.size+1]?=some (.cells #[.int .i64 y,.string t] 24 (0,0)):=(hb.block (W.heap.size+1) (by first|omega|(simp;try omega))).trans (by first|exact cB.out|exact hkeep cB.out|exact hkeep (hkeep cB.out)|exact halloc2 _ _ rfl|exact heap_alloc2_old _ _ _|exact heap_alloc2_new _ _ _|exact hkeep (halloc2 _ _ rfl)|exact hkeep (hkeep (halloc2 _ _ rfl))|exact halloc2 _ _ (by simp;done));(try clear cB cL cN c0 c1 cf0 cf1);have cB:Hid (w2.heap[W.heap.size+1]?=some (.cells #[.int .i64 y,.string t] 24 (0,0))):=cd;have c0:w2.cell? ⟨W.heap.size+1,0,none⟩=some (.int .i64 y):=(cell_of_row w2 (W.heap.size+1) 0 _ _ _ cd).trans rfl;have cf0:=frozen_of_row w2 (W.heap.size+1) 0 _ _ cd;have c1:w2.cell? ⟨W.heap.size+1,1,none⟩=some (.string t):=(cell_of_row w2 (W.heap.size+1) 1 _ _ _ cd).trans rfl;have cf1:=frozen_of_row w2 (W.heap.size+1) 1 _ _ cd;have cL:W.heap.size+1<w2.heap.size:=(Array.getElem?_eq_some_iff.1 cd).1;have cN:¬ W.heap.size+1=w2.heap.size:=(by omega);clear cd;have B2:Hid (Below W.heap.size W w2):=bstep B1.out hb;clear hb HL2)
        | (go_at_call 129;refine (HB.out _ B2.out).mono ?_;rintro e w3 ⟨rfl,hb⟩;have B3:Hid (Below W.heap.size W w3):=bstep B2.out hb;clear hb HB))
      exact bodyPost_ret (results_tmp2 rfl _ _ _) rfl ⟨rfl,B3.out⟩
    · have e:suI ps x s y t=.tuple #[.bool false,.int .i64 (ldI ps y t)]:=by rw [suI,if_pos h1,if_neg h2]
      rw [e]
      rw [h1] at HL1
      generalize ldI ps y t=R at *
      clear h hT hJ hs ht h1 e hn
      go_enter Tryz.func87,Tryz.ntmps87
      go_wp2_with (first
        | (go_at_call 106;refine (HL1.out _ _ _ (by repeat (first|exact Below.refl _ _|refine Below.setCell ?_ (by simp;try omega) _|refine Below.alloc ?_ (by simp;try omega) _|refine Below.drew ?_)) (by rfl) (by rfl)).mono ?_;rintro e w1 ⟨rfl,hb⟩;have cd:w1.heap[W.heap.size+1]?=some (.cells #[.int .i64 y,.string t] 24 (0,0)):=(hb.block (W.heap.size+1) (by first|omega|(simp;try omega))).trans (by first|exact cB.out|exact hkeep cB.out|exact hkeep (hkeep cB.out)|exact halloc2 _ _ rfl|exact heap_alloc2_old _ _ _|exact heap_alloc2_new _ _ _|exact hkeep (halloc2 _ _ rfl)|exact hkeep (hkeep (halloc2 _ _ rfl))|exact halloc2 _ _ (by simp;done));(try clear cB cL cN c0 c1 cf0 cf1);have cB:Hid (w1.heap[W.heap.size+1]?=some (.cells #[.int .i64 y,.string t] 24 (0,0))):=cd;have c0:w1.cell? ⟨W.heap.size+1,0,none⟩=some (.int .i64 y):=(cell_of_row w1 (W.heap.size+1) 0 _ _ _ cd).trans rfl;have cf0:=frozen_of_row w1 (W.heap.size+1) 0 _ _ cd;have c1:w1.cell? ⟨W.heap.size+1,1,none⟩=some (.string t):=(cell_of_row w1 (W.heap.size+1) 1 _ _ _ cd).trans rfl;have cf1:=frozen_of_row w1 (W.heap.size+1) 1 _ _ cd;have cL:W.heap.size+1<w1.heap.size:=(Array.getElem?_eq_some_iff.1 cd).1;have cN:¬ W.heap.size+1=w1.heap.size:=(by omega);clear cd;have B1:Hid (Below W.heap.size W w1):=bstep (by repeat (first|exact Below.refl _ _|refine Below.setCell ?_ (by simp;try omega) _|refine Below.alloc ?_ (by simp;try omega) _|refine Below.drew ?_)) hb;clear hb HL1)
        | (go_at_call 106;refine (HL2.out _ _ _ B1.out (by rfl) (by rfl)).mono ?_;rintro e w2 ⟨rfl,hb⟩;have B2:Hid (Below W.heap.size W w2):=bstep B1.out hb;clear hb HL2))
      exact bodyPost_ret (results_tmp2 rfl _ _ _) rfl ⟨rfl,B2.out⟩
  · have e:suI ps x s y t=.tuple #[.bool false,.int .i64 (ldI ps x s)]:=by rw [suI,if_neg h1]
    rw [e]
    generalize ldI ps x s=R at *
    clear h hT hJ hs ht e hn
    go_enter Tryz.func87,Tryz.ntmps87
    go_wp2_with (first
      | (go_at_call 106;refine (HL1.out _ _ _ (by repeat (first|exact Below.refl _ _|refine Below.setCell ?_ (by simp;try omega) _|refine Below.alloc ?_ (by simp;try omega) _|refine Below.drew ?_)) (by rfl) (by rfl)).mono ?_;rintro e w1 ⟨rfl,hb⟩;have B1:Hid (Below W.heap.size W w1):=bstep (by repeat (first|exact Below.refl _ _|refine Below.setCell ?_ (by simp;try omega) _|refine Below.alloc ?_ (by simp;try omega) _|refine Below.drew ?_)) hb;clear hb HL1))
    exact bodyPost_ret (results_tmp2 rfl _ _ _) rfl ⟨rfl,B1.out⟩
end Go.Proofs.YtkclpcmkplbclaaGreat
