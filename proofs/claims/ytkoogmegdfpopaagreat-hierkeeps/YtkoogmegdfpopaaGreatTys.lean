import Derived.Test.YtkoogmegdfpopaaGreatTypesRef
import Derived.Deep.RegionWith
set_option maxHeartbeats 4000000
set_option maxRecDepth 100000
namespace Go.Proofs.YtkoogmegdfpopaaGreat
open Go.RowKit
theorem Zc3 (l:List UInt8) (h:(59:UInt8) ∉ l):semi l=none:=by
 induction l with
 | nil=>rfl
 | cons c l ih =>
   have hc:c≠59:=fun e=>h (by simp [e])
   simp [semi,hc,ih (fun m=>h (List.mem_cons_of_mem _ m))]
theorem Zo (s:ByteArray) (i:Nat) (h:i<s.size):s.data.toList.drop i=s[i]::s.data.toList.drop (i+1):=by
 rw [List.drop_eq_getElem_cons (by simpa using h)]
 congr 1
theorem Y3 (s:ByteArray) (i:Nat) (h:s.size≤i):s.data.toList.drop i=[]:=List.drop_of_length_le (by simpa using h)
theorem Yh (s:ByteArray) (i:Nat) (h:i<s.size) (c:UInt8):(((s[i]).toNat:Int) == (c.toNat:Int))=decide (s[i]=c):=by
 rw [Bool.eq_iff_iff]
 simp only [beq_iff_eq,decide_eq_true_eq,Int.ofNat_inj]
 exact UInt8.toNat_inj
structure Rd (w:World) (x:Int) (nm:ByteArray) (wr:World):Prop where
 t:wr.heap[w.heap.size+1]?=some (.cells #[.int .i64 x,.string nm] 122 (0,0))
 r:wr.heap[w.heap.size]?=some (.cells #[.int .i64 0,.string ⟨#[]⟩] 122 (0,0))
 bel:Bw w wr
theorem Rd.cells {w wr:World} {x:Int} {nm:ByteArray} (h:Rd w x nm wr) :
 wr.cell? ⟨w.heap.size+1,0,none⟩=some (.int .i64 x)∧wr.cell? ⟨w.heap.size+1,1,none⟩=some (.string nm)∧wr.cell? ⟨w.heap.size,0,none⟩=some (.int .i64 0)∧wr.cell? ⟨w.heap.size,1,none⟩=some (.string ⟨#[]⟩) ∧
 wr.frozen? ⟨w.heap.size+1,0,none⟩=false∧wr.frozen? ⟨w.heap.size+1,1,none⟩=false∧wr.frozen? ⟨w.heap.size,0,none⟩=false∧wr.frozen? ⟨w.heap.size,1,none⟩=false:=by
 refine ⟨?_,?_,?_,?_,?_,?_,?_,?_⟩
 ·rw [cell_of_row _ (w.heap.size+1) 0 _ 122 (0,0) h.t];rfl
 ·rw [cell_of_row _ (w.heap.size+1) 1 _ 122 (0,0) h.t];rfl
 ·rw [cell_of_row _ w.heap.size 0 _ 122 (0,0) h.r];rfl
 ·rw [cell_of_row _ w.heap.size 1 _ 122 (0,0) h.r];rfl
 all_goals simp [World.frozen?,h.t,h.r]
theorem Rd.dims {w wr:World} {x:Int} {nm:ByteArray} (h:Rd w x nm wr) (y:Int):Rd w y nm (wr.setCell ⟨w.heap.size+1,0,none⟩ (.int .i64 y)) :=
 ⟨by rw [heap_setCell_same wr (w.heap.size+1) 0 _ 122 _ h.t];rfl,by rw [heap_setCell_other wr ⟨w.heap.size+1,0,none⟩ _ _ (by simp)];exact h.r,h.bel.setCell (by show w.heap.size≤w.heap.size+1;omega) _⟩
theorem Rd.name {w wr:World} {x:Int} {nm:ByteArray} (h:Rd w x nm wr) (s:ByteArray):Rd w x s (wr.setCell ⟨w.heap.size+1,1,none⟩ (.string s)) :=
 ⟨by rw [heap_setCell_same wr (w.heap.size+1) 1 _ 122 _ h.t];rfl,by rw [heap_setCell_other wr ⟨w.heap.size+1,1,none⟩ _ _ (by simp)];exact h.r,h.bel.setCell (by show w.heap.size≤w.heap.size+1;omega) _⟩
theorem Rd.keep {w wr w1:World} {x:Int} {nm:ByteArray} (h:Rd w x nm wr) (hb:Bw wr w1):Rd w x nm w1 :=
 ⟨by rw [hb.block _ (Array.getElem?_eq_some_iff.1 h.t).1];exact h.t,by rw [hb.block _ (Array.getElem?_eq_some_iff.1 h.r).1];exact h.r,h.bel.trans (hb.mono h.bel.size)⟩
def Yi (s:ByteArray) (a:Nat) (e:Ending):Prop:=match Zx (s.data.toList.drop a) with
 | some (t,r)=>e=.returned (.tuple #[.agg #[.int .i64 t.1,.string ⟨t.2.toArray⟩],.int .i64 ((s.size:Int) - r.length)])
 | none=>∃ x y,e=.returned (.tuple #[.agg #[.int .i64 x,.string y],.int .i64 (-1)])
theorem Qp {s:ByteArray} {a:Nat} {x:Int} {y:ByteArray} (h:Zx (s.data.toList.drop a)=none):Yi s a (.returned (.tuple #[.agg #[.int .i64 x,.string y],.int .i64 (-1)])):=by
 unfold Yi;rw [h];exact ⟨x,y,rfl⟩
theorem Zdd {s:ByteArray} {a:Nat} {k:Nat} {nm r:List UInt8} {p:Int} (h:Zx (s.data.toList.drop a)=some ((k,nm),r)) (hp:p=(s.size:Int) - r.length) :
 Yi s a (.returned (.tuple #[.agg #[.int .i64 k,.string ⟨nm.toArray⟩],.int .i64 p])):=by
 unfold Yi;rw [h,hp]
theorem Zfc {l:List UInt8} {j:Nat} (hb:Zr l=(j,[])):Zx l=none:=by unfold Zx;rw [hb]
theorem Zfd {l r:List UInt8} {j:Nat} (hb:Zr l=(j,73::r)):Zx l=some ((j,[]),r):=by unfold Zx;rw [hb];rfl
theorem Zfe {l r x y:List UInt8} {j:Nat} (hb:Zr l=(j,76::r)) (hs:semi r=some (x,y)) (hv:Zk x=true):Zx l=some ((j,x),y):=by
 unfold Zx;rw [hb];simp [hs,hv]
theorem Zff {l r x y:List UInt8} {j:Nat} (hb:Zr l=(j,76::r)) (hs:semi r=some (x,y)) (hv:Zk x=false):Zx l=none:=by
 unfold Zx;rw [hb];simp [hs,hv]
theorem Zc6 {l r:List UInt8} {j:Nat} (hb:Zr l=(j,76::r)) (hs:semi r=none):Zx l=none:=by
 unfold Zx;rw [hb];simp [hs]
theorem Zba {l r:List UInt8} {c:UInt8} {j:Nat} (hb:Zr l=(j,c::r)) (h1:c≠73) (h2:c≠76):Zx l=none:=by
 unfold Zx;rw [hb];simp [h1,h2]
theorem Zax (s:ByteArray) (i:Nat) (h:i<s.size) (e:s[i]=91):Zr (s.data.toList.drop i)=((Zr (s.data.toList.drop (i+1))).1+1,(Zr (s.data.toList.drop (i+1))).2):=by
 rw [Zo s i h,Zr,if_pos e]
theorem Zaw (s:ByteArray) (i:Nat) (h:i<s.size) (e:s[i]≠91):Zr (s.data.toList.drop i)=(0,s.data.toList.drop i):=by
 rw [Zo s i h,Zr,if_neg e]
theorem Ys {w wr:World} {x:Int} {nm:ByteArray} (h:Rd w x nm wr) (u v:Value):Bw w ((wr.setCell ⟨w.heap.size,0,none⟩ u).setCell ⟨w.heap.size,1,none⟩ v) :=
 (h.bel.setCell (Nat.le_refl _) _).setCell (Nat.le_refl _) _
theorem Qo (s:ByteArray) (hs:s.size≤1000000) (a:Nat) (ha:a≤s.size) (w:World) :
 Calls Tryz.prog 101 #[.string s,.int .i64 a] w fun e w'=>Yi s a e∧Bw w w':=by
 have H0:Hid (Rd w 0 ⟨#[]⟩ ((w.alloc (.cells #[.int .i64 0,.string ⟨#[]⟩] 122)).alloc (.cells #[.int .i64 0,.string ⟨#[]⟩] 122))):=by
  refine ⟨?_,?_,((Below.refl _ _).alloc (Nat.le_refl _) _).alloc (by simp) _⟩
  ·have:=heap_alloc_new (w.alloc (.cells #[.int .i64 0,.string ⟨#[]⟩] 122)) (.cells #[.int .i64 0,.string ⟨#[]⟩] 122)
   simpa using this
  ·rw [Below.heap_alloc _ _ _ (by simp)];exact heap_alloc_new w _
 have hsz:s.data.toList.length=s.size:=by simp
 have HSZ:Hid _:=hsz
 clear hsz
 go_enter Tryz.func101,Tryz.ntmps101
 go_wp2
 go_loopw [1] (fun p wr=>∃ j:Nat,p=.int .i64 ((a+j:Nat):Int)∧a+j≤s.size∧Hid (Rd w j ⟨#[]⟩ wr) ∧
  Hid (Zr (s.data.toList.drop a)=((Zr (s.data.toList.drop (a+j))).1+j,(Zr (s.data.toList.drop (a+j))).2))) (fun p _=>s.size - (intOf p).toNat)
 case atStart=>exact ⟨0,rfl,ha,H0,rfl⟩
 case round =>
  clear H0
  obtain ⟨j,rfl,hj,hR,hbr⟩:=hrel
  obtain ⟨c0,c1,c2,c3,f0,f1,f2,f3⟩:=hR.out.cells
  by_cases hlt:a+j<s.size
  ·by_cases h91:s[a+j]=91
   ·have hq:(((s[a+j]).toNat:Int) == 91)=true:=by have:=Yh s (a+j) hlt 91;rw [h91] at this ⊢;rfl
    have HB:Hid (Zr (s.data.toList.drop a)=((Zr (s.data.toList.drop (a+(j+1)))).1+(j+1),(Zr (s.data.toList.drop (a+(j+1)))).2)):=by
     rw [Hid,hbr.out,Zax s (a+j) hlt h91]
     simp only [Prod.mk.injEq]
     exact ⟨by rw [show a+j+1=a+(j+1) by omega];omega,by rw [show a+j+1=a+(j+1) by omega]⟩
    have R:Hid (Rd w ((j:Int)+1) ⟨#[]⟩ (wr.setCell ⟨w.heap.size+1,0,none⟩ (.int .i64 ((j:Int)+1)))):=hR.out.dims _
    clear hR hbr h91
    go_wp2
    go_roundw
    case rel=>exact ⟨j+1,by go_num,by omega,by simpa using R,HB⟩
    case measure=>simp [intOf];omega
   ·have hb0:Zr (s.data.toList.drop a)=(j,s.data.toList.drop (a+j)):=by rw [hbr.out,Zaw s (a+j) hlt h91,Nat.zero_add]
    rw [Zo s (a+j) hlt] at hb0
    have q91:(((s[a+j]).toNat:Int) == 91)=false:=by have:=Yh s (a+j) hlt 91;simp only [h91,decide_false] at this;exact this
    by_cases h73:s[a+j]=73
    ·have q73:(((s[a+j]).toNat:Int) == 73)=true:=by have:=Yh s (a+j) hlt 73;simp only [h73,decide_true] at this;rw [h73];rfl
     have HP:Hid _:=Zdd (p:=((a+j:Nat):Int)+1) (Zfd (by rw [h73] at hb0;exact hb0)) (by rw [List.length_drop,HSZ.out];omega)
     have HB:Hid _:=Ys hR.out (.int .i64 j) (.string ⟨#[]⟩)
     clear hR hbr h91 hb0 h73
     go_wp2
     refine bodyPost_ret (v:=.tuple #[.agg #[.int .i64 j,.string ⟨#[]⟩],.int .i64 (((a+j:Nat):Int)+1)]) (by simp [results,Tryz.results101,go_sem, *]) rfl ⟨HP.out,HB.out⟩
    ·have q73:(((s[a+j]).toNat:Int) == 73)=false:=by have:=Yh s (a+j) hlt 73;simp only [h73,decide_false] at this;exact this
     by_cases h76:s[a+j]=76
     ·have q76:(((s[a+j]).toNat:Int) == 76)=true:=by have:=Yh s (a+j) hlt 76;simp only [h76,decide_true] at this;rw [h76];rfl
      have n76:(((s[a+j]).toNat:Int) != 76)=false:=by rw [bne,q76];rfl
      rw [h76] at hb0
      have HB0:Hid _:=hb0
      clear hbr h91 h73 h76 hb0
      go_wp2
      go_loop [7] (fun iv=>∃ i:Nat,iv=.int .i64 i∧a+j+1≤i∧i≤s.size∧Hid ((59:UInt8) ∉ (s.data.toList.drop (a+j+1)).take (i - (a+j+1)))) (fun iv=>s.size - (intOf iv).toNat)
      case atStart=>exact ⟨a+j+1,by go_num,Nat.le_refl _,by omega,by simp [Hid]⟩
      case round =>
       obtain ⟨i,rfl,hi1,hi2,hfr⟩:=hrel
       by_cases hil:i<s.size
       ·by_cases h59:s[i]=59
        ·have q59:(((s[i]).toNat:Int) == 59)=true:=by have:=Yh s i hil 59;simp only [h59,decide_true] at this;rw [h59];rfl
         have hsm:semi (s.data.toList.drop (a+j+1))=some ((s.extract (a+j+1) i).data.toList,s.data.toList.drop (i+1)):=by
          have e1:s.data.toList.drop (a+j+1)=(s.data.toList.drop (a+j+1)).take (i - (a+j+1))++59::s.data.toList.drop (i+1):=by
           have e2:(s.data.toList.drop (a+j+1)).drop (i - (a+j+1))=s.data.toList.drop i:=by rw [List.drop_drop];congr 1;omega
           have e3:=Zo s i hil
           rw [h59] at e3
           rw [← e3,← e2,List.take_append_drop]
          rw [Lib.extract_data]
          conv=>lhs;rw [e1]
          exact Zfb _ _ hfr.out
         have hex:(s.extract (a+j+1) i).size≤maxLen:=by simp;unfold maxLen;omega
         have HV:Hid (∀ w,_):=Yt (s.extract (a+j+1) i) hex
         have HN:Hid (Rd w j (s.extract (a+j+1) i) (wr.setCell ⟨w.heap.size+1,1,none⟩ (.string (s.extract (a+j+1) i)))):=hR.out.name _
         cases hv:Zk (s.extract (a+j+1) i).data.toList with
         | true =>
           have HP:Hid _:=Zdd (p:=(i:Int)+1) (Zfe HB0.out hsm hv) (by rw [List.length_drop,HSZ.out];omega)
           rw [hv] at HV
           clear hv hsm h59 hfr hR HB0 hex
           go_wp2_with (go_at_call 57;refine ((HV.out) _).mono ?_;rintro e w2 ⟨rfl,hb2⟩;have R2:Hid (Rd w j (s.extract (a+j+1) i) w2):=HN.out.keep hb2;obtain ⟨d0,d1,d2,d3,e0,e1,e2,e3⟩:=R2.out.cells;clear hb2)
           refine bodyPost_ret (v:=.tuple #[.agg #[.int .i64 j,.string (s.extract (a+j+1) i)],.int .i64 ((i:Int)+1)]) (by simp [results,Tryz.results101,go_sem, *]) rfl ⟨HP.out,Ys R2.out _ _⟩
         | false =>
           have HP:Hid _:=Qp (x:=(j:Int)) (y:=s.extract (a+j+1) i) (Zff HB0.out hsm hv)
           rw [hv] at HV
           clear hv hsm h59 hfr hR HB0 hex
           go_wp2_with (go_at_call 57;refine ((HV.out) _).mono ?_;rintro e w2 ⟨rfl,hb2⟩;have R2:Hid (Rd w j (s.extract (a+j+1) i) w2):=HN.out.keep hb2;obtain ⟨d0,d1,d2,d3,e0,e1,e2,e3⟩:=R2.out.cells;clear hb2)
           refine bodyPost_ret (v:=.tuple #[.agg #[.int .i64 j,.string (s.extract (a+j+1) i)],.int .i64 (-1)]) (by simp [results,Tryz.results101,go_sem, *]) rfl ⟨HP.out,Ys R2.out _ _⟩
        ·have q59:(((s[i]).toNat:Int) == 59)=false:=by have:=Yh s i hil 59;simp only [h59,decide_false] at this;exact this
         have HF:Hid ((59:UInt8) ∉ (s.data.toList.drop (a+j+1)).take (i+1 - (a+j+1))):=by
          have hl:i - (a+j+1)<(s.data.toList.drop (a+j+1)).length:=by rw [List.length_drop,HSZ.out];omega
          rw [Hid,show i+1 - (a+j+1)=(i - (a+j+1))+1 by omega,List.take_succ_eq_append_getElem hl]
          intro m
          rcases List.mem_append.1 m with m|m
          ·exact hfr.out m
          ·have m2:=List.mem_singleton.1 m
           rw [List.getElem_drop] at m2
           have e3:s.data.toList[a+j+1+(i - (a+j+1))]?=some s[i]:=by rw [show a+j+1+(i - (a+j+1))=i by omega];exact Lib.Pa.at_eq s i hil
           rw [List.getElem?_eq_getElem (by simp;omega)] at e3
           exact h59 (by rw [m2];exact (Option.some.inj e3).symm)
         clear h59 hfr hR HB0
         go_wp2
         go_round
         case rel=>exact ⟨i+1,by go_num,by omega,by omega,HF⟩
         case measure=>simp [intOf];omega
       ·have HP:Hid _:=Qp (x:=(j:Int)) (y:=⟨#[]⟩) (Zc6 HB0.out (Zc3 _ (by
         have:=hfr.out
         rw [List.take_of_length_le (by rw [List.length_drop,HSZ.out];omega)] at this
         exact this)))
        have HB:Hid _:=Ys hR.out (.int .i64 j) (.string ⟨#[]⟩)
        clear hR hfr HB0
        go_wp2
        refine bodyPost_ret (v:=.tuple #[.agg #[.int .i64 j,.string ⟨#[]⟩],.int .i64 (-1)]) (by simp [results,Tryz.results101,go_sem, *]) rfl ⟨HP.out,HB.out⟩
     ·have q76:(((s[a+j]).toNat:Int) == 76)=false:=by have:=Yh s (a+j) hlt 76;simp only [h76,decide_false] at this;exact this
      have n76:(((s[a+j]).toNat:Int) != 76)=true:=by rw [bne,q76];rfl
      have HP:Hid _:=Qp (x:=(j:Int)) (y:=⟨#[]⟩) (Zba hb0 h73 h76)
      have HB:Hid _:=Ys hR.out (.int .i64 j) (.string ⟨#[]⟩)
      clear hR hbr h91 hb0 h73 h76
      go_wp2
      refine bodyPost_ret (v:=.tuple #[.agg #[.int .i64 j,.string ⟨#[]⟩],.int .i64 (-1)]) (by simp [results,Tryz.results101,go_sem, *]) rfl ⟨HP.out,HB.out⟩
  ·have hend:a+j=s.size:=by omega
   have HP:Hid _:=Qp (s:=s) (a:=a) (x:=(j:Int)) (y:=⟨#[]⟩) (Zfc (j:=j) (by rw [hbr.out,Y3 s (a+j) (by omega)];simp [Zr]))
   have HB:Hid _:=Ys hR.out (.int .i64 j) (.string ⟨#[]⟩)
   clear hR hbr hend
   go_wp2
   refine bodyPost_ret (v:=.tuple #[.agg #[.int .i64 j,.string ⟨#[]⟩],.int .i64 (-1)]) (by simp [results,Tryz.results101,go_sem, *]) rfl ⟨HP.out,HB.out⟩
theorem own_below {w w':World} {B base:Nat} {e:TypeId} {size:Nat} {v:Value} {n:Nat} {xs:List Value} (h:w.ownsRow base e size v n xs) (hb:Below B w w') (hB:w.heap.size≤B):w'.ownsRow base e size v n xs:=by
 refine ⟨h.1,?_⟩
 rcases h.2 with hn|⟨g,cap,cur,rfl,hb1,hgg,rest⟩
 ·exact .inl hn
 ·refine .inr ⟨g,cap,cur,rfl,hb1,?_,rest⟩
  rw [hb.block g (Nat.lt_of_lt_of_le (Array.getElem?_eq_some_iff.1 hgg).1 hB)]
  exact hgg
theorem grownBy_trans {w w1 w2:World} {r r':Option Nat} (h1:w.grownBy w1 r) (h2:w1.grownBy w2 r') (hr:∀ b,r'=some b→r=some b∨w.heap.size≤b):w.grownBy w2 r :=
 ⟨h2.os.trans h1.os,h2.tape.trans h1.tape,h2.output.trans h1.output,Nat.le_trans h1.size h2.size,fun k hk hne=>by
  have a:=h1.block k hk hne
  have b:=h2.block k (Nat.lt_of_lt_of_le hk h1.size) (fun e=>by
   rcases hr k e.symm with q|q
   ·exact hne q.symm
   ·omega)
  exact b.trans a⟩
theorem grownBy_below {w w1:World} {r:Option Nat} (h:Bw w w1):w.grownBy w1 r :=
 ⟨h.os,h.tape,h.output,h.size,fun k hk _=>h.block k hk⟩
theorem Zl {P:Program} {C:World→Prop} {id:Nat} {Q:Exit→Act→World→Prop} {a:Act} {w:World} {l:List Oper} (hm:P.follows .mixedOrders=true) (hB:Region.lexB .any l.toArray=true) (hC:C { w with drawn:=w.drawn+1 })
 (h:wpQuiet P l.toArray C (fun a'=>∀ w',C w'→Q .normal a' w') l a):(Code.region id l.toArray true).wp P Q a w :=
 wp_region_quiet (C:=C) hm hB hC (by simpa using h)
def Cur (w:World) (b:Nat) (s:ByteArray) (pl:Nat):Prop:=w.heap[b]?=some (.cells #[.string s,.int .i64 pl] 156 (0,0))
theorem Cur.cells {w:World} {b:Nat} {s:ByteArray} {pl:Nat} (h:Cur w b s pl) :
 w.cell? ⟨b,0,none⟩=some (.string s)∧w.cell? ⟨b,1,none⟩=some (.int .i64 pl)∧w.frozen? ⟨b,1,none⟩=false∧b<w.heap.size:=by
 unfold Cur at h
 refine ⟨?_,?_,?_,(Array.getElem?_eq_some_iff.1 h).1⟩
 ·rw [cell_of_row _ b 0 _ 156 (0,0) h];rfl
 ·rw [cell_of_row _ b 1 _ 156 (0,0) h];rfl
 ·simp [World.frozen?,h]
theorem Cur.keep {w w':World} {b:Nat} {s:ByteArray} {pl:Nat} (h:Cur w b s pl) (hb:Bw w w'):Cur w' b s pl:=by
 unfold Cur at *
 rw [hb.block b (Array.getElem?_eq_some_iff.1 h).1];exact h
theorem grownBy_set (w:World) (b o:Nat) (v:Value):w.grownBy (w.setCell ⟨b,o,none⟩ v) (some b) :=
 ⟨rfl,rfl,rfl,by simp [World.setCell],fun k _ hk=>heap_setCell_other w ⟨b,o,none⟩ k v (fun q=>hk (by simp [q]))⟩
theorem Cur.move {w:World} {b:Nat} {s:ByteArray} {pl:Nat} (h:Cur w b s pl) (q:Nat):Cur (w.setCell ⟨b,1,none⟩ (.int .i64 q)) b s q:=by
 unfold Cur at *
 rw [heap_setCell_same w b 1 _ 156 _ h];rfl
theorem Qt (s:ByteArray) (w:World) :
 Calls Tryz.prog 110 #[.string s] w fun e w'=>e=.returned (.pointer (some ⟨w.heap.size,0,none⟩))∧w'=w.alloc (.cells #[.string s,.int .i64 0] 156):=by
 go_enter Tryz.func110,Tryz.ntmps110
 go_wp2
 go_ret
 exact ⟨rfl,rfl⟩
theorem Zed (b:Nat) (s:ByteArray) (pl:Nat) (w:World) (h:Cur w b s pl) :
 Calls Tryz.prog 112 #[.pointer (some ⟨b,0,none⟩)] w fun e w'=>e=.returned (.bool (decide (pl=s.size)))∧Bw w w':=by
 obtain ⟨c0,c1,c2,c3⟩:=h.cells
 clear h
 go_enter Tryz.func112,Tryz.ntmps112
 go_wp2
 go_region
 all_goals (go_wp2;go_ret;exact ⟨Za (by rw [Bool.eq_iff_iff];simp;omega),(Below.refl _ _).drew⟩)
theorem Zfr (s:ByteArray) (k:Nat) (hk:k≤s.size) (w:World) :
 Calls Tryz.prog 136 #[.agg #[.string s],.int .i64 k] w fun e w'=>e=.returned (.string (s.extract k s.size))∧Bw w w':=by
 go_enter Tryz.func136,Tryz.ntmps136
 go_wp2
 go_ret
 exact ⟨rfl,(Below.refl _ _).alloc (Nat.le_refl _) _⟩
theorem Jl (d:Int) (n:ByteArray) (w:World) :
 Calls Tryz.prog 113 #[.agg #[.int .i64 d,.string n]] w fun e w'=>e=.returned (.bool (decide (255<d)))∧Bw w w':=by
 go_enter Tryz.func113,Tryz.ntmps113
 go_wp2
 go_ret
 exact ⟨Za rfl,(Below.refl _ _).alloc (Nat.le_refl _) _⟩
def nxt (s:ByteArray) (pl:Nat) (m:UInt8):Bool:=(s.data.toList.drop pl).head? == some m
def hd (s:ByteArray) (m:UInt8):Bool:=s.data.toList.head? == some m
theorem hd_short {s:ByteArray} {m:UInt8} (h:s.size=0):hd s m=false:=by
 have:s.data.toList=[]:=List.length_eq_zero_iff.1 (by simpa using h)
 simp [hd,this]
theorem hd_take (s:ByteArray) (m:UInt8) (h:1≤s.size):((s.extract 0 1).toList == [m])=hd s m:=by
 have hl:s.data.toList.length=s.size:=by simp
 rw [Lib.toList_data,Jf]
 cases e:s.data.toList with
 | nil=>rw [e] at hl;simp at hl;omega
 | cons c l =>
   simp only [hd,e,List.take_succ_cons,List.take_zero,List.head?_cons]
   rw [Bool.eq_iff_iff]
   simp
theorem Za3 (s:ByteArray) (m:UInt8) (w:World) :
 Calls Tryz.prog 149 #[.string s,.string ⟨#[m]⟩] w fun e w'=>e=.returned (.bool (hd s m))∧w'=w:=by
 by_cases h:1≤s.size
 ·have H:Hid _:=hd_take s m h
  go_enter Tryz.func149,Tryz.ntmps149
  go_wp2
  go_ret
  exact ⟨Za H.out,rfl⟩
 ·have H:Hid _:=hd_short (s:=s) (m:=m) (by omega)
  go_enter Tryz.func149,Tryz.ntmps149
  go_wp2
  go_ret
  exact ⟨Za H.out.symm,rfl⟩
theorem Qw (s:ByteArray) (m:UInt8) (w:World) :
 Calls Tryz.prog 135 #[.string s,.string ⟨#[m]⟩] w fun e w'=>e=.returned (.bool (hd s m))∧w'=w:=by
 have HB:Hid (∀ w,_):=Za3 s m
 generalize hd s m=b at *
 go_enter Tryz.func135,Tryz.ntmps135
 go_wp2_with (go_at_call 149;refine ((HB.out) _).mono ?_;rintro e w' ⟨rfl,rfl⟩)
 go_ret
 exact ⟨rfl,rfl⟩
theorem hd_from (s:ByteArray) (pl:Nat) (m:UInt8):hd (s.extract pl s.size) m=nxt s pl m:=by
 unfold hd nxt
 rw [Lib.extract_to_end]
theorem Zbw (b:Nat) (s:ByteArray) (pl:Nat) (m:UInt8) (hpl:pl≤s.size) (hs:s.size≤1000000) (W:World) (hc:Cur W b s pl) :
 Calls Tryz.prog 127 #[.pointer (some ⟨b,0,none⟩),.string ⟨#[m]⟩] W fun e w'=>e=.returned (.bool (nxt s pl m))∧Cur w' b s (if nxt s pl m then pl+1 else pl)∧W.grownBy w' (some b):=by
 have HF:Hid (∀ w,Hid (Bw W w)→Calls Tryz.prog 136 #[.agg #[.string s],.int .i64 pl] w fun e w'=>e=.returned (.string (s.extract pl s.size))∧Hid (Bw W w')) :=
  fun w h=>(Zfr s pl hpl w).mono fun e w' ⟨he,hb⟩=>⟨he,h.out.trans (hb.mono h.out.size)⟩
 have HP:Hid (∀ w,Hid (Bw W w)→Calls Tryz.prog 135 #[.string (s.extract pl s.size),.string ⟨#[m]⟩] w fun e w'=>e=.returned (.bool (nxt s pl m))∧Hid (Bw W w')) :=
  fun w h=>(Qw (s.extract pl s.size) m w).mono fun e w' ⟨he,hb⟩=>⟨by rw [he,hd_from],by rw [hb];exact h⟩
 obtain ⟨σ,V,V1,V2⟩:∃ (σ:Type) (V:σ→World),Hid (∀ s,Hid (Bw W (V s)))∧Hid (∀ w,Hid (Bw W w)→∃ s,w=V s) :=
  ⟨{w // Hid (Bw W w)},Subtype.val,fun s=>s.2,fun w q=>⟨⟨w,q⟩,rfl⟩⟩
 have T0:Hid (Bw W W.drew):=(Below.refl _ _).drew
 have hne:Nonempty σ:=(V2.out _ T0).elim fun s _=>⟨s⟩
 have q0:∀ s',(V s').cell? ⟨b,0,none⟩=some (.string s):=fun s'=>((hc.keep (V1.out s').out).cells).1
 have q1:∀ s',(V s').cell? ⟨b,1,none⟩=some (.int .i64 pl):=fun s'=>((hc.keep (V1.out s').out).cells).2.1
 have q2:∀ s',(V s').frozen? ⟨b,1,none⟩=false:=fun s'=>((hc.keep (V1.out s').out).cells).2.2.1
 have HC:Hid (Cur W b s pl):=hc
 clear hc
 generalize nxt s pl m=nb at *
 go_enter Tryz.func127,Tryz.ntmps127
 go_wp2
 refine Zl (C:=fun w'=>∃ s,w'=V s) (by kernel_rfl) (by kernel_rfl) (V2.out _ T0) ?_
 repeat (go_big_quiet_step (first
  | (go_at_call 136;exact (HF.out _ (V1.out _)).mono fun e w'' z=>⟨z.1,V2.out _ z.2⟩)
  | (go_at_call 135;exact (HP.out _ (V1.out _)).mono fun e w'' z=>⟨z.1,V2.out _ z.2⟩)))
 refine wpQuiet_nil ?_
 intro w9 hw9
 obtain ⟨s9,rfl⟩:=hw9
 cases nb with
 | false =>
   go_wp2
   go_ret
   exact ⟨rfl,HC.out.keep (V1.out s9).out,grownBy_below (V1.out s9).out⟩
 | true =>
   go_wp2
   go_ret
   exact ⟨rfl,(HC.out.keep (V1.out s9).out).move (pl+1),grownBy_trans (grownBy_below (V1.out s9).out) (grownBy_set _ _ _ _) (fun _ h=>.inl h)⟩
theorem Qc (l:List UInt8) (h:Lib.indexByte l 59=-1):(59:UInt8) ∉ l:=by
 induction l with
 | nil=>simp
 | cons b l ih =>
   unfold Lib.indexByte at h
   split at h
   ·simp at h
   ·rename_i hb
    have hb':b≠59:=by simpa using hb
    split at h
    ·rename_i h1
     have:=ih (by simpa using h1)
     simp [hb'.symm,this]
    ·rename_i h1
     have:=Lib.indexByte_ge l 59
     have h1':Lib.indexByte l 59≠-1:=by simpa using h1
     omega
theorem Qk (l:List UInt8) (h:Lib.indexByte l 59≠-1):∃ a b,l=a++59::b∧(59:UInt8) ∉ a∧Lib.indexByte l 59=(a.length:Int):=by
 induction l with
 | nil=>simp [Lib.indexByte] at h
 | cons b l ih =>
   unfold Lib.indexByte at h ⊢
   by_cases hb:(b == 59)=true
   ·have hb':b=59:=by simpa using hb
    exact ⟨[],l,by simp [hb'],by simp,by simp [hb]⟩
   ·have hb':(b == 59)=false:=by simpa using hb
    have hb'':b≠59:=by simpa using hb
    simp only [hb',Bool.false_eq_true,if_false] at h ⊢
    by_cases h1:(Lib.indexByte l 59 == -1)=true
    ·simp [h1] at h
    ·have h1':Lib.indexByte l 59≠-1:=by simpa using h1
     obtain ⟨x,y,e,hx,hi⟩:=ih h1'
     refine ⟨b::x,y,by simp [e],by simp [hb''.symm,hx],?_⟩
     simp only [h1,if_false,Bool.false_eq_true]
     rw [hi];simp
theorem Ql (s:ByteArray) (w:World) :
 Calls Tryz.prog 145 #[.string s,.int .u8 59] w fun e w'=>e=.returned (.int .i64 (Lib.indexByte s.data.toList 59))∧w'=w:=by
 go_enter Tryz.func145,Tryz.ntmps145
 go_wp2
 rw [run_callFunc_extern Tryz.func156 (by kernel_rfl) (by kernel_rfl) (by kernel_rfl) (e:=Extern.BytealgIndexByte.indexByte) (by kernel_rfl),Lib.run_indexByteString]
 simp only [Result.andThen]
 rw [Oper.upon_value]
 go_wp2
 go_ret
 exact ⟨rfl,rfl⟩
theorem X9 (s:ByteArray) (w:World) :
 Calls Tryz.prog 134 #[.string s,.string ⟨#[59]⟩] w fun e w'=>e=.returned (.int .i64 (Lib.indexByte s.data.toList 59))∧w'=w:=by
 by_cases hq:([59] == s.toList)=true
 ·have hi:Lib.indexByte s.data.toList 59=0:=by
   have:s.data.toList=[59]:=by rw [← Lib.toList_data];exact (beq_iff_eq.1 hq).symm
   rw [this];rfl
  have HI:Hid (Lib.indexByte s.data.toList 59=0):=hi
  clear hi
  go_enter Tryz.func134,Tryz.ntmps134
  go_wp2
  go_ret
  exact ⟨Zf HI.out.symm,rfl⟩
 ·have hq':([59] == s.toList)=false:=by simpa using hq
  clear hq
  go_enter Tryz.func134,Tryz.ntmps134
  go_wp2_with (go_at_call 145;refine (Ql s _).mono ?_;rintro e w' ⟨rfl,rfl⟩)
  go_ret
  exact ⟨rfl,rfl⟩
theorem Jg (s:ByteArray) (w:World) (h:Lib.indexByte s.data.toList 59=-1) :
 Calls Tryz.prog 125 #[.string s,.string ⟨#[59]⟩] w fun e w'=>e=.returned (.tuple #[.string s,.string ⟨#[]⟩,.bool false])∧∃ n,w'=w.drewN n:=by
 have HB:Hid (∀ w,_):=X9 s
 rw [h] at HB
 clear h
 go_enter Tryz.func125,Tryz.ntmps125
 go_wp2_with (go_at_call 134;refine ((HB.out) _).mono ?_;rintro e w' ⟨rfl,rfl⟩)
 go_ret3
 exact ⟨rfl,0,rfl⟩
theorem Jy (s:ByteArray) (hs:s.size≤maxLen) (w:World) (n:Nat) (hn:n<s.size) (h:Lib.indexByte s.data.toList 59=n) :
 Calls Tryz.prog 125 #[.string s,.string ⟨#[59]⟩] w fun e w'=>e=.returned (.tuple #[.string (s.extract 0 n),.string (s.extract (n+1) s.size),.bool true])∧∃ n,w'=w.drewN n:=by
 have HB:Hid (∀ w,_):=X9 s
 rw [h] at HB
 clear h
 unfold maxLen at hs
 go_enter Tryz.func125,Tryz.ntmps125
 go_wp2_with (go_at_call 134;refine ((HB.out) _).mono ?_;rintro e w' ⟨rfl,rfl⟩)
 go_region
 all_goals (go_wp2;go_ret3;exact ⟨rfl,1,rfl⟩)
theorem Zby (s:ByteArray) (w:World) (h:Lib.indexByte s.data.toList 59=-1) :
 Calls Tryz.prog 107 #[.string s,.string ⟨#[59]⟩] w fun e w'=>e=.returned (.tuple #[.string s,.string ⟨#[]⟩,.bool false])∧∃ n,w'=w.drewN n:=by
 have HB:Hid (∀ w,_):=fun w=>Jg s w h
 clear h
 go_enter Tryz.func107,Tryz.ntmps107
 go_wp2_with (go_at_call 125;refine ((HB.out) _).mono ?_;rintro e w' ⟨rfl,n,rfl⟩)
 go_ret3
 exact ⟨rfl,_,rfl⟩
theorem Zc4 (s:ByteArray) (hs:s.size≤maxLen) (w:World) (n:Nat) (hn:n<s.size) (h:Lib.indexByte s.data.toList 59=n) :
 Calls Tryz.prog 107 #[.string s,.string ⟨#[59]⟩] w fun e w'=>e=.returned (.tuple #[.string (s.extract 0 n),.string (s.extract (n+1) s.size),.bool true])∧∃ n,w'=w.drewN n:=by
 have HB:Hid (∀ w,_):=fun w=>Jy s hs w n hn h
 clear h
 go_enter Tryz.func107,Tryz.ntmps107
 go_wp2_with (go_at_call 125;refine ((HB.out) _).mono ?_;rintro e w' ⟨rfl,n,rfl⟩)
 go_ret3
 exact ⟨rfl,_,rfl⟩
def cutV (r:ByteArray):Value:=match semi r.data.toList with
 | none=>.tuple #[.string r,.string ⟨#[]⟩,.bool false]
 | some (a,b)=>.tuple #[.string ⟨a.toArray⟩,.string ⟨b.toArray⟩,.bool true]
theorem cutS_any (r:ByteArray) (hs:r.size≤1000000) (w:World) :
 Calls Tryz.prog 107 #[.string r,.string ⟨#[59]⟩] w fun e w'=>e=.returned (cutV r)∧Bw w w':=by
 by_cases hx:Lib.indexByte r.data.toList 59=-1
 ·refine (Zby r w hx).mono fun e w' ⟨he,n,hn⟩=>⟨?_,?_⟩
  ·rw [he,cutV,Zc3 _ (Qc _ hx)]
  ·rw [hn];exact below_drewN (Below.refl _ _) n
 ·obtain ⟨a,b,hab,ha,hix⟩:=Qk _ hx
  have hsz:r.size=a.length+1+b.length:=by
   have:r.data.toList.length=r.size:=by simp
   rw [← this,hab];simp;omega
  have han:a.length<r.size:=by omega
  have e1:r.extract 0 a.length=⟨a.toArray⟩:=by rw [Jf,hab];simp
  have e2:r.extract (a.length+1) r.size=⟨b.toArray⟩:=by
   rw [Zbn,hab,show a++59::b=(a++[59])++b by simp,List.drop_left' (by simp)]
  refine (Zc4 r (by unfold maxLen;omega) w a.length han hix).mono fun e w' ⟨he,n,hn⟩=>⟨?_,?_⟩
  ·rw [he,cutV,hab,Zfb _ _ ha,e1,e2]
  ·rw [hn];exact below_drewN (Below.refl _ _) n
def Za2 (l:List UInt8):List UInt8:=match semi l with|some (a,_)=>if Zk a then a else []|none=>[]
def Qu (l:List UInt8):Bool:=match semi l with|some (a,_)=>Zk a|none=>false
def J2 (l:List UInt8):Nat:=match semi l with|some (a,_)=>if Zk a then a.length+1 else 0|none=>0
theorem Zc7 (b:Nat) (s:ByteArray) (pl:Nat) (hpl:pl≤s.size) (hs:s.size≤1000000) (W:World) (hc:Cur W b s pl) :
 Calls Tryz.prog 137 #[.pointer (some ⟨b,0,none⟩)] W fun e w'=>e=.returned (.tuple #[.string ⟨(Za2 (s.data.toList.drop pl)).toArray⟩,.bool (Qu (s.data.toList.drop pl))])∧Cur w' b s (pl+J2 (s.data.toList.drop pl))∧W.grownBy w' (some b):=by
 have HF:Hid (∀ w,Hid (Bw W w)→Calls Tryz.prog 136 #[.agg #[.string s],.int .i64 pl] w fun e w'=>e=.returned (.string (s.extract pl s.size))∧Hid (Bw W w')) :=
  fun w h=>(Zfr s pl hpl w).mono fun e w' ⟨he,hb⟩=>⟨he,h.out.trans (hb.mono h.out.size)⟩
 have HP:Hid (∀ w,Hid (Bw W w)→Calls Tryz.prog 107 #[.string (s.extract pl s.size),.string ⟨#[59]⟩] w fun e w'=>e=.returned (cutV (s.extract pl s.size))∧Hid (Bw W w')) :=
  fun w h=>(cutS_any (s.extract pl s.size) (by simp;omega) w).mono fun e w' ⟨he,hb⟩=>⟨he,h.out.trans (hb.mono h.out.size)⟩
 obtain ⟨σ,V,V1,V2⟩:∃ (σ:Type) (V:σ→World),Hid (∀ s,Hid (Bw W (V s)))∧Hid (∀ w,Hid (Bw W w)→∃ s,w=V s) :=
  ⟨{w // Hid (Bw W w)},Subtype.val,fun s=>s.2,fun w q=>⟨⟨w,q⟩,rfl⟩⟩
 have T0:Hid (Bw W W.drew):=(Below.refl _ _).drew
 have hne:Nonempty σ:=(V2.out _ T0).elim fun s _=>⟨s⟩
 have q0:∀ s',(V s').cell? ⟨b,0,none⟩=some (.string s):=fun s'=>((hc.keep (V1.out s').out).cells).1
 have q1:∀ s',(V s').cell? ⟨b,1,none⟩=some (.int .i64 pl):=fun s'=>((hc.keep (V1.out s').out).cells).2.1
 have hbs:=hc.cells.2.2.2
 have HC:Hid (Cur W b s pl):=hc
 clear hc
 have hd:(s.extract pl s.size).data.toList=s.data.toList.drop pl:=Lib.extract_to_end _ _
 unfold cutV at HP
 rw [hd] at HP
 have hlen:(s.data.toList.drop pl).length=s.size - pl:=by simp
 generalize s.data.toList.drop pl=l at *
 clear hd
 cases hsm:semi l with
 | none =>
   have e1:Za2 l=[]:=by simp [Za2,hsm]
   have e2:Qu l=false:=by simp [Qu,hsm]
   have e3:J2 l=0:=by simp [J2,hsm]
   rw [e1,e2,e3]
   rw [hsm] at HP
   clear hsm e1 e2 e3 hlen
   go_enter Tryz.func137,Tryz.ntmps137
   go_wp2
   refine Zl (C:=fun w'=>∃ s,w'=V s) (by kernel_rfl) (by kernel_rfl) (V2.out _ T0) ?_
   repeat (go_big_quiet_step (first
    | (go_at_call 136;exact (HF.out _ (V1.out _)).mono fun e w'' z=>⟨z.1,V2.out _ z.2⟩)
    | (go_at_call 107;exact (HP.out _ (V1.out _)).mono fun e w'' z=>⟨z.1,V2.out _ z.2⟩)))
   refine wpQuiet_nil ?_
   intro w9 hw9
   obtain ⟨s9,rfl⟩:=hw9
   go_wp2
   go_ret2
   exact ⟨rfl,HC.out.keep (V1.out s9).out,grownBy_below (V1.out s9).out⟩
 | some p =>
   obtain ⟨x,y⟩:=p
   have hl:=(Zbx hsm).1
   have hxs:x.length+1+y.length=s.size - pl:=by rw [← hlen,hl];simp;omega
   have hmk:(⟨x.toArray⟩:ByteArray).size=x.length:=Qf x
   have HV:Hid (∀ w,_):=Y7 ⟨x.toArray⟩ (by rw [Qf];unfold maxLen;omega)
   simp only at HV
   rw [hsm] at HP
   cases hv:Zk x with
   | false =>
     have e1:Za2 l=[]:=by simp [Za2,hsm,hv]
     have e2:Qu l=false:=by simp [Qu,hsm,hv]
     have e3:J2 l=0:=by simp [J2,hsm,hv]
     rw [e1,e2,e3]
     rw [hv] at HV
     clear hsm e1 e2 e3 hlen hl hxs hv
     go_enter Tryz.func137,Tryz.ntmps137
     go_wp2
     refine Zl (C:=fun w'=>∃ s,w'=V s) (by kernel_rfl) (by kernel_rfl) (V2.out _ T0) ?_
     repeat (go_big_quiet_step (first
      | (go_at_call 136;exact (HF.out _ (V1.out _)).mono fun e w'' z=>⟨z.1,V2.out _ z.2⟩)
      | (go_at_call 107;exact (HP.out _ (V1.out _)).mono fun e w'' z=>⟨z.1,V2.out _ z.2⟩)))
     refine wpQuiet_nil ?_
     intro w9 hw9
     obtain ⟨s9,rfl⟩:=hw9
     go_wp2_with (go_at_call 70;refine ((HV.out) _).mono ?_;rintro e w2 ⟨rfl,hb2⟩)
     go_ret2
     have HB:=(V1.out s9).out.trans (hb2.mono (V1.out s9).out.size)
     exact ⟨rfl,HC.out.keep HB,grownBy_below HB⟩
   | true =>
     have e1:Za2 l=x:=by simp [Za2,hsm,hv]
     have e2:Qu l=true:=by simp [Qu,hsm,hv]
     have e3:J2 l=x.length+1:=by simp [J2,hsm,hv]
     rw [e1,e2,e3]
     rw [hv] at HV
     clear hsm e1 e2 e3 hlen hl hv
     go_enter Tryz.func137,Tryz.ntmps137
     go_wp2
     refine Zl (C:=fun w'=>∃ s,w'=V s) (by kernel_rfl) (by kernel_rfl) (V2.out _ T0) ?_
     repeat (go_big_quiet_step (first
      | (go_at_call 136;exact (HF.out _ (V1.out _)).mono fun e w'' z=>⟨z.1,V2.out _ z.2⟩)
      | (go_at_call 107;exact (HP.out _ (V1.out _)).mono fun e w'' z=>⟨z.1,V2.out _ z.2⟩)))
     refine wpQuiet_nil ?_
     intro w9 hw9
     obtain ⟨s9,rfl⟩:=hw9
     go_wp2_with (go_at_call 70;refine ((HV.out) _).mono ?_;rintro e w2 ⟨rfl,hb2⟩;have HB:Hid (Bw W w2):=(V1.out s9).out.trans (hb2.mono (V1.out s9).out.size);have r1:w2.cell? ⟨b,1,none⟩=some (.int .i64 pl):=(HC.out.keep HB.out).cells.2.1;have r2:w2.frozen? ⟨b,1,none⟩=false:=(HC.out.keep HB.out).cells.2.2.1;clear hb2)
     go_ret2
     exact ⟨rfl,(HC.out.keep HB.out).move _,grownBy_trans (grownBy_below HB.out) (grownBy_set _ _ _ _) (fun _ h=>.inl h)⟩
theorem Xp (s:ByteArray) (i:Nat) (m:UInt8) (h:i<s.size):nxt s i m=decide (s[i]=m):=by
 unfold nxt
 rw [Zo s i h,List.head?_cons,Bool.eq_iff_iff]
 simp
theorem Zcc (s:ByteArray) (i:Nat) (m:UInt8) (h:s.size≤i):nxt s i m=false:=by
 unfold nxt
 rw [Y3 s i h];rfl
theorem Xy {s:ByteArray} {i:Nat} {m:UInt8} (h:nxt s i m=true):i<s.size:=by
 by_cases q:i<s.size
 ·exact q
 ·rw [Zcc s i m (by omega)] at h;simp at h
theorem nameP_le (l:List UInt8):J2 l≤l.length:=by
 unfold J2
 split
 ·rename_i a b h
  split
  ·rw [(Zbx h).1];simp
  ·omega
 ·omega
structure Rt (W:World) (b:Nat) (s:ByteArray) (q:Nat) (wr:World):Prop where
 cur:Cur wr b s q
 r:wr.heap[W.heap.size]?=some (.cells #[.int .i64 0,.string ⟨#[]⟩] 122 (0,0))
 gr:W.grownBy wr (some b)
 hb:b<W.heap.size
 le:q≤s.size
theorem Rt.step {W wr w1:World} {b:Nat} {s:ByteArray} {q q':Nat} (h:Rt W b s q wr) (hc:Cur w1 b s q') (hg:wr.grownBy w1 (some b)) (hq:q'≤s.size):Rt W b s q' w1 :=
 ⟨hc,by rw [hg.block _ (Array.getElem?_eq_some_iff.1 h.r).1 (by have:=h.hb;simp;omega)];exact h.r,grownBy_trans h.gr hg (fun _ e=>.inl e),h.hb,hq⟩
theorem Rt.cells {W wr:World} {b:Nat} {s:ByteArray} {q:Nat} (h:Rt W b s q wr) :
 wr.cell? ⟨W.heap.size,0,none⟩=some (.int .i64 0)∧wr.cell? ⟨W.heap.size,1,none⟩=some (.string ⟨#[]⟩)∧wr.frozen? ⟨W.heap.size,0,none⟩=false∧wr.frozen? ⟨W.heap.size,1,none⟩=false:=by
 refine ⟨?_,?_,?_,?_⟩
 ·rw [cell_of_row _ W.heap.size 0 _ 122 (0,0) h.r];rfl
 ·rw [cell_of_row _ W.heap.size 1 _ 122 (0,0) h.r];rfl
 all_goals simp [World.frozen?,h.r]
theorem Rt.done {W wr:World} {b:Nat} {s:ByteArray} {q:Nat} (h:Rt W b s q wr) (u v:Value) :
 Cur ((wr.setCell ⟨W.heap.size,0,none⟩ u).setCell ⟨W.heap.size,1,none⟩ v) b s q∧W.grownBy ((wr.setCell ⟨W.heap.size,0,none⟩ u).setCell ⟨W.heap.size,1,none⟩ v) (some b):=by
 have hb:=h.hb
 constructor
 ·unfold Cur
  rw [heap_setCell_other _ ⟨W.heap.size,1,none⟩ b v (by simp;omega),heap_setCell_other _ ⟨W.heap.size,0,none⟩ b u (by simp;omega)]
  exact h.cur
 ·refine grownBy_trans (grownBy_trans h.gr (grownBy_set wr W.heap.size 0 u) ?_) (grownBy_set _ W.heap.size 1 v) ?_
  ·intro k e;right;simp at e;omega
  ·intro k e;right;simp at e;omega
def Yc (s:ByteArray) (pl b:Nat) (e:Ending) (w':World):Prop:=match Zx (s.data.toList.drop pl) with
 | some (t,r)=>e=.returned (.tuple #[.agg #[.int .i64 t.1,.string ⟨t.2.toArray⟩],.bool true])∧Cur w' b s (s.size - r.length)
 | none=>e=.returned (.tuple #[.agg #[.int .i64 0,.string ⟨#[]⟩],.bool false])∧∃ q,q≤s.size∧Cur w' b s q
theorem Xw {s:ByteArray} {pl b q:Nat} {w':World} (h:Zx (s.data.toList.drop pl)=none) (hq:q≤s.size) (hc:Cur w' b s q):Yc s pl b (.returned (.tuple #[.agg #[.int .i64 0,.string ⟨#[]⟩],.bool false])) w':=by
 unfold Yc;rw [h];exact ⟨rfl,q,hq,hc⟩
theorem Za8 {s:ByteArray} {pl b q:Nat} {k:Nat} {nm r:List UInt8} {w':World} (h:Zx (s.data.toList.drop pl)=some ((k,nm),r)) (hp:q=s.size - r.length) (hc:Cur w' b s q) :
 Yc s pl b (.returned (.tuple #[.agg #[.int .i64 k,.string ⟨nm.toArray⟩],.bool true])) w':=by
 unfold Yc;rw [h];rw [hp] at hc;exact ⟨rfl,hc⟩
theorem Xm (b:Nat) (s:ByteArray) (pl:Nat) (hpl:pl≤s.size) (hs:s.size≤1000000) (W:World) (hc:Cur W b s pl) :
 Calls Tryz.prog 128 #[.pointer (some ⟨b,0,none⟩)] W fun e w'=>Yc s pl b e w'∧W.grownBy w' (some b):=by
 have HS:Hid (∀ (m:UInt8) (q:Nat) (w:World),Hid (Rt W b s q w)→Calls Tryz.prog 127 #[.pointer (some ⟨b,0,none⟩),.string ⟨#[m]⟩] w fun e w'=>e=.returned (.bool (nxt s q m))∧Hid (Rt W b s (if nxt s q m then q+1 else q) w')) :=
  fun m q w h=>(Zbw b s q m h.out.le hs w h.out.cur).mono fun e w' ⟨he,hc,hg⟩=>⟨he,h.out.step hc hg (by
   have:=h.out.le
   split
   ·rename_i e;have:=Xy e;omega
   ·exact this)⟩
 have HN:Hid (∀ (q:Nat) (w:World),Hid (Rt W b s q w)→Calls Tryz.prog 137 #[.pointer (some ⟨b,0,none⟩)] w fun e w'=>e=.returned (.tuple #[.string ⟨(Za2 (s.data.toList.drop q)).toArray⟩,.bool (Qu (s.data.toList.drop q))])∧Hid (Rt W b s (q+J2 (s.data.toList.drop q)) w')) :=
  fun q w h=>(Zc7 b s q h.out.le hs w h.out.cur).mono fun e w' ⟨he,hc,hg⟩=>⟨he,h.out.step hc hg (by
   have h1:=h.out.le
   have h2:=nameP_le (s.data.toList.drop q)
   simp at h2;omega)⟩
 have H0:Hid (Rt W b s pl (W.alloc (.cells #[.int .i64 0,.string ⟨#[]⟩] 122))) :=
  ⟨hc.keep ((Below.refl _ _).alloc (Nat.le_refl _) _),heap_alloc_new W _,grownBy_below ((Below.refl _ _).alloc (Nat.le_refl _) _),hc.cells.2.2.2,hpl⟩
 have hsz:s.data.toList.length=s.size:=by simp
 have HSZ:Hid _:=hsz
 clear hsz hc
 go_enter Tryz.func128,Tryz.ntmps128
 go_wp2
 go_loopw [4] (fun p wr=>∃ j:Nat,p=.int .i64 j∧pl+j≤s.size∧Hid (Rt W b s (pl+j) wr) ∧
  Hid (Zr (s.data.toList.drop pl)=((Zr (s.data.toList.drop (pl+j))).1+j,(Zr (s.data.toList.drop (pl+j))).2))) (fun p _=>s.size - (intOf p).toNat)
 case atStart=>exact ⟨0,rfl,hpl,H0,rfl⟩
 case round =>
  clear H0
  obtain ⟨j,rfl,hj,hR,hbr⟩:=hrel
  by_cases hlt:pl+j<s.size
  ·by_cases h91:s[pl+j]=91
   ·have q91:nxt s (pl+j) 91=true:=by rw [Xp s _ _ hlt];simp [h91]
    have HB:Hid (Zr (s.data.toList.drop pl)=((Zr (s.data.toList.drop (pl+(j+1)))).1+(j+1),(Zr (s.data.toList.drop (pl+(j+1)))).2)):=by
     rw [Hid,hbr.out,Zax s (pl+j) hlt h91]
     simp only [Prod.mk.injEq]
     exact ⟨by rw [show pl+j+1=pl+(j+1) by omega];omega,by rw [show pl+j+1=pl+(j+1) by omega]⟩
    clear hbr h91
    go_wp2_with (go_at_call 127;refine (HS.out _ _ _ hR).mono ?_;rintro e w1 ⟨rfl,R1⟩;rw [q91,if_pos rfl] at R1)
    go_roundw
    case rel=>exact ⟨j+1,by go_num,by omega,R1,HB⟩
    case measure=>simp [intOf];omega
   ·have hb0:Zr (s.data.toList.drop pl)=(j,s.data.toList.drop (pl+j)):=by rw [hbr.out,Zaw s (pl+j) hlt h91,Nat.zero_add]
    rw [Zo s (pl+j) hlt] at hb0
    have q91:nxt s (pl+j) 91=false:=by rw [Xp s _ _ hlt];simp [h91]
    by_cases h73:s[pl+j]=73
    ·have q73:nxt s (pl+j) 73=true:=by rw [Xp s _ _ hlt];simp [h73]
     have HP:Hid _:=Zfd (by rw [h73] at hb0;exact hb0)
     have HQ:Hid (pl+j+1=s.size - (s.data.toList.drop (pl+j+1)).length):=by rw [Hid,List.length_drop,HSZ.out];omega
     clear hbr h91 h73 hb0
     go_wp2_with (go_at_call 127;refine (HS.out _ _ _ hR).mono ?_;clear hR;rintro e w1 ⟨rfl,hR⟩;first|rw [q91,if_neg Bool.false_ne_true] at hR|rw [q73,if_pos rfl] at hR;obtain ⟨c0,c1,c2,c3⟩:=hR.out.cells)
     refine bodyPost_ret (v:=.tuple #[.agg #[.int .i64 j,.string ⟨#[]⟩],.bool true]) (by simp [results,Tryz.results128,go_sem, *]) rfl ⟨Za8 HP.out HQ.out (hR.out.done _ _).1,(hR.out.done _ _).2⟩
    ·have q73:nxt s (pl+j) 73=false:=by rw [Xp s _ _ hlt];simp [h73]
     by_cases h76:s[pl+j]=76
     ·have q76:nxt s (pl+j) 76=true:=by rw [Xp s _ _ hlt];simp [h76]
      rw [h76] at hb0
      cases hsm:semi (s.data.toList.drop (pl+j+1)) with
      | none =>
        have e2:Qu (s.data.toList.drop (pl+j+1))=false:=by simp [Qu,hsm]
        have HP:Hid _:=Zc6 hb0 hsm
        clear hbr h91 h73 h76 hb0 hsm
        go_wp2_with (first
         | (go_at_call 127;refine (HS.out _ _ _ hR).mono ?_;clear hR;rintro e w1 ⟨rfl,hR⟩;first|rw [q91,if_neg Bool.false_ne_true] at hR|rw [q73,if_neg Bool.false_ne_true] at hR|rw [q76,if_pos rfl] at hR;obtain ⟨c0,c1,c2,c3⟩:=hR.out.cells)
         | (go_at_call 137;refine (HN.out _ _ hR).mono ?_;clear hR;rintro e w1 ⟨rfl,hR⟩;rw [e2];obtain ⟨c0,c1,c2,c3⟩:=hR.out.cells))
        refine bodyPost_ret (v:=.tuple #[.agg #[.int .i64 0,.string ⟨#[]⟩],.bool false]) (by simp [results,Tryz.results128,go_sem, *]) rfl ⟨Xw HP.out hR.out.le (hR.out.done _ _).1,(hR.out.done _ _).2⟩
      | some p =>
        obtain ⟨x,y⟩:=p
        cases hv:Zk x with
        | false =>
          have e2:Qu (s.data.toList.drop (pl+j+1))=false:=by simp [Qu,hsm,hv]
          have HP:Hid _:=Zff hb0 hsm hv
          clear hbr h91 h73 h76 hb0 hsm hv
          go_wp2_with (first
           | (go_at_call 127;refine (HS.out _ _ _ hR).mono ?_;clear hR;rintro e w1 ⟨rfl,hR⟩;first|rw [q91,if_neg Bool.false_ne_true] at hR|rw [q73,if_neg Bool.false_ne_true] at hR|rw [q76,if_pos rfl] at hR;obtain ⟨c0,c1,c2,c3⟩:=hR.out.cells)
           | (go_at_call 137;refine (HN.out _ _ hR).mono ?_;clear hR;rintro e w1 ⟨rfl,hR⟩;rw [e2];obtain ⟨c0,c1,c2,c3⟩:=hR.out.cells))
          refine bodyPost_ret (v:=.tuple #[.agg #[.int .i64 0,.string ⟨#[]⟩],.bool false]) (by simp [results,Tryz.results128,go_sem, *]) rfl ⟨Xw HP.out hR.out.le (hR.out.done _ _).1,(hR.out.done _ _).2⟩
        | true =>
          have e1:Za2 (s.data.toList.drop (pl+j+1))=x:=by simp [Za2,hsm,hv]
          have e2:Qu (s.data.toList.drop (pl+j+1))=true:=by simp [Qu,hsm,hv]
          have e3:J2 (s.data.toList.drop (pl+j+1))=x.length+1:=by simp [J2,hsm,hv]
          have HP:Hid _:=Zfe hb0 hsm hv
          have HQ:Hid (pl+j+1+(x.length+1)=s.size - y.length):=by
           have h1:(s.data.toList.drop (pl+j+1)).length=s.size - (pl+j+1):=by rw [List.length_drop,HSZ.out]
           rw [(Zbx hsm).1,List.length_append,List.length_cons] at h1
           rw [Hid];omega
          clear hbr h91 h73 h76 hb0 hsm hv
          go_wp2_with (first
           | (go_at_call 127;refine (HS.out _ _ _ hR).mono ?_;clear hR;rintro e w1 ⟨rfl,hR⟩;first|rw [q91,if_neg Bool.false_ne_true] at hR|rw [q73,if_neg Bool.false_ne_true] at hR|rw [q76,if_pos rfl] at hR;obtain ⟨c0,c1,c2,c3⟩:=hR.out.cells)
           | (go_at_call 137;refine (HN.out _ _ hR).mono ?_;clear hR;rintro e w1 ⟨rfl,hR⟩;rw [e2,e1];rw [e3] at hR;obtain ⟨c0,c1,c2,c3⟩:=hR.out.cells))
          refine bodyPost_ret (v:=.tuple #[.agg #[.int .i64 j,.string ⟨x.toArray⟩],.bool true]) (by simp [results,Tryz.results128,go_sem, *]) rfl ⟨Za8 HP.out HQ.out (hR.out.done _ _).1,(hR.out.done _ _).2⟩
     ·have q76:nxt s (pl+j) 76=false:=by rw [Xp s _ _ hlt];simp [h76]
      have HP:Hid _:=Zba hb0 h73 h76
      clear hbr h91 h73 h76 hb0
      go_wp2_with (go_at_call 127;refine (HS.out _ _ _ hR).mono ?_;clear hR;rintro e w1 ⟨rfl,hR⟩;first|rw [q91,if_neg Bool.false_ne_true] at hR|rw [q73,if_neg Bool.false_ne_true] at hR|rw [q76,if_neg Bool.false_ne_true] at hR;obtain ⟨c0,c1,c2,c3⟩:=hR.out.cells)
      refine bodyPost_ret (v:=.tuple #[.agg #[.int .i64 0,.string ⟨#[]⟩],.bool false]) (by simp [results,Tryz.results128,go_sem, *]) rfl ⟨Xw HP.out hR.out.le (hR.out.done _ _).1,(hR.out.done _ _).2⟩
  ·have q91:nxt s (pl+j) 91=false:=Zcc _ _ _ (by omega)
   have q73:nxt s (pl+j) 73=false:=Zcc _ _ _ (by omega)
   have q76:nxt s (pl+j) 76=false:=Zcc _ _ _ (by omega)
   have HP:Hid _:=Zfc (l:=s.data.toList.drop pl) (j:=j) (by rw [hbr.out,Y3 s (pl+j) (by omega)];simp [Zr])
   clear hbr
   go_wp2_with (go_at_call 127;refine (HS.out _ _ _ hR).mono ?_;clear hR;rintro e w1 ⟨rfl,hR⟩;first|rw [q91,if_neg Bool.false_ne_true] at hR|rw [q73,if_neg Bool.false_ne_true] at hR|rw [q76,if_neg Bool.false_ne_true] at hR;obtain ⟨c0,c1,c2,c3⟩:=hR.out.cells)
   refine bodyPost_ret (v:=.tuple #[.agg #[.int .i64 0,.string ⟨#[]⟩],.bool false]) (by simp [results,Tryz.results128,go_sem, *]) rfl ⟨Xw HP.out hR.out.le (hR.out.done _ _).1,(hR.out.done _ _).2⟩
def tyC (t:Int×ByteArray):List Value:=[.int .i64 t.1,.string t.2]
def Ye (ts:List (Int×ByteArray)):List Value:=ts.flatMap tyC
def natT (t:Nat×List UInt8):Int×ByteArray:=((t.1:Int),⟨t.2.toArray⟩)
theorem flatT_at (ts:List (Int×ByteArray)) (k:Nat) (t:Int×ByteArray) (h:ts[k]?=some t):(Ye ts)[k * 2]?=some (.int .i64 t.1)∧(Ye ts)[k * 2+1]?=some (.string t.2):=by
 induction ts generalizing k with
 | nil=>simp at h
 | cons u ts ih =>
   have e:Ye (u::ts)=.int .i64 u.1::.string u.2::Ye ts:=by simp [Ye,tyC]
   rw [e]
   cases k with
   | zero=>simp at h;subst h;exact ⟨rfl,rfl⟩
   | succ k =>
     simp at h
     obtain ⟨h1,h2⟩:=ih k h
     rw [show (k+1) * 2=k * 2+1+1 by omega]
     simp only [List.getElem?_cons_succ]
     exact ⟨h1,h2⟩
def IsTys (w:World) (v:Value) (ts:List (Int×ByteArray)):Prop :=
 ∃ ao cap,v=.slice ao ts.length cap∧ts.length≤cap∧cap≤maxLen ∧
   (ts≠[]→∃ bk o,ao=some ⟨bk,o,none⟩∧bk<w.heap.size∧∀ k t,ts[k]?=some t→w.cell? ⟨bk,o+k * 2,none⟩=some (.int .i64 t.1)∧w.cell? ⟨bk,o+k * 2+1,none⟩=some (.string t.2))
theorem own_tys {w:World} {base:Nat} {v:Value} {ts:List (Int×ByteArray)} (h:w.ownsRow base 122 2 v ts.length (Ye ts)):IsTys w v ts:=by
 have h':=h
 rcases h.2 with ⟨rfl,h0⟩|⟨g,cap,cur,rfl,hb,hg,hn,hm,_,_⟩
 ·have:ts=[]:=List.length_eq_zero_iff.1 h0
  subst this
  exact ⟨none,0,rfl,Nat.le_refl _,by unfold maxLen;omega,fun h=>absurd rfl h⟩
 ·refine ⟨_,cap,rfl,hn,hm,fun _=>⟨g,0,rfl,(Array.getElem?_eq_some_iff.1 hg).1,fun k t hk=>?_⟩⟩
  have hlt:k<ts.length:=(List.getElem?_eq_some_iff.1 hk).1
  obtain ⟨e1,e2⟩:=flatT_at ts k t hk
  rw [Nat.zero_add]
  exact ⟨by rw [h'.cellAt (k * 2) (by omega)];exact e1,by rw [h'.cellAt (k * 2+1) (by omega)];exact e2⟩
def raf (l:List UInt8):Option (List (Nat×List UInt8)×List UInt8):=Zy (l.length+1) l
theorem Zb4 (f:Nat) (l:List UInt8) (h:l.length<f):Zy f l=raf l:=by
 unfold raf
 generalize hn:l.length=n at *
 induction n using Nat.strongRecOn generalizing f l with
 | _ n ih =>
   cases f with
   | zero=>omega
   | succ f =>
     cases l with
     | nil=>simp [Zy]
     | cons c l =>
       rw [Zy,Zy]
       split
       ·rfl
       ·cases e:Zx (c::l) with
        | none=>rfl
        | some p =>
          obtain ⟨t,r⟩:=p
          have hr:=Y8 e
          simp only
          rw [ih r.length (by omega) f r rfl (by omega),ih r.length (by omega) n r rfl (by omega)]
theorem Zhy:raf []=none:=rfl
theorem Zhz (l:List UInt8):raf (41::l)=some ([],l):=by simp [raf,Zy]
theorem Zfi {c:UInt8} {l r:List UInt8} {t:Nat×List UInt8} (hc:c≠41) (h:Zx (c::l)=some (t,r)):raf (c::l)=(raf r).map (fun p=>(t::p.1,p.2)):=by
 have hr:=Y8 h
 rw [raf,Zy,if_neg hc,h]
 simp only
 rw [Zb4 _ r (by simpa using hr)]
 cases raf r <;> rfl
theorem Zh0 {c:UInt8} {l:List UInt8} (hc:c≠41) (h:Zx (c::l)=none):raf (c::l)=none:=by
 rw [raf,Zy,if_neg hc,h]
theorem Qn {l:List UInt8} {q:Nat} {t:Nat×List UInt8} {r:List UInt8} (h:Zx (l.drop q)=some (t,r)):r=l.drop (l.length - r.length)∧q<l.length - r.length∧r.length≤l.length:=by
 have hw:=(Jd h).1
 have hl:=Y8 h
 rw [List.length_drop] at hl
 refine ⟨?_,by omega,by omega⟩
 have e2:l=l.take q++(Qi t++r):=by rw [← hw,List.take_append_drop]
 have e3:l.length - r.length=(l.take q++Qi t).length:=by
  have:=congrArg List.length e2
  simp only [List.length_append] at this ⊢
  omega
 rw [e3]
 have key:∀ a b r:List UInt8,(a++(b++r)).drop ((a++b).length)=r:=fun a b r=>by rw [← List.append_assoc,List.drop_left]
 have k2:=key (l.take q) (Qi t) r
 rw [← e2] at k2
 exact k2.symm
def Z7:List UInt8→Option (List (Nat×List UInt8)×List UInt8)
 | 40::r=>raf r
 | _=>none
theorem Tryz.info122:(Tryz.prog.info? 122).map (fun i=>(i.zero,i.size,i.bytes))=some (some (.agg #[.int .i64 0,.string ⟨#[]⟩]),2,24):=by kernel_rfl
end Go.Proofs.YtkoogmegdfpopaaGreat
