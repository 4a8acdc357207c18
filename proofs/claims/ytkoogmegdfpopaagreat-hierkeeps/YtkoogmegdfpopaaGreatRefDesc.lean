import Derived.Test.YtkoogmegdfpopaaGreatHrZ
set_option maxRecDepth 100000
namespace Go.Proofs.YtkoogmegdfpopaaGreat
open Go.RowKit
structure Rq (w:World) (v:Value) (ts:List (Nat×List UInt8)) (vd:Bool) (rd:Int) (rn:ByteArray) (wr:World):Prop where
 r:wr.heap[w.heap.size]?=some (.cells Qh 124 (0,0))
 d:wr.heap[w.heap.size+1]?=some (.cells #[v,.bool vd,.int .i64 rd,.string rn] 124 (0,0))
 own:wr.ownsRow (w.heap.size+2) 122 2 v ts.length (Ye (ts.map natT))
 bel:Bw w wr
section
variable {w wr w1:World} {v:Value} {ts:List (Nat×List UInt8)} {vd:Bool} {rd:Int} {rn:ByteArray}
theorem Rq.keep (h:Rq w v ts vd rd rn wr) (hb:Bw wr w1):Rq w v ts vd rd rn w1 :=
 ⟨by rw [hb.block _ (Array.getElem?_eq_some_iff.1 h.r).1];exact h.r,by rw [hb.block _ (Array.getElem?_eq_some_iff.1 h.d).1];exact h.d,own_below h.own hb (Nat.le_refl _),Below.step h.bel hb⟩
theorem Rq.cells (h:Rq w v ts vd rd rn wr) :
 wr.cell? ⟨w.heap.size,0,none⟩=some (.slice none 0 0)∧wr.cell? ⟨w.heap.size,1,none⟩=some (.bool false)∧wr.cell? ⟨w.heap.size,2,none⟩=some (.int .i64 0)∧wr.cell? ⟨w.heap.size,3,none⟩=some (.string ⟨#[]⟩) ∧
 wr.frozen? ⟨w.heap.size,0,none⟩=false∧wr.frozen? ⟨w.heap.size,1,none⟩=false∧wr.frozen? ⟨w.heap.size,2,none⟩=false∧wr.frozen? ⟨w.heap.size,3,none⟩=false∧w.heap.size<wr.heap.size:=by
 refine ⟨?_,?_,?_,?_,?_,?_,?_,?_,(Array.getElem?_eq_some_iff.1 h.r).1⟩
 ·rw [cell_of_row _ w.heap.size 0 _ 124 (0,0) h.r];rfl
 ·rw [cell_of_row _ w.heap.size 1 _ 124 (0,0) h.r];rfl
 ·rw [cell_of_row _ w.heap.size 2 _ 124 (0,0) h.r];rfl
 ·rw [cell_of_row _ w.heap.size 3 _ 124 (0,0) h.r];rfl
 all_goals simp [World.frozen?,h.r]
theorem Rq.cellsD (h:Rq w v ts vd rd rn wr) :
 wr.cell? ⟨w.heap.size+1,0,none⟩=some v∧wr.cell? ⟨w.heap.size+1,1,none⟩=some (.bool vd)∧wr.cell? ⟨w.heap.size+1,2,none⟩=some (.int .i64 rd)∧wr.cell? ⟨w.heap.size+1,3,none⟩=some (.string rn) ∧
 wr.frozen? ⟨w.heap.size+1,0,none⟩=false∧wr.frozen? ⟨w.heap.size+1,1,none⟩=false∧wr.frozen? ⟨w.heap.size+1,2,none⟩=false∧wr.frozen? ⟨w.heap.size+1,3,none⟩=false∧w.heap.size+1<wr.heap.size:=by
 refine ⟨?_,?_,?_,?_,?_,?_,?_,?_,(Array.getElem?_eq_some_iff.1 h.d).1⟩
 ·rw [cell_of_row _ (w.heap.size+1) 0 _ 124 (0,0) h.d];rfl
 ·rw [cell_of_row _ (w.heap.size+1) 1 _ 124 (0,0) h.d];rfl
 ·rw [cell_of_row _ (w.heap.size+1) 2 _ 124 (0,0) h.d];rfl
 ·rw [cell_of_row _ (w.heap.size+1) 3 _ 124 (0,0) h.d];rfl
 all_goals simp [World.frozen?,h.d]
theorem Rq.done (h:Rq w v ts vd rd rn wr) (u0 u1 u2 u3:Value) :
 (set4 wr w.heap.size u0 u1 u2 u3).ownsRow w.heap.size 122 2 v ts.length (Ye (ts.map natT))∧Bw w (set4 wr w.heap.size u0 u1 u2 u3):=by
 have hg:=Xu wr w.heap.size u0 u1 u2 u3
 exact ⟨J7 (h.own.kept hg (.inr (fun e=>by have:=(h.own.lt _ e).1;omega))) (by omega),h.bel.grown hg h.bel.size (fun k e=>by simp at e;omega)⟩
theorem Rq.first (w:World):Rq w (.slice none 0 0) [] false 0 ⟨#[]⟩ ((w.alloc (.cells Qh 124)).alloc (.cells Qh 124)):=by
 refine ⟨?_,?_,World.ownsRow_nil _ _ _ _,((Below.refl _ _).alloc (Nat.le_refl _) _).alloc (by simp) _⟩
 ·rw [Below.heap_alloc _ _ _ (by simp)];exact heap_alloc_new w _
 ·have:=heap_alloc_new (w.alloc (.cells Qh 124)) (.cells Qh 124)
  simpa [Qh] using this
theorem Rq.put {u1:Value} {vd':Bool} {rd':Int} {rn':ByteArray} {o:Nat} (h:Rq w v ts vd rd rn wr) (he:(#[v,.bool vd,.int .i64 rd,.string rn]:Array Value).setIfInBounds o u1=#[v,.bool vd',.int .i64 rd',.string rn']) :
 Rq w v ts vd' rd' rn' (wr.setCell ⟨w.heap.size+1,o,none⟩ u1):=by
 have hg:=grownBy_set wr (w.heap.size+1) o u1
 refine ⟨?_,?_,h.own.kept hg (.inr (fun e=>by have:=(h.own.lt _ e).1;omega)),h.bel.setCell (by show w.heap.size≤w.heap.size+1;omega) _⟩
 ·rw [hg.block _ (Array.getElem?_eq_some_iff.1 h.r).1 (by simp)];exact h.r
 ·rw [heap_setCell_same wr (w.heap.size+1) o _ 124 _ h.d,he]
structure Rp (w:World) (v v':Value) (ts:List (Nat×List UInt8)) (wr:World):Prop where
 r:wr.heap[w.heap.size]?=some (.cells Qh 124 (0,0))
 d:wr.heap[w.heap.size+1]?=some (.cells #[v,.bool false,.int .i64 0,.string ⟨#[]⟩] 124 (0,0))
 own:wr.ownsRow (w.heap.size+2) 122 2 v' ts.length (Ye (ts.map natT))
 bel:Bw w wr
theorem Rq.app {w2:World} {v':Value} {k:Nat} {nm:List UInt8} (o1 o2:Obj) (h:Rq w v ts false 0 ⟨#[]⟩ wr)
 (ho:w2.ownsRow (w.heap.size+2) 122 2 v' (ts.length+1) (Ye (ts.map natT)++[.int .i64 k,.string ⟨nm.toArray⟩])) (hg:((wr.alloc o1).alloc o2).grownBy w2 v.ownBlock):Rp w v v' (ts++[(k,nm)]) w2:=by
 have h2:=h.keep (((Below.refl _ _).alloc (Nat.le_refl _) o1).alloc (by simp) o2)
 refine ⟨?_,?_,?_,?_⟩
 ·rw [hg.block _ (Array.getElem?_eq_some_iff.1 h2.r).1 (fun e=>by have:=(h.own.lt _ e.symm).1;omega)];exact h2.r
 ·rw [hg.block _ (Array.getElem?_eq_some_iff.1 h2.d).1 (fun e=>by have:=(h.own.lt _ e.symm).1;omega)];exact h2.d
 ·have e:Ye ((ts++[(k,nm)]).map natT)=Ye (ts.map natT)++[.int .i64 k,.string ⟨nm.toArray⟩]:=by simp [Ye,tyC,natT]
  rw [e,List.length_append]
  exact ho
 ·exact h2.bel.grown hg h2.bel.size (fun x e=>by have:=(h.own.lt _ e).1;omega)
theorem Rp.cell {v':Value} (h:Rp w v v' ts wr):wr.cell? ⟨w.heap.size+1,0,none⟩=some v∧wr.frozen? ⟨w.heap.size+1,0,none⟩=false:=by
 constructor
 ·rw [cell_of_row _ (w.heap.size+1) 0 _ 124 (0,0) h.d];rfl
 ·simp [World.frozen?,h.d]
theorem Rp.put {v':Value} (h:Rp w v v' ts wr):Rq w v' ts false 0 ⟨#[]⟩ (wr.setCell ⟨w.heap.size+1,0,none⟩ v'):=by
 have hg:=grownBy_set wr (w.heap.size+1) 0 v'
 refine ⟨?_,?_,h.own.kept hg (.inr (fun e=>by have:=(h.own.lt _ e).1;omega)),h.bel.setCell (by show w.heap.size≤w.heap.size+1;omega) _⟩
 ·rw [hg.block _ (Array.getElem?_eq_some_iff.1 h.r).1 (by simp)];exact h.r
 ·rw [heap_setCell_same wr (w.heap.size+1) 0 _ 124 _ h.d];rfl
end
theorem Zbb {l:List UInt8} (h:descOf l=none):J0 l=none:=by rw [Yf,h]
theorem Jh {l:List UInt8} (h:Z7 l=none):J0 l=none:=Zbb (by rw [descOf,h])
theorem Zi8 (s:ByteArray) (i:Nat) (h:i<s.size) (c:UInt8):(((s[i]).toNat:Int) != (c.toNat:Int))=!decide (s[i]=c):=by
 rw [bne,Yh s i h c]
set_option maxHeartbeats 8000000 in
theorem Y5 (s:ByteArray) (hs:s.size≤maxLen) (w:World) :
 Calls Tryz.prog 83 #[.string s] w fun e w'=>DOut s.data.toList w e w':=by
 have hlen:s.data.toList.length=s.size:=by simp
 obtain ⟨i24,hi24,hz0,hz1,hz2⟩:=info_parts Tryz.info122
 unfold maxLen at hs
 by_cases hbig:2000<s.size
 ·have HE:Hid (pdE s.data.toList=5):=by rw [Hid,pdE,if_pos (by rw [hlen];exact hbig)]
  clear hlen
  go_enter Tryz.func83,Tryz.ntmps83
  go_wp2
  exact bodyPost_ret (v:=.tuple #[.agg #[.slice none 0 0,.bool false,.int .i64 0,.string ⟨#[]⟩],.int .i64 5]) (by simp [results,Tryz.results83,go_sem, *]) rfl (Zs HE.out (by decide) ((Below.refl _ _).alloc (Nat.le_refl _) _))
 ·have hl2:s.data.toList.length≤2000:=by rw [hlen];omega
  have HE:Hid (pdE s.data.toList=match J0 s.data.toList with
   | none=>4
   | some d=>if Y0 d then 5 else 0):=by rw [Hid,pdE,if_neg (by rw [hlen];exact hbig)];rfl
  have H4:Hid (J0 s.data.toList=none→pdE s.data.toList=4):=fun h=>by rw [HE.out,h]
  have H0:Hid (Rq w (.slice none 0 0) [] false 0 ⟨#[]⟩ ((w.alloc (.cells #[.slice none 0 0,.bool false,.int .i64 0,.string ⟨#[]⟩] 124)).alloc (.cells #[.slice none 0 0,.bool false,.int .i64 0,.string ⟨#[]⟩] 124))):=Rq.first w
  obtain ⟨c0,c1,c2,c3,f0,f1,f2,f3,hz⟩:=H0.out.cells
  have HSZ:Hid _:=hlen
  clear hlen
  by_cases h0:s.size=0
  ·have HP:Hid (pdE s.data.toList=4):=H4.out (by
    have:s.data.toList=[]:=List.length_eq_zero_iff.1 (by rw [HSZ.out];exact h0)
    rw [this];rfl)
   have hq0:((s.size:Int) == 0)=true:=by simp [h0]
   clear HE H4
   go_enter Tryz.func83,Tryz.ntmps83
   go_wp2
   exact bodyPost_ret (v:=.tuple #[.agg #[.slice none 0 0,.bool false,.int .i64 0,.string ⟨#[]⟩],.int .i64 4]) (by simp [results,Tryz.results83,go_sem, *]) rfl (Zs HP.out (by decide) H0.out.bel)
  ·have hpos:0<s.size:=by omega
   have hq0:((s.size:Int) == 0)=false:=by rw [beq_eq_false_iff_ne];omega
   by_cases h40:s[0]=40
   ·have q40:(((s[0]).toNat:Int) != 40)=false:=by rw [h40];rfl
    have HO:Hid (Z7 s.data.toList=raf (s.data.toList.drop 1)):=by
     have:=Zo s 0 hpos
     rw [List.drop_zero,h40] at this
     rw [Hid]
     conv=>lhs;rw [this]
     rfl
    clear h40 c0 c1 c2 c3 f0 f1 f2 f3 hz h0
    go_enter Tryz.func83,Tryz.ntmps83
    go_wp2
    go_loopw [5,6] (fun wv av wr=>∃ (q:Nat) (ts:List (Nat×List UInt8)) (v:Value),wv=.bool ((ts.map natT).any Xi)∧av=.int .i64 q∧q≤s.size∧ts.length≤q∧Hid (Rq w v ts false 0 ⟨#[]⟩ wr)∧Hid (Z7 s.data.toList=(raf (s.data.toList.drop q)).map (fun p=>(ts++p.1,p.2)))) (fun _ av _=>s.size - (intOf av).toNat)
    case atStart=>exact ⟨1,[],_,rfl,rfl,by omega,by simp,H0,by rw [Hid,HO.out];cases raf (s.data.toList.drop 1) <;> rfl⟩
    case round =>
     clear H0 HO q40
     obtain ⟨q,ts,v,rfl,rfl,hq,htl,hR,hA⟩:=hrel
     obtain ⟨c0,c1,c2,c3,c4,c5,c6,c7,c8⟩:=hR.out.cells;obtain ⟨c9,ca,cb,cc,cd,ce,cf,cg,ch⟩:=hR.out.cellsD
     obtain ⟨wb,hwb⟩:∃ wb,(ts.map natT).any Xi=wb:=⟨_,rfl⟩
     have HWB:Hid _:=hwb
     rw [hwb]
     clear hwb
     by_cases hlt:q<s.size
     ·by_cases h41:s[q]=41
      ·have q41:(((s[q]).toNat:Int) != 41)=false:=by rw [h41];rfl
       have HG:Hid (Z7 s.data.toList=some (ts,s.data.toList.drop (q+1))):=by rw [Hid,hA.out,Zo s q hlt,h41,Zhz];simp
       obtain ⟨p,hpq⟩:∃ p,p=q+1:=⟨_,rfl⟩
       have hp:(q:Int)+1=(p:Int):=by omega
       rw [← hpq] at HG
       have HPQ:Hid _:=hpq
       have hps:p≤s.size:=by omega
       clear hpq h41 hA
       by_cases hv:p<s.size∧s.data.toList[p]?=some 86
       ·obtain ⟨hl1,h86⟩:=hv
        have h86':s[p]=86:=by
         have:=Lib.Pa.at_eq s p hl1
         rw [this] at h86
         exact Option.some.inj h86
        have q86:(((s[p]).toNat:Int) == 86)=true:=by rw [h86'];rfl
        obtain ⟨p2,hpq2⟩:∃ p2,p2=p+1:=⟨_,rfl⟩
        have hp2:(p:Int)+1=(p2:Int):=by omega
        have HD:Hid (descOf s.data.toList=some ((ts,none),s.data.toList.drop p2)):=by
         rw [Hid,descOf,HG.out,Zo s p hl1,h86',hpq2]
         simp
        have V1:Hid (Rq w v ts true 0 ⟨#[]⟩ (wr.setCell ⟨w.heap.size+1,1,none⟩ (.bool true))):=hR.out.put rfl
        obtain ⟨e0,e1,e2,e3,e4,e5,e6,e7,e8⟩:=V1.out.cells;obtain ⟨e9,ea,eb,ec,ed,ee,ef,eg,eh⟩:=V1.out.cellsD
        by_cases hend:p2=s.size
        ·have HRD:Hid (J0 s.data.toList=some (ts,none)):=by rw [Hid,Yf,HD.out,Y3 s p2 (by omega)]
         have hne:((p2:Int) != (s.size:Int))=false:=by rw [hend];simp
         cases wb with
         | true =>
           have HP:Hid (pdE s.data.toList=5):=by rw [Hid,HE.out,HRD.out];simp [Y0,HWB.out]
           have HDone:Hid _:=(V1.out.done (.slice none 0 0) (.bool false) (.int .i64 0) (.string ⟨#[]⟩)).2
           clear hpq2 hend HD HE H4 hR V1 h86 h86' HRD
           go_wp2
           exact bodyPost_ret (v:=.tuple #[.agg #[.slice none 0 0,.bool false,.int .i64 0,.string ⟨#[]⟩],.int .i64 5]) (by simp [results,Tryz.results83,go_sem, *]) rfl (Zs HP.out (by decide) HDone.out)
         | false =>
           obtain ⟨ao,cap,rfl⟩:=Zd V1.out.own
           by_cases h20:20<ts.length
           ·have HP:Hid (pdE s.data.toList=5):=by rw [Hid,HE.out,HRD.out];simp [Y0,h20]
            have h20':(20:Int)<(ts.length:Int):=by omega
            have HDone:Hid _:=(V1.out.done (.slice none 0 0) (.bool false) (.int .i64 0) (.string ⟨#[]⟩)).2
            clear hpq2 hend HD HE H4 hR V1 h86 h86' HRD
            go_wp2
            exact bodyPost_ret (v:=.tuple #[.agg #[.slice none 0 0,.bool false,.int .i64 0,.string ⟨#[]⟩],.int .i64 5]) (by simp [results,Tryz.results83,go_sem, *]) rfl (Zs HP.out (by decide) HDone.out)
           ·have HL:Hid (Y0 (ts,none)=false):=by simp [Hid,Y0,HWB.out,retT];omega
            have h20':¬ (20:Int)<(ts.length:Int):=by omega
            have HDone:Hid _:=V1.out.done (.slice ao ts.length cap) (.bool true) (.int .i64 0) (.string ⟨#[]⟩)
            have HOK:Hid _:=Ze2 HRD.out hl2 HL.out HDone.out.1 HDone.out.2
            clear hpq2 hend HD HE H4 hR V1 h86 h86' HRD HDone HL
            go_wp2
            exact bodyPost_ret (v:=.tuple #[.agg #[.slice ao ts.length cap,.bool true,.int .i64 0,.string ⟨#[]⟩],.int .i64 0]) (by simp [results,Tryz.results83,go_sem, *]) rfl HOK.out
        ·have HP:Hid (pdE s.data.toList=4):=H4.out (by
          rw [Yf,HD.out]
          cases e:s.data.toList.drop p2 with
          | nil =>
            have:=congrArg List.length e
            rw [List.length_drop,HSZ.out] at this
            simp at this
            omega
          | cons=>rfl)
         have hne:((p2:Int) != (s.size:Int))=true:=by rw [bne_iff_ne];omega
         have HDone:Hid _:=(V1.out.done (.slice none 0 0) (.bool false) (.int .i64 0) (.string ⟨#[]⟩)).2
         clear hpq2 hend HD HE H4 hR V1 h86 h86'
         go_wp2
         exact bodyPost_ret (v:=.tuple #[.agg #[.slice none 0 0,.bool false,.int .i64 0,.string ⟨#[]⟩],.int .i64 4]) (by simp [results,Tryz.results83,go_sem, *]) rfl (Zs HP.out (by decide) HDone.out)
       ·have hh:(s.data.toList.drop p).head?≠some 86:=by
         rw [List.head?_drop]
         intro e
         by_cases hl1:p<s.size
         ·exact hv ⟨hl1,e⟩
         ·rw [List.getElem?_eq_none (by rw [HSZ.out];omega)] at e;simp at e
        obtain ⟨ao,cap,rfl⟩:=Zd hR.out.own
        cases hr:Zx (s.data.toList.drop p) with
        | none =>
          have HP:Hid (pdE s.data.toList=4):=H4.out (Zbb (by rw [descOf,HG.out];simp only;rw [if_neg hh,hr]))
          have HR:Hid (∀ w,Calls Tryz.prog 101 #[.string s,.int .i64 p] w fun e w'=>(∃ x y,e=.returned (.tuple #[.agg #[.int .i64 x,.string y],.int .i64 (-1)]))∧Bw w w'):=fun w=>by
           have h:=Qo s (by omega) p hps w
           unfold Yi at h
           rw [hr] at h
           exact h
          have hne:((-1:Int) != (s.size:Int))=true:=by rw [bne_iff_ne];omega
          by_cases hl1:p<s.size
          ·have q86:(((s[p]).toNat:Int) == 86)=false:=by
            have h1:s[p]≠86:=fun e=>hv ⟨hl1,by rw [Lib.Pa.at_eq s p hl1,e]⟩
            have:=Yh s p hl1 86;simp only [h1,decide_false] at this;exact this
           clear hh hr HG HE H4 hv HPQ HWB
           (cases wb)
           all_goals
            go_wp2_with (go_at_call 101;refine ((HR.out) _).mono ?_;rintro e w1 ⟨⟨x,y,rfl⟩,hb1⟩;have R1:Hid (Rq w (.slice ao ts.length cap) ts false 0 ⟨#[]⟩ w1):=hR.out.keep hb1;clear hb1;obtain ⟨e0,e1,e2,e3,e4,e5,e6,e7,e8⟩:=R1.out.cells;obtain ⟨e9,ea,eb,ec,ed,ee,ef,eg,eh⟩:=R1.out.cellsD)
            have HV:Hid (Rq w (.slice ao ts.length cap) ts false x y ((w1.setCell ⟨w.heap.size+1,2,none⟩ (.int .i64 x)).setCell ⟨w.heap.size+1,3,none⟩ (.string y))):=(R1.out.put rfl).put rfl
            have HDone:=HV.out.done (.slice none 0 0) (.bool false) (.int .i64 0) (.string ⟨#[]⟩)
            exact bodyPost_ret (v:=.tuple #[.agg #[.slice none 0 0,.bool false,.int .i64 0,.string ⟨#[]⟩],.int .i64 4]) (by simp [results,Tryz.results83,go_sem, *]) rfl (Zs HP.out (by decide) (HDone.2.alloc HDone.2.size _))
          ·clear hh hr HG HE H4 hv HPQ HWB
           (cases wb)
           all_goals
            go_wp2_with (go_at_call 101;refine ((HR.out) _).mono ?_;rintro e w1 ⟨⟨x,y,rfl⟩,hb1⟩;have R1:Hid (Rq w (.slice ao ts.length cap) ts false 0 ⟨#[]⟩ w1):=hR.out.keep hb1;clear hb1;obtain ⟨e0,e1,e2,e3,e4,e5,e6,e7,e8⟩:=R1.out.cells;obtain ⟨e9,ea,eb,ec,ed,ee,ef,eg,eh⟩:=R1.out.cellsD)
            have HV:Hid (Rq w (.slice ao ts.length cap) ts false x y ((w1.setCell ⟨w.heap.size+1,2,none⟩ (.int .i64 x)).setCell ⟨w.heap.size+1,3,none⟩ (.string y))):=(R1.out.put rfl).put rfl
            have HDone:=HV.out.done (.slice none 0 0) (.bool false) (.int .i64 0) (.string ⟨#[]⟩)
            exact bodyPost_ret (v:=.tuple #[.agg #[.slice none 0 0,.bool false,.int .i64 0,.string ⟨#[]⟩],.int .i64 4]) (by simp [results,Tryz.results83,go_sem, *]) rfl (Zs HP.out (by decide) (HDone.2.alloc HDone.2.size _))
        | some pp =>
          obtain ⟨⟨k,nm⟩,r⟩:=pp
          have HD:Hid (descOf s.data.toList=some ((ts,some (k,nm)),r)):=by rw [Hid,descOf,HG.out];simp only;rw [if_neg hh,hr]
          have hl1:p<s.size:=by
           by_cases hl1:p<s.size
           ·exact hl1
           ·rw [Y3 s p (by omega)] at hr;simp [Zx,Zr] at hr
          obtain ⟨_,hrq,hrl⟩:=Qn hr
          rw [HSZ.out] at hrq hrl
          have q86:(((s[p]).toNat:Int) == 86)=false:=by
           have h1:s[p]≠86:=fun e=>hv ⟨hl1,by rw [Lib.Pa.at_eq s p hl1,e]⟩
           have:=Yh s p hl1 86;simp only [h1,decide_false] at this;exact this
          obtain ⟨m,hm⟩:∃ m:Nat,s.size - r.length=m:=⟨_,rfl⟩
          have HR:Hid (∀ w,Calls Tryz.prog 101 #[.string s,.int .i64 p] w fun e w'=>e=.returned (.tuple #[.agg #[.int .i64 k,.string ⟨nm.toArray⟩],.int .i64 m])∧Bw w w'):=fun w=>by
           have h:=Qo s (by omega) p hps w
           unfold Yi at h
           rw [hr] at h
           have e1:(s.size:Int) - (r.length:Int)=(m:Int):=by omega
           simp only [e1] at h
           exact h
          by_cases hend:r=[]
          ·have HRD:Hid (J0 s.data.toList=some (ts,some (k,nm))):=by rw [Hid,Yf,HD.out,hend]
           have hms:m=s.size:=by rw [← hm,hend];rfl
           subst hms
           have hne:((s.size:Int) != (s.size:Int))=false:=by simp
           have hlg:Y0 (ts,some (k,nm))=(decide (20<ts.length)||decide (255<k)||wb):=by rw [← HWB.out];rfl
           have HLG:Hid _:=hlg
           clear hh hr HG H4 hv HPQ HD hend hrq hrl hm hlg
           by_cases hbad:wb=true∨255<k
           ·have HP:Hid (pdE s.data.toList=5):=by
             rw [Hid,HE.out,HRD.out]
             rcases hbad with h|h <;> simp [HLG.out,h]
            cases wb with
            | true =>
              clear HE HRD HLG hbad HWB
              go_wp2_with (go_at_call 101;refine ((HR.out) _).mono ?_;rintro e w1 ⟨rfl,hb1⟩;have R1:Hid (Rq w (.slice ao ts.length cap) ts false 0 ⟨#[]⟩ w1):=hR.out.keep hb1;clear hb1;obtain ⟨e0,e1,e2,e3,e4,e5,e6,e7,e8⟩:=R1.out.cells;obtain ⟨e9,ea,eb,ec,ed,ee,ef,eg,eh⟩:=R1.out.cellsD)
              have HV:Hid (Rq w (.slice ao ts.length cap) ts false k ⟨nm.toArray⟩ ((w1.setCell ⟨w.heap.size+1,2,none⟩ (.int .i64 k)).setCell ⟨w.heap.size+1,3,none⟩ (.string ⟨nm.toArray⟩))):=(R1.out.put rfl).put rfl
              have HDone:=HV.out.done (.slice none 0 0) (.bool false) (.int .i64 0) (.string ⟨#[]⟩)
              exact bodyPost_ret (v:=.tuple #[.agg #[.slice none 0 0,.bool false,.int .i64 0,.string ⟨#[]⟩],.int .i64 5]) (by simp [results,Tryz.results83,go_sem, *]) rfl (Zs HP.out (by decide) (HDone.2.alloc HDone.2.size _))
            | false =>
              have hk:(255:Int)<(k:Int):=by simp at hbad;omega
              clear HE HRD HLG hbad HWB
              go_wp2_with (go_at_call 101;refine ((HR.out) _).mono ?_;rintro e w1 ⟨rfl,hb1⟩;have R1:Hid (Rq w (.slice ao ts.length cap) ts false 0 ⟨#[]⟩ w1):=hR.out.keep hb1;clear hb1;obtain ⟨e0,e1,e2,e3,e4,e5,e6,e7,e8⟩:=R1.out.cells;obtain ⟨e9,ea,eb,ec,ed,ee,ef,eg,eh⟩:=R1.out.cellsD)
              have HV:Hid (Rq w (.slice ao ts.length cap) ts false k ⟨nm.toArray⟩ ((w1.setCell ⟨w.heap.size+1,2,none⟩ (.int .i64 k)).setCell ⟨w.heap.size+1,3,none⟩ (.string ⟨nm.toArray⟩))):=(R1.out.put rfl).put rfl
              have HDone:=HV.out.done (.slice none 0 0) (.bool false) (.int .i64 0) (.string ⟨#[]⟩)
              exact bodyPost_ret (v:=.tuple #[.agg #[.slice none 0 0,.bool false,.int .i64 0,.string ⟨#[]⟩],.int .i64 5]) (by simp [results,Tryz.results83,go_sem, *]) rfl (Zs HP.out (by decide) (HDone.2.alloc HDone.2.size _))
           ·have hwf:wb=false:=by cases wb <;> simp at hbad ⊢
            subst hwf
            have hk:¬ (255:Int)<(k:Int):=by simp at hbad;omega
            by_cases h20:20<ts.length
            ·have HP:Hid (pdE s.data.toList=5):=by rw [Hid,HE.out,HRD.out];simp [HLG.out,h20]
             have h20':(20:Int)<(ts.length:Int):=by omega
             clear HE HRD HLG hbad HWB
             go_wp2_with (go_at_call 101;refine ((HR.out) _).mono ?_;rintro e w1 ⟨rfl,hb1⟩;have R1:Hid (Rq w (.slice ao ts.length cap) ts false 0 ⟨#[]⟩ w1):=hR.out.keep hb1;clear hb1;obtain ⟨e0,e1,e2,e3,e4,e5,e6,e7,e8⟩:=R1.out.cells;obtain ⟨e9,ea,eb,ec,ed,ee,ef,eg,eh⟩:=R1.out.cellsD)
             have HV:Hid (Rq w (.slice ao ts.length cap) ts false k ⟨nm.toArray⟩ ((w1.setCell ⟨w.heap.size+1,2,none⟩ (.int .i64 k)).setCell ⟨w.heap.size+1,3,none⟩ (.string ⟨nm.toArray⟩))):=(R1.out.put rfl).put rfl
             have HDone:=HV.out.done (.slice none 0 0) (.bool false) (.int .i64 0) (.string ⟨#[]⟩)
             exact bodyPost_ret (v:=.tuple #[.agg #[.slice none 0 0,.bool false,.int .i64 0,.string ⟨#[]⟩],.int .i64 5]) (by simp [results,Tryz.results83,go_sem, *]) rfl (Zs HP.out (by decide) (HDone.2.alloc HDone.2.size _))
            ·have HL:Hid (Y0 (ts,some (k,nm))=false):=by rw [Hid,HLG.out];simp;omega
             have h20':¬ (20:Int)<(ts.length:Int):=by omega
             have HOK:Hid (∀ (v:Value) (w':World),w'.ownsRow w.heap.size 122 2 v ts.length (Ye (ts.map natT))→Bw w w'→DOut s.data.toList w (.returned (.tuple #[.agg #[v,.bool false,.int .i64 k,.string ⟨nm.toArray⟩],.int .i64 0])) w'):=fun v w' ho hb=>Ze2 HRD.out hl2 HL.out ho hb
             clear HE HRD HLG hbad HWB HL
             go_wp2_with (go_at_call 101;refine ((HR.out) _).mono ?_;rintro e w1 ⟨rfl,hb1⟩;have R1:Hid (Rq w (.slice ao ts.length cap) ts false 0 ⟨#[]⟩ w1):=hR.out.keep hb1;clear hb1;obtain ⟨e0,e1,e2,e3,e4,e5,e6,e7,e8⟩:=R1.out.cells;obtain ⟨e9,ea,eb,ec,ed,ee,ef,eg,eh⟩:=R1.out.cellsD)
             have HV:Hid (Rq w (.slice ao ts.length cap) ts false k ⟨nm.toArray⟩ ((w1.setCell ⟨w.heap.size+1,2,none⟩ (.int .i64 k)).setCell ⟨w.heap.size+1,3,none⟩ (.string ⟨nm.toArray⟩))):=(R1.out.put rfl).put rfl
             have HDone:=HV.out.done (.slice ao ts.length cap) (.bool false) (.int .i64 k) (.string ⟨nm.toArray⟩)
             exact bodyPost_ret (v:=.tuple #[.agg #[.slice ao ts.length cap,.bool false,.int .i64 k,.string ⟨nm.toArray⟩],.int .i64 0]) (by simp [results,Tryz.results83,go_sem, *]) rfl (HOK.out _ _ (HDone.1.alloc _) (HDone.2.alloc HDone.2.size _))
          ·have HP:Hid (pdE s.data.toList=4):=H4.out (by
            rw [Yf,HD.out]
            cases r with
            | nil=>exact absurd rfl hend
            | cons=>rfl)
           have hne:((m:Int) != (s.size:Int))=true:=by
            have:=List.length_pos_iff.2 hend
            rw [bne_iff_ne];omega
           clear hh hr HG HE H4 hv HPQ HD hend hrq hrl hm HWB
           cases wb
           ·go_wp2_with (go_at_call 101;refine ((HR.out) _).mono ?_;rintro e w1 ⟨rfl,hb1⟩;have R1:Hid (Rq w (.slice ao ts.length cap) ts false 0 ⟨#[]⟩ w1):=hR.out.keep hb1;clear hb1;obtain ⟨e0,e1,e2,e3,e4,e5,e6,e7,e8⟩:=R1.out.cells;obtain ⟨e9,ea,eb,ec,ed,ee,ef,eg,eh⟩:=R1.out.cellsD)
            have HV:Hid (Rq w (.slice ao ts.length cap) ts false k ⟨nm.toArray⟩ ((w1.setCell ⟨w.heap.size+1,2,none⟩ (.int .i64 k)).setCell ⟨w.heap.size+1,3,none⟩ (.string ⟨nm.toArray⟩))):=(R1.out.put rfl).put rfl
            have HDone:=HV.out.done (.slice none 0 0) (.bool false) (.int .i64 0) (.string ⟨#[]⟩)
            exact bodyPost_ret (v:=.tuple #[.agg #[.slice none 0 0,.bool false,.int .i64 0,.string ⟨#[]⟩],.int .i64 4]) (by simp [results,Tryz.results83,go_sem, *]) rfl (Zs HP.out (by decide) (HDone.2.alloc HDone.2.size _))
           ·go_wp2_with (go_at_call 101;refine ((HR.out) _).mono ?_;rintro e w1 ⟨rfl,hb1⟩;have R1:Hid (Rq w (.slice ao ts.length cap) ts false 0 ⟨#[]⟩ w1):=hR.out.keep hb1;clear hb1;obtain ⟨e0,e1,e2,e3,e4,e5,e6,e7,e8⟩:=R1.out.cells;obtain ⟨e9,ea,eb,ec,ed,ee,ef,eg,eh⟩:=R1.out.cellsD)
            have HV:Hid (Rq w (.slice ao ts.length cap) ts false k ⟨nm.toArray⟩ ((w1.setCell ⟨w.heap.size+1,2,none⟩ (.int .i64 k)).setCell ⟨w.heap.size+1,3,none⟩ (.string ⟨nm.toArray⟩))):=(R1.out.put rfl).put rfl
            have HDone:=HV.out.done (.slice none 0 0) (.bool false) (.int .i64 0) (.string ⟨#[]⟩)
            exact bodyPost_ret (v:=.tuple #[.agg #[.slice none 0 0,.bool false,.int .i64 0,.string ⟨#[]⟩],.int .i64 4]) (by simp [results,Tryz.results83,go_sem, *]) rfl (Zs HP.out (by decide) (HDone.2.alloc HDone.2.size _))
      ·have q41:(((s[q]).toNat:Int) != 41)=true:=by have:=Zi8 s q hlt 41;simp only [h41,decide_false,Bool.not_false] at this;exact this
       cases hr:Zx (s.data.toList.drop q) with
       | none =>
         have HP:Hid (pdE s.data.toList=4):=H4.out (Jh (by
          have h2:=hr
          rw [Zo s q hlt] at h2
          rw [hA.out,Zo s q hlt,Zh0 h41 h2];rfl))
         have HR:Hid (∀ w,Calls Tryz.prog 101 #[.string s,.int .i64 q] w fun e w'=>(∃ x y,e=.returned (.tuple #[.agg #[.int .i64 x,.string y],.int .i64 (-1)]))∧Bw w w'):=fun w=>by
          have h:=Qo s (by omega) q hq w
          unfold Yi at h
          rw [hr] at h
          exact h
         clear hr HE H4 HWB h41 hA
         go_wp2_with (go_at_call 101;refine ((HR.out) _).mono ?_;rintro e w1 ⟨⟨x,y,rfl⟩,hb1⟩;have R1:Hid (Rq w v ts false 0 ⟨#[]⟩ w1):=hR.out.keep hb1;clear hb1;obtain ⟨e0,e1,e2,e3,e4,e5,e6,e7,e8⟩:=R1.out.cells;obtain ⟨e9,ea,eb,ec,ed,ee,ef,eg,eh⟩:=R1.out.cellsD)
         exact bodyPost_ret (v:=.tuple #[.agg #[.slice none 0 0,.bool false,.int .i64 0,.string ⟨#[]⟩],.int .i64 4]) (by simp [results,Tryz.results83,go_sem, *]) rfl (Zs HP.out (by decide) ((R1.out.done _ _ _ _).2.alloc ((R1.out.done _ _ _ _).2.size) _))
       | some pp =>
         obtain ⟨⟨k,nm⟩,r⟩:=pp
         obtain ⟨hrd,hrq,hrl⟩:=Qn hr
         rw [HSZ.out] at hrd hrq hrl
         have HA2:Hid (Z7 s.data.toList=(raf (s.data.toList.drop (s.size - r.length))).map (fun p=>((ts++[(k,nm)])++p.1,p.2))):=by
          have h2:=hr
          rw [Zo s q hlt] at h2
          rw [Hid,hA.out,Zo s q hlt,Zfi h41 h2,← hrd]
          cases raf r <;> simp
         obtain ⟨m,hm⟩:∃ m:Nat,s.size - r.length=m:=⟨_,rfl⟩
         rw [hm] at HA2 hrq
         have HR:Hid (∀ w,Calls Tryz.prog 101 #[.string s,.int .i64 q] w fun e w'=>e=.returned (.tuple #[.agg #[.int .i64 k,.string ⟨nm.toArray⟩],.int .i64 m])∧Bw w w'):=fun w=>by
          have h:=Qo s (by omega) q hq w
          unfold Yi at h
          rw [hr] at h
          have e1:(s.size:Int) - (r.length:Int)=(m:Int):=by omega
          simp only [e1] at h
          exact h
         have hms:m≤s.size:=by omega
         have HW2:Hid (((ts++[(k,nm)]).map natT).any Xi=(wb||decide ((255:Int)<(k:Int)))):=by rw [Hid,List.map_append,List.any_append,HWB.out];simp [natT,Xi]
         clear hr HE H4 HWB h41 hA hrd hrl hm
         cases wb
         ·go_wp2_with (first
           | (go_at_call 101;refine ((HR.out) _).mono ?_;rintro e w1 ⟨rfl,hb1⟩;have R1:Hid (Rq w v ts false 0 ⟨#[]⟩ w1):=hR.out.keep hb1;clear hb1;obtain ⟨e0,e1,e2,e3,e4,e5,e6,e7,e8⟩:=R1.out.cells;obtain ⟨e9,ea,eb,ec,ed,ee,ef,eg,eh⟩:=R1.out.cellsD)
           | (at_builtin;refine wpList_append_own _ rfl _ _ 120 rfl (w.heap.size+2) 122 i24 (.agg #[.int .i64 0,.string ⟨#[]⟩]) 2 24 Tryz.underlying120 hi24 hz0 hz1 hz2 rfl (by decide) _ _ _ rfl ((R1.out.own.alloc _).alloc _) ⟨w1.heap.size+1,0,none⟩ 1 1 [.int .i64 k,.string ⟨nm.toArray⟩] rfl rfl ?c1 ?c2 ?c3 ?c4 ?c5 ?_))
          case c1=>exact Zbv w1 _ _ _ _
          case c2=>intro u hu;simp at hu;rcases hu with rfl|rfl <;> rfl
          case c3=>unfold maxLen;omega
          case c4=>omega
          case c5=>simp;omega
          ·intro v' w3 hown' hgrow _
           obtain ⟨ao',cap',rfl⟩:=Zd hown'
           have R2:Hid (Rp w v (.slice ao' (ts.length+1) cap') (ts++[(k,nm)]) w3):=R1.out.app _ _ hown' hgrow
           obtain ⟨x0,x1⟩:=R2.out.cell
           have R3:Hid (Rq w (.slice ao' (ts.length+1) cap') (ts++[(k,nm)]) false 0 ⟨#[]⟩ (w3.setCell ⟨w.heap.size+1,0,none⟩ (.slice ao' (ts.length+1) cap'))):=R2.out.put
           clear hown' hgrow R2 R1 hR
           go_wp2
           go_roundw
           case rel=>exact ⟨m,ts++[(k,nm)],_,by rw [HW2.out];rfl,rfl,hms,by simp;omega,R3,HA2⟩
           case measure=>simp [intOf];omega
         ·go_wp2_with (first
           | (go_at_call 101;refine ((HR.out) _).mono ?_;rintro e w1 ⟨rfl,hb1⟩;have R1:Hid (Rq w v ts false 0 ⟨#[]⟩ w1):=hR.out.keep hb1;clear hb1;obtain ⟨e0,e1,e2,e3,e4,e5,e6,e7,e8⟩:=R1.out.cells;obtain ⟨e9,ea,eb,ec,ed,ee,ef,eg,eh⟩:=R1.out.cellsD)
           | (at_builtin;refine wpList_append_own _ rfl _ _ 120 rfl (w.heap.size+2) 122 i24 (.agg #[.int .i64 0,.string ⟨#[]⟩]) 2 24 Tryz.underlying120 hi24 hz0 hz1 hz2 rfl (by decide) _ _ _ rfl ((R1.out.own.alloc _).alloc _) ⟨w1.heap.size+1,0,none⟩ 1 1 [.int .i64 k,.string ⟨nm.toArray⟩] rfl rfl ?c1 ?c2 ?c3 ?c4 ?c5 ?_))
          case c1=>exact Zbv w1 _ _ _ _
          case c2=>intro u hu;simp at hu;rcases hu with rfl|rfl <;> rfl
          case c3=>unfold maxLen;omega
          case c4=>omega
          case c5=>simp;omega
          ·intro v' w3 hown' hgrow _
           obtain ⟨ao',cap',rfl⟩:=Zd hown'
           have R2:Hid (Rp w v (.slice ao' (ts.length+1) cap') (ts++[(k,nm)]) w3):=R1.out.app _ _ hown' hgrow
           obtain ⟨x0,x1⟩:=R2.out.cell
           have R3:Hid (Rq w (.slice ao' (ts.length+1) cap') (ts++[(k,nm)]) false 0 ⟨#[]⟩ (w3.setCell ⟨w.heap.size+1,0,none⟩ (.slice ao' (ts.length+1) cap'))):=R2.out.put
           clear hown' hgrow R2 R1 hR
           go_wp2
           go_roundw
           case rel=>exact ⟨m,ts++[(k,nm)],_,by rw [HW2.out];rfl,rfl,hms,by simp;omega,R3,HA2⟩
           case measure=>simp [intOf];omega
     ·have HP:Hid (pdE s.data.toList=4):=H4.out (Jh (by rw [hA.out,Y3 s q (by omega),Zhy];rfl))
      have HDone:Hid _:=(hR.out.done (.slice none 0 0) (.bool false) (.int .i64 0) (.string ⟨#[]⟩)).2
      have hge:¬ ((q:Int)<(s.size:Int)):=by omega
      clear hA HE H4 hR HWB
      go_wp2
      exact bodyPost_ret (v:=.tuple #[.agg #[.slice none 0 0,.bool false,.int .i64 0,.string ⟨#[]⟩],.int .i64 4]) (by simp [results,Tryz.results83,go_sem, *]) rfl (Zs HP.out (by decide) HDone.out)
   ·have q40:(((s[0]).toNat:Int) != 40)=true:=by have:=Zi8 s 0 hpos 40;simp only [h40,decide_false,Bool.not_false] at this;exact this
    have HP:Hid (pdE s.data.toList=4):=H4.out (Jh (by
     have:=Zo s 0 hpos
     rw [List.drop_zero] at this
     rw [this]
     unfold Z7
     split
     ·rename_i e;simp at e;exact absurd e.1 h40
     ·rfl))
    clear HE H4 h40 c0 c1 c2 c3 f0 f1 f2 f3 hz h0
    go_enter Tryz.func83,Tryz.ntmps83
    go_wp2
    exact bodyPost_ret (v:=.tuple #[.agg #[.slice none 0 0,.bool false,.int .i64 0,.string ⟨#[]⟩],.int .i64 4]) (by simp [results,Tryz.results83,go_sem, *]) rfl (Zs HP.out (by decide) H0.out.bel)
end Go.Proofs.YtkoogmegdfpopaaGreat
