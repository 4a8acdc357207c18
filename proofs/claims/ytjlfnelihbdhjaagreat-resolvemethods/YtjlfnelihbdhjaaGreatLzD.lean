import Derived.Test.YtjlfnelihbdhjaaGreatRwB
import Derived.Test.YtjlfnelihbdhjaaGreatRfZ
import Derived.Test.YtjlfnelihbdhjaaGreatLwG
import Derived.Test.YtjlfnelihbdhjaaGreatRfL
import Derived.Deep.DeepCutAuto
set_option maxRecDepth 100000
namespace Go.Proofs.YtjlfnelihbdhjaaGreat
open Go.RowKit Go.Maps
theorem prf_ref (l:List UInt8) (h:prfE l=0) (h0:(prfT l).1=0):(prfT l).2≠[]:=by
  unfold prfE at h
  unfold prfT at h0 ⊢
  by_cases h1:2000<l.length
  · rw [if_pos h1] at h;exact absurd h (by decide)
  · rw [if_neg h1] at h h0 ⊢
    by_cases h2:l.head?=some 91
    · rw [if_pos h2] at h h0
      exfalso
      unfold parT at h0
      rw [if_pos h] at h0
      unfold parE at h
      rw [if_neg h1] at h
      cases e:readT l with
      | none=>rw [e] at h;exact absurd h (by decide)
      | some p =>
        rw [e] at h0
        obtain ⟨t,r⟩:=p
        simp only at h0
        have hw:=(write_read e).1
        rw [writeT,h0] at hw
        rw [hw] at h2
        by_cases h3:t.2=[]
        · rw [if_pos h3] at h2;simp at h2
        · rw [if_neg h3] at h2;simp at h2
    · rw [if_neg h2] at h ⊢
      split at h
      · rename_i hv
        rw [if_pos hv]
        intro h3
        have h4:l=[]:=h3
        rw [h4,valid_nil] at hv
        cases hv
      · exact absurd h (by decide)
theorem cls_hld {ps:List Plc} {d:Int} {l:List UInt8} (h:(clsR ps d l).2=0):(hldR ps (clsR ps d l).1.1 (clsR ps d l).1.2).2=0∧(0<(clsR ps d l).1.1→(hldR ps (clsR ps d l).1.1 (clsR ps d l).1.2).1=0):=by
  have hT:=cls_facts h
  have hK:prfE l=0∧(clsR ps d l).1=(((prfT l).1:Int),tyS l):=by
    unfold clsR at h ⊢
    split at h
    · rename_i h0
      rw [if_pos h0]
      split at h
      · rename_i h1
        rw [if_pos h1]
        split at h
        · rename_i h2
          rw [if_pos h2]
          exact ⟨h1,rfl⟩
        · rename_i h2;exact absurd h h2
      · exact absurd h (by decide)
    · rename_i h0;exact absurd h h0
  obtain ⟨hpe,hK⟩:=hK
  rw [hK] at hT ⊢
  have hld:ldI ps ((prfT l).1:Int) (tyS l)=0:=by
    unfold toP at hT
    split at hT
    · split at hT
      · rename_i h0;exact h0
      · exact absurd (congrArg Prod.fst hT) (by simp)
    · exact absurd (congrArg Prod.fst hT) (by simp)
  have hne:(prfT l).1=0→(tyS l).toList.isEmpty=false:=fun h0=>by
    have:=prf_ref l hpe h0
    rw [Lib.toList_data]
    simpa [tyS] using this
  have hint:intB ((prfT l).1:Int) (tyS l)=false:=by
    unfold intB
    by_cases h0:(prfT l).1=0
    · rw [hne h0];simp
    · have:(((prfT l).1:Int) == 0)=false:=by
        have h1:¬ ((prfT l).1:Int)=0:=by omega
        simpa using h1
      rw [this];rfl
  unfold hldR
  simp only [hld,if_true,hint,Bool.false_eq_true,if_false]
  by_cases hx:(0:Int)<((prfT l).1:Int)
  · simp only [if_pos hx]
    exact ⟨trivial,fun _=>trivial⟩
  · simp only [if_neg hx]
    obtain ⟨_,_,hk⟩:=ld_facts hld
    obtain ⟨k,hk⟩:=hk (hne (by omega))
    rw [hk]
    exact ⟨rfl,fun h=>absurd h hx⟩
theorem top_cls {ps:List Plc} (hW:WI ps):ifcI ps 0=false:=by
  obtain ⟨n,h0,_,_,hi⟩:=hW.wo.top
  rw [List.getElem?_map] at h0
  cases e:ps[0]? with
  | none=>rw [e] at h0;cases h0
  | some q =>
    rw [e] at h0
    have:nd q=n:=Option.some.inj h0
    have h1:plcI ps 0=some q:=by
      have:=plcI_nat ps 0
      rw [e] at this
      exact this
    rw [ifcI,h1]
    rw [← this] at hi
    exact hi
def metD (ps:List Plc) (d:Int) (y:Bool) (c n ds:ByteArray):(Int×Int)×Int :=
  if (clsR ps d c.data.toList).2=0 then
    (if y=true∧0<(clsR ps d c.data.toList).1.1 then ((0,0),23) else
      (if (lbyR ps y n ds (hldR ps (clsR ps d c.data.toList).1.1 (clsR ps d c.data.toList).1.2).1).2=0 then
        (if (moP ps d (lbyR ps y n ds (hldR ps (clsR ps d c.data.toList).1.1 (clsR ps d c.data.toList).1.2).1).1.1 (lbyR ps y n ds (hldR ps (clsR ps d c.data.toList).1.1 (clsR ps d c.data.toList).1.2).1).1.2 (hldR ps (clsR ps d c.data.toList).1.1 (clsR ps d c.data.toList).1.2).1).1=true then ((lbyR ps y n ds (hldR ps (clsR ps d c.data.toList).1.1 (clsR ps d c.data.toList).1.2).1).1,0) else ((0,0),22))
        else ((0,0),(lbyR ps y n ds (hldR ps (clsR ps d c.data.toList).1.1 (clsR ps d c.data.toList).1.2).1).2)))
    else ((0,0),(clsR ps d c.data.toList).2)
theorem metD_eq {ps:List Plc} (hW:WI ps) {d:Int} {p:Plc} (hd:plcI ps d=some p) (y:Bool) (c n ds:ByteArray):metS ps d y c n ds=metD ps d y c n ds:=by
  unfold metS metD
  by_cases h0:(clsR ps d c.data.toList).2=0
  · rw [if_pos h0,if_pos h0]
    obtain ⟨h1,h1b⟩:=cls_hld h0
    rw [if_pos h1]
    generalize clsR ps d c.data.toList=K at *
    generalize hldR ps K.1.1 K.1.2=H at *
    by_cases hy:y=true∧0<K.1.1
    · rw [if_pos hy]
      have e:lbyR ps y n ds H.1=((0,0),23):=by
        rw [h1b hy.2,hy.1]
        show lifR ps n ds 0=((0,0),23)
        have hp:∃ q,plcI ps 0=some q:=by
          have hl:=hW.lo
          exact ⟨ps[0],by have:=plcI_nat ps 0;rw [List.getElem?_eq_getElem (by omega)] at this;exact this⟩
        obtain ⟨q,hq⟩:=hp
        rw [lifR,hq]
        simp only
        rw [top_cls hW];rfl
      rw [e]
      rfl
    · rw [if_neg hy]
      by_cases h2:(lbyR ps y n ds H.1).2=0
      · rw [if_pos h2,if_pos h2]
        obtain ⟨⟨x,hx,_,_⟩,hex,_⟩:=lby_facts hW (m:=(lbyR ps y n ds H.1).1) (Prod.ext rfl h2)
        generalize (lbyR ps y n ds H.1).1=m at *
        obtain ⟨k,q,hk1,hk2,hk3,_⟩:=meth_plc hx
        have hh:∃ r,plcI ps H.1=some r:=by
          unfold extI at hex
          cases e:plcI ps H.1 with
          | none=>rw [e] at hex;simp at hex
          | some r=>exact ⟨r,rfl⟩
        obtain ⟨r,hr⟩:=hh
        have hmo:moP ps d m.1 m.2 H.1=(mOpen ps d m.1 H.1 x.fl (samePk q p),0):=by unfold moP;rw [hd,hr,hk3,hx]
        rw [hmo]
        cases mOpen ps d m.1 H.1 x.fl (samePk q p) <;> rfl
      · rw [if_neg h2,if_neg h2]
  · rw [if_neg h0,if_neg h0]
set_option maxHeartbeats 4000000 in
theorem rMet_c {b:Nat} {cs:List Cls} {ps:List Plc} {W:World} (h:RAt b cs W) (ht:TwW cs ps) (hJ:WJ ps) (d:Int) (y:Bool) (c n ds:ByteArray) (hc:c.size≤maxLen) (hn:n.size≤maxLen) (hd:ds.size≤maxLen):Calls Tryz.prog 33 #[.pointer (some ⟨b,0,none⟩),.int .i64 d,.agg #[.bool y,.string c,.string n,.string ds]] W fun e w'=>e=.returned (idE (metR ps d y c n ds))∧Below W.heap.size W w':=by
  have HI:Hid (∀ w,Below W.heap.size W w→Calls Tryz.prog 76 #[.pointer (some ⟨b,0,none⟩),.int .i64 d] w fun e w'=>e=.returned (.bool (plcI ps d).isSome)∧Below w.heap.size w w'):=fun w hb=>(rIn_t (h.below hb) ht d).mono fun e w' zz=>⟨zz.1,by rw [zz.2];exact Below.refl _ _⟩
  have HR:Hid (∀ w:World,Calls Tryz.prog 89 #[.agg #[.bool y,.string c,.string n,.string ds]] w fun e w'=>e=.returned (.int .i64 (rckE c.data.toList n.data.toList ds.data.toList))∧Below w.heap.size w w'):=fun w=>(rRefCheck_any y c n ds hc hn hd w).mono fun e w' zz=>⟨zz.1,by first|exact zz.2|(rw [zz.2];exact Below.refl _ _)⟩
  have HK:Hid (∀ w,Below W.heap.size W w→Calls Tryz.prog 90 #[.pointer (some ⟨b,0,none⟩),.int .i64 d,.string c] w fun e w'=>e=.returned (tyE (clsR ps d c.data.toList))∧Below w.heap.size w w'):=fun w hb=>rCls_c (h.below hb) ht d c hc
  have hsz:=cls_size ps d c.data.toList
  cases hpd:plcI ps d with
  | none =>
    have e:metR ps d y c n ds=((0,0),3):=by rw [metR,rck_none hpd];rfl
    rw [e]
    rw [hpd] at HI
    simp only [Option.isSome_none] at HI
    clear h ht hJ hc hn hd hsz e hpd HR HK
    go_enter Tryz.func33,Tryz.ntmps33
    go_wp2_with (first
      | (go_at_call 76;refine (HI.out _ (by repeat (first|exact Below.refl _ _|refine Below.setCell ?_ (by simp;try omega) _|refine Below.alloc ?_ (by simp;try omega) _|refine Below.drew ?_))).mono ?_;rintro e w1 ⟨rfl,hb⟩;have rrd:=kp4 (n:=W.heap.size) hb;(try clear rrB rr0 rr1 rr2 rr3 rrf rrL rrN);obtain ⟨rrB,rr0,rr1,rr2,rr3,rrf,rrL,rrN⟩:=rrd;have zd:=kp2 (n:=W.heap.size+1) hb;(try clear zB z0 z1 zf zL zN);obtain ⟨zB,z0,z1,zf,zL,zN⟩:=zd;have B1:Hid (Below W.heap.size W w1):=bstep (by repeat (first|exact Below.refl _ _|refine Below.setCell ?_ (by simp;try omega) _|refine Below.alloc ?_ (by simp;try omega) _|refine Below.drew ?_)) hb;clear hb HI))
    exact bodyPost_ret (v:=idE ((0,0),3)) (by simp [results,Tryz.results33,go_sem,idE, *]) rfl ⟨rfl,(by repeat (first|refine Below.setCell ?_ (by simp;try omega) _|refine Below.alloc ?_ (by have:=B1.out.size;simp;try omega) _|exact B1.out))⟩
  | some p =>
    rw [hpd] at HI
    simp only [Option.isSome_some] at HI
    have eM:metR ps d y c n ds=if rckE c.data.toList n.data.toList ds.data.toList=0 then metD ps d y c n ds else ((0,0),1):=by
      rw [metR,rck_some hpd,if_pos rfl,metD_eq ht.wi hpd]
    rw [eM]
    unfold metD
    clear eM
    generalize clsR ps d c.data.toList=K at *
    obtain ⟨⟨t1,t2⟩,t3⟩:=K
    simp only [tyE] at HK hsz ⊢
    have HH:Hid (∀ w,Below W.heap.size W w→Calls Tryz.prog 91 #[.pointer (some ⟨b,0,none⟩),.agg #[.int .i64 t1,.string t2]] w fun e w'=>e=.returned (.tuple #[.int .i64 (hldR ps t1 t2).1,.int .i64 (hldR ps t1 t2).2])∧Below w.heap.size w w'):=fun w hb=>rHld_c (h.below hb) ht t1 t2 hsz
    generalize hldR ps t1 t2=H at *
    obtain ⟨h1,h2⟩:=H
    simp only at HH ⊢
    have HL1:Hid (∀ w,Below W.heap.size W w→Calls Tryz.prog 92 #[.pointer (some ⟨b,0,none⟩),.int .i64 h1,.string n,.string ds] w fun e w'=>e=.returned (idE (lbyR ps true n ds h1))∧Below w.heap.size w w'):=fun w hb=>rLif_c (h.below hb) ht hJ h1 n ds
    have HL2:Hid (∀ w,Below W.heap.size W w→Calls Tryz.prog 93 #[.pointer (some ⟨b,0,none⟩),.int .i64 h1,.string n,.string ds] w fun e w'=>e=.returned (idE (lbyR ps false n ds h1))∧Below w.heap.size w w'):=fun w hb=>rLook_c (h.below hb) ht hJ h1 n ds
    have HO0:=fun (m1 m2:Int) (w:World) (hb:Below W.heap.size W w)=>rMO_c (h.below hb) ht hJ d m1 m2 h1
    generalize rckE c.data.toList n.data.toList ds.data.toList=rc at *
    clear h ht hJ hc hn hd hsz hpd
    by_cases g0:rc=0
    · subst g0
      rw [if_pos rfl]
      by_cases g1:t3=0
      · subst g1
        rw [if_pos rfl]
        cases y with
        | true =>
          clear HL2
          have HL:=HL1
          clear HL1
          generalize lbyR ps true n ds h1=M at *
          obtain ⟨⟨m1,m2⟩,m3⟩:=M
          simp only [idE] at HL
          have HO:Hid (∀ w,Below W.heap.size W w→Calls Tryz.prog 94 #[.pointer (some ⟨b,0,none⟩),.int .i64 d,.agg #[.int .i64 m1,.int .i64 m2],.int .i64 h1] w fun e w'=>e=.returned (.tuple #[.bool (moP ps d m1 m2 h1).1,.int .i64 (moP ps d m1 m2 h1).2])∧Below w.heap.size w w'):=HO0 m1 m2
          clear HO0
          simp only
          generalize moP ps d m1 m2 h1=O at *
          obtain ⟨o1,o2⟩:=O
          simp only at HO ⊢
          by_cases g2:0<t1
          · rw [if_pos ⟨trivial,g2⟩]
            clear HL HO
            go_enter Tryz.func33,Tryz.ntmps33
            go_wp2_with (first
              | (go_at_call 76;refine (HI.out _ (by repeat (first|exact Below.refl _ _|refine Below.setCell ?_ (by simp;try omega) _|refine Below.alloc ?_ (by simp;try omega) _|refine Below.drew ?_))).mono ?_;rintro e w1 ⟨rfl,hb⟩;have rrd:=kp4 (n:=W.heap.size) hb;(try clear rrB rr0 rr1 rr2 rr3 rrf rrL rrN);obtain ⟨rrB,rr0,rr1,rr2,rr3,rrf,rrL,rrN⟩:=rrd;have zd:=kp2 (n:=W.heap.size+1) hb;(try clear zB z0 z1 zf zL zN);obtain ⟨zB,z0,z1,zf,zL,zN⟩:=zd;have B1:Hid (Below W.heap.size W w1):=bstep (by repeat (first|exact Below.refl _ _|refine Below.setCell ?_ (by simp;try omega) _|refine Below.alloc ?_ (by simp;try omega) _|refine Below.drew ?_)) hb;clear hb HI)
              | (go_at_call 89;refine (HR.out _).mono ?_;rintro e w2 ⟨rfl,hb⟩;have rrd:=kp4 (n:=W.heap.size) hb;(try clear rrB rr0 rr1 rr2 rr3 rrf rrL rrN);obtain ⟨rrB,rr0,rr1,rr2,rr3,rrf,rrL,rrN⟩:=rrd;have zd:=kp2 (n:=W.heap.size+1) hb;(try clear zB z0 z1 zf zL zN);obtain ⟨zB,z0,z1,zf,zL,zN⟩:=zd;have B2:Hid (Below W.heap.size W w2):=bstep B1.out hb;clear hb HR)
              | (go_at_call 90;refine (HK.out _ B2.out).mono ?_;rintro e w3 ⟨rfl,hb⟩;have rrd:=kp4 (n:=W.heap.size) hb;(try clear rrB rr0 rr1 rr2 rr3 rrf rrL rrN);obtain ⟨rrB,rr0,rr1,rr2,rr3,rrf,rrL,rrN⟩:=rrd;have zd:=kp2 (n:=W.heap.size+1) hb;(try clear zB z0 z1 zf zL zN);obtain ⟨zB,z0,z1,zf,zL,zN⟩:=zd;have B3:Hid (Below W.heap.size W w3):=bstep B2.out hb;clear hb HK)
              | (go_at_call 91;refine (HH.out _ (B3.out.alloc B3.out.size _)).mono ?_;rintro e w4 ⟨rfl,hb⟩;have hb3:W.heap.size+1<w3.heap.size:=zL;have rrd:=kp4 (n:=W.heap.size) hb;(try clear rrB rr0 rr1 rr2 rr3 rrf rrL rrN);obtain ⟨rrB,rr0,rr1,rr2,rr3,rrf,rrL,rrN⟩:=rrd;have zd:=kp2 (n:=W.heap.size+1) hb;(try clear zB z0 z1 zf zL zN);obtain ⟨zB,z0,z1,zf,zL,zN⟩:=zd;have ttd:=kp2 (n:=w3.heap.size) hb;(try clear ttB tt0 tt1 ttf ttL ttN);obtain ⟨ttB,tt0,tt1,ttf,ttL,ttN⟩:=ttd;have B4:Hid (Below W.heap.size W w4):=bstep (B3.out.alloc B3.out.size _) hb;clear hb HH))
            exact bodyPost_ret (v:=idE ((0,0),23)) (by simp [results,Tryz.results33,go_sem,idE, *]) rfl ⟨rfl,(by repeat (first|refine Below.setCell ?_ (by simp;try omega) _|refine Below.alloc ?_ (by have:=B4.out.size;simp;try omega) _|exact B4.out))⟩
          · rw [if_neg (fun h=>g2 h.2)]
            by_cases g3:m3=0
            · subst g3
              rw [if_pos rfl]
              cases o1 with
              | true =>
                rw [if_pos rfl]
                go_enter Tryz.func33,Tryz.ntmps33
                go_wp2_with (first
                  | (go_at_call 76;refine (HI.out _ (by repeat (first|exact Below.refl _ _|refine Below.setCell ?_ (by simp;try omega) _|refine Below.alloc ?_ (by simp;try omega) _|refine Below.drew ?_))).mono ?_;rintro e w1 ⟨rfl,hb⟩;have rrd:=kp4 (n:=W.heap.size) hb;(try clear rrB rr0 rr1 rr2 rr3 rrf rrL rrN);obtain ⟨rrB,rr0,rr1,rr2,rr3,rrf,rrL,rrN⟩:=rrd;have zd:=kp2 (n:=W.heap.size+1) hb;(try clear zB z0 z1 zf zL zN);obtain ⟨zB,z0,z1,zf,zL,zN⟩:=zd;have B1:Hid (Below W.heap.size W w1):=bstep (by repeat (first|exact Below.refl _ _|refine Below.setCell ?_ (by simp;try omega) _|refine Below.alloc ?_ (by simp;try omega) _|refine Below.drew ?_)) hb;clear hb HI)
                  | (go_at_call 89;refine (HR.out _).mono ?_;rintro e w2 ⟨rfl,hb⟩;have rrd:=kp4 (n:=W.heap.size) hb;(try clear rrB rr0 rr1 rr2 rr3 rrf rrL rrN);obtain ⟨rrB,rr0,rr1,rr2,rr3,rrf,rrL,rrN⟩:=rrd;have zd:=kp2 (n:=W.heap.size+1) hb;(try clear zB z0 z1 zf zL zN);obtain ⟨zB,z0,z1,zf,zL,zN⟩:=zd;have B2:Hid (Below W.heap.size W w2):=bstep B1.out hb;clear hb HR)
                  | (go_at_call 90;refine (HK.out _ B2.out).mono ?_;rintro e w3 ⟨rfl,hb⟩;have rrd:=kp4 (n:=W.heap.size) hb;(try clear rrB rr0 rr1 rr2 rr3 rrf rrL rrN);obtain ⟨rrB,rr0,rr1,rr2,rr3,rrf,rrL,rrN⟩:=rrd;have zd:=kp2 (n:=W.heap.size+1) hb;(try clear zB z0 z1 zf zL zN);obtain ⟨zB,z0,z1,zf,zL,zN⟩:=zd;have B3:Hid (Below W.heap.size W w3):=bstep B2.out hb;clear hb HK)
                  | (go_at_call 91;refine (HH.out _ (B3.out.alloc B3.out.size _)).mono ?_;rintro e w4 ⟨rfl,hb⟩;have hb3:W.heap.size+1<w3.heap.size:=zL;have rrd:=kp4 (n:=W.heap.size) hb;(try clear rrB rr0 rr1 rr2 rr3 rrf rrL rrN);obtain ⟨rrB,rr0,rr1,rr2,rr3,rrf,rrL,rrN⟩:=rrd;have zd:=kp2 (n:=W.heap.size+1) hb;(try clear zB z0 z1 zf zL zN);obtain ⟨zB,z0,z1,zf,zL,zN⟩:=zd;have ttd:=kp2 (n:=w3.heap.size) hb;(try clear ttB tt0 tt1 ttf ttL ttN);obtain ⟨ttB,tt0,tt1,ttf,ttL,ttN⟩:=ttd;have B4:Hid (Below W.heap.size W w4):=bstep (B3.out.alloc B3.out.size _) hb;clear hb HH)
                  | (go_at_call 92;refine (HL.out _ (B4.out.alloc B4.out.size _)).mono ?_;rintro e w5 ⟨rfl,hb⟩;have hn5:¬ w4.heap.size=W.heap.size+1:=(by omega);have hm5:¬ W.heap.size+1=w4.heap.size:=(by omega);have hl5:W.heap.size≤w4.heap.size:=(by omega);have zd:=kp2 (n:=W.heap.size+1) hb;(try clear zB z0 z1 zf zL zN);obtain ⟨zB,z0,z1,zf,zL,zN⟩:=zd;have mmd:=kp2 (n:=w4.heap.size) hb;(try clear mmB mm0 mm1 mmf mmL mmN);obtain ⟨mmB,mm0,mm1,mmf,mmL,mmN⟩:=mmd;have B5:Hid (Below W.heap.size W w5):=bstep (B4.out.alloc B4.out.size _) hb;clear hb HL)
                  | (go_at_call 94;refine (HO.out _ ((B5.out.setCell (by simp;try omega) _).setCell (by simp;try omega) _)).mono ?_;rintro e w6 ⟨rfl,hb⟩;have zd:w6.heap[W.heap.size+1]?=some (.cells #[.int .i64 0,.int .i64 0] 24 (0,0)):=(hb.block (W.heap.size+1) (by simp;try omega)).trans (by rw [heap_setCell_other _ _ _ _ (by simp;omega),heap_setCell_other _ _ _ _ (by simp;omega)];exact zB.out);have md:w6.heap[w4.heap.size]?=some (.cells #[.int .i64 m1,.int .i64 m2] 24 (0,0)):=(hb.block w4.heap.size (by simp;try omega)).trans (by rw [heap_setCell_same _ _ _ #[.int .i64 m1,.int .i64 0] 24 _ (by rw [heap_setCell_same _ _ _ _ _ _ mmB.out];rfl)];rfl);have B6:Hid (Below W.heap.size W w6):=bstep ((B5.out.setCell (by simp;try omega) _).setCell (by simp;try omega) _) hb;clear hb HO zB z0 z1 zf zL zN mmB mm0 mm1 mmf mmL mmN;obtain ⟨z0,z1,zf0,zf1,zL,_⟩:=row_facts (W:=W) zd;obtain ⟨g0,g1,gf0,gf1,gL,_⟩:=row_facts (W:=W) md;clear zd md))
                exact bodyPost_ret (v:=idE ((m1,m2),0)) (by simp [results,Tryz.results33,go_sem,idE, *]) rfl ⟨rfl,(by repeat (first|refine Below.setCell ?_ (by simp;try omega) _|refine Below.alloc ?_ (by have:=B6.out.size;simp;try omega) _|exact B6.out))⟩
              | false =>
                rw [if_neg (by simp)]
                go_enter Tryz.func33,Tryz.ntmps33
                go_wp2_with (first
                  | (go_at_call 76;refine (HI.out _ (by repeat (first|exact Below.refl _ _|refine Below.setCell ?_ (by simp;try omega) _|refine Below.alloc ?_ (by simp;try omega) _|refine Below.drew ?_))).mono ?_;rintro e w1 ⟨rfl,hb⟩;have rrd:=kp4 (n:=W.heap.size) hb;(try clear rrB rr0 rr1 rr2 rr3 rrf rrL rrN);obtain ⟨rrB,rr0,rr1,rr2,rr3,rrf,rrL,rrN⟩:=rrd;have zd:=kp2 (n:=W.heap.size+1) hb;(try clear zB z0 z1 zf zL zN);obtain ⟨zB,z0,z1,zf,zL,zN⟩:=zd;have B1:Hid (Below W.heap.size W w1):=bstep (by repeat (first|exact Below.refl _ _|refine Below.setCell ?_ (by simp;try omega) _|refine Below.alloc ?_ (by simp;try omega) _|refine Below.drew ?_)) hb;clear hb HI)
                  | (go_at_call 89;refine (HR.out _).mono ?_;rintro e w2 ⟨rfl,hb⟩;have rrd:=kp4 (n:=W.heap.size) hb;(try clear rrB rr0 rr1 rr2 rr3 rrf rrL rrN);obtain ⟨rrB,rr0,rr1,rr2,rr3,rrf,rrL,rrN⟩:=rrd;have zd:=kp2 (n:=W.heap.size+1) hb;(try clear zB z0 z1 zf zL zN);obtain ⟨zB,z0,z1,zf,zL,zN⟩:=zd;have B2:Hid (Below W.heap.size W w2):=bstep B1.out hb;clear hb HR)
                  | (go_at_call 90;refine (HK.out _ B2.out).mono ?_;rintro e w3 ⟨rfl,hb⟩;have rrd:=kp4 (n:=W.heap.size) hb;(try clear rrB rr0 rr1 rr2 rr3 rrf rrL rrN);obtain ⟨rrB,rr0,rr1,rr2,rr3,rrf,rrL,rrN⟩:=rrd;have zd:=kp2 (n:=W.heap.size+1) hb;(try clear zB z0 z1 zf zL zN);obtain ⟨zB,z0,z1,zf,zL,zN⟩:=zd;have B3:Hid (Below W.heap.size W w3):=bstep B2.out hb;clear hb HK)
                  | (go_at_call 91;refine (HH.out _ (B3.out.alloc B3.out.size _)).mono ?_;rintro e w4 ⟨rfl,hb⟩;have hb3:W.heap.size+1<w3.heap.size:=zL;have rrd:=kp4 (n:=W.heap.size) hb;(try clear rrB rr0 rr1 rr2 rr3 rrf rrL rrN);obtain ⟨rrB,rr0,rr1,rr2,rr3,rrf,rrL,rrN⟩:=rrd;have zd:=kp2 (n:=W.heap.size+1) hb;(try clear zB z0 z1 zf zL zN);obtain ⟨zB,z0,z1,zf,zL,zN⟩:=zd;have ttd:=kp2 (n:=w3.heap.size) hb;(try clear ttB tt0 tt1 ttf ttL ttN);obtain ⟨ttB,tt0,tt1,ttf,ttL,ttN⟩:=ttd;have B4:Hid (Below W.heap.size W w4):=bstep (B3.out.alloc B3.out.size _) hb;clear hb HH)
                  | (go_at_call 92;refine (HL.out _ (B4.out.alloc B4.out.size _)).mono ?_;rintro e w5 ⟨rfl,hb⟩;have hn5:¬ w4.heap.size=W.heap.size+1:=(by omega);have hm5:¬ W.heap.size+1=w4.heap.size:=(by omega);have hl5:W.heap.size≤w4.heap.size:=(by omega);have zd:=kp2 (n:=W.heap.size+1) hb;(try clear zB z0 z1 zf zL zN);obtain ⟨zB,z0,z1,zf,zL,zN⟩:=zd;have mmd:=kp2 (n:=w4.heap.size) hb;(try clear mmB mm0 mm1 mmf mmL mmN);obtain ⟨mmB,mm0,mm1,mmf,mmL,mmN⟩:=mmd;have B5:Hid (Below W.heap.size W w5):=bstep (B4.out.alloc B4.out.size _) hb;clear hb HL)
                  | (go_at_call 94;refine (HO.out _ ((B5.out.setCell (by simp;try omega) _).setCell (by simp;try omega) _)).mono ?_;rintro e w6 ⟨rfl,hb⟩;have zd:w6.heap[W.heap.size+1]?=some (.cells #[.int .i64 0,.int .i64 0] 24 (0,0)):=(hb.block (W.heap.size+1) (by simp;try omega)).trans (by rw [heap_setCell_other _ _ _ _ (by simp;omega),heap_setCell_other _ _ _ _ (by simp;omega)];exact zB.out);have md:w6.heap[w4.heap.size]?=some (.cells #[.int .i64 m1,.int .i64 m2] 24 (0,0)):=(hb.block w4.heap.size (by simp;try omega)).trans (by rw [heap_setCell_same _ _ _ #[.int .i64 m1,.int .i64 0] 24 _ (by rw [heap_setCell_same _ _ _ _ _ _ mmB.out];rfl)];rfl);have B6:Hid (Below W.heap.size W w6):=bstep ((B5.out.setCell (by simp;try omega) _).setCell (by simp;try omega) _) hb;clear hb HO zB z0 z1 zf zL zN mmB mm0 mm1 mmf mmL mmN;obtain ⟨z0,z1,zf0,zf1,zL,_⟩:=row_facts (W:=W) zd;obtain ⟨g0,g1,gf0,gf1,gL,_⟩:=row_facts (W:=W) md;clear zd md))
                exact bodyPost_ret (v:=idE ((0,0),22)) (by simp [results,Tryz.results33,go_sem,idE, *]) rfl ⟨rfl,(by repeat (first|refine Below.setCell ?_ (by simp;try omega) _|refine Below.alloc ?_ (by have:=B6.out.size;simp;try omega) _|exact B6.out))⟩
            · rw [if_neg g3]
              clear HO
              go_enter Tryz.func33,Tryz.ntmps33
              go_wp2_with (first
                | (go_at_call 76;refine (HI.out _ (by repeat (first|exact Below.refl _ _|refine Below.setCell ?_ (by simp;try omega) _|refine Below.alloc ?_ (by simp;try omega) _|refine Below.drew ?_))).mono ?_;rintro e w1 ⟨rfl,hb⟩;have rrd:=kp4 (n:=W.heap.size) hb;(try clear rrB rr0 rr1 rr2 rr3 rrf rrL rrN);obtain ⟨rrB,rr0,rr1,rr2,rr3,rrf,rrL,rrN⟩:=rrd;have zd:=kp2 (n:=W.heap.size+1) hb;(try clear zB z0 z1 zf zL zN);obtain ⟨zB,z0,z1,zf,zL,zN⟩:=zd;have B1:Hid (Below W.heap.size W w1):=bstep (by repeat (first|exact Below.refl _ _|refine Below.setCell ?_ (by simp;try omega) _|refine Below.alloc ?_ (by simp;try omega) _|refine Below.drew ?_)) hb;clear hb HI)
                | (go_at_call 89;refine (HR.out _).mono ?_;rintro e w2 ⟨rfl,hb⟩;have rrd:=kp4 (n:=W.heap.size) hb;(try clear rrB rr0 rr1 rr2 rr3 rrf rrL rrN);obtain ⟨rrB,rr0,rr1,rr2,rr3,rrf,rrL,rrN⟩:=rrd;have zd:=kp2 (n:=W.heap.size+1) hb;(try clear zB z0 z1 zf zL zN);obtain ⟨zB,z0,z1,zf,zL,zN⟩:=zd;have B2:Hid (Below W.heap.size W w2):=bstep B1.out hb;clear hb HR)
                | (go_at_call 90;refine (HK.out _ B2.out).mono ?_;rintro e w3 ⟨rfl,hb⟩;have rrd:=kp4 (n:=W.heap.size) hb;(try clear rrB rr0 rr1 rr2 rr3 rrf rrL rrN);obtain ⟨rrB,rr0,rr1,rr2,rr3,rrf,rrL,rrN⟩:=rrd;have zd:=kp2 (n:=W.heap.size+1) hb;(try clear zB z0 z1 zf zL zN);obtain ⟨zB,z0,z1,zf,zL,zN⟩:=zd;have B3:Hid (Below W.heap.size W w3):=bstep B2.out hb;clear hb HK)
                | (go_at_call 91;refine (HH.out _ (B3.out.alloc B3.out.size _)).mono ?_;rintro e w4 ⟨rfl,hb⟩;have hb3:W.heap.size+1<w3.heap.size:=zL;have rrd:=kp4 (n:=W.heap.size) hb;(try clear rrB rr0 rr1 rr2 rr3 rrf rrL rrN);obtain ⟨rrB,rr0,rr1,rr2,rr3,rrf,rrL,rrN⟩:=rrd;have zd:=kp2 (n:=W.heap.size+1) hb;(try clear zB z0 z1 zf zL zN);obtain ⟨zB,z0,z1,zf,zL,zN⟩:=zd;have ttd:=kp2 (n:=w3.heap.size) hb;(try clear ttB tt0 tt1 ttf ttL ttN);obtain ⟨ttB,tt0,tt1,ttf,ttL,ttN⟩:=ttd;have B4:Hid (Below W.heap.size W w4):=bstep (B3.out.alloc B3.out.size _) hb;clear hb HH)
                | (go_at_call 92;refine (HL.out _ (B4.out.alloc B4.out.size _)).mono ?_;rintro e w5 ⟨rfl,hb⟩;have hn5:¬ w4.heap.size=W.heap.size+1:=(by omega);have hm5:¬ W.heap.size+1=w4.heap.size:=(by omega);have hl5:W.heap.size≤w4.heap.size:=(by omega);have zd:=kp2 (n:=W.heap.size+1) hb;(try clear zB z0 z1 zf zL zN);obtain ⟨zB,z0,z1,zf,zL,zN⟩:=zd;have mmd:=kp2 (n:=w4.heap.size) hb;(try clear mmB mm0 mm1 mmf mmL mmN);obtain ⟨mmB,mm0,mm1,mmf,mmL,mmN⟩:=mmd;have B5:Hid (Below W.heap.size W w5):=bstep (B4.out.alloc B4.out.size _) hb;clear hb HL))
              exact bodyPost_ret (v:=idE ((0,0),m3)) (by simp [results,Tryz.results33,go_sem,idE, *]) rfl ⟨rfl,(by repeat (first|refine Below.setCell ?_ (by simp;try omega) _|refine Below.alloc ?_ (by have:=B5.out.size;simp;try omega) _|exact B5.out))⟩
        | false =>
          clear HL1
          have HL:=HL2
          clear HL2
          generalize lbyR ps false n ds h1=M at *
          obtain ⟨⟨m1,m2⟩,m3⟩:=M
          simp only [idE] at HL
          have HO:Hid (∀ w,Below W.heap.size W w→Calls Tryz.prog 94 #[.pointer (some ⟨b,0,none⟩),.int .i64 d,.agg #[.int .i64 m1,.int .i64 m2],.int .i64 h1] w fun e w'=>e=.returned (.tuple #[.bool (moP ps d m1 m2 h1).1,.int .i64 (moP ps d m1 m2 h1).2])∧Below w.heap.size w w'):=HO0 m1 m2
          clear HO0
          simp only
          generalize moP ps d m1 m2 h1=O at *
          obtain ⟨o1,o2⟩:=O
          simp only at HO ⊢
          rw [if_neg (fun h=>by cases h.1)]
          by_cases g3:m3=0
          · subst g3
            rw [if_pos rfl]
            cases o1 with
            | true =>
              rw [if_pos rfl]
              go_enter Tryz.func33,Tryz.ntmps33
              go_wp2_with (first
                | (go_at_call 76;refine (HI.out _ (by repeat (first|exact Below.refl _ _|refine Below.setCell ?_ (by simp;try omega) _|refine Below.alloc ?_ (by simp;try omega) _|refine Below.drew ?_))).mono ?_;rintro e w1 ⟨rfl,hb⟩;have rrd:=kp4 (n:=W.heap.size) hb;(try clear rrB rr0 rr1 rr2 rr3 rrf rrL rrN);obtain ⟨rrB,rr0,rr1,rr2,rr3,rrf,rrL,rrN⟩:=rrd;have zd:=kp2 (n:=W.heap.size+1) hb;(try clear zB z0 z1 zf zL zN);obtain ⟨zB,z0,z1,zf,zL,zN⟩:=zd;have B1:Hid (Below W.heap.size W w1):=bstep (by repeat (first|exact Below.refl _ _|refine Below.setCell ?_ (by simp;try omega) _|refine Below.alloc ?_ (by simp;try omega) _|refine Below.drew ?_)) hb;clear hb HI)
                | (go_at_call 89;refine (HR.out _).mono ?_;rintro e w2 ⟨rfl,hb⟩;have rrd:=kp4 (n:=W.heap.size) hb;(try clear rrB rr0 rr1 rr2 rr3 rrf rrL rrN);obtain ⟨rrB,rr0,rr1,rr2,rr3,rrf,rrL,rrN⟩:=rrd;have zd:=kp2 (n:=W.heap.size+1) hb;(try clear zB z0 z1 zf zL zN);obtain ⟨zB,z0,z1,zf,zL,zN⟩:=zd;have B2:Hid (Below W.heap.size W w2):=bstep B1.out hb;clear hb HR)
                | (go_at_call 90;refine (HK.out _ B2.out).mono ?_;rintro e w3 ⟨rfl,hb⟩;have rrd:=kp4 (n:=W.heap.size) hb;(try clear rrB rr0 rr1 rr2 rr3 rrf rrL rrN);obtain ⟨rrB,rr0,rr1,rr2,rr3,rrf,rrL,rrN⟩:=rrd;have zd:=kp2 (n:=W.heap.size+1) hb;(try clear zB z0 z1 zf zL zN);obtain ⟨zB,z0,z1,zf,zL,zN⟩:=zd;have B3:Hid (Below W.heap.size W w3):=bstep B2.out hb;clear hb HK)
                | (go_at_call 91;refine (HH.out _ (B3.out.alloc B3.out.size _)).mono ?_;rintro e w4 ⟨rfl,hb⟩;have hb3:W.heap.size+1<w3.heap.size:=zL;have rrd:=kp4 (n:=W.heap.size) hb;(try clear rrB rr0 rr1 rr2 rr3 rrf rrL rrN);obtain ⟨rrB,rr0,rr1,rr2,rr3,rrf,rrL,rrN⟩:=rrd;have zd:=kp2 (n:=W.heap.size+1) hb;(try clear zB z0 z1 zf zL zN);obtain ⟨zB,z0,z1,zf,zL,zN⟩:=zd;have ttd:=kp2 (n:=w3.heap.size) hb;(try clear ttB tt0 tt1 ttf ttL ttN);obtain ⟨ttB,tt0,tt1,ttf,ttL,ttN⟩:=ttd;have B4:Hid (Below W.heap.size W w4):=bstep (B3.out.alloc B3.out.size _) hb;clear hb HH)
                | (go_at_call 93;refine (HL.out _ (B4.out.alloc B4.out.size _)).mono ?_;rintro e w5 ⟨rfl,hb⟩;have hn5:¬ w4.heap.size=W.heap.size+1:=(by omega);have hm5:¬ W.heap.size+1=w4.heap.size:=(by omega);have hl5:W.heap.size≤w4.heap.size:=(by omega);have zd:=kp2 (n:=W.heap.size+1) hb;(try clear zB z0 z1 zf zL zN);obtain ⟨zB,z0,z1,zf,zL,zN⟩:=zd;have mmd:=kp2 (n:=w4.heap.size) hb;(try clear mmB mm0 mm1 mmf mmL mmN);obtain ⟨mmB,mm0,mm1,mmf,mmL,mmN⟩:=mmd;have B5:Hid (Below W.heap.size W w5):=bstep (B4.out.alloc B4.out.size _) hb;clear hb HL)
                | (go_at_call 94;refine (HO.out _ ((B5.out.setCell (by simp;try omega) _).setCell (by simp;try omega) _)).mono ?_;rintro e w6 ⟨rfl,hb⟩;have zd:w6.heap[W.heap.size+1]?=some (.cells #[.int .i64 0,.int .i64 0] 24 (0,0)):=(hb.block (W.heap.size+1) (by simp;try omega)).trans (by rw [heap_setCell_other _ _ _ _ (by simp;omega),heap_setCell_other _ _ _ _ (by simp;omega)];exact zB.out);have md:w6.heap[w4.heap.size]?=some (.cells #[.int .i64 m1,.int .i64 m2] 24 (0,0)):=(hb.block w4.heap.size (by simp;try omega)).trans (by rw [heap_setCell_same _ _ _ #[.int .i64 m1,.int .i64 0] 24 _ (by rw [heap_setCell_same _ _ _ _ _ _ mmB.out];rfl)];rfl);have B6:Hid (Below W.heap.size W w6):=bstep ((B5.out.setCell (by simp;try omega) _).setCell (by simp;try omega) _) hb;clear hb HO zB z0 z1 zf zL zN mmB mm0 mm1 mmf mmL mmN;obtain ⟨z0,z1,zf0,zf1,zL,_⟩:=row_facts (W:=W) zd;obtain ⟨g0,g1,gf0,gf1,gL,_⟩:=row_facts (W:=W) md;clear zd md))
              exact bodyPost_ret (v:=idE ((m1,m2),0)) (by simp [results,Tryz.results33,go_sem,idE, *]) rfl ⟨rfl,(by repeat (first|refine Below.setCell ?_ (by simp;try omega) _|refine Below.alloc ?_ (by have:=B6.out.size;simp;try omega) _|exact B6.out))⟩
            | false =>
              rw [if_neg (by simp)]
              go_enter Tryz.func33,Tryz.ntmps33
              go_wp2_with (first
                | (go_at_call 76;refine (HI.out _ (by repeat (first|exact Below.refl _ _|refine Below.setCell ?_ (by simp;try omega) _|refine Below.alloc ?_ (by simp;try omega) _|refine Below.drew ?_))).mono ?_;rintro e w1 ⟨rfl,hb⟩;have rrd:=kp4 (n:=W.heap.size) hb;(try clear rrB rr0 rr1 rr2 rr3 rrf rrL rrN);obtain ⟨rrB,rr0,rr1,rr2,rr3,rrf,rrL,rrN⟩:=rrd;have zd:=kp2 (n:=W.heap.size+1) hb;(try clear zB z0 z1 zf zL zN);obtain ⟨zB,z0,z1,zf,zL,zN⟩:=zd;have B1:Hid (Below W.heap.size W w1):=bstep (by repeat (first|exact Below.refl _ _|refine Below.setCell ?_ (by simp;try omega) _|refine Below.alloc ?_ (by simp;try omega) _|refine Below.drew ?_)) hb;clear hb HI)
                | (go_at_call 89;refine (HR.out _).mono ?_;rintro e w2 ⟨rfl,hb⟩;have rrd:=kp4 (n:=W.heap.size) hb;(try clear rrB rr0 rr1 rr2 rr3 rrf rrL rrN);obtain ⟨rrB,rr0,rr1,rr2,rr3,rrf,rrL,rrN⟩:=rrd;have zd:=kp2 (n:=W.heap.size+1) hb;(try clear zB z0 z1 zf zL zN);obtain ⟨zB,z0,z1,zf,zL,zN⟩:=zd;have B2:Hid (Below W.heap.size W w2):=bstep B1.out hb;clear hb HR)
                | (go_at_call 90;refine (HK.out _ B2.out).mono ?_;rintro e w3 ⟨rfl,hb⟩;have rrd:=kp4 (n:=W.heap.size) hb;(try clear rrB rr0 rr1 rr2 rr3 rrf rrL rrN);obtain ⟨rrB,rr0,rr1,rr2,rr3,rrf,rrL,rrN⟩:=rrd;have zd:=kp2 (n:=W.heap.size+1) hb;(try clear zB z0 z1 zf zL zN);obtain ⟨zB,z0,z1,zf,zL,zN⟩:=zd;have B3:Hid (Below W.heap.size W w3):=bstep B2.out hb;clear hb HK)
                | (go_at_call 91;refine (HH.out _ (B3.out.alloc B3.out.size _)).mono ?_;rintro e w4 ⟨rfl,hb⟩;have hb3:W.heap.size+1<w3.heap.size:=zL;have rrd:=kp4 (n:=W.heap.size) hb;(try clear rrB rr0 rr1 rr2 rr3 rrf rrL rrN);obtain ⟨rrB,rr0,rr1,rr2,rr3,rrf,rrL,rrN⟩:=rrd;have zd:=kp2 (n:=W.heap.size+1) hb;(try clear zB z0 z1 zf zL zN);obtain ⟨zB,z0,z1,zf,zL,zN⟩:=zd;have ttd:=kp2 (n:=w3.heap.size) hb;(try clear ttB tt0 tt1 ttf ttL ttN);obtain ⟨ttB,tt0,tt1,ttf,ttL,ttN⟩:=ttd;have B4:Hid (Below W.heap.size W w4):=bstep (B3.out.alloc B3.out.size _) hb;clear hb HH)
                | (go_at_call 93;refine (HL.out _ (B4.out.alloc B4.out.size _)).mono ?_;rintro e w5 ⟨rfl,hb⟩;have hn5:¬ w4.heap.size=W.heap.size+1:=(by omega);have hm5:¬ W.heap.size+1=w4.heap.size:=(by omega);have hl5:W.heap.size≤w4.heap.size:=(by omega);have zd:=kp2 (n:=W.heap.size+1) hb;(try clear zB z0 z1 zf zL zN);obtain ⟨zB,z0,z1,zf,zL,zN⟩:=zd;have mmd:=kp2 (n:=w4.heap.size) hb;(try clear mmB mm0 mm1 mmf mmL mmN);obtain ⟨mmB,mm0,mm1,mmf,mmL,mmN⟩:=mmd;have B5:Hid (Below W.heap.size W w5):=bstep (B4.out.alloc B4.out.size _) hb;clear hb HL)
                | (go_at_call 94;refine (HO.out _ ((B5.out.setCell (by simp;try omega) _).setCell (by simp;try omega) _)).mono ?_;rintro e w6 ⟨rfl,hb⟩;have zd:w6.heap[W.heap.size+1]?=some (.cells #[.int .i64 0,.int .i64 0] 24 (0,0)):=(hb.block (W.heap.size+1) (by simp;try omega)).trans (by rw [heap_setCell_other _ _ _ _ (by simp;omega),heap_setCell_other _ _ _ _ (by simp;omega)];exact zB.out);have md:w6.heap[w4.heap.size]?=some (.cells #[.int .i64 m1,.int .i64 m2] 24 (0,0)):=(hb.block w4.heap.size (by simp;try omega)).trans (by rw [heap_setCell_same _ _ _ #[.int .i64 m1,.int .i64 0] 24 _ (by rw [heap_setCell_same _ _ _ _ _ _ mmB.out];rfl)];rfl);have B6:Hid (Below W.heap.size W w6):=bstep ((B5.out.setCell (by simp;try omega) _).setCell (by simp;try omega) _) hb;clear hb HO zB z0 z1 zf zL zN mmB mm0 mm1 mmf mmL mmN;obtain ⟨z0,z1,zf0,zf1,zL,_⟩:=row_facts (W:=W) zd;obtain ⟨g0,g1,gf0,gf1,gL,_⟩:=row_facts (W:=W) md;clear zd md))
              exact bodyPost_ret (v:=idE ((0,0),22)) (by simp [results,Tryz.results33,go_sem,idE, *]) rfl ⟨rfl,(by repeat (first|refine Below.setCell ?_ (by simp;try omega) _|refine Below.alloc ?_ (by have:=B6.out.size;simp;try omega) _|exact B6.out))⟩
          · rw [if_neg g3]
            clear HO
            go_enter Tryz.func33,Tryz.ntmps33
            go_wp2_with (first
              | (go_at_call 76;refine (HI.out _ (by repeat (first|exact Below.refl _ _|refine Below.setCell ?_ (by simp;try omega) _|refine Below.alloc ?_ (by simp;try omega) _|refine Below.drew ?_))).mono ?_;rintro e w1 ⟨rfl,hb⟩;have rrd:=kp4 (n:=W.heap.size) hb;(try clear rrB rr0 rr1 rr2 rr3 rrf rrL rrN);obtain ⟨rrB,rr0,rr1,rr2,rr3,rrf,rrL,rrN⟩:=rrd;have zd:=kp2 (n:=W.heap.size+1) hb;(try clear zB z0 z1 zf zL zN);obtain ⟨zB,z0,z1,zf,zL,zN⟩:=zd;have B1:Hid (Below W.heap.size W w1):=bstep (by repeat (first|exact Below.refl _ _|refine Below.setCell ?_ (by simp;try omega) _|refine Below.alloc ?_ (by simp;try omega) _|refine Below.drew ?_)) hb;clear hb HI)
              | (go_at_call 89;refine (HR.out _).mono ?_;rintro e w2 ⟨rfl,hb⟩;have rrd:=kp4 (n:=W.heap.size) hb;(try clear rrB rr0 rr1 rr2 rr3 rrf rrL rrN);obtain ⟨rrB,rr0,rr1,rr2,rr3,rrf,rrL,rrN⟩:=rrd;have zd:=kp2 (n:=W.heap.size+1) hb;(try clear zB z0 z1 zf zL zN);obtain ⟨zB,z0,z1,zf,zL,zN⟩:=zd;have B2:Hid (Below W.heap.size W w2):=bstep B1.out hb;clear hb HR)
              | (go_at_call 90;refine (HK.out _ B2.out).mono ?_;rintro e w3 ⟨rfl,hb⟩;have rrd:=kp4 (n:=W.heap.size) hb;(try clear rrB rr0 rr1 rr2 rr3 rrf rrL rrN);obtain ⟨rrB,rr0,rr1,rr2,rr3,rrf,rrL,rrN⟩:=rrd;have zd:=kp2 (n:=W.heap.size+1) hb;(try clear zB z0 z1 zf zL zN);obtain ⟨zB,z0,z1,zf,zL,zN⟩:=zd;have B3:Hid (Below W.heap.size W w3):=bstep B2.out hb;clear hb HK)
              | (go_at_call 91;refine (HH.out _ (B3.out.alloc B3.out.size _)).mono ?_;rintro e w4 ⟨rfl,hb⟩;have hb3:W.heap.size+1<w3.heap.size:=zL;have rrd:=kp4 (n:=W.heap.size) hb;(try clear rrB rr0 rr1 rr2 rr3 rrf rrL rrN);obtain ⟨rrB,rr0,rr1,rr2,rr3,rrf,rrL,rrN⟩:=rrd;have zd:=kp2 (n:=W.heap.size+1) hb;(try clear zB z0 z1 zf zL zN);obtain ⟨zB,z0,z1,zf,zL,zN⟩:=zd;have ttd:=kp2 (n:=w3.heap.size) hb;(try clear ttB tt0 tt1 ttf ttL ttN);obtain ⟨ttB,tt0,tt1,ttf,ttL,ttN⟩:=ttd;have B4:Hid (Below W.heap.size W w4):=bstep (B3.out.alloc B3.out.size _) hb;clear hb HH)
              | (go_at_call 93;refine (HL.out _ (B4.out.alloc B4.out.size _)).mono ?_;rintro e w5 ⟨rfl,hb⟩;have hn5:¬ w4.heap.size=W.heap.size+1:=(by omega);have hm5:¬ W.heap.size+1=w4.heap.size:=(by omega);have hl5:W.heap.size≤w4.heap.size:=(by omega);have zd:=kp2 (n:=W.heap.size+1) hb;(try clear zB z0 z1 zf zL zN);obtain ⟨zB,z0,z1,zf,zL,zN⟩:=zd;have mmd:=kp2 (n:=w4.heap.size) hb;(try clear mmB mm0 mm1 mmf mmL mmN);obtain ⟨mmB,mm0,mm1,mmf,mmL,mmN⟩:=mmd;have B5:Hid (Below W.heap.size W w5):=bstep (B4.out.alloc B4.out.size _) hb;clear hb HL))
            exact bodyPost_ret (v:=idE ((0,0),m3)) (by simp [results,Tryz.results33,go_sem,idE, *]) rfl ⟨rfl,(by repeat (first|refine Below.setCell ?_ (by simp;try omega) _|refine Below.alloc ?_ (by have:=B5.out.size;simp;try omega) _|exact B5.out))⟩
      · rw [if_neg g1]
        clear HH HL1 HL2 HO0
        go_enter Tryz.func33,Tryz.ntmps33
        go_wp2_with (first
          | (go_at_call 76;refine (HI.out _ (by repeat (first|exact Below.refl _ _|refine Below.setCell ?_ (by simp;try omega) _|refine Below.alloc ?_ (by simp;try omega) _|refine Below.drew ?_))).mono ?_;rintro e w1 ⟨rfl,hb⟩;have rrd:=kp4 (n:=W.heap.size) hb;(try clear rrB rr0 rr1 rr2 rr3 rrf rrL rrN);obtain ⟨rrB,rr0,rr1,rr2,rr3,rrf,rrL,rrN⟩:=rrd;have zd:=kp2 (n:=W.heap.size+1) hb;(try clear zB z0 z1 zf zL zN);obtain ⟨zB,z0,z1,zf,zL,zN⟩:=zd;have B1:Hid (Below W.heap.size W w1):=bstep (by repeat (first|exact Below.refl _ _|refine Below.setCell ?_ (by simp;try omega) _|refine Below.alloc ?_ (by simp;try omega) _|refine Below.drew ?_)) hb;clear hb HI)
          | (go_at_call 89;refine (HR.out _).mono ?_;rintro e w2 ⟨rfl,hb⟩;have rrd:=kp4 (n:=W.heap.size) hb;(try clear rrB rr0 rr1 rr2 rr3 rrf rrL rrN);obtain ⟨rrB,rr0,rr1,rr2,rr3,rrf,rrL,rrN⟩:=rrd;have zd:=kp2 (n:=W.heap.size+1) hb;(try clear zB z0 z1 zf zL zN);obtain ⟨zB,z0,z1,zf,zL,zN⟩:=zd;have B2:Hid (Below W.heap.size W w2):=bstep B1.out hb;clear hb HR)
          | (go_at_call 90;refine (HK.out _ B2.out).mono ?_;rintro e w3 ⟨rfl,hb⟩;have rrd:=kp4 (n:=W.heap.size) hb;(try clear rrB rr0 rr1 rr2 rr3 rrf rrL rrN);obtain ⟨rrB,rr0,rr1,rr2,rr3,rrf,rrL,rrN⟩:=rrd;have zd:=kp2 (n:=W.heap.size+1) hb;(try clear zB z0 z1 zf zL zN);obtain ⟨zB,z0,z1,zf,zL,zN⟩:=zd;have B3:Hid (Below W.heap.size W w3):=bstep B2.out hb;clear hb HK))
        exact bodyPost_ret (v:=idE ((0,0),t3)) (by simp [results,Tryz.results33,go_sem,idE, *]) rfl ⟨rfl,(by repeat (first|refine Below.setCell ?_ (by simp;try omega) _|refine Below.alloc ?_ (by have:=B3.out.size;simp;try omega) _|exact B3.out))⟩
    · rw [if_neg g0]
      clear HK HH HL1 HL2 HO0
      go_enter Tryz.func33,Tryz.ntmps33
      go_wp2_with (first
        | (go_at_call 76;refine (HI.out _ (by repeat (first|exact Below.refl _ _|refine Below.setCell ?_ (by simp;try omega) _|refine Below.alloc ?_ (by simp;try omega) _|refine Below.drew ?_))).mono ?_;rintro e w1 ⟨rfl,hb⟩;have rrd:=kp4 (n:=W.heap.size) hb;(try clear rrB rr0 rr1 rr2 rr3 rrf rrL rrN);obtain ⟨rrB,rr0,rr1,rr2,rr3,rrf,rrL,rrN⟩:=rrd;have zd:=kp2 (n:=W.heap.size+1) hb;(try clear zB z0 z1 zf zL zN);obtain ⟨zB,z0,z1,zf,zL,zN⟩:=zd;have B1:Hid (Below W.heap.size W w1):=bstep (by repeat (first|exact Below.refl _ _|refine Below.setCell ?_ (by simp;try omega) _|refine Below.alloc ?_ (by simp;try omega) _|refine Below.drew ?_)) hb;clear hb HI)
        | (go_at_call 89;refine (HR.out _).mono ?_;rintro e w2 ⟨rfl,hb⟩;have rrd:=kp4 (n:=W.heap.size) hb;(try clear rrB rr0 rr1 rr2 rr3 rrf rrL rrN);obtain ⟨rrB,rr0,rr1,rr2,rr3,rrf,rrL,rrN⟩:=rrd;have zd:=kp2 (n:=W.heap.size+1) hb;(try clear zB z0 z1 zf zL zN);obtain ⟨zB,z0,z1,zf,zL,zN⟩:=zd;have B2:Hid (Below W.heap.size W w2):=bstep B1.out hb;clear hb HR))
      exact bodyPost_ret (v:=idE ((0,0),1)) (by simp [results,Tryz.results33,go_sem,idE, *]) rfl ⟨rfl,(by repeat (first|refine Below.setCell ?_ (by simp;try omega) _|refine Below.alloc ?_ (by have:=B2.out.size;simp;try omega) _|exact B2.out))⟩
set_option maxHeartbeats 4000000 in
theorem built11_c (v:Value) (l:List Cls) (W:World) (h:IsClss W v l):Calls Tryz.prog 32 #[v] W fun e w'=>(∃ b,e=.returned (.pointer (some ⟨b,0,none⟩))∧WAt b (wld l) w')∧Below W.heap.size W w':=by
  have hCW:=clss_w h
  obtain ⟨ao,cap,rfl,h1,h2,h3⟩:=h
  unfold maxLen at h2
  obtain ⟨L,hL⟩:∃ L,l.length=L:=⟨_,rfl⟩
  have HL:Hid (l.length=L):=hL
  have HI:Hid _:=h3
  have HCW:Hid (∀ c∈l,ClsW c):=hCW
  rw [hL] at h1 ⊢
  clear hL h3 hCW
  have HN:Hid (∀ w:World,Calls Tryz.prog 60 #[] w fun e w'=>e=.returned (.pointer (some ⟨w.heap.size+1,0,none⟩))∧(∃ vp pv,HW w' w.heap.size (w.heap.size+1) w.heap.size P3 vp pv)∧Below w.heap.size w w'):=new_any
  go_enter Tryz.func32,Tryz.ntmps32
  go_wp2_with (first
    | (go_at_call 60;refine (HN.out _).mono ?_;rintro e w2 ⟨rfl,hw,hb⟩;have H2:Hid (∃ vp pv,HW w2 W.heap.size (W.heap.size+1) W.heap.size P3 vp pv):=hw;have B2:Hid (Below W.heap.size W w2):=hb;clear hb hw HN))
  go_loopw [4] (fun iv wr=>∃ (i:Nat),iv=.int .i64 i∧i≤L∧Hid (∃ vp pv,HW wr W.heap.size (W.heap.size+1) W.heap.size (wld (l.take i)) vp pv)∧Hid (Below W.heap.size W wr)) (fun iv _=>L - (intOf iv).toNat)
  case atStart=>exact ⟨0,rfl,Nat.zero_le _,H2,B2⟩
  case round =>
    clear H2 B2
    obtain ⟨i,rfl,hi,hHW,hB⟩:=hrel
    by_cases hlt:i<L
    · obtain ⟨c,hc⟩:∃ c,l[i]?=some c:=⟨_,List.getElem?_eq_getElem (by rw [HL.out];exact hlt)⟩
      obtain ⟨bk,o,rfl,hbk,hcl⟩:=HI.out (fun e=>by rw [e] at hc;simp at hc)
      obtain ⟨vi,vm,hcell,hin⟩:=hcl i c hc
      have bel:Below W.heap.size W wr:=hB.out
      have p0:wr.cell? ⟨bk,o+i * 6,none⟩=some (.string c.nm):=(bel.cell (p:=⟨bk,o+i * 6,none⟩) hbk).trans (hcell 0 _ rfl)
      have p1:wr.cell? ⟨bk,o+i * 6+1,none⟩=some (.string c.su):=(bel.cell (p:=⟨bk,o+i * 6+1,none⟩) hbk).trans (hcell 1 _ rfl)
      have p2:wr.cell? ⟨bk,o+i * 6+2,none⟩=some vi:=(bel.cell (p:=⟨bk,o+i * 6+2,none⟩) hbk).trans (hcell 2 _ rfl)
      have p3:wr.cell? ⟨bk,o+i * 6+3,none⟩=some (.int .i64 c.fl):=(bel.cell (p:=⟨bk,o+i * 6+3,none⟩) hbk).trans (hcell 3 _ rfl)
      have p4:wr.cell? ⟨bk,o+i * 6+4,none⟩=some (.int .i64 c.ld):=(bel.cell (p:=⟨bk,o+i * 6+4,none⟩) hbk).trans (hcell 4 _ rfl)
      have p5:wr.cell? ⟨bk,o+i * 6+5,none⟩=some vm:=(bel.cell (p:=⟨bk,o+i * 6+5,none⟩) hbk).trans (hcell 5 _ rfl)
      have hWI:WI (wld (l.take i)):=wld_wi _ (fun c hc=>HCW.out c (List.mem_of_mem_take hc))
      have HD:Hid (Calls Tryz.prog 29 #[.pointer (some ⟨W.heap.size+1,0,none⟩),.agg #[.string c.nm,.string c.su,vi,.int .i64 c.fl,.int .i64 c.ld,vm]] wr fun e w'=>(∃ u,e=.returned u)∧Hid (∃ vp pv,HW w' W.heap.size (W.heap.size+1) W.heap.size (wld (l.take (i+1))) vp pv)∧Hid (Below W.heap.size W w')):=by
        obtain ⟨vp,pv,hw⟩:=hHW.out
        refine (define_any W.heap.size (W.heap.size+1) W.heap.size _ vp pv c vi vm wr hw hB.out.size (hin.keep bel) hWI.nm).mono ?_
        rintro e w' ⟨rfl,hw',hb',_⟩
        rw [wld_at hc]
        exact ⟨⟨_,rfl⟩,hw',hB.out.trans hb'⟩
      clear hcl hcell hin hc bel hWI hHW hB HI
      go_wp2_with (go_at_call 29;refine HD.out.mono ?_;rintro e w3 ⟨⟨u3,rfl⟩,hw3,hb3⟩;clear HD)
      go_roundw
      case rel=>exact ⟨i+1,by go_num,by omega,hw3,hb3⟩
      case measure=>simp [intOf];omega
    · have e:i=L:=by omega
      subst e
      have HF:Hid (WAt (W.heap.size+1) (wld l) wr):=by
        obtain ⟨vp,pv,hw⟩:=hHW.out
        rw [List.take_of_length_le (by rw [HL.out];exact Nat.le_refl _)] at hw
        exact hw.wat
      clear hHW HI
      go_wp2
      exact bodyPost_ret (results_tmp rfl _ _ _) rfl ⟨⟨_,rfl,HF.out⟩,hB.out⟩
def strObj:ByteArray:=⟨#[79,98,106,101,99,116]⟩
def strId:ByteArray:=⟨#[105,100]⟩
def strD:ByteArray:=⟨#[40,41,73]⟩
theorem met3:metR P3 0 false strObj strId strD=((0,1),0):=by kernel_rfl
theorem awake11_c (W:World):Calls Tryz.prog 30 #[] W fun e w'=>e=.returned (.bool true)∧Below W.heap.size W w':=by
  have HN:Hid (∀ w:World,Calls Tryz.prog 60 #[] w fun e w'=>∃ b,e=.returned (.pointer (some ⟨b,0,none⟩))∧WAt b P3 w'∧Below w.heap.size w w'):=fun w=>(new_any w).mono fun e w' zz=>⟨_,zz.1,by obtain ⟨vp,pv,hw⟩:=zz.2.1;exact hw.wat,zz.2.2⟩
  have HM:Hid (∀ (w:World) (b:Nat),WAt b P3 w→Calls Tryz.prog 31 #[.pointer (some ⟨b,0,none⟩),.int .i64 0,.agg #[.bool false,.string ⟨#[79,98,106,101,99,116]⟩,.string ⟨#[105,100]⟩,.string ⟨#[40,41,73]⟩]] w fun e w'=>e=.returned (.tuple #[.agg #[.int .i64 0,.int .i64 1],.int .i64 0])∧Below w.heap.size w w'):=fun w b h=>(met_c h wi3 0 false strObj strId strD (by decide) (by decide) (by decide)).mono fun e w' zz=>⟨by rw [zz.1,met3];rfl,zz.2⟩
  have BB:Hid (Below W.heap.size W W):=Below.refl _ _
  go_enter Tryz.func30,Tryz.ntmps30
  go_wp2_with (first
    | (go_at_call 60;refine (HN.out _).mono ?_;rintro e w1 ⟨b,rfl,hw,hb⟩;have BB2:Below W.heap.size W w1:=bstep (by repeat (first|exact BB.out|exact Below.refl _ _|refine Below.setCell ?_ (by simp;try omega) _|refine Below.alloc ?_ (by have:=BB.out.size;simp;try omega) _|refine Below.drew ?_)) hb;clear BB;have BB:Hid (Below W.heap.size W w1):=BB2;(try clear HH);have HH:Hid (WAt b P3 w1):=hw;clear hw hb BB2)
    | (go_at_call 31;refine (HM.out _ _ HH.out).mono ?_;rintro e w2 ⟨rfl,hb⟩;have BB2:=bstep BB.out hb;clear BB;have BB:Hid (Below W.heap.size W w2):=BB2;clear hb BB2 HM))
  exact bodyPost_ret (results_tmp rfl _ _ _) rfl ⟨rfl,(by repeat (first|exact BB.out|exact Below.refl _ _|refine Below.setCell ?_ (by simp;try omega) _|refine Below.alloc ?_ (by have:=BB.out.size;simp;try omega) _|refine Below.drew ?_))⟩
theorem callOf (vs:Array Value) (w:World):(callFunc 17 vs).run Tryz.prog w=.ok (.enter 17 vs) w:=by simp [go_sem]
theorem callB11 (vs:Array Value) (w:World):(callFunc 32 vs).run Tryz.prog w=.ok (.enter 32 vs) w:=by simp [go_sem]
theorem callMet (vs:Array Value) (w:World):(callFunc 31 vs).run Tryz.prog w=.ok (.enter 31 vs) w:=by simp [go_sem]
theorem callRMet (vs:Array Value) (w:World):(callFunc 33 vs).run Tryz.prog w=.ok (.enter 33 vs) w:=by simp [go_sem]
set_option maxHeartbeats 4000000 in
theorem ResolveMethods_any (v:Value) (l:List Cls) (d:Int) (y:Bool) (c n ds:ByteArray) (W:World) (h:IsClss W v l) (hc:c.size≤maxLen) (hn:n.size≤maxLen) (hd:ds.size≤maxLen):Calls Tryz.prog 6 #[v,.int .i64 d,.agg #[.bool y,.string c,.string n,.string ds]] W fun e w'=>e=.returned (.bool true)∧Below W.heap.size W w':=by
  have hCW:=clss_w h
  obtain ⟨hWI,hWJ⟩:=wld_wj l hCW
  have hT:=twW l hCW
  obtain ⟨ps,hps⟩:∃ ps,ps=wld l:=⟨_,rfl⟩
  obtain ⟨cs,hcs⟩:∃ cs,cs=wldC l:=⟨_,rfl⟩
  rw [← hps] at hWI hWJ hT
  rw [← hcs] at hT
  have HA:Hid (∀ w:World,Calls Tryz.prog 30 #[] w fun e w'=>e=.returned (.bool true)∧Below w.heap.size w w'):=awake11_c
  have HB:Hid (∀ w:World,Below W.heap.size W w→Calls Tryz.prog 32 #[v] w fun e w'=>(∃ b,e=.returned (.pointer (some ⟨b,0,none⟩))∧WAt b ps w')∧Below w.heap.size w w'):=fun w hb=>by rw [hps];exact built11_c v l w (clss_keep h hb)
  have HO:Hid (∀ w:World,Below W.heap.size W w→Calls Tryz.prog 17 #[v] w fun e w'=>(∃ b,e=.returned (.pointer (some ⟨b,0,none⟩))∧RAt b cs w')∧Below w.heap.size w w'):=fun w hb=>by rw [hcs];exact of_c v l w (clss_keep h hb)
  have M1:Hid (∀ b w,WAt b ps w→Calls Tryz.prog 31 #[.pointer (some ⟨b,0,none⟩),.int .i64 d,.agg #[.bool y,.string c,.string n,.string ds]] w fun e w'=>e=.returned (idE (metR ps d y c n ds))∧Below w.heap.size w w'):=fun b w hw=>met_c hw hWI d y c n ds hc hn hd
  have M2:Hid (∀ b w,RAt b cs w→Calls Tryz.prog 33 #[.pointer (some ⟨b,0,none⟩),.int .i64 d,.agg #[.bool y,.string c,.string n,.string ds]] w fun e w'=>e=.returned (idE (metR ps d y c n ds))∧Below w.heap.size w w'):=fun b w hw=>rMet_c hw hT hWJ d y c n ds hc hn hd
  generalize metR ps d y c n ds=R at *
  obtain ⟨⟨R1,R2⟩,R3⟩:=R
  simp only [idE] at M1 M2
  have SO:Hid (∀ w:World,Calls Tryz.prog 24 #[.agg #[.int .i64 R1,.int .i64 R2],.agg #[.int .i64 R1,.int .i64 R2]] w fun e w'=>e=.returned (.bool true)∧Below w.heap.size w w'):=fun w=>(sameID_c (R1,R2) (R1,R2) w).mono fun e w' zz=>⟨by rw [zz.1];simp,zz.2⟩
  obtain ⟨av,nv,cv,rfl⟩:∃ a n c,v=.slice a n c:=by
    obtain ⟨ao,cap,e,_⟩:=h
    exact ⟨_,_,_,e⟩
  clear h hCW hWI hWJ hT hps hcs hc hn hd
  have BB:Hid (Below W.heap.size W W):=Below.refl _ _
  go_enter Tryz.func6,Tryz.ntmps6
  go_wp2_with (first
    | (go_at_call 30;refine (HA.out _).mono ?_;rintro e w1 ⟨rfl,hb⟩;have md:=kp4 (n:=W.heap.size) hb;(try clear mB m0 m1 m2 m3 mf mL mN mf0 mf1 mf2 mf3);obtain ⟨mB,m0,m1,m2,m3,mf,mL,mN⟩:=md;have mf0:=mf 0;have mf1:=mf 1;have mf2:=mf 2;have mf3:=mf 3;have BB2:Below W.heap.size W w1:=bstep (by repeat (first|exact BB.out|exact Below.refl _ _|refine Below.setCell ?_ (by simp;try omega) _|refine Below.alloc ?_ (by have:=BB.out.size;simp;try omega) _|refine Below.drew ?_)) hb;clear BB;have BB:Hid (Below W.heap.size W w1):=BB2;clear hb HA BB2))
  have q1:W.heap.size<w1.heap.size:=mL
  go_cut [7,8] (fun s7 s8 wx=>Hid (∃ g,s7=.pointer (some ⟨g,0,none⟩)∧s8=.int .i64 R3∧W.heap.size<g∧wx.heap[g]?=some (.cells #[.int .i64 R1,.int .i64 R2] 24 (0,0))∧wx.heap[W.heap.size]?=some (.cells #[.bool y,.string c,.string n,.string ds] 54 (0,0))∧Below W.heap.size W wx))
  case first =>
    go_region_law (first
      | (refine step_call1 rfl 32 callB11 (.tmp 14) 22 rfl (.slice av nv cv) (by simp [Act.eval,Act.put]) (HB.out _ (by first|exact BB.out.drew|exact (BB.out.drew).alloc (by have:=BB.out.size;simpa using this) _)) ?_;rintro e w2 ⟨⟨ba,rfl,hw⟩,hb⟩;refine ⟨_,rfl,?_⟩;have md:=kp4 (n:=W.heap.size) hb;(try clear mB m0 m1 m2 m3 mf mL mN mf0 mf1 mf2 mf3);obtain ⟨mB,m0,m1,m2,m3,mf,mL,mN⟩:=md;have mf0:=mf 0;have mf1:=mf 1;have mf2:=mf 2;have mf3:=mf 3;(try (have zzd:=kp2 (n:=w1.heap.size) hb;(try clear zzB zz0 zz1 zzf zzL zzN zzf0 zzf1);obtain ⟨zzB,zz0,zz1,zzf,zzL,zzN⟩:=zzd;have zzf0:=zzf 0;have zzf1:=zzf 1));have H2:Hid (WAt ba ps w2):=hw;have X2:Hid (Below W.heap.size W w2):=bstep (by first|exact BB.out.drew|exact (BB.out.drew).alloc (by have:=BB.out.size;simpa using this) _) hb;clear hb hw HB)
      | (refine step_call3 rfl 31 callMet (.tmp 15) (.tmp 16) (.tmp 17) 26 3 54 rfl (.pointer (some ⟨ba,0,none⟩)) (.int .i64 d) (.agg #[.bool y,.string c,.string n,.string ds]) (by simp [Act.eval]) (by simp [Act.eval]) (by simp [Act.eval]) (M1.out _ _ (by first|exact H2.out|exact H2.out.below ((Below.refl _ _).alloc (Nat.le_refl _) _))) ?_;rintro e w3 ⟨rfl,hb⟩;refine ⟨_,rfl,?_⟩;have qa:W.heap.size<w2.heap.size:=mL;have md:=kp4 (n:=W.heap.size) hb;(try clear mB m0 m1 m2 m3 mf mL mN mf0 mf1 mf2 mf3);obtain ⟨mB,m0,m1,m2,m3,mf,mL,mN⟩:=md;have mf0:=mf 0;have mf1:=mf 1;have mf2:=mf 2;have mf3:=mf 3;(try (have zzd:=kp2 (n:=w1.heap.size) hb;(try clear zzB zz0 zz1 zzf zzL zzN zzf0 zzf1);obtain ⟨zzB,zz0,zz1,zzf,zzL,zzN⟩:=zzd;have zzf0:=zzf 0;have zzf1:=zzf 1));(try (have zyd:=kp2 (n:=w2.heap.size) hb;(try clear zyB zy0 zy1 zyf zyL zyN zyf0 zyf1);obtain ⟨zyB,zy0,zy1,zyf,zyL,zyN⟩:=zyd;have zyf0:=zyf 0;have zyf1:=zyf 1));have X3:Hid (Below W.heap.size W w3):=bstep (by first|exact X2.out|exact X2.out.alloc X2.out.size _) hb;clear hb M1))
    all_goals (go_wp2_with fail)
    all_goals go_meet
    all_goals first|exact ⟨_,rfl,rfl,by omega,halloc2 _ _ rfl,hkeep mB.out,X3.out.alloc X3.out.size _⟩|exact ⟨_,rfl,rfl,by omega,by rw [heap_setCell_same _ _ _ #[.int .i64 R1,.int .i64 0] 24 _ (by rw [heap_setCell_same _ _ _ _ _ _ zyB.out];rfl)];rfl,by rw [heap_setCell_other _ _ _ _ (by simp;omega),heap_setCell_other _ _ _ _ (by simp;omega)];exact mB.out,(X3.out.setCell (by simp;omega) _).setCell (by simp;omega) _⟩|exact ⟨_,rfl,rfl,by omega,by rw [heap_setCell_same _ _ _ #[.int .i64 R1,.int .i64 0] 24 _ (by rw [heap_setCell_same _ _ _ _ _ _ zzB.out];rfl)];rfl,by rw [heap_setCell_other _ _ _ _ (by simp;omega),heap_setCell_other _ _ _ _ (by simp;omega)];exact mB.out,(X3.out.setCell (by simp;omega) _).setCell (by simp;omega) _⟩
  case rest =>
    obtain ⟨g,rfl,rfl,hg,hgB,hrB,hBB⟩:=hcut.out
    clear hcut mB m0 m1 m2 m3 mf0 mf1 mf2 mf3 mL mN BB q1
    have BC:Hid (Below W.heap.size W wc):=hBB
    have ggB:Hid (wc.heap[g]?=some (.cells #[.int .i64 R1,.int .i64 R2] 24 (0,0))):=hgB
    have mB:Hid (wc.heap[W.heap.size]?=some (.cells #[.bool y,.string c,.string n,.string ds] 54 (0,0))):=hrB
    have m0:wc.cell? ⟨W.heap.size,0,none⟩=some (.bool y):=(cell_of_row wc W.heap.size 0 _ _ _ hrB).trans rfl
    have m1:wc.cell? ⟨W.heap.size,1,none⟩=some (.string c):=(cell_of_row wc W.heap.size 1 _ _ _ hrB).trans rfl
    have m2:wc.cell? ⟨W.heap.size,2,none⟩=some (.string n):=(cell_of_row wc W.heap.size 2 _ _ _ hrB).trans rfl
    have m3:wc.cell? ⟨W.heap.size,3,none⟩=some (.string ds):=(cell_of_row wc W.heap.size 3 _ _ _ hrB).trans rfl
    have mf0:=frozen_of_row wc W.heap.size 0 _ _ hrB
    have mf1:=frozen_of_row wc W.heap.size 1 _ _ hrB
    have mf2:=frozen_of_row wc W.heap.size 2 _ _ hrB
    have mf3:=frozen_of_row wc W.heap.size 3 _ _ hrB
    have mL:W.heap.size<wc.heap.size:=(Array.getElem?_eq_some_iff.1 hrB).1
    have mN:¬ W.heap.size=wc.heap.size:=by omega
    obtain ⟨gg0,gg1,ggf0,ggf1,ggL,_⟩:=row_facts (W:=W) hgB
    have ggN:¬ g=wc.heap.size:=by omega
    have q1:W.heap.size<wc.heap.size:=mL
    have q0:g<wc.heap.size:=ggL
    clear hgB hrB hBB
    go_wp2
    go_cut [9,10] (fun s9 s10 wx=>Hid (∃ g2,s9=.pointer (some ⟨g2,0,none⟩)∧s10=.int .i64 R3∧wx.heap[g2]?=some (.cells #[.int .i64 R1,.int .i64 R2] 24 (0,0))∧wx.heap[g]?=some (.cells #[.int .i64 R1,.int .i64 R2] 24 (0,0))∧Below W.heap.size W wx))
    case first =>
      go_region_law (first
        | (refine step_call1 rfl 17 callOf (.tmp 22) 22 rfl (.slice av nv cv) (by simp [Act.eval,Act.put]) (HO.out _ (by first|exact BC.out.drew|exact (BC.out.drew).alloc (by have:=BC.out.size;simpa using this) _)) ?_;rintro e w4 ⟨⟨bb,rfl,hw⟩,hb⟩;refine ⟨_,rfl,?_⟩;have ggd:=kp2 (n:=g) hb;(try clear ggB gg0 gg1 ggf ggL ggN ggf0 ggf1);obtain ⟨ggB,gg0,gg1,ggf,ggL,ggN⟩:=ggd;have ggf0:=ggf 0;have ggf1:=ggf 1;have md:=kp4 (n:=W.heap.size) hb;(try clear mB m0 m1 m2 m3 mf mL mN mf0 mf1 mf2 mf3);obtain ⟨mB,m0,m1,m2,m3,mf,mL,mN⟩:=md;have mf0:=mf 0;have mf1:=mf 1;have mf2:=mf 2;have mf3:=mf 3;(try (have zzd:=kp2 (n:=wc.heap.size) hb;(try clear zzB zz0 zz1 zzf zzL zzN zzf0 zzf1);obtain ⟨zzB,zz0,zz1,zzf,zzL,zzN⟩:=zzd;have zzf0:=zzf 0;have zzf1:=zzf 1));have H4:Hid (RAt bb cs w4):=hw;have X4:Hid (Below W.heap.size W w4):=bstep (by first|exact BC.out.drew|exact (BC.out.drew).alloc (by have:=BC.out.size;simpa using this) _) hb;clear hb hw HO)
        | (refine step_call3 rfl 33 callRMet (.tmp 23) (.tmp 24) (.tmp 25) 28 3 54 rfl (.pointer (some ⟨bb,0,none⟩)) (.int .i64 d) (.agg #[.bool y,.string c,.string n,.string ds]) (by simp [Act.eval]) (by simp [Act.eval]) (by simp [Act.eval]) (M2.out _ _ (by first|exact H4.out|exact H4.out.below ((Below.refl _ _).alloc (Nat.le_refl _) _))) ?_;rintro e w5 ⟨rfl,hb⟩;refine ⟨_,rfl,?_⟩;have qb:W.heap.size<w4.heap.size:=mL;have qg:g<w4.heap.size:=ggL;have ggd:=kp2 (n:=g) hb;(try clear ggB gg0 gg1 ggf ggL ggN ggf0 ggf1);obtain ⟨ggB,gg0,gg1,ggf,ggL,ggN⟩:=ggd;have ggf0:=ggf 0;have ggf1:=ggf 1;have md:=kp4 (n:=W.heap.size) hb;(try clear mB m0 m1 m2 m3 mf mL mN mf0 mf1 mf2 mf3);obtain ⟨mB,m0,m1,m2,m3,mf,mL,mN⟩:=md;have mf0:=mf 0;have mf1:=mf 1;have mf2:=mf 2;have mf3:=mf 3;(try (have zzd:=kp2 (n:=wc.heap.size) hb;(try clear zzB zz0 zz1 zzf zzL zzN zzf0 zzf1);obtain ⟨zzB,zz0,zz1,zzf,zzL,zzN⟩:=zzd;have zzf0:=zzf 0;have zzf1:=zzf 1));(try (have zyd:=kp2 (n:=w4.heap.size) hb;(try clear zyB zy0 zy1 zyf zyL zyN zyf0 zyf1);obtain ⟨zyB,zy0,zy1,zyf,zyL,zyN⟩:=zyd;have zyf0:=zyf 0;have zyf1:=zyf 1));have X5:Hid (Below W.heap.size W w5):=bstep (by first|exact X4.out|exact X4.out.alloc X4.out.size _) hb;clear hb M2))
      all_goals (go_wp2_with fail)
      all_goals go_meet
      all_goals first|exact ⟨_,rfl,rfl,halloc2 _ _ rfl,hkeep ggB.out,X5.out.alloc X5.out.size _⟩|exact ⟨_,rfl,rfl,by rw [heap_setCell_same _ _ _ #[.int .i64 R1,.int .i64 0] 24 _ (by rw [heap_setCell_same _ _ _ _ _ _ zyB.out];rfl)];rfl,by rw [heap_setCell_other _ _ _ _ (by simp;omega),heap_setCell_other _ _ _ _ (by simp;omega)];exact ggB.out,(X5.out.setCell (by simp;omega) _).setCell (by simp;omega) _⟩|exact ⟨_,rfl,rfl,by rw [heap_setCell_same _ _ _ #[.int .i64 R1,.int .i64 0] 24 _ (by rw [heap_setCell_same _ _ _ _ _ _ zzB.out];rfl)];rfl,by rw [heap_setCell_other _ _ _ _ (by simp;omega),heap_setCell_other _ _ _ _ (by simp;omega)];exact ggB.out,(X5.out.setCell (by simp;omega) _).setCell (by simp;omega) _⟩
    case rest =>
      obtain ⟨g2,rfl,rfl,h2B,hgB,hBB⟩:=hcut.out
      obtain ⟨h0,h1,_,_,_,_⟩:=row_facts (W:=W) h2B
      obtain ⟨k0,k1,_,_,_,_⟩:=row_facts (W:=W) hgB
      have BF:Hid (Below W.heap.size W _):=hBB
      clear hcut h2B hgB hBB gg0 gg1 ggf0 ggf1 ggL ggN m0 m1 m2 m3 mf0 mf1 mf2 mf3 mL mN
      go_wp2_with (first
        | (go_at_call 24;refine (SO.out _).mono ?_;rintro e w8 ⟨rfl,hb⟩;have B8:Hid (Below W.heap.size W w8):=bstep BF.out hb;clear hb SO))
      all_goals go_ret
      all_goals exact ⟨retB (by simp),B8.out⟩
end Go.Proofs.YtjlfnelihbdhjaaGreat
