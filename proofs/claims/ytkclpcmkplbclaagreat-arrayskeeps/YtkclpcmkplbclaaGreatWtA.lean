import Derived.Test.YtkclpcmkplbclaaGreatWdT
import Derived.Maps.AppendAt
import Derived.Deep.DeepCutAuto
set_option maxRecDepth 100000
namespace Go.Proofs.YtkclpcmkplbclaaGreat
open Go.RowKit Go.Maps
theorem Tryz.hinfoT:(Tryz.prog.info? 24).map (fun i=>(i.zero,i.size,i.bytes))=some (some (.agg #[.int .i64 0,.string ⟨#[]⟩]),2,24):=by kernel_rfl
def tyU (p:Int×List UInt8):List Value:=[.int .i64 p.1,.string ⟨p.2.toArray⟩]
def flatU (l:List (Int×List UInt8)):List Value:=l.flatMap tyU
theorem flatU_app (a b:List (Int×List UInt8)):flatU (a++b)=flatU a++flatU b:=List.flatMap_append
structure SSt (w:World) (N bc:Nat) (vc:Value) (ts:List (Int×List UInt8)):Prop where
  hc:w.heap[bc]?=some (.cells #[vc] 66 (0,0))
  own:w.ownsRow N 24 2 vc ts.length (flatU ts)
  lc:N≤bc
def Rk (w:World) (v:Value) (l:List (List UInt8)):Prop:=(l=[]∧v=.slice none 0 0)∨∃ bk cap cs,v=.slice (some ⟨bk,0,none⟩) l.length cap∧w.heap[bk]?=some (.cells cs 9 (0,0))∧∀ (k:Nat) (p:List UInt8),l[k]?=some p→cs[k]?=some (.string ⟨p.toArray⟩)
theorem Rk.slice {w:World} {v:Value} {l:List (List UInt8)} (h:Rk w v l):∃ a c,v=.slice a l.length c:=by
  rcases h with ⟨rfl,rfl⟩|⟨bk,cap,cs,rfl,_⟩
  · exact ⟨none,0,rfl⟩
  · exact ⟨_,cap,rfl⟩
theorem SSt.next {wr w5:World} {N bc:Nat} {ve v':Value} {ts:List (Int×List UInt8)} {p:Int×List UInt8} {o:Obj} (h:SSt wr N bc ve ts) (hg:(wr.alloc o).grownBy w5 ve.ownBlock) (ho:w5.ownsRow N 24 2 v' (ts.length+1) (flatU ts++tyU p)) :
    w5.heap[bc]?=some (.cells #[ve] 66 (0,0))∧SSt (w5.setCell ⟨bc,0,none⟩ v') N bc v' (ts++[p])∧(∀ W,Below N W wr→Below N W (w5.setCell ⟨bc,0,none⟩ v'))∧∀ (bk:Nat) (cs:Array Value) (t:TypeId),wr.heap[bk]?=some (.cells cs t (0,0))→24≠t→bk≠bc→(w5.setCell ⟨bc,0,none⟩ v').heap[bk]?=some (.cells cs t (0,0)):=by
  have kinds:∀ {b:Nat} {cs:Array Value} {t:TypeId},wr.heap[b]?=some (.cells cs t (0,0))→24≠t→some b≠ve.ownBlock:=fun {b cs t} hb ht=>by
    rcases row_kind_ne h.own hb ht with e|e
    · rw [e];simp
    · exact fun e2=>e e2.symm
  have lt:∀ {b:Nat} {x:Obj},wr.heap[b]?=some x→b<wr.heap.size:=fun hb=>(Array.getElem?_eq_some_iff.1 hb).1
  have keep:∀ k<wr.heap.size,some k≠ve.ownBlock→w5.heap[k]?=wr.heap[k]?:=fun k hk h2=>by
    rw [hg.block k (by simp;omega) h2,heap_alloc_old _ _ hk]
  have hbc:=(keep bc (lt h.hc) (kinds h.hc (by decide))).trans h.hc
  refine ⟨hbc,⟨heap_setCell_same w5 bc 0 _ _ _ hbc,?_,h.lc⟩,fun W hB=>((hB.alloc (by have:=lt h.hc;have:=h.lc;omega) o).grown hg (by have:=lt h.hc;have:=h.lc;simp;omega) (fun k hk=>(h.own.lt k hk).1)).setCell (p:=⟨bc,0,none⟩) h.lc _,fun bk cs t hbk ht hne=>?_⟩
  · rw [flatU_app,List.length_append,List.length_singleton]
    have e:flatU [p]=tyU p:=by simp [flatU]
    rw [e]
    exact ho.kept (grown_set w5 bc 0 v') (row_kind_ne ho hbc (by decide))
  · exact (heap_setCell_other _ _ _ _ hne).trans ((keep bk (lt hbk) (kinds hbk ht)).trans hbk)
set_option maxHeartbeats 1000000 in
theorem step_any (N bc:Nat) (vc:Value) (ts:List (Int×List UInt8)) (d:Int) (v:Value) (l:List (List UInt8)) (W:World) (hG:SSt W N bc vc ts) (hv:Rk W v l) (hr:ts.length+l.length≤1000000) :
    Calls Tryz.prog 108 #[.int .i64 d,v,.pointer (some ⟨bc,0,none⟩)] W fun e w'=>e=.returned (.tuple #[])∧(∃ vc',SSt w' N bc vc' (ts++l.map fun p=>(d,p)))∧Below N W w'∧∀ (j:Nat) (cs:Array Value) (t:TypeId),W.heap[j]?=some (.cells cs t (0,0))→24≠t→j≠bc→w'.heap[j]?=some (.cells cs t (0,0)):=by
  obtain ⟨L,hL⟩:∃ L,l.length=L:=⟨_,rfl⟩
  have HL:Hid (l.length=L):=hL
  obtain ⟨av,cv,hvs⟩:=hv.slice
  have HV:Hid (Rk W v l):=hv
  subst hvs
  have HG:Hid (SSt W N bc vc ts):=hG
  obtain ⟨i0,hi,hz0,hz1,hz2⟩:=info_parts Tryz.hinfoT
  rw [hL] at hr ⊢
  clear hL hv hG
  go_enter Tryz.func108,Tryz.ntmps108
  go_wp2
  have HV0:Hid (Rk W (.slice av l.length cv) l):=HV
  go_loopw [9] (fun kv wr=>∃ (k:Nat) (ve:Value),kv=.int .i64 k∧k≤L∧Hid (SSt wr N bc ve (ts++(l.take k).map fun p=>(d,p)))∧Hid (Rk wr (.slice av l.length cv) l)∧Hid (Below N W wr)∧Hid (∀ (j:Nat) (cs:Array Value) (t:TypeId),W.heap[j]?=some (.cells cs t (0,0))→24≠t→j≠bc→wr.heap[j]?=some (.cells cs t (0,0)))) (fun kv _=>L - (intOf kv).toNat)
  case atStart=>exact ⟨0,vc,rfl,Nat.zero_le _,by simpa using HG,HV0,Below.refl _ _,fun j cs t h _ _=>h⟩
  case round =>
    obtain ⟨k,ve,rfl,hk,hG,hV,hB,hK⟩:=hrel
    clear HG HV0
    by_cases hlt:k<L
    · obtain ⟨p,hp⟩:∃ p,l[k]?=some p:=⟨_,List.getElem?_eq_getElem (by rw [HL.out];exact hlt)⟩
      obtain ⟨bk,cs,rfl,hbk,hcs⟩:∃ bk cs,av=some ⟨bk,0,none⟩∧wr.heap[bk]?=some (.cells cs 9 (0,0))∧cs[k]?=some (.string ⟨p.toArray⟩):=by
        rcases hV.out with ⟨e,_⟩|⟨bk,cap,cs,e,h1,h2⟩
        · rw [e] at hp;simp at hp
        · simp only [Value.slice.injEq] at e
          exact ⟨bk,cs,e.1,h1,h2 k p hp⟩
      have hrd:wr.cell? ⟨bk,k,none⟩=some (.string ⟨p.toArray⟩):=(cell_of_row wr bk k _ _ _ hbk).trans hcs
      have hnext:(ts++(l.take k).map fun p=>(d,p))++[(d,p)]=ts++(l.take (k+1)).map fun p=>(d,p):=by
        rw [List.take_add_one,hp];simp
      have hlen:(ts++(l.take k).map fun p=>(d,p)).length=ts.length+k:=by rw [List.length_append,List.length_map,List.length_take,HL.out];omega
      have HNX:Hid _:=hnext
      generalize hce:(ts++(l.take k).map fun p=>(d,p))=ce at *
      have h3:=hG.out.hc
      have t0:=cell_of_row wr bc 0 _ _ _ h3
      have tf:=frozen_of_row wr bc 0 _ _ h3
      simp only [List.getElem?_toArray,List.getElem?_cons_zero] at t0
      obtain ⟨ae,ce2,rfl⟩:=ownv hG.out.own
      have hWs:N≤wr.heap.size:=Nat.le_trans hG.out.lc (Nat.le_of_lt (Array.getElem?_eq_some_iff.1 h3).1)
      have HBK:Hid (wr.heap[bk]?=some (.cells cs 9 (0,0))):=hbk
      have O1:Hid (wr.ownsRow N 24 2 (.slice ae ce.length ce2) ce.length (flatU ce)):=hG.out.own
      have hkL:(k:Int)<(L:Int):=by omega
      have hce':ce.length≤1000000:=by omega
      clear hp hnext hbk hcs h3 hce hlen
      go_wp2_with (at_builtin;refine wpList_append_own _ rfl _ _ 66 rfl N 24 i0 (.agg #[.int .i64 0,.string ⟨#[]⟩]) 2 24 Tryz.underlying66 hi hz0 hz1 hz2 rfl (by decide) (.slice ae ce.length ce2) ce.length (flatU ce) rfl (O1.out.alloc _) ⟨wr.heap.size,0,none⟩ 1 1 [.int .i64 d,.string ⟨p.toArray⟩] rfl rfl ?c1 ?c2 ?c3 ?c4 ?c5 ?_)
      case c1=>intro j u hj;rw [addr_add];match j,hj with
        | 0,hj=>simp at hj;subst hj;simp [go_sem]
        | 1,hj=>simp at hj;subst hj;simp [go_sem]
        | (j+2),hj=>simp at hj
      case c2=>intro u hu;simp at hu;rcases hu with rfl|rfl <;> rfl
      case c3=>unfold maxLen;omega
      case c4=>omega
      case c5=>simp;omega
      · intro v' w5 hown' hgrow _
        obtain ⟨av',cv',rfl⟩:=ownv hown'
        obtain ⟨q3,q4,q5,q6⟩:=hG.out.next (p:=(d,p)) hgrow hown'
        have z0:=cell_of_row w5 bc 0 _ _ _ q3
        have zf:=frozen_of_row w5 bc 0 _ _ q3
        simp only [List.getElem?_toArray,List.getElem?_cons_zero] at z0
        have QG:Hid (SSt (w5.setCell ⟨bc,0,none⟩ (.slice av' (ce.length+1) cv')) N bc (.slice av' (ce.length+1) cv') (ce++[(d,p)])):=q4
        have QV:Hid (Rk (w5.setCell ⟨bc,0,none⟩ (.slice av' (ce.length+1) cv')) (.slice (some ⟨bk,0,none⟩) l.length cv) l):=by
          rcases hV.out with e|⟨bk',cap,cs',e,h1,h2⟩
          · exact .inl e
          · refine .inr ⟨bk',cap,cs',e,q6 bk' cs' _ h1 (by decide) (fun e=>?_),h2⟩
            have:=hG.out.hc;rw [← e,h1] at this;simp at this
        have QB:Hid (Below N W (w5.setCell ⟨bc,0,none⟩ (.slice av' (ce.length+1) cv'))):=q5 W hB.out
        have QK:Hid (∀ (j:Nat) (cs:Array Value) (t:TypeId),W.heap[j]?=some (.cells cs t (0,0))→24≠t→j≠bc→(w5.setCell ⟨bc,0,none⟩ (.slice av' (ce.length+1) cv')).heap[j]?=some (.cells cs t (0,0))):=fun j cs t h1 h2 h3=>q6 j cs t (hK.out j cs t h1 h2 h3) h2 h3
        clear q3 q4 q5 q6 hown' hgrow O1
        go_wp2
        go_roundw
        case rel=>exact ⟨k+1,_,by go_num,by omega,by rw [← HNX.out];exact QG,QV,QB,QK⟩
        case measure=>simp [intOf];omega
    · have hkk:¬ (k:Int)<(L:Int):=by omega
      have hkL:l.take k=l:=List.take_of_length_le (by rw [HL.out];omega)
      rw [hkL] at hG
      go_wp2
      exact bodyPost_end (results_none rfl _ _ _) rfl ⟨rfl,⟨_,hG.out⟩,hB.out,hK.out⟩
theorem own_rk {w:World} {N:Nat} {v:Value} {l:List (List UInt8)} (h:w.ownsRow N 9 1 v l.length (strsV l)):Rk w v l:=by
  rcases h.2 with ⟨rfl,e⟩|⟨g,cap,cur,rfl,_,hg,_,_,_,ht⟩
  · exact .inl ⟨List.length_eq_zero_iff.1 e,rfl⟩
  · refine .inr ⟨g,cap,cur,rfl,hg,fun k p hk=>?_⟩
    have h1:(strsV l)[k]?=some (.string ⟨p.toArray⟩):=by rw [strsV,List.getElem?_map,hk];rfl
    rw [← ht,List.getElem?_take] at h1
    split at h1
    · simpa using h1
    · cases h1
theorem above3_k (W:World):Calls Tryz.prog 110 #[] W fun e w'=>(∃ v,e=.returned v∧Rk w' v abv3)∧Below W.heap.size W w':=by
  go_enter Tryz.func110,Tryz.ntmps110
  go_wp2
  refine bodyPost_ret (results_tmp rfl _ _ _) rfl ⟨⟨_,rfl,.inr ⟨W.heap.size,3,_,rfl,halloc1 W _,fun k p hk=>?_⟩⟩,(by repeat (first|exact Below.refl _ _|refine Below.setCell ?_ (by simp;try omega) _|refine Below.alloc ?_ (by simp;try omega) _|refine Below.drew ?_))⟩
  match k,hk with
  | 0,hk=>cases hk;rfl
  | 1,hk=>cases hk;rfl
  | 2,hk=>cases hk;rfl
  | (k+3),hk=>simp [abv3] at hk
set_option maxHeartbeats 1000000 in
theorem cNamed_c {b:Nat} {ps:List Plc} {W:World} (h:WAt b ps W) (s:ByteArray) (hs:s.size≤maxLen) (k:Nat) (q:Plc) (hk:lookL ps s.data.toList=some k) (hq:ps[k]?=some q) (hB:PlcB q):Calls Tryz.prog 111 #[.pointer (some ⟨b,0,none⟩),.string s] W fun e w'=>(∃ vi vm qm,e=.returned (.agg #[.string q.c.nm,.string q.c.su,vi,.int .i64 q.c.fl,.int .i64 q.c.ld,vm])∧OwnC w' W.heap.size vi q.c.ni q.c.xi vm qm)∧Below W.heap.size W w':=by
  have HN:Hid (∀ w,Below W.heap.size W w→Calls Tryz.prog 56 #[.pointer (some ⟨b,0,none⟩),.string s] w fun e w'=>e=.returned (.tuple #[.int .i64 (k:Int),.int .i64 0])∧Below w.heap.size w w'):=fun w hb=>(byName_c (h.below hb) s hs).mono fun e w' zz=>⟨by rw [zz.1,hk];rfl,zz.2⟩
  have HC:Hid (∀ w,Below W.heap.size W w→Calls Tryz.prog 19 #[.pointer (some ⟨b,0,none⟩),.int .i64 (k:Int)] w fun e w'=>∃ vi vm qm,e=.returned (.tuple #[.agg #[.string q.c.nm,.string q.c.su,vi,.int .i64 q.c.fl,.int .i64 q.c.ld,vm],.int .i64 0])∧OwnC w' w.heap.size vi q.c.ni q.c.xi vm qm∧qm.map Prod.fst=q.c.ms∧Below w.heap.size w w'):=fun w hb=>by
    obtain ⟨N,mb,vp,pv,h⟩:=h.below hb
    exact class_yes N b mb ps vp pv k q w h hq hB
  clear h hk hq hB hs
  go_enter Tryz.func111,Tryz.ntmps111
  go_upto_region 3 with (first
    | (go_at_call 56;refine (HN.out _ (by repeat (first|exact Below.refl _ _|refine Below.setCell ?_ (by simp;try omega) _|refine Below.alloc ?_ (by simp;try omega) _|refine Below.drew ?_))).mono ?_;rintro e w1 ⟨rfl,hb⟩;have B1:Hid (Below W.heap.size W w1):=bstep (by repeat (first|exact Below.refl _ _|refine Below.setCell ?_ (by simp;try omega) _|refine Below.alloc ?_ (by simp;try omega) _|refine Below.drew ?_)) hb;have h0:=(hb.block W.heap.size (by simp)).trans (halloc1 W _);have H0:Hid (w1.heap[W.heap.size]?=some (.cells #[.string ⟨#[]⟩,.string ⟨#[]⟩,.slice none 0 0,.int .i64 0,.int .i64 0,.slice none 0 0] 37 (0,0))):=h0;clear hb HN h0)
    | (go_at_call 19;refine (HC.out _ B1.out).mono ?_;rintro e w2 ⟨vi,vm,qm,rfl,hown,_,hb⟩;obtain ⟨a1,c1,rfl⟩:=ownv hown.ifs;obtain ⟨a2,c2,rfl⟩:=ownv hown.ms;have O2:Hid (OwnC w2 (W.heap.size+1) (.slice a1 q.c.ni c1) q.c.ni q.c.xi (.slice a2 qm.length c2) qm):=hown.le (Array.getElem?_eq_some_iff.1 H0.out).1;have B2:Hid (Below W.heap.size W w2):=bstep B1.out hb;have h0:=(hb.block W.heap.size (Array.getElem?_eq_some_iff.1 H0.out).1).trans H0.out;have hl0:W.heap.size<w2.heap.size:=(Array.getElem?_eq_some_iff.1 h0).1;have H2:Hid (w2.heap[W.heap.size]?=some (.cells #[.string ⟨#[]⟩,.string ⟨#[]⟩,.slice none 0 0,.int .i64 0,.int .i64 0,.slice none 0 0] 37 (0,0))):=h0;clear hown hb HC h0 H0))
  obtain ⟨Wm,hWm⟩:∃ x,x=w2.alloc (.cells #[.string q.c.nm,.string q.c.su,.slice a1 q.c.ni c1,.int .i64 q.c.fl,.int .i64 q.c.ld,.slice a2 qm.length c2] 37):=⟨_,rfl⟩
  have BM:Hid (Below W.heap.size W Wm):=by rw [hWm];exact B2.out.alloc B2.out.size _
  have OM:Hid (OwnC Wm (W.heap.size+1) (.slice a1 q.c.ni c1) q.c.ni q.c.xi (.slice a2 qm.length c2) qm):=by
    have hb:Below w2.heap.size w2 Wm:=by rw [hWm];exact (Below.refl _ _).alloc (Nat.le_refl _) _
    exact ⟨rowBelow O2.out.ifs hb,rowBelow O2.out.ms hb,fun x hx=>rowBelow (O2.out.cod x hx) hb⟩
  have h1:Wm.heap[w2.heap.size]?=some (.cells #[.string q.c.nm,.string q.c.su,.slice a1 q.c.ni c1,.int .i64 q.c.fl,.int .i64 q.c.ld,.slice a2 qm.length c2] 37 (0,0)):=by rw [hWm];exact halloc1 _ _
  have h0:Wm.heap[W.heap.size]?=some (.cells #[.string ⟨#[]⟩,.string ⟨#[]⟩,.slice none 0 0,.int .i64 0,.int .i64 0,.slice none 0 0] 37 (0,0)):=by rw [hWm];exact (Below.heap_alloc w2 _ _ hl0).trans H2.out
  have r0:=cell_of_row Wm W.heap.size 0 _ _ _ h0
  have y0:=frozen_of_row Wm W.heap.size 0 _ _ h0
  have m0:=cell_of_row Wm w2.heap.size 0 _ _ _ h1
  have r1:=cell_of_row Wm W.heap.size 1 _ _ _ h0
  have y1:=frozen_of_row Wm W.heap.size 1 _ _ h0
  have m1:=cell_of_row Wm w2.heap.size 1 _ _ _ h1
  have r2:=cell_of_row Wm W.heap.size 2 _ _ _ h0
  have y2:=frozen_of_row Wm W.heap.size 2 _ _ h0
  have m2:=cell_of_row Wm w2.heap.size 2 _ _ _ h1
  have r3:=cell_of_row Wm W.heap.size 3 _ _ _ h0
  have y3:=frozen_of_row Wm W.heap.size 3 _ _ h0
  have m3:=cell_of_row Wm w2.heap.size 3 _ _ _ h1
  have r4:=cell_of_row Wm W.heap.size 4 _ _ _ h0
  have y4:=frozen_of_row Wm W.heap.size 4 _ _ h0
  have m4:=cell_of_row Wm w2.heap.size 4 _ _ _ h1
  have r5:=cell_of_row Wm W.heap.size 5 _ _ _ h0
  have y5:=frozen_of_row Wm W.heap.size 5 _ _ h0
  have m5:=cell_of_row Wm w2.heap.size 5 _ _ _ h1
  simp only [List.getElem?_toArray,List.getElem?_cons_zero,List.getElem?_cons_succ] at r0 r1 r2 r3 r4 r5 m0 m1 m2 m3 m4 m5
  rw [← hWm]
  clear hWm h0 h1 H2 O2 B2
  go_wp2
  refine bodyPost_ret (v:=.agg #[.string q.c.nm,.string q.c.su,.slice a1 q.c.ni c1,.int .i64 q.c.fl,.int .i64 q.c.ld,.slice a2 qm.length c2]) (by simp [results,Tryz.results111,go_sem, *]) rfl ⟨⟨_,_,qm,rfl,?_⟩,?_⟩
  · refine OwnC.le (N:=W.heap.size+1) ?_ (by omega)
    repeat (refine OwnC.setCell ?_ (by simp) _)
    exact OM.out
  · repeat (refine Below.setCell ?_ (by simp) _)
    exact BM.out
def txtL (l:List Value):List (List UInt8):=l.map fun v=>match v with
  | .string b=>b.data.toList
  | _=>[]
theorem txt_strs (l:List (List UInt8)):txtL (strsV l)=l:=by
  rw [txtL,strsV,List.map_map]
  conv=>rhs;rw [← List.map_id l]
  apply List.map_congr_left
  intro a _
  simp
set_option maxHeartbeats 1000000 in
theorem above_int {b:Nat} {ps:List Plc} {W:World} (h:WAt b ps W) (x:Int) (s:ByteArray) (hs:s.size≤maxLen) (hl:ldI ps x s=0) (hn:intB x s=true):Calls Tryz.prog 68 #[.pointer (some ⟨b,0,none⟩),.agg #[.int .i64 x,.string s]] W fun e w'=>(∃ v,e=.returned (.tuple #[v,.int .i64 0])∧w'.ownsRow W.heap.size 24 2 v 0 [])∧Below W.heap.size W w':=by
  have HL:Hid (∀ w,Below W.heap.size W w→Calls Tryz.prog 71 #[.pointer (some ⟨b,0,none⟩),.agg #[.int .i64 x,.string s]] w fun e w'=>e=.returned (.int .i64 0)∧Below w.heap.size w w'):=fun w hb=>by rw [← hl];exact loaded_c (h.below hb) x s hs
  have HI:Hid (∀ w:World,Calls Tryz.prog 105 #[.agg #[.int .i64 x,.string s]] w fun e w'=>e=.returned (.bool true)∧Below w.heap.size w w'):=fun w=>by rw [← hn];exact isInt_c x s w
  clear h hs hl hn
  go_enter Tryz.func68,Tryz.ntmps68
  go_wp2_with (first
    | (go_at_call 71;refine (HL.out _ (by repeat (first|exact Below.refl _ _|refine Below.setCell ?_ (by simp;try omega) _|refine Below.alloc ?_ (by simp;try omega) _|refine Below.drew ?_))).mono ?_;rintro e w1 ⟨rfl,hb⟩;have h0:=(hb.block W.heap.size (by simp)).trans (halloc1 W _);have r0:=cell_of_row w1 W.heap.size 0 _ _ _ h0;have r1:=cell_of_row w1 W.heap.size 1 _ _ _ h0;simp only [List.getElem?_toArray,List.getElem?_cons_zero,List.getElem?_cons_succ] at r0 r1;have hl0:W.heap.size<w1.heap.size:=(Array.getElem?_eq_some_iff.1 h0).1;have B1:Hid (Below W.heap.size W w1):=bstep (by repeat (first|exact Below.refl _ _|refine Below.setCell ?_ (by simp;try omega) _|refine Below.alloc ?_ (by simp;try omega) _|refine Below.drew ?_)) hb;clear hb HL h0)
    | (go_at_call 105;refine (HI.out _).mono ?_;rintro e w2 ⟨rfl,hb⟩;have z0:w2.cell? ⟨w1.heap.size,0,none⟩=some (.slice none 0 0):=(hb.cell (p:=⟨w1.heap.size,0,none⟩) (by simp)).trans (by simp [go_sem]);have B2:Hid (Below W.heap.size W w2):=bstep (B1.out.alloc B1.out.size _) hb;clear hb HI))
  exact bodyPost_ret (results_tmp2 rfl _ _ _) rfl ⟨⟨_,rfl,World.ownsRow_nil _ _ _ _⟩,B2.out⟩
set_option maxHeartbeats 1000000 in
theorem above_arr {b:Nat} {ps:List Plc} {W:World} (h:WAt b ps W) (x:Int) (s:ByteArray) (hs:s.size≤maxLen) (hl:ldI ps x s=0) (hn:intB x s=false) (hc:s.toList.isEmpty=true∨s.toList=sObj) (hx:0<x) (hx2:x≤255):Calls Tryz.prog 68 #[.pointer (some ⟨b,0,none⟩),.agg #[.int .i64 x,.string s]] W fun e w'=>(∃ v,e=.returned (.tuple #[v,.int .i64 0])∧w'.ownsRow W.heap.size 24 2 v 3 (flatU (abv3.map fun p=>(x - 1,p))))∧Below W.heap.size W w':=by
  have HL:Hid (∀ w,Below W.heap.size W w→Calls Tryz.prog 71 #[.pointer (some ⟨b,0,none⟩),.agg #[.int .i64 x,.string s]] w fun e w'=>e=.returned (.int .i64 0)∧Below w.heap.size w w'):=fun w hb=>by rw [← hl];exact loaded_c (h.below hb) x s hs
  have HI:Hid (∀ w:World,Calls Tryz.prog 105 #[.agg #[.int .i64 x,.string s]] w fun e w'=>e=.returned (.bool false)∧Below w.heap.size w w'):=fun w=>by rw [← hn];exact isInt_c x s w
  have HO:Hid (∀ w:World,Calls Tryz.prog 109 #[.agg #[.int .i64 x,.string s]] w fun e w'=>e=.returned (.bool s.toList.isEmpty)∧Below w.heap.size w w'):=isOverInt_c x s
  have H3:Hid (∀ w:World,Calls Tryz.prog 110 #[] w fun e w'=>(∃ v,e=.returned v∧Rk w' v abv3)∧Below w.heap.size w w'):=above3_k
  have ew:IntKind.i64.wrap (x - 1)=x - 1:=by rw [IntKind.wrap_i64];omega
  have EW:Hid _:=ew
  clear h hs hl hn ew
  cases he:s.toList.isEmpty with
  | true =>
    rw [he] at HO
    go_enter Tryz.func68,Tryz.ntmps68
    go_wp2_with (first
      | (go_at_call 71;refine (HL.out _ (by repeat (first|exact Below.refl _ _|refine Below.setCell ?_ (by simp;try omega) _|refine Below.alloc ?_ (by simp;try omega) _|refine Below.drew ?_))).mono ?_;rintro e w1 ⟨rfl,hb⟩;have h0:=(hb.block W.heap.size (by simp)).trans (halloc1 W _);have r0:=cell_of_row w1 W.heap.size 0 _ _ _ h0;have r1:=cell_of_row w1 W.heap.size 1 _ _ _ h0;simp only [List.getElem?_toArray,List.getElem?_cons_zero,List.getElem?_cons_succ] at r0 r1;have hl0:W.heap.size<w1.heap.size:=(Array.getElem?_eq_some_iff.1 h0).1;have hn0:¬ W.heap.size=w1.heap.size:=(by omega);have hw1:W.heap.size<w1.heap.size:=hl0;have B1:Hid (Below W.heap.size W w1):=bstep (by repeat (first|exact Below.refl _ _|refine Below.setCell ?_ (by simp;try omega) _|refine Below.alloc ?_ (by simp;try omega) _|refine Below.drew ?_)) hb;clear hb HL h0)
      | (go_at_call 105;refine (HI.out _).mono ?_;rintro e w2 ⟨rfl,hb⟩;have hz:=(hb.block w1.heap.size (by simp)).trans (halloc1 w1 _);have S2:Hid (SSt w2 w1.heap.size w1.heap.size (.slice none 0 0) []):=⟨hz,World.ownsRow_nil _ _ _ _,Nat.le_refl _⟩;replace r0:=(hb.cell (p:=⟨W.heap.size,0,none⟩) (by simp;omega)).trans ((Below.cell (Below.alloc (Below.refl w1.heap.size w1) (Nat.le_refl _) _) hl0).trans r0);replace r1:=(hb.cell (p:=⟨W.heap.size,1,none⟩) (by simp;omega)).trans ((Below.cell (Below.alloc (Below.refl w1.heap.size w1) (Nat.le_refl _) _) hl0).trans r1);have hl2:w1.heap.size<w2.heap.size:=(Array.getElem?_eq_some_iff.1 hz).1;replace hl0:W.heap.size<w2.heap.size:=(by omega);have B2:Hid (Below W.heap.size W w2):=bstep (B1.out.alloc B1.out.size _) hb;clear hb HI hz)
      | (go_at_call 109;refine (HO.out _).mono ?_;rintro e w3 ⟨rfl,hb⟩;have S3:Hid (SSt w3 w1.heap.size w1.heap.size (.slice none 0 0) []):=⟨(hb.block w1.heap.size hl2).trans S2.out.hc,World.ownsRow_nil _ _ _ _,Nat.le_refl _⟩;replace r0:=(hb.cell (p:=⟨W.heap.size,0,none⟩) hl0).trans r0;replace r1:=(hb.cell (p:=⟨W.heap.size,1,none⟩) hl0).trans r1;replace hl2:=Nat.lt_of_lt_of_le hl2 hb.size;replace hl0:=Nat.lt_of_lt_of_le hl0 hb.size;have B3:Hid (Below W.heap.size W w3):=bstep B2.out hb;clear hb HO S2))
    go_region_held3 (fun w'=>w'.cell? ⟨W.heap.size,0,none⟩=some (.int .i64 x)) (go_keep) (first
      | (go_at_call 110;refine (H3.out _).mono ?_;rintro e w4 ⟨⟨vv,rfl,hv⟩,hb⟩;have HV:Hid (Rk w4 vv abv3):=hv;obtain ⟨av,cv,rfl⟩:=hv.slice;have S4:Hid (SSt w4 w1.heap.size w1.heap.size (.slice none 0 0) []):=⟨(hb.block w1.heap.size hl2).trans S3.out.hc,World.ownsRow_nil _ _ _ _,Nat.le_refl _⟩;replace r0:w4.cell? ⟨W.heap.size,0,none⟩=some (.int .i64 x):=(hb.cell (p:=⟨W.heap.size,0,none⟩) hl0).trans r0;have B4:Hid (Below W.heap.size W w4):=bstep B3.out.drew hb;clear hb hv H3)
      | (go_at_call 108;refine (step_any _ _ _ _ _ _ _ _ S4.out HV.out (by decide)).mono ?_;rintro e w5 ⟨rfl,⟨vc',hS⟩,hb,_⟩;rw [EW.out] at hS;obtain ⟨a5,c5,rfl⟩:=ownv hS.own;have z0:=cell_of_row w5 w1.heap.size 0 _ _ _ hS.hc;simp only [List.getElem?_toArray,List.getElem?_cons_zero] at z0;have S5:Hid (SSt w5 w1.heap.size w1.heap.size (.slice a5 ([]++abv3.map fun p=>(x - 1,p)).length c5) ([]++abv3.map fun p=>(x - 1,p))):=hS;have B5:Hid (Below W.heap.size W w5):=B4.out.trans (hb.mono B1.out.size);have r0:w5.cell? ⟨W.heap.size,0,none⟩=some (.int .i64 x):=(hb.cell (p:=⟨W.heap.size,0,none⟩) hw1).trans r0;clear hb hS))
    go_wp2
    exact bodyPost_ret (results_tmp2 rfl _ _ _) rfl ⟨⟨_,rfl,Go.Joins.ownsRow_le S5.out.own B1.out.size⟩,B5.out⟩
  | false =>
    rw [he] at HO
    have hob:s.toList=sObj:=hc.resolve_left (by rw [he];simp)
    have hob2:s.toList=[79,98,106,101,99,116]:=hob
    clear hc hob
    go_enter Tryz.func68,Tryz.ntmps68
    go_wp2_with (first
      | (go_at_call 71;refine (HL.out _ (by repeat (first|exact Below.refl _ _|refine Below.setCell ?_ (by simp;try omega) _|refine Below.alloc ?_ (by simp;try omega) _|refine Below.drew ?_))).mono ?_;rintro e w1 ⟨rfl,hb⟩;have h0:=(hb.block W.heap.size (by simp)).trans (halloc1 W _);have r0:=cell_of_row w1 W.heap.size 0 _ _ _ h0;have r1:=cell_of_row w1 W.heap.size 1 _ _ _ h0;simp only [List.getElem?_toArray,List.getElem?_cons_zero,List.getElem?_cons_succ] at r0 r1;have hl0:W.heap.size<w1.heap.size:=(Array.getElem?_eq_some_iff.1 h0).1;have hn0:¬ W.heap.size=w1.heap.size:=(by omega);have hw1:W.heap.size<w1.heap.size:=hl0;have B1:Hid (Below W.heap.size W w1):=bstep (by repeat (first|exact Below.refl _ _|refine Below.setCell ?_ (by simp;try omega) _|refine Below.alloc ?_ (by simp;try omega) _|refine Below.drew ?_)) hb;clear hb HL h0)
      | (go_at_call 105;refine (HI.out _).mono ?_;rintro e w2 ⟨rfl,hb⟩;have hz:=(hb.block w1.heap.size (by simp)).trans (halloc1 w1 _);have S2:Hid (SSt w2 w1.heap.size w1.heap.size (.slice none 0 0) []):=⟨hz,World.ownsRow_nil _ _ _ _,Nat.le_refl _⟩;replace r0:=(hb.cell (p:=⟨W.heap.size,0,none⟩) (by simp;omega)).trans ((Below.cell (Below.alloc (Below.refl w1.heap.size w1) (Nat.le_refl _) _) hl0).trans r0);replace r1:=(hb.cell (p:=⟨W.heap.size,1,none⟩) (by simp;omega)).trans ((Below.cell (Below.alloc (Below.refl w1.heap.size w1) (Nat.le_refl _) _) hl0).trans r1);have hl2:w1.heap.size<w2.heap.size:=(Array.getElem?_eq_some_iff.1 hz).1;replace hl0:W.heap.size<w2.heap.size:=(by omega);have B2:Hid (Below W.heap.size W w2):=bstep (B1.out.alloc B1.out.size _) hb;clear hb HI hz)
      | (go_at_call 109;refine (HO.out _).mono ?_;rintro e w3 ⟨rfl,hb⟩;have S3:Hid (SSt w3 w1.heap.size w1.heap.size (.slice none 0 0) []):=⟨(hb.block w1.heap.size hl2).trans S2.out.hc,World.ownsRow_nil _ _ _ _,Nat.le_refl _⟩;replace r0:=(hb.cell (p:=⟨W.heap.size,0,none⟩) hl0).trans r0;replace r1:=(hb.cell (p:=⟨W.heap.size,1,none⟩) hl0).trans r1;replace hl2:=Nat.lt_of_lt_of_le hl2 hb.size;replace hl0:=Nat.lt_of_lt_of_le hl0 hb.size;have B3:Hid (Below W.heap.size W w3):=bstep B2.out hb;clear hb HO S2))
    go_region_held3 (fun w'=>w'.cell? ⟨W.heap.size,0,none⟩=some (.int .i64 x)) (go_keep) (first
      | (go_at_call 110;refine (H3.out _).mono ?_;rintro e w4 ⟨⟨vv,rfl,hv⟩,hb⟩;have HV:Hid (Rk w4 vv abv3):=hv;obtain ⟨av,cv,rfl⟩:=hv.slice;have S4:Hid (SSt w4 w1.heap.size w1.heap.size (.slice none 0 0) []):=⟨(hb.block w1.heap.size hl2).trans S3.out.hc,World.ownsRow_nil _ _ _ _,Nat.le_refl _⟩;replace r0:w4.cell? ⟨W.heap.size,0,none⟩=some (.int .i64 x):=(hb.cell (p:=⟨W.heap.size,0,none⟩) hl0).trans r0;have B4:Hid (Below W.heap.size W w4):=bstep B3.out.drew hb;clear hb hv H3)
      | (go_at_call 108;refine (step_any _ _ _ _ _ _ _ _ S4.out HV.out (by decide)).mono ?_;rintro e w5 ⟨rfl,⟨vc',hS⟩,hb,_⟩;rw [EW.out] at hS;obtain ⟨a5,c5,rfl⟩:=ownv hS.own;have z0:=cell_of_row w5 w1.heap.size 0 _ _ _ hS.hc;simp only [List.getElem?_toArray,List.getElem?_cons_zero] at z0;have S5:Hid (SSt w5 w1.heap.size w1.heap.size (.slice a5 ([]++abv3.map fun p=>(x - 1,p)).length c5) ([]++abv3.map fun p=>(x - 1,p))):=hS;have B5:Hid (Below W.heap.size W w5):=B4.out.trans (hb.mono B1.out.size);have r0:w5.cell? ⟨W.heap.size,0,none⟩=some (.int .i64 x):=(hb.cell (p:=⟨W.heap.size,0,none⟩) hw1).trans r0;clear hb hS))
    go_wp2
    exact bodyPost_ret (results_tmp2 rfl _ _ _) rfl ⟨⟨_,rfl,Go.Joins.ownsRow_le S5.out.own B1.out.size⟩,B5.out⟩
theorem S4n {w4:World} {N bc:Nat} (h:SSt w4 N bc (.slice none 0 0) []) (o1 o2:Obj):SSt ((w4.alloc o1).alloc o2) N bc (.slice none 0 0) [] :=
  ⟨by have hl:=(Array.getElem?_eq_some_iff.1 h.hc).1;exact ((Below.heap_alloc _ _ _ (by simp;omega)).trans ((Below.heap_alloc _ _ _ hl).trans h.hc)),World.ownsRow_nil _ _ _ _,h.lc⟩
theorem rk1 (w4:World) (o1:Obj) (su:ByteArray):Rk ((w4.alloc o1).alloc (.cells #[.string su] 9)) (.slice (some ⟨w4.heap.size+1,0,none⟩) 1 1) [su.data.toList]:=by
  refine .inr ⟨w4.heap.size+1,1,_,rfl,heap_alloc2_new w4 _ _,fun k p hk=>?_⟩
  match k,hk with
  | 0,hk=>cases hk;simp
  | (k+1),hk=>simp at hk
theorem rkeep {w4 w5:World} {N bc:Nat} {o1 o2:Obj} {v:Value} {ni:Nat} {xi:List Value} {ns:List (List UInt8)} (hni:ni=ns.length) (hxi:xi=strsV ns) (ho:w4.ownsRow N 9 1 v ni xi) (hkp:∀ (j:Nat) (cs:Array Value) (t:TypeId),((w4.alloc o1).alloc o2).heap[j]?=some (.cells cs t (0,0))→24≠t→j≠bc→w5.heap[j]?=some (.cells cs t (0,0))) (hbc:∃ x,w4.heap[bc]?=some (.cells x 66 (0,0))):Rk w5 v ns:=by
  subst hni hxi
  rcases own_rk ho with e|⟨bk,cap,cs,e,h1,h2⟩
  · exact .inl e
  · have hl:=(Array.getElem?_eq_some_iff.1 h1).1
    refine .inr ⟨bk,cap,cs,e,hkp bk cs _ ((Below.heap_alloc _ _ _ (by simp;omega)).trans ((Below.heap_alloc _ _ _ hl).trans h1)) (by decide) (fun e=>?_),h2⟩
    obtain ⟨x,hx⟩:=hbc
    rw [← e,h1] at hx
    simp at hx
set_option maxHeartbeats 1000000 in
theorem above_cls {b:Nat} {ps:List Plc} {W:World} (h:WAt b ps W) (x:Int) (s:ByteArray) (hs:s.size≤maxLen) (hl:ldI ps x s=0) (hn:intB x s=false) (he:s.toList.isEmpty=false) (hc:¬ (0<x∧s.toList=sObj)) (k:Nat) (q:Plc) (hk:lookL ps s.data.toList=some k) (hq:ps[k]?=some q) (hB:PlcB q) (ns:List (List UInt8)) (hni:q.c.ni=ns.length) (hxi:q.c.xi=strsV ns) (hnl:ns.length≤1000) (hE:q.c.su.toList.isEmpty=false):Calls Tryz.prog 68 #[.pointer (some ⟨b,0,none⟩),.agg #[.int .i64 x,.string s]] W fun e w'=>(∃ v,e=.returned (.tuple #[v,.int .i64 0])∧w'.ownsRow W.heap.size 24 2 v (ns.length+1) (flatU ([(x,q.c.su.data.toList)]++ns.map fun p=>(x,p))))∧Below W.heap.size W w':=by
  have HL:Hid (∀ w,Below W.heap.size W w→Calls Tryz.prog 71 #[.pointer (some ⟨b,0,none⟩),.agg #[.int .i64 x,.string s]] w fun e w'=>e=.returned (.int .i64 0)∧Below w.heap.size w w'):=fun w hb=>by rw [← hl];exact loaded_c (h.below hb) x s hs
  have HI:Hid (∀ w:World,Calls Tryz.prog 105 #[.agg #[.int .i64 x,.string s]] w fun e w'=>e=.returned (.bool false)∧Below w.heap.size w w'):=fun w=>by rw [← hn];exact isInt_c x s w
  have HO:Hid (∀ w:World,Calls Tryz.prog 109 #[.agg #[.int .i64 x,.string s]] w fun e w'=>e=.returned (.bool false)∧Below w.heap.size w w'):=fun w=>by rw [← he];exact isOverInt_c x s w
  have HC:Hid (∀ w,Below W.heap.size W w→Calls Tryz.prog 111 #[.pointer (some ⟨b,0,none⟩),.string s] w fun e w'=>(∃ vi vm qm,e=.returned (.agg #[.string q.c.nm,.string q.c.su,vi,.int .i64 q.c.fl,.int .i64 q.c.ld,vm])∧OwnC w' w.heap.size vi q.c.ni q.c.xi vm qm)∧Below w.heap.size w w'):=fun w hb=>cNamed_c (h.below hb) s hs k q hk hq hB
  have HNI:Hid (q.c.ni=ns.length):=hni
  have HXI:Hid (q.c.xi=strsV ns):=hxi
  have hc2:0<x→¬ s.toList=[79,98,106,101,99,116]:=fun h0 h1=>hc ⟨h0,h1⟩
  clear h hs hl hn hk hq hB hni hxi hc
  by_cases hx:0<x
  · have hc3:=hc2 hx
    have hc4:(s.toList == [79,98,106,101,99,116])=false:=by simpa using hc3
    clear hc2
    go_enter Tryz.func68,Tryz.ntmps68
    go_wp2_with (first
    | (go_at_call 71;refine (HL.out _ (by repeat (first|exact Below.refl _ _|refine Below.setCell ?_ (by simp;try omega) _|refine Below.alloc ?_ (by simp;try omega) _|refine Below.drew ?_))).mono ?_;rintro e w1 ⟨rfl,hb⟩;have h0:=(hb.block W.heap.size (by simp)).trans (halloc1 W _);have r0:=cell_of_row w1 W.heap.size 0 _ _ _ h0;have r1:=cell_of_row w1 W.heap.size 1 _ _ _ h0;simp only [List.getElem?_toArray,List.getElem?_cons_zero,List.getElem?_cons_succ] at r0 r1;have hl0:W.heap.size<w1.heap.size:=(Array.getElem?_eq_some_iff.1 h0).1;have hn0:¬ W.heap.size=w1.heap.size:=(by omega);have hw1:W.heap.size<w1.heap.size:=hl0;have B1:Hid (Below W.heap.size W w1):=bstep (by repeat (first|exact Below.refl _ _|refine Below.setCell ?_ (by simp;try omega) _|refine Below.alloc ?_ (by simp;try omega) _|refine Below.drew ?_)) hb;clear hb HL h0)
    | (go_at_call 105;refine (HI.out _).mono ?_;rintro e w2 ⟨rfl,hb⟩;have hz:=(hb.block w1.heap.size (by simp)).trans (halloc1 w1 _);have S2:Hid (SSt w2 w1.heap.size w1.heap.size (.slice none 0 0) []):=⟨hz,World.ownsRow_nil _ _ _ _,Nat.le_refl _⟩;replace r0:=(hb.cell (p:=⟨W.heap.size,0,none⟩) (by simp;omega)).trans ((Below.cell (Below.alloc (Below.refl w1.heap.size w1) (Nat.le_refl _) _) hl0).trans r0);replace r1:=(hb.cell (p:=⟨W.heap.size,1,none⟩) (by simp;omega)).trans ((Below.cell (Below.alloc (Below.refl w1.heap.size w1) (Nat.le_refl _) _) hl0).trans r1);have hl2:w1.heap.size<w2.heap.size:=(Array.getElem?_eq_some_iff.1 hz).1;replace hl0:W.heap.size<w2.heap.size:=(by omega);have B2:Hid (Below W.heap.size W w2):=bstep (B1.out.alloc B1.out.size _) hb;clear hb HI hz)
    | (go_at_call 109;refine (HO.out _).mono ?_;rintro e w3 ⟨rfl,hb⟩;have S3:Hid (SSt w3 w1.heap.size w1.heap.size (.slice none 0 0) []):=⟨(hb.block w1.heap.size hl2).trans S2.out.hc,World.ownsRow_nil _ _ _ _,Nat.le_refl _⟩;replace r0:=(hb.cell (p:=⟨W.heap.size,0,none⟩) hl0).trans r0;replace r1:=(hb.cell (p:=⟨W.heap.size,1,none⟩) hl0).trans r1;replace hl2:=Nat.lt_of_lt_of_le hl2 hb.size;replace hl0:=Nat.lt_of_lt_of_le hl0 hb.size;have B3:Hid (Below W.heap.size W w3):=bstep B2.out hb;clear hb HO S2)
    | (go_at_call 111;refine (HC.out _ B3.out).mono ?_;rintro e w4 ⟨⟨vi,vm,qm,rfl,hown⟩,hb⟩;obtain ⟨a1,c1,rfl⟩:=ownv hown.ifs;obtain ⟨a2,c2,rfl⟩:=ownv hown.ms;have O4:Hid (w4.ownsRow w3.heap.size 9 1 (.slice a1 q.c.ni c1) q.c.ni q.c.xi):=hown.ifs;have S4:Hid (SSt w4 w1.heap.size w1.heap.size (.slice none 0 0) []):=⟨(hb.block w1.heap.size hl2).trans S3.out.hc,World.ownsRow_nil _ _ _ _,Nat.le_refl _⟩;replace r0:=(hb.cell (p:=⟨W.heap.size,0,none⟩) hl0).trans r0;replace r1:=(hb.cell (p:=⟨W.heap.size,1,none⟩) hl0).trans r1;replace hl2:=Nat.lt_of_lt_of_le hl2 hb.size;replace hl0:=Nat.lt_of_lt_of_le hl0 hb.size;have B4:Hid (Below W.heap.size W w4):=bstep B3.out hb;clear hb HC S3 hown)
    | (go_at_call 108;refine (step_any w1.heap.size w1.heap.size (.slice none 0 0) [] x _ [q.c.su.data.toList] _ (S4n S4.out _ _) (rk1 _ _ _) (by simp)).mono ?_;rintro e w5 ⟨rfl,⟨vc',hS⟩,hb,hkp⟩;obtain ⟨a5,c5,rfl⟩:=ownv hS.own;have S5:Hid (SSt w5 w1.heap.size w1.heap.size (.slice a5 1 c5) [(x,q.c.su.data.toList)]):=hS;have hcb:=hkp w4.heap.size #[.string q.c.nm,.string q.c.su,.slice a1 q.c.ni c1,.int .i64 q.c.fl,.int .i64 q.c.ld,.slice a2 qm.length c2] 37 (heap_alloc2_old w4 _ _) (by decide) (by omega);have k2:=cell_of_row w5 w4.heap.size 2 _ _ _ hcb;simp only [List.getElem?_toArray,List.getElem?_cons_zero,List.getElem?_cons_succ] at k2;have O5:Hid (Rk w5 (.slice a1 q.c.ni c1) ns):=rkeep HNI.out HXI.out O4.out hkp ⟨_,S4.out.hc⟩;have B5:Hid (Below W.heap.size W w5):=(((B4.out.alloc B4.out.size _).alloc (by have:=B4.out.size;simp;omega) _).trans (hb.mono B1.out.size));replace r0:w5.cell? ⟨W.heap.size,0,none⟩=some (.int .i64 x):=(hb.cell (p:=⟨W.heap.size,0,none⟩) hw1).trans ((Below.cell (((Below.refl w4.heap.size w4).alloc (Nat.le_refl _) _).alloc (by simp) _) hl0).trans r0);clear hb hS hcb hkp S4 O4)
    | (go_at_call 108;refine (step_any w1.heap.size w1.heap.size (.slice a5 1 c5) [(x,q.c.su.data.toList)] x _ ns _ S5.out O5.out (by simp;omega)).mono ?_;rintro e w6 ⟨rfl,⟨vc',hS⟩,hb,_⟩;obtain ⟨a6,c6,rfl⟩:=ownv hS.own;have z0:=cell_of_row w6 w1.heap.size 0 _ _ _ hS.hc;simp only [List.getElem?_toArray,List.getElem?_cons_zero] at z0;have S6:Hid (w6.ownsRow w1.heap.size 24 2 (.slice a6 ([(x,q.c.su.data.toList)]++ns.map fun p=>(x,p)).length c6) ([(x,q.c.su.data.toList)]++ns.map fun p=>(x,p)).length (flatU ([(x,q.c.su.data.toList)]++ns.map fun p=>(x,p)))):=hS.own;have B6:Hid (Below W.heap.size W w6):=B5.out.trans (hb.mono B1.out.size);clear hb hS S5 O5))
    exact bodyPost_ret (results_tmp2 rfl _ _ _) rfl ⟨⟨_,rfl,Go.Joins.ownsRow_le (by simpa [Nat.add_comm] using S6.out) B1.out.size⟩,B6.out⟩
  · clear hc2
    go_enter Tryz.func68,Tryz.ntmps68
    go_wp2_with (first
    | (go_at_call 71;refine (HL.out _ (by repeat (first|exact Below.refl _ _|refine Below.setCell ?_ (by simp;try omega) _|refine Below.alloc ?_ (by simp;try omega) _|refine Below.drew ?_))).mono ?_;rintro e w1 ⟨rfl,hb⟩;have h0:=(hb.block W.heap.size (by simp)).trans (halloc1 W _);have r0:=cell_of_row w1 W.heap.size 0 _ _ _ h0;have r1:=cell_of_row w1 W.heap.size 1 _ _ _ h0;simp only [List.getElem?_toArray,List.getElem?_cons_zero,List.getElem?_cons_succ] at r0 r1;have hl0:W.heap.size<w1.heap.size:=(Array.getElem?_eq_some_iff.1 h0).1;have hn0:¬ W.heap.size=w1.heap.size:=(by omega);have hw1:W.heap.size<w1.heap.size:=hl0;have B1:Hid (Below W.heap.size W w1):=bstep (by repeat (first|exact Below.refl _ _|refine Below.setCell ?_ (by simp;try omega) _|refine Below.alloc ?_ (by simp;try omega) _|refine Below.drew ?_)) hb;clear hb HL h0)
    | (go_at_call 105;refine (HI.out _).mono ?_;rintro e w2 ⟨rfl,hb⟩;have hz:=(hb.block w1.heap.size (by simp)).trans (halloc1 w1 _);have S2:Hid (SSt w2 w1.heap.size w1.heap.size (.slice none 0 0) []):=⟨hz,World.ownsRow_nil _ _ _ _,Nat.le_refl _⟩;replace r0:=(hb.cell (p:=⟨W.heap.size,0,none⟩) (by simp;omega)).trans ((Below.cell (Below.alloc (Below.refl w1.heap.size w1) (Nat.le_refl _) _) hl0).trans r0);replace r1:=(hb.cell (p:=⟨W.heap.size,1,none⟩) (by simp;omega)).trans ((Below.cell (Below.alloc (Below.refl w1.heap.size w1) (Nat.le_refl _) _) hl0).trans r1);have hl2:w1.heap.size<w2.heap.size:=(Array.getElem?_eq_some_iff.1 hz).1;replace hl0:W.heap.size<w2.heap.size:=(by omega);have B2:Hid (Below W.heap.size W w2):=bstep (B1.out.alloc B1.out.size _) hb;clear hb HI hz)
    | (go_at_call 109;refine (HO.out _).mono ?_;rintro e w3 ⟨rfl,hb⟩;have S3:Hid (SSt w3 w1.heap.size w1.heap.size (.slice none 0 0) []):=⟨(hb.block w1.heap.size hl2).trans S2.out.hc,World.ownsRow_nil _ _ _ _,Nat.le_refl _⟩;replace r0:=(hb.cell (p:=⟨W.heap.size,0,none⟩) hl0).trans r0;replace r1:=(hb.cell (p:=⟨W.heap.size,1,none⟩) hl0).trans r1;replace hl2:=Nat.lt_of_lt_of_le hl2 hb.size;replace hl0:=Nat.lt_of_lt_of_le hl0 hb.size;have B3:Hid (Below W.heap.size W w3):=bstep B2.out hb;clear hb HO S2)
    | (go_at_call 111;refine (HC.out _ B3.out).mono ?_;rintro e w4 ⟨⟨vi,vm,qm,rfl,hown⟩,hb⟩;obtain ⟨a1,c1,rfl⟩:=ownv hown.ifs;obtain ⟨a2,c2,rfl⟩:=ownv hown.ms;have O4:Hid (w4.ownsRow w3.heap.size 9 1 (.slice a1 q.c.ni c1) q.c.ni q.c.xi):=hown.ifs;have S4:Hid (SSt w4 w1.heap.size w1.heap.size (.slice none 0 0) []):=⟨(hb.block w1.heap.size hl2).trans S3.out.hc,World.ownsRow_nil _ _ _ _,Nat.le_refl _⟩;replace r0:=(hb.cell (p:=⟨W.heap.size,0,none⟩) hl0).trans r0;replace r1:=(hb.cell (p:=⟨W.heap.size,1,none⟩) hl0).trans r1;replace hl2:=Nat.lt_of_lt_of_le hl2 hb.size;replace hl0:=Nat.lt_of_lt_of_le hl0 hb.size;have B4:Hid (Below W.heap.size W w4):=bstep B3.out hb;clear hb HC S3 hown)
    | (go_at_call 108;refine (step_any w1.heap.size w1.heap.size (.slice none 0 0) [] x _ [q.c.su.data.toList] _ (S4n S4.out _ _) (rk1 _ _ _) (by simp)).mono ?_;rintro e w5 ⟨rfl,⟨vc',hS⟩,hb,hkp⟩;obtain ⟨a5,c5,rfl⟩:=ownv hS.own;have S5:Hid (SSt w5 w1.heap.size w1.heap.size (.slice a5 1 c5) [(x,q.c.su.data.toList)]):=hS;have hcb:=hkp w4.heap.size #[.string q.c.nm,.string q.c.su,.slice a1 q.c.ni c1,.int .i64 q.c.fl,.int .i64 q.c.ld,.slice a2 qm.length c2] 37 (heap_alloc2_old w4 _ _) (by decide) (by omega);have k2:=cell_of_row w5 w4.heap.size 2 _ _ _ hcb;simp only [List.getElem?_toArray,List.getElem?_cons_zero,List.getElem?_cons_succ] at k2;have O5:Hid (Rk w5 (.slice a1 q.c.ni c1) ns):=rkeep HNI.out HXI.out O4.out hkp ⟨_,S4.out.hc⟩;have B5:Hid (Below W.heap.size W w5):=(((B4.out.alloc B4.out.size _).alloc (by have:=B4.out.size;simp;omega) _).trans (hb.mono B1.out.size));replace r0:w5.cell? ⟨W.heap.size,0,none⟩=some (.int .i64 x):=(hb.cell (p:=⟨W.heap.size,0,none⟩) hw1).trans ((Below.cell (((Below.refl w4.heap.size w4).alloc (Nat.le_refl _) _).alloc (by simp) _) hl0).trans r0);clear hb hS hcb hkp S4 O4)
    | (go_at_call 108;refine (step_any w1.heap.size w1.heap.size (.slice a5 1 c5) [(x,q.c.su.data.toList)] x _ ns _ S5.out O5.out (by simp;omega)).mono ?_;rintro e w6 ⟨rfl,⟨vc',hS⟩,hb,_⟩;obtain ⟨a6,c6,rfl⟩:=ownv hS.own;have z0:=cell_of_row w6 w1.heap.size 0 _ _ _ hS.hc;simp only [List.getElem?_toArray,List.getElem?_cons_zero] at z0;have S6:Hid (w6.ownsRow w1.heap.size 24 2 (.slice a6 ([(x,q.c.su.data.toList)]++ns.map fun p=>(x,p)).length c6) ([(x,q.c.su.data.toList)]++ns.map fun p=>(x,p)).length (flatU ([(x,q.c.su.data.toList)]++ns.map fun p=>(x,p)))):=hS.own;have B6:Hid (Below W.heap.size W w6):=B5.out.trans (hb.mono B1.out.size);clear hb hS S5 O5))
    exact bodyPost_ret (results_tmp2 rfl _ _ _) rfl ⟨⟨_,rfl,Go.Joins.ownsRow_le (by simpa [Nat.add_comm] using S6.out) B1.out.size⟩,B6.out⟩
theorem S4m {w4:World} {N bc:Nat} (h:SSt w4 N bc (.slice none 0 0) []) (o1:Obj):SSt (w4.alloc o1) N bc (.slice none 0 0) [] :=
  ⟨(Below.heap_alloc _ _ _ (Array.getElem?_eq_some_iff.1 h.hc).1).trans h.hc,World.ownsRow_nil _ _ _ _,h.lc⟩
theorem rkeep1 {w4:World} {N:Nat} {v:Value} {ni:Nat} {xi:List Value} {ns:List (List UInt8)} (hni:ni=ns.length) (hxi:xi=strsV ns) (ho:w4.ownsRow N 9 1 v ni xi) (o1:Obj):Rk (w4.alloc o1) v ns:=by
  subst hni hxi
  rcases own_rk ho with e|⟨bk,cap,cs,e,h1,h2⟩
  · exact .inl e
  · exact .inr ⟨bk,cap,cs,e,(Below.heap_alloc _ _ _ (Array.getElem?_eq_some_iff.1 h1).1).trans h1,h2⟩
set_option maxHeartbeats 1000000 in
theorem above_top {b:Nat} {ps:List Plc} {W:World} (h:WAt b ps W) (x:Int) (s:ByteArray) (hs:s.size≤maxLen) (hl:ldI ps x s=0) (hn:intB x s=false) (he:s.toList.isEmpty=false) (_hc:¬ (0<x∧s.toList=sObj)) (k:Nat) (q:Plc) (hk:lookL ps s.data.toList=some k) (hq:ps[k]?=some q) (hB:PlcB q) (ns:List (List UInt8)) (hni:q.c.ni=ns.length) (hxi:q.c.xi=strsV ns) (hnl:ns.length≤1000) (hE:q.c.su.toList.isEmpty=true) (hns:ns=[]) (hx:¬ 0<x):Calls Tryz.prog 68 #[.pointer (some ⟨b,0,none⟩),.agg #[.int .i64 x,.string s]] W fun e w'=>(∃ v,e=.returned (.tuple #[v,.int .i64 0])∧w'.ownsRow W.heap.size 24 2 v 0 [])∧Below W.heap.size W w':=by
  have HL:Hid (∀ w,Below W.heap.size W w→Calls Tryz.prog 71 #[.pointer (some ⟨b,0,none⟩),.agg #[.int .i64 x,.string s]] w fun e w'=>e=.returned (.int .i64 0)∧Below w.heap.size w w'):=fun w hb=>by rw [← hl];exact loaded_c (h.below hb) x s hs
  have HI:Hid (∀ w:World,Calls Tryz.prog 105 #[.agg #[.int .i64 x,.string s]] w fun e w'=>e=.returned (.bool false)∧Below w.heap.size w w'):=fun w=>by rw [← hn];exact isInt_c x s w
  have HO:Hid (∀ w:World,Calls Tryz.prog 109 #[.agg #[.int .i64 x,.string s]] w fun e w'=>e=.returned (.bool false)∧Below w.heap.size w w'):=fun w=>by rw [← he];exact isOverInt_c x s w
  have HC:Hid (∀ w,Below W.heap.size W w→Calls Tryz.prog 111 #[.pointer (some ⟨b,0,none⟩),.string s] w fun e w'=>(∃ vi vm qm,e=.returned (.agg #[.string q.c.nm,.string q.c.su,vi,.int .i64 q.c.fl,.int .i64 q.c.ld,vm])∧OwnC w' w.heap.size vi q.c.ni q.c.xi vm qm)∧Below w.heap.size w w'):=fun w hb=>cNamed_c (h.below hb) s hs k q hk hq hB
  have HNI:Hid (q.c.ni=ns.length):=hni
  have HXI:Hid (q.c.xi=strsV ns):=hxi
  clear h hs hl hn hk hq hB hni hxi _hc
  go_enter Tryz.func68,Tryz.ntmps68
  go_wp2_with (first
  | (go_at_call 71;refine (HL.out _ (by repeat (first|exact Below.refl _ _|refine Below.setCell ?_ (by simp;try omega) _|refine Below.alloc ?_ (by simp;try omega) _|refine Below.drew ?_))).mono ?_;rintro e w1 ⟨rfl,hb⟩;have h0:=(hb.block W.heap.size (by simp)).trans (halloc1 W _);have r0:=cell_of_row w1 W.heap.size 0 _ _ _ h0;have r1:=cell_of_row w1 W.heap.size 1 _ _ _ h0;simp only [List.getElem?_toArray,List.getElem?_cons_zero,List.getElem?_cons_succ] at r0 r1;have hl0:W.heap.size<w1.heap.size:=(Array.getElem?_eq_some_iff.1 h0).1;have hn0:¬ W.heap.size=w1.heap.size:=(by omega);have hw1:W.heap.size<w1.heap.size:=hl0;have B1:Hid (Below W.heap.size W w1):=bstep (by repeat (first|exact Below.refl _ _|refine Below.setCell ?_ (by simp;try omega) _|refine Below.alloc ?_ (by simp;try omega) _|refine Below.drew ?_)) hb;clear hb HL h0)
  | (go_at_call 105;refine (HI.out _).mono ?_;rintro e w2 ⟨rfl,hb⟩;have hz:=(hb.block w1.heap.size (by simp)).trans (halloc1 w1 _);have S2:Hid (SSt w2 w1.heap.size w1.heap.size (.slice none 0 0) []):=⟨hz,World.ownsRow_nil _ _ _ _,Nat.le_refl _⟩;replace r0:=(hb.cell (p:=⟨W.heap.size,0,none⟩) (by simp;omega)).trans ((Below.cell (Below.alloc (Below.refl w1.heap.size w1) (Nat.le_refl _) _) hl0).trans r0);replace r1:=(hb.cell (p:=⟨W.heap.size,1,none⟩) (by simp;omega)).trans ((Below.cell (Below.alloc (Below.refl w1.heap.size w1) (Nat.le_refl _) _) hl0).trans r1);have hl2:w1.heap.size<w2.heap.size:=(Array.getElem?_eq_some_iff.1 hz).1;replace hl0:W.heap.size<w2.heap.size:=(by omega);have B2:Hid (Below W.heap.size W w2):=bstep (B1.out.alloc B1.out.size _) hb;clear hb HI hz)
  | (go_at_call 109;refine (HO.out _).mono ?_;rintro e w3 ⟨rfl,hb⟩;have S3:Hid (SSt w3 w1.heap.size w1.heap.size (.slice none 0 0) []):=⟨(hb.block w1.heap.size hl2).trans S2.out.hc,World.ownsRow_nil _ _ _ _,Nat.le_refl _⟩;replace r0:=(hb.cell (p:=⟨W.heap.size,0,none⟩) hl0).trans r0;replace r1:=(hb.cell (p:=⟨W.heap.size,1,none⟩) hl0).trans r1;replace hl2:=Nat.lt_of_lt_of_le hl2 hb.size;replace hl0:=Nat.lt_of_lt_of_le hl0 hb.size;have B3:Hid (Below W.heap.size W w3):=bstep B2.out hb;clear hb HO S2)
  | (go_at_call 111;refine (HC.out _ B3.out).mono ?_;rintro e w4 ⟨⟨vi,vm,qm,rfl,hown⟩,hb⟩;obtain ⟨a1,c1,rfl⟩:=ownv hown.ifs;obtain ⟨a2,c2,rfl⟩:=ownv hown.ms;have O4:Hid (w4.ownsRow w3.heap.size 9 1 (.slice a1 q.c.ni c1) q.c.ni q.c.xi):=hown.ifs;have S4:Hid (SSt w4 w1.heap.size w1.heap.size (.slice none 0 0) []):=⟨(hb.block w1.heap.size hl2).trans S3.out.hc,World.ownsRow_nil _ _ _ _,Nat.le_refl _⟩;replace r0:=(hb.cell (p:=⟨W.heap.size,0,none⟩) hl0).trans r0;replace r1:=(hb.cell (p:=⟨W.heap.size,1,none⟩) hl0).trans r1;replace hl2:=Nat.lt_of_lt_of_le hl2 hb.size;replace hl0:=Nat.lt_of_lt_of_le hl0 hb.size;have B4:Hid (Below W.heap.size W w4):=bstep B3.out hb;clear hb HC S3 hown)
  | (go_at_call 108;refine (step_any w1.heap.size w1.heap.size (.slice none 0 0) [] x _ ns _ (S4m S4.out _) (rkeep1 HNI.out HXI.out O4.out _) (by simp;omega)).mono ?_;rintro e w6 ⟨rfl,⟨vc',hS⟩,hb,_⟩;obtain ⟨a6,c6,rfl⟩:=ownv hS.own;have z0:=cell_of_row w6 w1.heap.size 0 _ _ _ hS.hc;simp only [List.getElem?_toArray,List.getElem?_cons_zero] at z0;have S6:Hid (w6.ownsRow w1.heap.size 24 2 (.slice a6 ([]++ns.map fun p=>(x,p)).length c6) ([]++ns.map fun p=>(x,p)).length (flatU ([]++ns.map fun p=>(x,p)))):=hS.own;have B6:Hid (Below W.heap.size W w6):=((B4.out.alloc B4.out.size _).trans (hb.mono B1.out.size));clear hb hS S4 O4))
  subst hns
  exact bodyPost_ret (results_tmp2 rfl _ _ _) rfl ⟨⟨_,rfl,Go.Joins.ownsRow_le S6.out B1.out.size⟩,B6.out⟩
structure StW (ps:List Plc):Prop where
  ty:TyW ps
  wj:WJ ps
  su:∀ k q,0<k→ps[k]?=some q→lookL ps q.c.su.data.toList=some q.sp∧q.c.su.toList.isEmpty=false
  ni:∀ q∈ps,q.c.ni≤20
theorem valid_some {l:List UInt8} (h:validL l=true):l.isEmpty=false:=by
  cases l with
  | nil=>exact absurd h (by decide)
  | cons a r=>rfl
theorem cls_su {c:Cls} (h:clsB c=true):validL c.su.data.toList=true:=by
  unfold clsB at h
  simp only [Bool.and_eq_true] at h
  exact h.1.1.1.1.1.1.1.1.2
theorem stW (l:List Cls) (hl:∀ c∈l,ClsW c):StW (wld l):=by
  have h1:WI (wld l)∧WJ (wld l):=wld_ind (P:=fun ps=>WI ps∧WJ ps) ⟨wi3,wj3⟩ (fun ps c h hc=>⟨h.1.define c hc,h.2.define h.1 c hc⟩) l hl
  refine ⟨tyW l hl,h1.2,?_,?_⟩
  · refine wld_ind (P:=fun ps=>∀ k q,0<k→ps[k]?=some q→lookL ps q.c.su.data.toList=some q.sp∧q.c.su.toList.isEmpty=false) (fun k q h0 hk=>?_) (fun ps c h hc=>?_) l hl
    · match k,hk with
      | 1,hk=>simp [P3] at hk;subst hk;exact ⟨by decide,by rw [Lib.toList_data];decide⟩
      | 2,hk=>simp [P3] at hk;subst hk;exact ⟨by decide,by rw [Lib.toList_data];decide⟩
      | (k+3),hk=>simp [P3] at hk
    · cases hd:defN ps c with
      | error e=>exact h
      | ok p =>
        obtain ⟨h1,_,hn,s,ks,ha,_,rfl⟩:=def_ok hd
        intro k q h0 hk
        have hk2:(ps++[(⟨hcOf c,s,gathL (ps.map Plc.cl) s ks⟩:Plc)])[k]?=some q:=hk
        show lookL (ps++[_]) _=_∧_
        by_cases hlt:k<ps.length
        · rw [List.getElem?_append_left hlt] at hk2
          obtain ⟨h2,h3⟩:=h k q h0 hk2
          exact ⟨look_snoc h2 hn,h3⟩
        · rw [List.getElem?_append_right (by omega)] at hk2
          have he:k - ps.length=0:=by
            have:=(List.getElem?_eq_some_iff.1 hk2).1
            simp at this;omega
          rw [he] at hk2
          simp at hk2
          subst hk2
          exact ⟨look_snoc (above_ok ha).1 hn,by rw [Lib.toList_data];exact valid_some (cls_su h1)⟩
  · refine wld_ind (P:=fun ps=>∀ q∈ps,q.c.ni≤20) (fun q hq=>?_) (fun ps c h hc=>?_) l hl
    · simp only [P3,List.mem_cons,List.not_mem_nil,or_false] at hq
      rcases hq with rfl|rfl|rfl <;> decide
    · cases hd:defN ps c with
      | error e=>exact h
      | ok p =>
        obtain ⟨h1,_,hn,s,ks,ha,_,rfl⟩:=def_ok hd
        intro q hq
        rcases List.mem_append.1 hq with hq|hq
        · exact h q hq
        · simp only [List.mem_cons,List.not_mem_nil,or_false] at hq
          subst hq
          exact (cls_bound h1).1
def mkB (p:List UInt8):ByteArray:=⟨p.toArray⟩
theorem eqB {s t:ByteArray} (h:s.toList=t.toList):s=t:=by
  rw [Lib.toList_data,Lib.toList_data] at h
  obtain ⟨s⟩:=s
  obtain ⟨t⟩:=t
  simp only at h
  rw [Array.toList_inj.1 h]
theorem mkB_eq (s:ByteArray):mkB s.data.toList=s:=by
  obtain ⟨s⟩:=s
  simp [mkB]
theorem flatU_at2 (l:List (Int×List UInt8)) (k:Nat) (p:Int×List UInt8) (h:l[k]?=some p) (j:Nat) (hj:j<2):(flatU l)[k * 2+j]?=(tyU p)[j]?:=by
  induction l generalizing k with
  | nil=>simp at h
  | cons u ts ih =>
    have e:flatU (u::ts)=tyU u++flatU ts:=by simp [flatU]
    rw [e]
    cases k with
    | zero=>simp at h;subst h;rw [List.getElem?_append_left (by simp [tyU];omega)];simp
    | succ k =>
      simp at h
      rw [List.getElem?_append_right (by simp [tyU];omega)]
      have:=ih k h
      rw [← this]
      congr 1
      simp [tyU];omega
theorem flatU_len (l:List (Int×List UInt8)):(flatU l).length=l.length * 2:=by
  induction l with
  | nil=>rfl
  | cons u ts ih =>
    have e:flatU (u::ts)=tyU u++flatU ts:=by simp [flatU]
    rw [e,List.length_append,ih,List.length_cons]
    simp [tyU];omega
theorem rowU_at {w:World} {N g n cap:Nat} {l:List (Int×List UInt8)} (h:w.ownsRow N 24 2 (.slice (some ⟨g,0,none⟩) n cap) n (flatU l)) {k:Nat} {u:Int×List UInt8} (hu:l[k]?=some u):w.cell? ⟨g,k * 2,none⟩=some (.int .i64 u.1)∧w.cell? ⟨g,k * 2+1,none⟩=some (.string (mkB u.2))∧g<w.heap.size:=by
  have hl:l.length=n:=by have:=h.1;rw [flatU_len] at this;omega
  have hk:=(List.getElem?_eq_some_iff.1 hu).1
  have g0:w.cell? ⟨g,k * 2,none⟩=some (.int .i64 u.1):=(h.cellAt (k * 2+0) (by omega)).trans (flatU_at2 l k _ hu 0 (by omega))
  have g1:w.cell? ⟨g,k * 2+1,none⟩=some (.string (mkB u.2)):=(h.cellAt (k * 2+1) (by omega)).trans (flatU_at2 l k _ hu 1 (by omega))
  exact ⟨g0,g1,World.block_lt_of_cell? _ _ g0⟩
end Go.Proofs.YtkclpcmkplbclaaGreat
