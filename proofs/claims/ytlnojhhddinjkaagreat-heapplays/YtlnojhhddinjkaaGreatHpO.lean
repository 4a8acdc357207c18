import Derived.Test.YtlnojhhddinjkaaGreatHqM
set_option maxHeartbeats 4000000
set_option maxRecDepth 100000
namespace Go.Proofs.YtlnojhhddinjkaaGreat
open Go.RowKit Go.Maps
theorem dfl_no {W:World} {S:Nat→Prop} {r b:Nat} {tv ev:Value} {es:List Dv} (h:RhAt W S r b tv ev es) (d:Int) (nm:ByteArray) (g o K cap j c:Nat) (hc:W.cell? ⟨g,o+j,none⟩=some (.int .i64 (c:Int))) (hj:j<K) (hn:1000≤es.length∨20000<wdD es+c) :
 Calls Tryz.prog 79 #[.pointer (some ⟨r,0,none⟩),.agg #[.int .i64 d,.string nm],.slice (some ⟨g,o,none⟩) K cap,.int .i64 (j:Int)] W fun e w'=>e=.returned (.tuple #[.int .i64 0,.bool false])∧Bw W w':=by
 obtain ⟨c0,c1,c2,fz,hl⟩:=h.cells
 obtain ⟨a1,k1,hv1⟩:=ownv h.tw
 have n2:=h.n2
 have HW:Hid (∀ w,Bw W w→Calls Tryz.prog 43 #[.pointer (some ⟨r,0,none⟩)] w fun e w'=>e=.returned (.int .i64 (wdD es:Int))∧w'=w):=fun w hb=>Zaz (h.below hb)
 rw [hv1] at c1
 have hgl:g<W.heap.size:=World.block_lt_of_cell? W _ hc
 have gn:¬ g=W.heap.size:=by omega
 have rn:¬ r=W.heap.size:=by omega
 obtain ⟨L,hL⟩:∃ L,es.length=L:=⟨_,rfl⟩
 obtain ⟨wd,hwd⟩:∃ wd,wdD es=wd:=⟨_,rfl⟩
 rw [hL] at c1 hn
 rw [hwd] at hn n2 HW
 have hjI:(j:Int)<(K:Int):=by omega
 clear h hL hwd hv1
 by_cases h1:1000≤L
 ·have h1I:(1000:Int)≤(L:Int):=by omega
  clear hn
  go_enter Tryz.func79,Tryz.ntmps79
  go_upto_region 1 with fail
  obtain ⟨U,hU⟩:∃ U,U=W.alloc (.cells #[.int .i64 d,.string nm] 40):=⟨_,rfl⟩
  have HUE:Hid (U=W.alloc (.cells #[.int .i64 d,.string nm] 40)):=hU
  have BU:Hid (Bw W U):=by rw [hU];exact (Below.refl _ _).alloc (Nat.le_refl _) _
  clear hU
  obtain ⟨σ,V,hne,V1,V2⟩:=class_of' (fun w'=>Bw U w') ⟨_,Below.refl _ _⟩
  have e1:=fun q=>((Za BU.out (V1.out q)).cell (p:=⟨r,1,none⟩) hl).trans c1
  have e2:=fun q=>((Za BU.out (V1.out q)).cell (p:=⟨g,o+j,none⟩) hgl).trans hc
  have HVW:Hid (∀ q,Calls Tryz.prog 43 #[.pointer (some ⟨r,0,none⟩)] (V q) fun e w'=>e=.returned (.int .i64 (wd:Int))∧∃ q',w'=V q'):=fun q=>(HW.out _ (Za BU.out (V1.out q))).mono fun e w' ⟨h1,h2⟩=>⟨h1,q,h2⟩
  have dk:decide ((1000:Int)≤(L:Int))=true:=decide_eq_true (by omega)
  rw [← HUE.out]
  refine Zc (C:=fun w'=>∃ q,w'=V q) (by kernel_rfl) (by kernel_rfl) (V2.out _ (Below.refl _ _).drew) ?_
  repeat (go_big_quiet_step (first|(go_at_call 43;exact HVW.out _)))
  refine wpQuiet_nil ?_
  intro w9 hw9
  obtain ⟨s9,rfl⟩:=hw9
  have B9:Hid (Bw W (V s9)):=Za BU.out (V1.out s9)
  go_wp2
  go_ret2
  exact ⟨rfl,B9.out⟩
 ·have h1I:¬ (1000:Int)≤(L:Int):=by omega
  have h2I:(20000:Int) - (wd:Int)<(c:Int):=by omega
  clear hn
  go_enter Tryz.func79,Tryz.ntmps79
  go_upto_region 1 with fail
  obtain ⟨U,hU⟩:∃ U,U=W.alloc (.cells #[.int .i64 d,.string nm] 40):=⟨_,rfl⟩
  have HUE:Hid (U=W.alloc (.cells #[.int .i64 d,.string nm] 40)):=hU
  have BU:Hid (Bw W U):=by rw [hU];exact (Below.refl _ _).alloc (Nat.le_refl _) _
  clear hU
  obtain ⟨σ,V,hne,V1,V2⟩:=class_of' (fun w'=>Bw U w') ⟨_,Below.refl _ _⟩
  have e1:=fun q=>((Za BU.out (V1.out q)).cell (p:=⟨r,1,none⟩) hl).trans c1
  have e2:=fun q=>((Za BU.out (V1.out q)).cell (p:=⟨g,o+j,none⟩) hgl).trans hc
  have HVW:Hid (∀ q,Calls Tryz.prog 43 #[.pointer (some ⟨r,0,none⟩)] (V q) fun e w'=>e=.returned (.int .i64 (wd:Int))∧∃ q',w'=V q'):=fun q=>(HW.out _ (Za BU.out (V1.out q))).mono fun e w' ⟨h1,h2⟩=>⟨h1,q,h2⟩
  have dk:decide ((1000:Int)≤(L:Int))=false:=decide_eq_false (by omega)
  have w1:IntKind.i64.wrap ((20000:Int) - (wd:Int))=(20000:Int) - (wd:Int):=by rw [IntKind.wrap_i64];omega
  have dk2:decide ((20000:Int) - (wd:Int)<(c:Int))=true:=decide_eq_true (by omega)
  rw [← HUE.out]
  refine Zc (C:=fun w'=>∃ q,w'=V q) (by kernel_rfl) (by kernel_rfl) (V2.out _ (Below.refl _ _).drew) ?_
  repeat (go_big_quiet_step (first|(go_at_call 43;exact HVW.out _)))
  refine wpQuiet_nil ?_
  intro w9 hw9
  obtain ⟨s9,rfl⟩:=hw9
  have B9:Hid (Bw W (V s9)):=Za BU.out (V1.out s9)
  go_wp2
  go_ret2
  exact ⟨rfl,B9.out⟩
theorem dfl_one {W:World} {S:Nat→Prop} {r b:Nat} {tv ev:Value} {es:List Dv} (h:RhAt W S r b tv ev es) (d:Int) (nm:ByteArray) (g o K cap j c:Nat) (hc:W.cell? ⟨g,o+j,none⟩=some (.int .i64 (c:Int))) (hj:j+1=K) (hK:K≤1000000) (hn:es.length<1000) (hw:wdD es+c≤20000) :
 Calls Tryz.prog 79 #[.pointer (some ⟨r,0,none⟩),.agg #[.int .i64 d,.string nm],.slice (some ⟨g,o,none⟩) K cap,.int .i64 (j:Int)] W fun e w'=>e=.returned (.tuple #[.int .i64 ((es.length:Int)+1),.bool true])∧∃ e',RhN S W w' r b (es++[e'])∧e'.d=d∧e'.nm=nm∧e'.vs=List.replicate c (rfD d nm,0):=by
 obtain ⟨c0,c1,c2,fz,hl⟩:=h.cells
 obtain ⟨a1,k1,hv1⟩:=ownv h.tw
 have n2:=h.n2
 have HW:Hid (∀ w,Bw W w→Calls Tryz.prog 43 #[.pointer (some ⟨r,0,none⟩)] w fun e w'=>e=.returned (.int .i64 (wdD es:Int))∧w'=w):=fun w hb=>Zaz (h.below hb)
 have HY:Hid (∀ w,Bw W w→Calls Tryz.prog 78 #[.pointer (some ⟨r,0,none⟩),.agg #[.int .i64 d,.string nm],.int .i64 (c:Int)] w fun e w'=>e=.returned (.int .i64 ((es.length:Int)+1))∧∃ e',RhN S W w' r b (es++[e'])∧e'.d=d∧e'.nm=nm∧e'.vs=List.replicate c (rfD d nm,0)):=fun w hb=>(lay_d (h.below hb) d nm c hn hw).mono (fun e w' ⟨x,e',y,z⟩=>⟨x,e',y.pre hb,z⟩)
 rw [hv1] at c1
 have hgl:g<W.heap.size:=World.block_lt_of_cell? W _ hc
 have gn:¬ g=W.heap.size:=by omega
 have rn:¬ r=W.heap.size:=by omega
 obtain ⟨P,hP⟩:∃ P:World→Prop,P=fun w'=>∃ e',RhN S W w' r b (es++[e'])∧e'.d=d∧e'.nm=nm∧e'.vs=List.replicate c (rfD d nm,0):=⟨_,rfl⟩
 have HY2:Hid (∀ w,Bw W w→Calls Tryz.prog 78 #[.pointer (some ⟨r,0,none⟩),.agg #[.int .i64 d,.string nm],.int .i64 (c:Int)] w fun e w'=>e=.returned (.int .i64 ((es.length:Int)+1))∧P w'):=by rw [hP];exact HY
 have HPO:Hid (∀ w',P w'→∃ e',RhN S W w' r b (es++[e'])∧e'.d=d∧e'.nm=nm∧e'.vs=List.replicate c (rfD d nm,0)):=fun w' hp=>by rw [hP] at hp;exact hp
 obtain ⟨L,hL⟩:∃ L,es.length=L:=⟨_,rfl⟩
 obtain ⟨wd,hwd⟩:∃ wd,wdD es=wd:=⟨_,rfl⟩
 rw [hL] at c1 hn HY2 ⊢
 rw [hwd] at hw n2 HW
 subst hj
 have hjI:(j:Int)<((j+1:Nat):Int):=by omega
 have h1I:¬ (1000:Int)≤(L:Int):=by omega
 have h2I:¬ (20000:Int) - (wd:Int)<(c:Int):=by omega
 clear h hL hwd hv1 HY hP
 go_enter Tryz.func79,Tryz.ntmps79
 go_upto_region 1 with fail
 obtain ⟨U,hU⟩:∃ U,U=W.alloc (.cells #[.int .i64 d,.string nm] 40):=⟨_,rfl⟩
 have HUE:Hid (U=W.alloc (.cells #[.int .i64 d,.string nm] 40)):=hU
 have BU:Hid (Bw W U):=by rw [hU];exact (Below.refl _ _).alloc (Nat.le_refl _) _
 clear hU
 obtain ⟨σ,V,hne,V1,V2⟩:=class_of' (fun w'=>Bw U w') ⟨_,Below.refl _ _⟩
 have e1:=fun q=>((Za BU.out (V1.out q)).cell (p:=⟨r,1,none⟩) hl).trans c1
 have e2:=fun q=>((Za BU.out (V1.out q)).cell (p:=⟨g,o+j,none⟩) hgl).trans hc
 have HVW:Hid (∀ q,Calls Tryz.prog 43 #[.pointer (some ⟨r,0,none⟩)] (V q) fun e w'=>e=.returned (.int .i64 (wd:Int))∧∃ q',w'=V q'):=fun q=>(HW.out _ (Za BU.out (V1.out q))).mono fun e w' ⟨h1,h2⟩=>⟨h1,q,h2⟩
 have uv:Hid (U.heap[W.heap.size]?=some (.cells #[.int .i64 d,.string nm] 40 (0,0))):=by rw [HUE.out];exact Zg _ _
 have hUs:U.heap.size=W.heap.size+1:=by rw [HUE.out];simp
 have dk:decide ((1000:Int)≤(L:Int))=false:=decide_eq_false (by omega)
 have w1:IntKind.i64.wrap ((20000:Int) - (wd:Int))=(20000:Int) - (wd:Int):=by rw [IntKind.wrap_i64];omega
 have dk2:decide ((20000:Int) - (wd:Int)<(c:Int))=false:=decide_eq_false (by omega)
 rw [← HUE.out]
 refine Zc (C:=fun w'=>∃ q,w'=V q) (by kernel_rfl) (by kernel_rfl) (V2.out _ (Below.refl _ _).drew) ?_
 repeat (go_big_quiet_step (first|(go_at_call 43;exact HVW.out _)))
 refine wpQuiet_nil ?_
 intro w9 hw9
 obtain ⟨s9,rfl⟩:=hw9
 have B9:Hid (Bw W (V s9)):=Za BU.out (V1.out s9)
 obtain ⟨b0,b1,bf,bL⟩:=r2c (((V1.out s9).block W.heap.size (by omega)).trans uv.out)
 have x2:=e2 s9
 have gL9:g<(V s9).heap.size:=Nat.lt_of_lt_of_le hgl B9.out.size
 clear HVW e1 e2 V1 V2 uv HUE BU
 go_upto_region 3 with fail
 all_goals go_region_with (go_at_call 78;refine (HY2.out _ B9.out.drew).mono ?_;rintro e w2 ⟨rfl,hp⟩;have HQ:Hid (P w2):=hp;clear hp)
 all_goals go_wp2
 all_goals go_ret2
 all_goals exact ⟨rfl,HPO.out _ HQ.out⟩
def toQ (R:Bool) (xs:List Int):List (Bool×Int):=xs.map fun x=>(R,x)
theorem Zcd:∀ (vs:List (Bool×Int)) (k:Nat) (R:Bool) (x p:Int),vs[k]?=some (R,x)→Ya (vs.set k (R,p))=(Ya vs).set (k * 2+1) (.int .i64 p)
 | [],k,R,x,p,h=>by simp at h
 | v::r,0,R,x,p,h=>by simp at h;subst h;simp [Ya]
 | v::r,k+1,R,x,p,h=>by
   rw [List.set_cons_succ,Ya,Ya,Zcd r k R x p (by simpa using h),show (k+1) * 2+1=k * 2+1+1+1 by omega]
   simp
theorem Zjd (R:Bool) (xs:List Int) (k:Nat) (p:Int):(toQ R xs).set k (R,p)=toQ R (xs.set k p):=by
 unfold toQ
 rw [List.map_set]
theorem J6 (R:Bool) (xs:List Int):(toQ R xs).length=xs.length:=by simp [toQ]
theorem prtL_at (n s c i:Nat) (h:i<c):(prtL n s c i)[i]?=some 0:=by simp [prtL,h]
def wdQ:List (Int×ByteArray×List (Bool×Int))→Nat
 | []=>0
 | o::r=>o.2.2.length+wdQ r
theorem Zfj:∀ es:List Dv,wdQ (es.map Dv.q)=wdD es
 | []=>rfl
 | o::r=>by simp [wdQ,wdD,Zfj r,Dv.q]
theorem Zi8:∀ a b:List (Int×ByteArray×List (Bool×Int)),wdQ (a++b)=wdQ a+wdQ b
 | [],b=>by simp [wdQ]
 | o::r,b=>by simp [wdQ,Zi8 r b];omega
theorem Zhg (f:Nat→List (Int×ByteArray×List (Bool×Int))) (s:Nat) (h:∀ i,wdQ (f i)=s):∀ c,wdQ ((List.range c).flatMap f)=c * s
 | 0=>by simp [wdQ]
 | c+1=>by rw [List.range_succ,List.flatMap_append,Zi8,Zhg f s h c];simp [h,Nat.succ_mul]
def rmD (es:List Dv) (s t:Nat):Bool:=decide (es.length+s≤1000)&&decide (wdD es+t≤20000)
def lpQ (F:Nat→List (Int×ByteArray×List (Bool×Int))) (d:Int) (nm:ByteArray) (n s c i:Nat):List (Int×ByteArray×List (Bool×Int)):=(d,nm,toQ (rfD d nm) (prtL n s c i))::(List.range i).flatMap fun k=>F (n+1+k * s)
theorem lpQ_len {F:Nat→List (Int×ByteArray×List (Bool×Int))} {s:Nat} (hF:∀ n,(F n).length=s) (d:Int) (nm:ByteArray) (n c i:Nat):(lpQ F d nm n s c i).length=1+i * s:=by
 rw [lpQ,List.length_cons,Xs _ s (fun k=>hF _) i];omega
theorem lpQ_wd {F:Nat→List (Int×ByteArray×List (Bool×Int))} {s t:Nat} (hF:∀ n,wdQ (F n)=t) (d:Int) (nm:ByteArray) (n c i:Nat):wdQ (lpQ F d nm n s c i)=c+i * t:=by
 rw [lpQ,wdQ,Zhg _ t (fun k=>hF _) i]
 simp [J6,Jn]
theorem lpQ_step {F:Nat→List (Int×ByteArray×List (Bool×Int))} {d:Int} {nm:ByteArray} {n s c i:Nat} {xs ys:List Dv} {e0:Dv} {r0:List Dv} (hx:xs=e0::r0) (hq:xs.map Dv.q=lpQ F d nm n s c i) (hy:ys.map Dv.q=F (n+1+i * s)):(({ e0 with vs:=e0.vs.set i (rfD d nm,((n+2+i * s:Nat):Int)) }::r0)++ys).map Dv.q=lpQ F d nm n s c (i+1):=by
 subst hx
 rw [lpQ,List.map_cons] at hq
 injection hq with h1 h2
 obtain ⟨hd,hnm,hvs⟩:e0.d=d∧e0.nm=nm∧e0.vs=toQ (rfD d nm) (prtL n s c i):=by
  simp [Dv.q] at h1;exact h1
 rw [List.map_append,List.map_cons,h2,hy,lpQ,List.range_succ,List.flatMap_append,List.cons_append]
 congr 1
 ·simp only [Dv.q,hd,hnm,hvs]
  rw [Zjd,Zg0]
 ·simp
theorem dfl_set {w3:World} {S:Nat→Prop} {r b:Nat} {tv ev:Value} {ls:List Dv} (h:RhAt w3 S r b tv ev ls) {k i g:Nat} {e0:Dv} (hk:ls[k]?=some e0) (hg:e0.eb=some g) {R:Bool} {x p:Int} (hv:e0.vs[i]?=some (R,x)):RhAt (w3.setCell ⟨g,i * 2+1,none⟩ (.int .i64 p)) S r b tv ev (ls.set k { e0 with vs:=e0.vs.set i (R,p) }):=by
 have hm:=List.mem_of_getElem? hk
 have hgb:=h.el e0 hm g hg
 refine h.setV hk hg (e0.vs.set i (R,p)) (by simp) (by simp) (fun y hy hne=>Below.heap_setCell _ _ _ _ hne) ?_
 rw [Go.Joins.block_setCell (i:=i * 2+1) hgb,Zcd _ _ _ _ _ hv]
 simp
theorem RhN.back {S S3:Nat→Prop} {W wr w5:World} {r b:Nat} {ls:List Dv} (h:RhN S3 wr w5 r b ls) (T:Tch S W wr) (hz:∀ k,S k→k<W.heap.size) (hs:∀ k,S3 k→S k∨W.heap.size+1≤k):RhN S W w5 r b ls:=by
 obtain ⟨⟨tv,ev,h1⟩,T5⟩:=h
 have z1:=T.size
 have z5:=T5.size
 refine ⟨⟨tv,ev,h1.mono (fun k hk=>hk.elim (fun x=>by have:=hz k x;omega) (fun x=>x.2)) (fun k hk x=>?_)⟩,T.trans T5 (fun k hk x=>(hs k x).elim id (fun y=>by omega))⟩
 rcases x with x|x
 ·exact (hs k x).imp id (fun y=>⟨by omega,hk⟩)
 ·exact .inr ⟨by omega,x.2⟩
theorem rm_no {es zs:List Dv} {s t c i:Nat} (hl:zs.length=1+i * s) (hw:wdD zs=c+i * t) (hi:i<c) (h:rmD (es++zs) s t=false):rmD es (1+c * s) (c+c * t)=false:=by
 have h1:i * s+s≤c * s:=by rw [← Nat.succ_mul];exact Nat.mul_le_mul_right s hi
 have h2:i * t+t≤c * t:=by rw [← Nat.succ_mul];exact Nat.mul_le_mul_right t hi
 unfold rmD at *
 rw [List.length_append,Xy,hl,hw] at h
 simp at h ⊢
 omega
theorem rm_yes {es zs:List Dv} {s t c:Nat} (hl:zs.length=1+c * s) (hw:wdD zs=c+c * t) (h1:(es++zs).length≤1000) (h2:wdD (es++zs)≤20000):rmD es (1+c * s) (c+c * t)=true:=by
 rw [List.length_append,hl] at h1
 rw [Xy,hw] at h2
 simp [rmD,h1,h2]
theorem dfl_many {W:World} {S:Nat→Prop} {r b:Nat} {tv ev:Value} {es:List Dv} (h:RhAt W S r b tv ev es) (d:Int) (nm:ByteArray) (g o K cap j c s t:Nat) (F:Nat→List (Int×ByteArray×List (Bool×Int))) (hF1:∀ n,(F n).length=s) (hF2:∀ n,wdQ (F n)=t) (hd:0≤d∧d≤255) (hc:W.cell? ⟨g,o+j,none⟩=some (.int .i64 (c:Int))) (hj:j+1<K) (hK:K≤1000000) (hn:es.length<1000) (hw:wdD es+c≤20000) (hSg:¬ S g)
 (REC:Hid (∀ (w:World) (S':Nat→Prop) (tv' ev':Value) (es':List Dv),RhAt w S' r b tv' ev' es'→w.heap[g]?=W.heap[g]?→¬ S' g→Calls Tryz.prog 79 #[.pointer (some ⟨r,0,none⟩),.agg #[.int .i64 (d - 1),.string nm],.slice (some ⟨g,o,none⟩) K cap,.int .i64 ((j:Int)+1)] w fun e w'=>e=.returned (.tuple #[.int .i64 (if rmD es' s t then (es'.length:Int)+1 else 0),.bool (rmD es' s t)])∧∃ xs,RhN S' w w' r b (es'++xs)∧(rmD es' s t=true→xs.map Dv.q=F es'.length))) :
 Calls Tryz.prog 79 #[.pointer (some ⟨r,0,none⟩),.agg #[.int .i64 d,.string nm],.slice (some ⟨g,o,none⟩) K cap,.int .i64 (j:Int)] W fun e w'=>e=.returned (.tuple #[.int .i64 (if rmD es (1+c * s) (c+c * t) then (es.length:Int)+1 else 0),.bool (rmD es (1+c * s) (c+c * t))])∧∃ xs,RhN S W w' r b (es++xs)∧(rmD es (1+c * s) (c+c * t)=true→xs.map Dv.q=lpQ F d nm es.length s c c):=by
 obtain ⟨c0,c1,c2,fz,hl⟩:=h.cells
 obtain ⟨a1,k1,hv1⟩:=ownv h.tw
 have n2:=h.n2
 have HW:Hid (∀ w,Bw W w→Calls Tryz.prog 43 #[.pointer (some ⟨r,0,none⟩)] w fun e w'=>e=.returned (.int .i64 (wdD es:Int))∧w'=w):=fun w hb=>Zaz (h.below hb)
 rw [hv1] at c1
 have hgl:g<W.heap.size:=World.block_lt_of_cell? W _ hc
 have HY:Hid (∀ w,Below (W.heap.size+1) (W.alloc (.cells #[.int .i64 d,.string nm] 40)) w→Calls Tryz.prog 78 #[.pointer (some ⟨r,0,none⟩),.agg #[.int .i64 d,.string nm],.int .i64 (c:Int)] w fun e w'=>e=.returned (.int .i64 ((es.length:Int)+1))∧∃ xs S' tv' ev',RhAt w' S' r b tv' ev' (es++xs)∧xs.map Dv.q=lpQ F d nm es.length s c 0∧Tch S W w'∧(∀ k,S' k→S k∨W.heap.size+1≤k)∧w'.heap[W.heap.size]?=some (.cells #[.int .i64 d,.string nm] 40 (0,0))):=fun w hb=>by
  have hb0:Bw W w:=((Below.refl _ W).alloc (Nat.le_refl _) _).trans (hb.mono (by omega))
  have hbx:w.heap[W.heap.size]?=some (.cells #[.int .i64 d,.string nm] 40 (0,0)):=(hb.block W.heap.size (by omega)).trans (Zg _ _)
  have hz:=hb.size
  simp at hz
  refine (lay_d (h.below hb0) d nm c hn hw).mono (fun e w' ⟨x,e',⟨⟨tv',ev',y⟩,T⟩,e1,e2,e3⟩=>⟨x,[e'],_,tv',ev',y,?_,((Tch.refl S W).bel hb0).trans T (fun _ _ x=>x),fun k hk=>hk.imp id (fun z=>by omega),(T.blk W.heap.size (by omega) (fun z=>by have:=h.sz _ z;omega)).trans hbx⟩)
  have:toQ (rfD d nm) (List.replicate c 0)=List.replicate c (rfD d nm,0):=by simp [toQ]
  simp [lpQ,Dv.q,e1,e2,e3,prtL_0,this]
 obtain ⟨L,hL⟩:∃ L,es.length=L:=⟨_,rfl⟩
 obtain ⟨wd,hwd⟩:∃ wd,wdD es=wd:=⟨_,rfl⟩
 have HLW:Hid (es.length=L∧wdD es=wd):=⟨hL,hwd⟩
 have HS0:Hid (∀ k,S k→k<W.heap.size):=h.sz
 rw [hL] at c1 hn HY ⊢
 rw [hwd] at hw n2 HW
 have hjI:(j:Int)<(K:Int):=by omega
 have hj2:¬ (j:Int)=(K:Int) - 1:=by omega
 have hj3:((j:Int) == (K:Int) - 1)=false:=by simpa using hj2
 have h1I:¬ (1000:Int)≤(L:Int):=by omega
 have h2I:¬ (20000:Int) - (wd:Int)<(c:Int):=by omega
 have HCC:Hid (W.cell? ⟨g,o+j,none⟩=some (.int .i64 (c:Int))):=hc
 have HSg:Hid (¬ S g):=hSg
 obtain ⟨tot,hT⟩:∃ q,rmD es (1+c * s) (c+c * t)=q:=⟨_,rfl⟩
 rw [hT]
 obtain ⟨ans,hA⟩:∃ a:Int,(if tot=true then (L:Int)+1 else 0)=a:=⟨_,rfl⟩
 rw [hA]
 obtain ⟨P,hP⟩:∃ P:World→Prop,P=fun w'=>∃ xs,RhN S W w' r b (es++xs)∧(tot=true→xs.map Dv.q=lpQ F d nm L s c c):=⟨_,rfl⟩
 have HTA:Hid (rmD es (1+c * s) (c+c * t)=tot):=hT
 have HAN:Hid ((if tot=true then (L:Int)+1 else 0)=ans):=hA
 have HPI:Hid (∀ w' xs,RhN S W w' r b (es++xs)→(tot=true→xs.map Dv.q=lpQ F d nm L s c c)→P w'):=fun w' xs h1 h2=>by rw [hP];exact ⟨xs,h1,h2⟩
 rw [show (fun (e:Ending) (w':World)=>e=Ending.returned (.tuple #[.int .i64 ans,.bool tot])∧∃ xs,RhN S W w' r b (es++xs)∧(tot=true→xs.map Dv.q=lpQ F d nm L s c c))=fun e w'=>e=Ending.returned (.tuple #[.int .i64 ans,.bool tot])∧P w' by rw [hP]]
 clear h hL hwd hv1 hSg hT hA hP
 go_enter Tryz.func79,Tryz.ntmps79
 go_upto_region 1 with fail
 obtain ⟨U,hU⟩:∃ U,U=W.alloc (.cells #[.int .i64 d,.string nm] 40):=⟨_,rfl⟩
 have HUE:Hid (U=W.alloc (.cells #[.int .i64 d,.string nm] 40)):=hU
 have BU:Hid (Bw W U):=by rw [hU];exact (Below.refl _ _).alloc (Nat.le_refl _) _
 rw [← hU] at HY
 clear hU
 obtain ⟨σ,V,hne,V1,V2⟩:=class_of' (fun w'=>Bw U w') ⟨_,Below.refl _ _⟩
 have e1:=fun q=>((Za BU.out (V1.out q)).cell (p:=⟨r,1,none⟩) hl).trans c1
 have e2:=fun q=>((Za BU.out (V1.out q)).cell (p:=⟨g,o+j,none⟩) hgl).trans hc
 have HVW:Hid (∀ q,Calls Tryz.prog 43 #[.pointer (some ⟨r,0,none⟩)] (V q) fun e w'=>e=.returned (.int .i64 (wd:Int))∧∃ q',w'=V q'):=fun q=>(HW.out _ (Za BU.out (V1.out q))).mono fun e w' ⟨h1,h2⟩=>⟨h1,q,h2⟩
 have uv:Hid (U.heap[W.heap.size]?=some (.cells #[.int .i64 d,.string nm] 40 (0,0))):=by rw [HUE.out];exact Zg _ _
 have hUs:U.heap.size=W.heap.size+1:=by rw [HUE.out];simp
 have dk:decide ((1000:Int)≤(L:Int))=false:=decide_eq_false (by omega)
 have w1:IntKind.i64.wrap ((20000:Int) - (wd:Int))=(20000:Int) - (wd:Int):=by rw [IntKind.wrap_i64];omega
 have dk2:decide ((20000:Int) - (wd:Int)<(c:Int))=false:=decide_eq_false (by omega)
 rw [← HUE.out]
 refine Zc (C:=fun w'=>∃ q,w'=V q) (by kernel_rfl) (by kernel_rfl) (V2.out _ (Below.refl _ _).drew) ?_
 repeat (go_big_quiet_step (first|(go_at_call 43;exact HVW.out _)))
 refine wpQuiet_nil ?_
 intro w9 hw9
 obtain ⟨s9,rfl⟩:=hw9
 have B9:Hid (Below (W.heap.size+1) U (V s9)):=by rw [← hUs];exact V1.out s9
 obtain ⟨b0,b1,bf,bL⟩:=r2c (((V1.out s9).block W.heap.size (by omega)).trans uv.out)
 have x2:=e2 s9
 clear HVW e1 e2 V1 V2 uv BU HW
 go_upto_region 3 with fail
 go_region_with (go_at_call 78;refine (HY.out _ B9.out.drew).mono ?_;rintro e w2 ⟨rfl,xs,S2,tv2,ev2,ya,yb,yc,yd,ye⟩;have YA:Hid (RhAt w2 S2 r b tv2 ev2 (es++xs)):=ya;have YB:Hid (xs.map Dv.q=lpQ F d nm L s c 0):=yb;have YC:Hid (Tch S W w2):=yc;have YD:Hid (∀ k,S2 k→S k∨W.heap.size+1≤k):=yd;have YE:Hid (w2.heap[W.heap.size]?=some (.cells #[.int .i64 d,.string nm] 40 (0,0))):=ye;clear ya yb yc yd ye)
 all_goals go_wp2
 all_goals
  go_loopw [11] (fun iv wr=>∃ i:Nat,iv=.int .i64 (i:Int)∧i≤c∧Hid (∃ (zs:List Dv) (S':Nat→Prop) (tv' ev':Value),RhAt wr S' r b tv' ev' (es++zs)∧zs.map Dv.q=lpQ F d nm L s c i∧Tch S W wr∧(∀ k,S' k→S k∨W.heap.size+1≤k)∧wr.heap[W.heap.size]?=some (.cells #[.int .i64 d,.string nm] 40 (0,0)))) (fun iv _=>c - (intOf iv).toNat)
  case atStart=>exact ⟨0,rfl,Nat.zero_le _,xs,S2,tv2,ev2,YA.out,YB.out,YC.out,YD.out,YE.out⟩
  case round =>
   obtain ⟨i,rfl,hi,HREL⟩:=hrel
   obtain ⟨zs,S3,tv3,ev3,ra,rq,rt,rs,rb⟩:=HREL.out
   have RA:Hid (RhAt wr S3 r b tv3 ev3 (es++zs)):=ra
   have RQ:Hid (zs.map Dv.q=lpQ F d nm L s c i):=rq
   have RT:Hid (Tch S W wr):=rt
   have RS:Hid (∀ k,S3 k→S k∨W.heap.size+1≤k):=rs
   have RB:Hid (wr.heap[W.heap.size]?=some (.cells #[.int .i64 d,.string nm] 40 (0,0))):=rb
   clear HREL ra rq rt rs rb
   clear YA YB YC YD YE HY
   have xg:wr.heap[g]?=W.heap[g]?:=RT.out.blk g hgl HSg.out
   have x3:wr.cell? ⟨g,o+j,none⟩=some (.int .i64 (c:Int)):=(World.cell?_of_block (a:=⟨g,o+j,none⟩) xg).trans HCC.out
   obtain ⟨p0,p1,pf,pL⟩:=r2c RB.out
   have zl:zs.length=1+i * s:=by rw [← List.length_map (f:=Dv.q),RQ.out,lpQ_len hF1]
   have zw:wdD zs=c+i * t:=by rw [← Zfj,RQ.out,lpQ_wd hF2]
   have m1:=RA.out.n1
   have m2:=RA.out.n2
   by_cases hlt:i<c
   ·have hltI:(i:Int)<(c:Int):=by omega
    have NG:¬ S3 g:=fun x=>(RS.out g x).elim HSg.out (fun y=>by omega)
    have HC:=REC.out wr S3 tv3 ev3 (es++zs) RA.out xg NG
    have wj:IntKind.i64.wrap ((j:Int)+1)=(j:Int)+1:=by rw [IntKind.wrap_i64];omega
    have wdm:IntKind.i64.wrap (d - 1)=d - 1:=by rw [IntKind.wrap_i64];omega
    cases hq:rmD (es++zs) s t with
    | false =>
      obtain rfl:tot=false:=HTA.out.symm.trans (rm_no zl zw hlt hq)
      obtain rfl:ans=0:=HAN.out.symm
      rw [hq] at HC
      have HR:Hid (Calls Tryz.prog 79 #[.pointer (some ⟨r,0,none⟩),.agg #[.int .i64 (d - 1),.string nm],.slice (some ⟨g,o,none⟩) K cap,.int .i64 ((j:Int)+1)] wr fun e w'=>e=.returned (.tuple #[.int .i64 0,.bool false])∧∃ ys,RhN S W w' r b (es++(zs++ys))):=HC.mono (fun e w' ⟨x,ys,y,_⟩=>⟨x,ys,by rw [← List.append_assoc];exact y.back RT.out HS0.out RS.out⟩)
      clear HC REC RA RQ RT RS RB HCC HSg m1 m2 hq xg
      go_wp2_with (go_at_call 79;refine (HR.out).mono ?_;rintro e w5 ⟨rfl,ys,y⟩;have Y5:Hid (RhN S W w5 r b (es++(zs++ys))):=y;clear y)
      go_ret2
      exact ⟨rfl,HPI.out _ _ Y5.out (fun x=>by cases x)⟩
    | true =>
      obtain ⟨e0,r0,hz0⟩:∃ e0 r0,zs=e0::r0:=by
       cases zs with
       | nil=>simp at zl;omega
       | cons a b=>exact ⟨a,b,rfl⟩
      have hv0:e0.vs=toQ (rfD d nm) (prtL L s c i)∧e0.d=d∧e0.nm=nm:=by
       have:=RQ.out
       rw [hz0,lpQ,List.map_cons] at this
       injection this with h1 _
       simp [Dv.q] at h1
       exact ⟨h1.2.2,h1.1,h1.2.1⟩
      have hvi:e0.vs[i]?=some (rfD d nm,0):=by rw [hv0.1,toQ,List.getElem?_map,prtL_at _ _ _ _ hlt];rfl
      have hvl:e0.vs.length=c:=by rw [hv0.1,J6,Jn]
      have hme:e0∈es++zs:=by rw [hz0];simp
      obtain ⟨g0,hg0⟩:∃ g0,e0.eb=some g0:=by
       cases e:e0.eb with
       | none=>have:=RA.out.no e0 hme e;rw [this] at hvl;simp at hvl;omega
       | some g0=>exact ⟨g0,rfl⟩
      have hel:((es++zs).length:Int)+1=((L+2+i * s:Nat):Int):=by rw [List.length_append,HLW.out.1,zl];omega
      have hel2:(es++zs).length=L+1+i * s:=by rw [List.length_append,HLW.out.1,zl];omega
      rw [hq] at HC
      obtain ⟨pn,hpn⟩:∃ pn:Int,pn=((L+2+i * s:Nat):Int):=⟨_,rfl⟩
      have HR:Hid (Calls Tryz.prog 79 #[.pointer (some ⟨r,0,none⟩),.agg #[.int .i64 (d - 1),.string nm],.slice (some ⟨g,o,none⟩) K cap,.int .i64 ((j:Int)+1)] wr fun e w'=>e=.returned (.tuple #[.int .i64 pn,.bool true])∧∃ gv M k5,w'.cell? ⟨r,2,none⟩=some (.slice (some ⟨gv,0,none⟩) M k5)∧L<M∧w'.cell? ⟨gv,L,none⟩=some (.slice (some ⟨g0,0,none⟩) c c)∧w'.cell? ⟨g0,i * 2+1,none⟩=some (.int .i64 0)∧w'.frozen? ⟨g0,i * 2+1,none⟩=false∧∃ zs' S' tv' ev',RhAt (w'.setCell ⟨g0,i * 2+1,none⟩ (.int .i64 pn)) S' r b tv' ev' (es++zs')∧zs'.map Dv.q=lpQ F d nm L s c (i+1)∧Tch S W (w'.setCell ⟨g0,i * 2+1,none⟩ (.int .i64 pn))∧(∀ k,S' k→S k∨W.heap.size+1≤k)∧(w'.setCell ⟨g0,i * 2+1,none⟩ (.int .i64 pn)).heap[W.heap.size]?=some (.cells #[.int .i64 d,.string nm] 40 (0,0))):=HC.mono (fun e w' ⟨x,ys,⟨⟨tv5,ev5,h5⟩,T5⟩,y⟩=>by
       subst hpn
       refine ⟨by rw [x,if_pos rfl,hel],?_⟩
       have hat:(es++zs++ys)[L]?=some e0:=by
        rw [hz0,List.append_assoc,List.getElem?_append_right (Nat.le_of_eq HLW.out.1),HLW.out.1];simp
       have hkl:=(List.getElem?_eq_some_iff.1 hat).1
       have hgb:=h5.el e0 (List.mem_of_getElem? hat) g0 hg0
       obtain ⟨f0,f1⟩:=Xp e0.vs i _ hvi
       obtain ⟨q0,q1,q2,_,_⟩:=h5.cells
       have hvw:=h5.vw
       obtain ⟨gv,k5,e2⟩:=Go.Joins.ownsRow_form hvw (by omega)
       rw [e2] at hvw q2
       have hgS:=h5.eS e0 (List.mem_of_getElem? hat) g0 hg0
       have hg1:S g0∨W.heap.size+1≤g0:=hgS.elim (RS.out g0) (fun z=>.inr (by omega))
       have hgW:W.heap.size≠g0:=fun e=>hg1.elim (fun z=>by have:=HS0.out _ z;omega) (fun z=>by omega)
       have TW:Tch S W w':=RT.out.trans T5 (fun k hk z=>(RS.out k z).elim id (fun u=>by omega))
       refine ⟨gv,_,k5,q2,hkl,?_,?_,frozen_of_row w' g0 _ _ _ hgb,({ e0 with vs:=e0.vs.set i (rfD d nm,((L+2+i * s:Nat):Int)) }::r0)++ys,gS S3 wr.heap.size w'.heap.size,tv5,ev5,?_,lpQ_step hz0 RQ.out (by rw [y rfl,hel2]),TW.set (p:=⟨g0,i * 2+1,none⟩) (hg1.imp id (fun z=>by show W.heap.size≤g0;omega)) _,fun k hk=>hk.elim (RS.out k) (fun z=>.inr (by omega)),?_⟩
       ·rw [hvw.cellAt L (by omega),List.getElem?_map,hat]
        simp [dvV,ebV,hg0,hvl]
       ·rw [cell_of_row w' g0 _ _ _ _ hgb]
        simpa using f1
       ·have:=dfl_set (p:=((L+2+i * s:Nat):Int)) h5 hat hg0 hvi
        have e3:(es++zs++ys).set L { e0 with vs:=e0.vs.set i (rfD d nm,((L+2+i * s:Nat):Int)) }=es++(({ e0 with vs:=e0.vs.set i (rfD d nm,((L+2+i * s:Nat):Int)) }::r0)++ys):=by
         rw [hz0,List.append_assoc,List.set_append,if_neg (by rw [HLW.out.1];omega),HLW.out.1]
         simp
        rw [e3] at this
        exact this
       ·rw [Below.heap_setCell _ _ _ _ hgW]
        exact (T5.blk W.heap.size pL (fun z=>(RS.out _ z).elim (fun u=>by have:=HS0.out _ u;omega) (fun u=>by omega))).trans RB.out)
      clear HC REC RA RQ RT RS RB HCC HSg m1 m2 hq xg hme hel hpn
      go_wp2_with (go_at_call 79;refine (HR.out).mono ?_;rintro e w5 ⟨rfl,gv,M,k5,t2,tL,t3,t4,t5,zs',S5,tv5,ev5,y1,y2,y3,y4,y5⟩;have Y1:Hid _:=y1;have Y2:Hid _:=y2;have Y3:Hid _:=y3;have Y4:Hid _:=y4;have Y5:Hid _:=y5;have tLI:(L:Int)<(M:Int):=(by omega);clear y1 y2 y3 y4 y5)
      go_roundw
      case rel=>exact ⟨i+1,by go_num,by omega,zs',S5,tv5,ev5,Y1.out,Y2.out,Y3.out,Y4.out,Y5.out⟩
      case measure=>simp [intOf];omega
   ·obtain rfl:i=c:=by omega
    have hltI:¬ (i:Int)<(i:Int):=by omega
    obtain rfl:tot=true:=HTA.out.symm.trans (rm_yes zl zw m1 m2)
    obtain rfl:ans=(L:Int)+1:=HAN.out.symm
    have Y5:Hid (RhN S W wr r b (es++zs)):=⟨⟨tv3,ev3,RA.out.mono (fun k hk=>hk.elim (fun x=>by have:=HS0.out k x;have:=RT.out.size;omega) (fun x=>x.2)) (fun k hk x=>(RS.out k x).imp id (fun y=>⟨by omega,hk⟩))⟩,RT.out⟩
    have YQ:Hid (zs.map Dv.q=lpQ F d nm L s i i):=RQ
    clear REC RA RQ RT RS RB HCC HSg m1 m2 xg
    go_wp2
    go_ret2
    exact ⟨rfl,HPI.out _ _ Y5.out (fun _=>YQ.out)⟩
def poQ (p:PO):Int×ByteArray×List (Bool×Int):=(p.1,p.2.1,toQ (rfD p.1 p.2.1) p.2.2)
def filQ (nm:ByteArray) (d:Int) (cs:List Nat) (n:Nat):List (Int×ByteArray×List (Bool×Int)):=(filP nm d cs n).map poQ
theorem Zi7:∀ l:List PO,wdQ (l.map poQ)=wdP l
 | []=>rfl
 | o::r=>by simp [wdQ,wdP,Zi7 r,poQ,J6]
theorem filQ_len (nm:ByteArray) (d:Int) (cs:List Nat) (n:Nat):(filQ nm d cs n).length=szC cs:=by rw [filQ,List.length_map,Zdr]
theorem filQ_wd (nm:ByteArray) (d:Int) (cs:List Nat) (n:Nat):wdQ (filQ nm d cs n)=wdC cs:=by rw [filQ,Zi7,Zgd]
theorem filQ_one (nm:ByteArray) (d:Int) (c n:Nat):filQ nm d [c] n=[(d,nm,List.replicate c (rfD d nm,0))]:=by
 rw [filQ,filP]
 have h1:(List.range c).map (fun i=>if ([]:List Nat)=[] then (0:Int) else ((n+2+i * szC []:Nat):Int))=List.replicate c 0:=by
  apply List.ext_getElem?
  intro k
  by_cases h:k<c
  ·simp [h]
  ·simp [h]
 have h2:∀ k:Nat,(List.range k).flatMap (fun i=>filP nm (d - 1) [] (n+1+i * szC []))=[]:=by
  intro k
  simp [filP]
 rw [h1,h2]
 simp [poQ,toQ]
theorem Zkq (nm:ByteArray) (d:Int) (c c2:Nat) (cs:List Nat) (n:Nat):filQ nm d (c::c2::cs) n=lpQ (fun m=>filQ nm (d - 1) (c2::cs) m) d nm n (szC (c2::cs)) c c:=by
 rw [filQ,filP,List.map_cons,lpQ]
 congr 1
 ·rw [Zg1]
  simp [poQ]
 ·rw [List.map_flatMap]
  rfl
theorem rm_off {es:List Dv} {c s t:Nat} (h:1000≤es.length∨20000<wdD es+c):rmD es (1+s) (c+t)=false:=by
 simp [rmD];omega
theorem dfl_c (nm:ByteArray) (g o K cap r b:Nat) (hK:K≤1000000):∀ (cs:List Nat) (c j:Nat) (d:Int) (W:World) (S:Nat→Prop) (tv ev:Value) (es:List Dv),RhAt W S r b tv ev es→CsAt W g (o+j) (c::cs)→j+1+cs.length=K→(cs.length:Int)≤d→d≤255→¬ S g →
 Calls Tryz.prog 79 #[.pointer (some ⟨r,0,none⟩),.agg #[.int .i64 d,.string nm],.slice (some ⟨g,o,none⟩) K cap,.int .i64 (j:Int)] W fun e w'=>e=.returned (.tuple #[.int .i64 (if rmD es (szC (c::cs)) (wdC (c::cs)) then (es.length:Int)+1 else 0),.bool (rmD es (szC (c::cs)) (wdC (c::cs)))])∧∃ xs,RhN S W w' r b (es++xs)∧(rmD es (szC (c::cs)) (wdC (c::cs))=true→xs.map Dv.q=filQ nm d (c::cs) es.length)
 | cs,c,j,d,W,S,tv,ev,es,h,hC,hj,hd,hd2,hg=>by
   have h0:W.cell? ⟨g,o+j,none⟩=some (.int .i64 (c:Int)):=hC 0 c rfl
   by_cases hr:1000≤es.length∨20000<wdD es+c
   ·have q:rmD es (szC (c::cs)) (wdC (c::cs))=false:=rm_off hr
    rw [q]
    exact (dfl_no h d nm g o K cap j c h0 (by omega) hr).mono fun e w' ⟨x,hb⟩=>⟨by rw [x];rfl,[],by rw [List.append_nil];exact h.stay hb,fun x=>by cases x⟩
   ·cases cs with
    | nil =>
      have q:rmD es (szC [c]) (wdC [c])=true:=by
       have z1:szC [c]=1:=by simp [szC]
       have z2:wdC [c]=c:=by simp [wdC]
       rw [z1,z2,rmD,Bool.and_eq_true,decide_eq_true_eq,decide_eq_true_eq]
       omega
      rw [q]
      refine (dfl_one h d nm g o K cap j c h0 (by simpa using hj) hK (by omega) (by omega)).mono fun e w' ⟨x,e',y,q1,q2,q3⟩=>⟨by rw [x];rfl,[e'],y,fun _=>?_⟩
      rw [filQ_one];simp [Dv.q,q1,q2,q3]
    | cons c2 cs2 =>
      have hd0:(0:Int)≤d:=by omega
      have hl:(c2::cs2).length=cs2.length+1:=rfl
      have REC:Hid (∀ (w:World) (S':Nat→Prop) (tv' ev':Value) (es':List Dv),RhAt w S' r b tv' ev' es'→w.heap[g]?=W.heap[g]?→¬ S' g→Calls Tryz.prog 79 #[.pointer (some ⟨r,0,none⟩),.agg #[.int .i64 (d - 1),.string nm],.slice (some ⟨g,o,none⟩) K cap,.int .i64 ((j:Int)+1)] w fun e w'=>e=.returned (.tuple #[.int .i64 (if rmD es' (szC (c2::cs2)) (wdC (c2::cs2)) then (es'.length:Int)+1 else 0),.bool (rmD es' (szC (c2::cs2)) (wdC (c2::cs2)))])∧∃ xs,RhN S' w w' r b (es'++xs)∧(rmD es' (szC (c2::cs2)) (wdC (c2::cs2))=true→xs.map Dv.q=filQ nm (d - 1) (c2::cs2) es'.length)):=fun w S' tv' ev' es' h' hk hS=>by
       have:=dfl_c nm g o K cap r b hK cs2 c2 (j+1) (d - 1) w S' tv' ev' es' h' (by have:=hC.drop.keep hk;rwa [Nat.add_assoc] at this) (by omega) (by omega) (by omega) hS
       rw [show ((j+1:Nat):Int)=(j:Int)+1 by omega] at this
       exact this
      rw [Zkq]
      exact dfl_many h d nm g o K cap j c (szC (c2::cs2)) (wdC (c2::cs2)) (fun m=>filQ nm (d - 1) (c2::cs2) m) (filQ_len nm (d - 1) _) (filQ_wd nm (d - 1) _) ⟨hd0,hd2⟩ h0 (by omega) hK (by omega) (by omega) hg REC
 termination_by cs=>cs.length
theorem mul_d1 {W:World} {r b:Nat} (d E:Int) (nm:ByteArray) (v:Value) (hE:¬ E=0) (c0:W.cell? ⟨r,0,none⟩=some (.pointer (some ⟨b,0,none⟩)))
 (HL:Hid (∀ w,Bw W w→Calls Tryz.prog 77 #[.pointer (some ⟨b,0,none⟩),.agg #[.int .i64 d,.string nm]] w fun e w'=>e=.returned (.int .i64 E)∧Bw w w')) :
 Calls Tryz.prog 38 #[.pointer (some ⟨r,0,none⟩),.agg #[.int .i64 d,.string nm],v] W fun e w'=>e=.returned (.tuple #[.int .i64 0,.int .i64 E])∧Bw W w':=by
 have hl:r<W.heap.size:=World.block_lt_of_cell? W _ c0
 have hn:¬ r=W.heap.size:=by omega
 have B0:Hid (Bw W (W.alloc (.cells #[.int .i64 d,.string nm] 40))):=(Below.refl _ _).alloc (Nat.le_refl _) _
 go_enter Tryz.func38,Tryz.ntmps38
 go_upto_region 1 with fail
 go_region_law (refine Zbo rfl 77 Zbk (.tmp 16) (.tmp 17) 30 40 rfl (.pointer (some ⟨b,0,none⟩)) (.agg #[.int .i64 d,.string nm]) (by first|(simp [Act.eval];done)|(simp [Act.eval,Act.put];done)) (by first|(simp [Act.eval];done)|(simp [Act.eval,Act.put];done)) (HL.out _ B0.out.drew) ?_;rintro e w3 ⟨rfl,hB⟩;refine ⟨_,rfl,?_⟩;have B3:Hid (Bw W w3):=Za B0.out.drew hB;clear hB)
 all_goals go_wp2
 all_goals go_ret2
 all_goals exact ⟨rfl,B3.out⟩
theorem mul_d2 {W:World} {r b:Nat} (d:Int) (nm:ByteArray) (a:Option Addr) (n cap:Nat) (hn9:n=0∨d<(n:Int)) (c0:W.cell? ⟨r,0,none⟩=some (.pointer (some ⟨b,0,none⟩)))
 (HL:Hid (∀ w,Bw W w→Calls Tryz.prog 77 #[.pointer (some ⟨b,0,none⟩),.agg #[.int .i64 d,.string nm]] w fun e w'=>e=.returned (.int .i64 0)∧Bw w w')) :
 Calls Tryz.prog 38 #[.pointer (some ⟨r,0,none⟩),.agg #[.int .i64 d,.string nm],.slice a n cap] W fun e w'=>e=.returned (.tuple #[.int .i64 0,.int .i64 2])∧Bw W w':=by
 have hl:r<W.heap.size:=World.block_lt_of_cell? W _ c0
 have hn:¬ r=W.heap.size:=by omega
 have B0:Hid (Bw W (W.alloc (.cells #[.int .i64 d,.string nm] 40))):=(Below.refl _ _).alloc (Nat.le_refl _) _
 have fin:(n:Int)=0∨(¬ (n:Int)=0∧d<(n:Int)):=by omega
 clear hn9
 rcases fin with h1|⟨h1,h2⟩
 all_goals
  go_enter Tryz.func38,Tryz.ntmps38
  go_upto_region 1 with fail
  go_region_law (refine Zbo rfl 77 Zbk (.tmp 16) (.tmp 17) 30 40 rfl (.pointer (some ⟨b,0,none⟩)) (.agg #[.int .i64 d,.string nm]) (by first|(simp [Act.eval];done)|(simp [Act.eval,Act.put];done)) (by first|(simp [Act.eval];done)|(simp [Act.eval,Act.put];done)) (HL.out _ B0.out.drew) ?_;rintro e w3 ⟨rfl,hB⟩;refine ⟨_,rfl,?_⟩;have B3:Hid (Bw W w3):=Za B0.out.drew hB;have B4:Hid (Below (W.alloc (.cells #[.int .i64 d,.string nm] 40)).heap.size (W.alloc (.cells #[.int .i64 d,.string nm] 40)) w3):=(Below.refl _ _).drew.trans hB;obtain ⟨xB,x0,x1,xf,xL,xN⟩:=k2c (n:=W.heap.size) B4.out (by simp) (Zg _ _);clear hB)
  all_goals go_wp2
  all_goals go_ret2
  all_goals exact ⟨rfl,B3.out⟩
theorem Zg5 {xs:List Int} (h:negB xs=false) {i:Nat} {x:Int} (hx:xs[i]?=some x):¬ x<0:=by
 intro h0
 have:(xs.any fun x=>decide (x<0))=true:=List.any_eq_true.2 ⟨x,List.mem_of_getElem? hx,decide_eq_true h0⟩
 rw [negB] at h
 rw [h] at this
 cases this
theorem neg_take {xs:List Int} {i:Nat} {x:Int} (hx:xs[i]?=some x) (h:¬ x<0) (hn:negB (xs.take i)=false):negB (xs.take (i+1))=false:=by
 rw [List.take_add_one,hx,negB,List.any_append]
 rw [negB] at hn
 rw [hn]
 simp;omega
def slF (a:Option Addr) (m c:Nat):Prop:=(a=none∧m=0∧c=0)∨∃ g:Nat,a=some ⟨g,0,none⟩
theorem Zfy {w:World} {N e s:Nat} {v:Value} {n:Nat} {xs:List Value} (h:w.ownsRow N e s v n xs):∃ a c,v=.slice a n c∧n≤c∧slF a n c:=by
 rcases h.2 with ⟨e1,e2⟩|⟨g,c,cur,e1,h1,h2,h3,h4,h5,h6⟩
 ·subst e1
  cases e2
  exact ⟨none,0,rfl,Nat.le_refl _,.inl ⟨rfl,rfl,rfl⟩⟩
 ·exact ⟨some ⟨g,0,none⟩,c,e1,h3,.inr ⟨g,rfl⟩⟩
def CutR (R:World→Prop) (L r:Nat) (w':World):Prop :=
 ∃ (a1:Option Addr) (c1:Nat) (a2:Option Addr) (c2 m:Nat),w'.cell? ⟨r,1,none⟩=some (.slice a1 m c1)∧w'.cell? ⟨r,2,none⟩=some (.slice a2 m c2)∧L≤m∧m≤c1∧m≤c2∧slF a1 m c1∧slF a2 m c2∧(∀ k,w'.frozen? ⟨r,k,none⟩=false)∧R ((w'.setCell ⟨r,1,none⟩ (.slice a1 L c1)).setCell ⟨r,2,none⟩ (.slice a2 L c2))
theorem CutR.mono {R R':World→Prop} {L r:Nat} {w':World} (h:CutR R L r w') (hr:∀ w,R w→R' w):CutR R' L r w':=by
 obtain ⟨a1,c1,a2,c2,m,h1,h2,h3,h4,h5,h6,h7,h8,h9⟩:=h
 exact ⟨a1,c1,a2,c2,m,h1,h2,h3,h4,h5,h6,h7,h8,hr _ h9⟩
theorem RhN.cutR {S:Nat→Prop} {W w':World} {r b:Nat} {es xs:List Dv} (h:RhN S W w' r b (es++xs)) (hr:S r):CutR (fun w2=>RhN S W w2 r b es) es.length r w':=by
 obtain ⟨⟨tv,ev,h1⟩,T⟩:=h
 obtain ⟨a1,c1,rfl,k1,f1⟩:=Zfy h1.tw
 obtain ⟨a2,c2,rfl,k2,f2⟩:=Zfy h1.vw
 obtain ⟨q0,q1,q2,q3,q4⟩:=h1.cells
 have hc:=h1.cut rfl
 have z:∀ (p q:Addr) (x y:Value),((w'.setCell p x).setCell q y).heap.size=w'.heap.size:=fun p q x y=>by simp [World.setCell]
 have hm:RhAt ((w'.setCell ⟨r,1,none⟩ (.slice a1 es.length c1)).setCell ⟨r,2,none⟩ (.slice a2 es.length c2)) (gS S W.heap.size ((w'.setCell ⟨r,1,none⟩ (.slice a1 es.length c1)).setCell ⟨r,2,none⟩ (.slice a2 es.length c2)).heap.size) r b (.slice a1 es.length c1) (.slice a2 es.length c2) es:=by
  rw [z];exact hc
 exact ⟨a1,c1,a2,c2,(es++xs).length,q1,q2,by simp,k1,k2,f1,f2,q3,⟨_,_,hm⟩,(T.set (p:=⟨r,1,none⟩) (.inl hr) _).set (p:=⟨r,2,none⟩) (.inl hr) _⟩
theorem mul_neg {W:World} {r b:Nat} (d:Int) (nm:ByteArray) (g o n cap:Nat) (xs:List Int) (HN:Hid (xs.length=n)) (h1:¬ n=0) (h2:(n:Int)≤d) (hn9:n≤1000000) (c0:W.cell? ⟨r,0,none⟩=some (.pointer (some ⟨b,0,none⟩))) (HX:Hid (IsAt W g o xs)) (HG:Hid (negB xs=true))
 (HL:Hid (∀ w,Bw W w→Calls Tryz.prog 77 #[.pointer (some ⟨b,0,none⟩),.agg #[.int .i64 d,.string nm]] w fun e w'=>e=.returned (.int .i64 0)∧Bw w w')) :
 Calls Tryz.prog 38 #[.pointer (some ⟨r,0,none⟩),.agg #[.int .i64 d,.string nm],.slice (some ⟨g,o,none⟩) n cap] W fun e w'=>e=.returned (.tuple #[.int .i64 0,.int .i64 30])∧Bw W w':=by
 have hl:r<W.heap.size:=World.block_lt_of_cell? W _ c0
 have hn:¬ r=W.heap.size:=by omega
 have B0:Hid (Bw W (W.alloc (.cells #[.int .i64 d,.string nm] 40))):=(Below.refl _ _).alloc (Nat.le_refl _) _
 have g1:¬ (n:Int)=0:=by omega
 have g2:¬ d<(n:Int):=by omega
 go_enter Tryz.func38,Tryz.ntmps38
 go_upto_region 1 with fail
 go_region_law (refine Zbo rfl 77 Zbk (.tmp 16) (.tmp 17) 30 40 rfl (.pointer (some ⟨b,0,none⟩)) (.agg #[.int .i64 d,.string nm]) (by first|(simp [Act.eval];done)|(simp [Act.eval,Act.put];done)) (by first|(simp [Act.eval];done)|(simp [Act.eval,Act.put];done)) (HL.out _ B0.out.drew) ?_;rintro e w3 ⟨rfl,hB⟩;refine ⟨_,rfl,?_⟩;have B3:Hid (Bw W w3):=Za B0.out.drew hB;have B4:Hid (Below (W.alloc (.cells #[.int .i64 d,.string nm] 40)).heap.size (W.alloc (.cells #[.int .i64 d,.string nm] 40)) w3):=(Below.refl _ _).drew.trans hB;obtain ⟨xB,x0,x1,xf,xL,xN⟩:=k2c (n:=W.heap.size) B4.out (by simp) (Zg _ _);clear hB)
 all_goals go_wp2
 all_goals
  go_loopw [9] (fun iv wr=>∃ i:Nat,iv=.int .i64 i∧i≤n∧Hid (negB (xs.take i)=false)∧wr=w3) (fun iv _=>n - (intOf iv).toNat)
  case atStart=>exact ⟨0,rfl,Nat.zero_le _,rfl,rfl⟩
  case round =>
   obtain ⟨i,rfl,hi,HT,rfl⟩:=hrel
   by_cases hlt:i<n
   ·obtain ⟨x,hx⟩:∃ x,xs[i]?=some x:=⟨_,List.getElem?_eq_getElem (by rw [HN.out];exact hlt)⟩
    have y0:=HX.out i x hx
    have y:wr.cell? ⟨g,o+i,none⟩=some (.int .i64 x):=(B3.out.cell (p:=⟨g,o+i,none⟩) (World.block_lt_of_cell? W _ y0)).trans y0
    have hiI:(i:Int)<(n:Int):=by omega
    have HU:Hid (¬ x<0→negB (xs.take (i+1))=false):=fun h=>neg_take hx h HT.out
    clear y0 hx HX HT HL
    by_cases h0:x<0
    ·go_wp2
     go_ret2
     exact ⟨rfl,B3.out⟩
    ·go_wp2
     go_roundw
     case rel=>exact ⟨i+1,by go_num,by omega,HU.out h0,by first|rfl|trivial⟩
     case measure=>simp [intOf];omega
   ·obtain rfl:i=n:=by omega
    have:=HT.out
    rw [← HN.out,List.take_length,HG.out] at this
    cases this
theorem mul_go {W:World} {r b L:Nat} (d:Int) (nm:ByteArray) (g o n cap:Nat) (xs:List Int) (B:Bool) {R:World→Prop} {a:Option Addr} {cp:Nat} (HN:Hid (xs.length=n)) (h1:¬ n=0) (h2:(n:Int)≤d) (hn9:n≤1000000) (hL:L≤1000) (c0:W.cell? ⟨r,0,none⟩=some (.pointer (some ⟨b,0,none⟩))) (c1:W.cell? ⟨r,1,none⟩=some (.slice a L cp)) (HX:Hid (IsAt W g o xs)) (HG:Hid (negB xs=false))
 (HL:Hid (∀ w,Bw W w→Calls Tryz.prog 77 #[.pointer (some ⟨b,0,none⟩),.agg #[.int .i64 d,.string nm]] w fun e w'=>e=.returned (.int .i64 0)∧Bw w w'))
 (HF:Hid (∀ w,Bw W w→Calls Tryz.prog 79 #[.pointer (some ⟨r,0,none⟩),.agg #[.int .i64 d,.string nm],.slice (some ⟨g,o,none⟩) n cap,.int .i64 0] w fun e w'=>e=.returned (.tuple #[.int .i64 (if B then (L:Int)+1 else 0),.bool B])∧if B then R w' else CutR R L r w')) :
 Calls Tryz.prog 38 #[.pointer (some ⟨r,0,none⟩),.agg #[.int .i64 d,.string nm],.slice (some ⟨g,o,none⟩) n cap] W fun e w'=>e=.returned (.tuple #[.int .i64 (if B then (L:Int)+1 else 0),.int .i64 (if B then 0 else 32)])∧R w':=by
 have hl:r<W.heap.size:=World.block_lt_of_cell? W _ c0
 have hn:¬ r=W.heap.size:=by omega
 have B0:Hid (Bw W (W.alloc (.cells #[.int .i64 d,.string nm] 40))):=(Below.refl _ _).alloc (Nat.le_refl _) _
 have g1:¬ (n:Int)=0:=by omega
 have g2:¬ d<(n:Int):=by omega
 go_enter Tryz.func38,Tryz.ntmps38
 go_upto_region 1 with fail
 go_region_law (refine Zbo rfl 77 Zbk (.tmp 16) (.tmp 17) 30 40 rfl (.pointer (some ⟨b,0,none⟩)) (.agg #[.int .i64 d,.string nm]) (by first|(simp [Act.eval];done)|(simp [Act.eval,Act.put];done)) (by first|(simp [Act.eval];done)|(simp [Act.eval,Act.put];done)) (HL.out _ B0.out.drew) ?_;rintro e w3 ⟨rfl,hB⟩;refine ⟨_,rfl,?_⟩;have B3:Hid (Bw W w3):=Za B0.out.drew hB;have B4:Hid (Below (W.alloc (.cells #[.int .i64 d,.string nm] 40)).heap.size (W.alloc (.cells #[.int .i64 d,.string nm] 40)) w3):=(Below.refl _ _).drew.trans hB;obtain ⟨xB,x0,x1,xf,xL,xN⟩:=k2c (n:=W.heap.size) B4.out (by simp) (Zg _ _);have u1:w3.cell? ⟨r,1,none⟩=some (.slice a L cp):=(B3.out.cell (p:=⟨r,1,none⟩) hl).trans c1;clear hB)
 all_goals go_wp2
 all_goals
  go_loopw [9] (fun iv wr=>∃ i:Nat,iv=.int .i64 i∧i≤n∧wr=w3) (fun iv _=>n - (intOf iv).toNat)
  case atStart=>exact ⟨0,rfl,Nat.zero_le _,rfl⟩
  case round =>
   obtain ⟨i,rfl,hi,rfl⟩:=hrel
   by_cases hlt:i<n
   ·obtain ⟨x,hx⟩:∃ x,xs[i]?=some x:=⟨_,List.getElem?_eq_getElem (by rw [HN.out];exact hlt)⟩
    have y0:=HX.out i x hx
    have y:wr.cell? ⟨g,o+i,none⟩=some (.int .i64 x):=(B3.out.cell (p:=⟨g,o+i,none⟩) (World.block_lt_of_cell? W _ y0)).trans y0
    have hiI:(i:Int)<(n:Int):=by omega
    have h0:=Zg5 HG.out hx
    clear y0 hx HX HL HF HG
    go_wp2
    go_roundw
    case rel=>exact ⟨i+1,by go_num,by omega,by first|rfl|trivial⟩
    case measure=>simp [intOf];omega
   ·obtain rfl:i=n:=by omega
    have hiI:¬ (i:Int)<(i:Int):=by omega
    have HF1:=HF.out wr B3.out
    cases B with
    | true =>
      have HR:Hid (Calls Tryz.prog 79 #[.pointer (some ⟨r,0,none⟩),.agg #[.int .i64 d,.string nm],.slice (some ⟨g,o,none⟩) i cap,.int .i64 0] wr fun e w'=>e=.returned (.tuple #[.int .i64 ((L:Int)+1),.bool true])∧R w'):=HF1
      clear HX HL HF HG HF1
      go_wp2_with (go_at_call 79;refine (HR.out).mono ?_;rintro e w4 ⟨rfl,hx⟩;have R4:Hid (R w4):=hx;clear hx)
      go_ret2
      exact ⟨rfl,R4.out⟩
    | false =>
      have HR:Hid (Calls Tryz.prog 79 #[.pointer (some ⟨r,0,none⟩),.agg #[.int .i64 d,.string nm],.slice (some ⟨g,o,none⟩) i cap,.int .i64 0] wr fun e w'=>e=.returned (.tuple #[.int .i64 0,.bool false])∧CutR R L r w'):=HF1
      clear HX HL HF HG HF1
      go_upto_region 14 with (go_at_call 79;refine (HR.out).mono ?_;rintro e w4 ⟨rfl,hx⟩;have HC4:Hid (CutR R L r w4):=hx;clear hx)
      obtain ⟨a1,k1,a2,k2,m,d1,d2,d3,d4,d5,f1,f2,d6,d7⟩:=HC4.out
      have R9:Hid _:=d7
      have F2:Hid (slF a2 m k2):=f2
      clear d7 HC4 HR f2 c1 c0 u1
      rcases f1 with ⟨rfl,rfl,rfl⟩|⟨g1',rfl⟩
      ·obtain rfl:L=0:=by omega
       rcases F2.out with ⟨rfl,e2,rfl⟩|⟨g2',rfl⟩
       ·clear e2
        go_wp2
        go_ret2
        exact ⟨rfl,R9.out⟩
       ·go_wp2
        go_ret2
        exact ⟨rfl,R9.out⟩
      ·rcases F2.out with ⟨rfl,rfl,rfl⟩|⟨g2',rfl⟩
       ·obtain rfl:L=0:=by omega
        go_wp2
        go_ret2
        exact ⟨rfl,R9.out⟩
       ·have i1:(L:Int)≤(k1:Int):=by omega
        have i2:(L:Int)≤(k2:Int):=by omega
        go_wp2
        go_ret2
        exact ⟨rfl,R9.out⟩
def stE (ps:List Plc) (os:List Ob) (r i:Int) (Rf:Bool) (N:Int):Int:=match arO os r with
 | none=>arF os r
 | some o=>if rfB o.d o.nm=Rf then (if Rf=false∧i32B N=false then 35 else if 0≤i∧i<(o.xs.length:Int) then (if Rf=true∧¬ N=0 then csE ps os o.d o.nm N else 0) else 31) else 35
def stL (ps:List Plc) (os:List Ob) (r i:Int) (Rf:Bool) (N:Int):List Ob:=match arO os r with
 | none=>os
 | some o=>if stE ps os r i Rf N=0 then os.set (r - 1).toNat { o with xs:=o.xs.set i.toNat N } else os
theorem HpAt.stored {W w2:World} {S:Nat→Prop} {hb b:Nat} {ov:Value} {os:List Ob} (h:HpAt W S hb b ov os) {k j g:Nat} {o:Ob} (hk:os[k]?=some o) (hg:o.eb=some g) (N:Int) (hl:Bw W w2):HpN S W (w2.setCell ⟨g,j,none⟩ (.int .i64 N)) hb b (os.set k { o with xs:=o.xs.set j N }):=by
 have hs:=(h.below hl).setEl k j g o hk hg N
 refine ⟨⟨ov,hs.mono (fun x hx=>hx.elim (fun y=>hs.sz x y) (fun y=>y.2)) (fun _ _ x=>.inl x)⟩,?_⟩
 exact ((Tch.refl S W).bel hl).set (p:=⟨g,j,none⟩) (.inl (h.eS o (List.mem_of_getElem? hk) g hg)) _
theorem set_c {W:World} {S:Nat→Prop} {hb b:Nat} {ov:Value} {os:List Ob} (h:HpAt W S hb b ov os) {ps:List Plc} (hw:WAt b ps W) (hi:WI ps) (hsz:∀ o∈os,o.nm.size≤maxLen) (r i N:Int) (Rf:Bool) :
 Calls Tryz.prog 46 #[.pointer (some ⟨hb,0,none⟩),.int .i64 r,.int .i64 i,.agg #[.bool Rf,.int .i64 N]] W fun e w'=>e=.returned (.int .i64 (stE ps os r i Rf N))∧HpN S W w' hb b (stL ps os r i Rf N):=by
 have HF:∀ w,Bw W w→Calls Tryz.prog 81 #[.pointer (some ⟨hb,0,none⟩),.int .i64 r] w fun e w'=>e=.returned (.tuple #[obW (arO os r),.int .i64 (arF os r)])∧Bw w w':=fun w hl=>Zks (h.below hl) r
 cases ho:arO os r with
 | none =>
   have q1:stE ps os r i Rf N=arF os r:=by rw [stE,ho]
   have q2:stL ps os r i Rf N=os:=by rw [stL,ho]
   rw [ho] at HF
   rw [q1,q2]
   exact (set_err (Zhs ho) HF).mono fun e w' ⟨a1,a2⟩=>⟨a1,h.stay a2⟩
 | some o =>
   have hob:=(Jc ho).1
   have hm:=Xm hob
   obtain ⟨av,hv⟩:=Xu o (h.no o hm)
   rw [ho,Zhr ho,obW,obV,hv] at HF
   have R:∀ E,stE ps os r i Rf N=E→¬ E=0→stL ps os r i Rf N=os:=fun E e1 e2=>by rw [stL,ho];simp only;rw [if_neg (by rw [e1];exact e2)]
   have q0:stE ps os r i Rf N=if rfB o.d o.nm=Rf then (if Rf=false∧i32B N=false then 35 else if 0≤i∧i<(o.xs.length:Int) then (if Rf=true∧¬ N=0 then csE ps os o.d o.nm N else 0) else 31) else 35:=by rw [stE,ho]
   by_cases hk:rfB o.d o.nm=Rf
   ·rw [if_pos hk] at q0
    by_cases hN:Rf=false∧i32B N=false
    ·rw [if_pos hN] at q0
     rw [q0,R _ q0 (by decide)]
     obtain ⟨rfl,hN⟩:=hN
     exact (set_i32 HF hk hN).mono fun e w' ⟨a1,a2⟩=>⟨a1,h.stay a2⟩
    ·rw [if_neg hN] at q0
     by_cases hij:0≤i∧i<(o.xs.length:Int)
     ·rw [if_pos hij] at q0
      have HH:∀ w:World,Calls Tryz.prog 82 #[.agg #[.int .i64 o.d,.string o.nm,.slice av o.xs.length o.xs.length],.int .i64 i] w fun e w'=>e=.returned (.bool true)∧Bw w w':=fun w=>by
       have:=has_o o.d i o.nm av o.xs.length o.xs.length w
       rw [decide_eq_true hij] at this;exact this
      obtain ⟨j,hj⟩:∃ j:Nat,i=(j:Int):=⟨i.toNat,by omega⟩
      have hjl:j<o.xs.length:=by omega
      obtain ⟨g,hg⟩:∃ g,o.eb=some g:=by
       cases e:o.eb with
       | none=>rw [h.no o hm e] at hjl;simp at hjl
       | some g=>exact ⟨g,rfl⟩
      have hav:av=some ⟨g,0,none⟩:=by rw [elV,hg,ebV] at hv;injection hv with e1;exact e1.symm
      have hu:W.cell? ⟨g,j,none⟩=some (.int .i64 (o.xs[j])):=by
       rw [cell_of_row W g j _ _ _ (h.el o hm g hg)];simp [intL,hjl]
      have hf:W.frozen? ⟨g,j,none⟩=false:=frozen_of_row W g j _ _ (h.el o hm g hg)
      obtain ⟨k,hrk,hok⟩:∃ k:Nat,(r - 1).toNat=k∧os[k]?=some o:=by
       rcases X9 os r with ⟨h1,_⟩|⟨k,q,h0,h2,h1⟩
       ·rw [h1] at hob;cases hob
       ·rw [h1] at hob;cases hob;exact ⟨k,by omega,h2⟩
      have Y:stE ps os r i Rf N=0→stL ps os r i Rf N=os.set k { o with xs:=o.xs.set j N }:=fun e1=>by
       rw [stL,ho];simp only;rw [if_pos e1,hrk,hj,Int.toNat_natCast]
      have FIN:∀ w',(∃ w2,Bw W w2∧w'=w2.setCell ⟨g,j,none⟩ (.int .i64 N))→HpN S W w' hb b (os.set k { o with xs:=o.xs.set j N }):=fun w' ⟨w2,l,e⟩=>by rw [e];exact h.stored hok hg N l
      by_cases hc:Rf=true∧¬ N=0
      ·rw [if_pos hc] at q0
       obtain ⟨rfl,hN0⟩:=hc
       have HC:∀ w,Bw W w→Calls Tryz.prog 85 #[.pointer (some ⟨hb,0,none⟩),.agg #[.int .i64 o.d,.string o.nm,.slice av o.xs.length o.xs.length],.int .i64 N] w fun e w'=>e=.returned (.int .i64 (csE ps os o.d o.nm N))∧Bw w w':=fun w hl=>check_s (h.below hl) (hw.below hl) hi hsz o.d o.nm (hsz o hm) av _ N
       by_cases hE:csE ps os o.d o.nm N=0
       ·rw [hE] at q0 HC
        rw [q0,Y q0]
        exact (set_ref HF hk HH hj hjl hav hu hf hN0 HC).mono fun e w' ⟨a1,a2⟩=>⟨a1,FIN w' a2⟩
       ·rw [q0,R _ q0 hE]
        exact (set_chk HF hk HH hN0 hE HC).mono fun e w' ⟨a1,a2⟩=>⟨a1,h.stay a2⟩
      ·rw [if_neg hc] at q0
       rw [q0,Y q0]
       cases Rf with
       | true =>
         have h0:N=0:=by
          by_cases e:N=0
          ·exact e
          ·exact absurd ⟨rfl,e⟩ hc
         exact (set_null HF hk HH hj hjl hav hu hf h0).mono fun e w' ⟨a1,a2⟩=>⟨a1,FIN w' a2⟩
       | false =>
         have h0:i32B N=true:=by
          cases e:i32B N with
          | true=>rfl
          | false=>exact absurd ⟨rfl,e⟩ hN
         exact (set_int HF hk h0 HH hj hjl hav hu hf).mono fun e w' ⟨a1,a2⟩=>⟨a1,FIN w' a2⟩
     ·rw [if_neg hij] at q0
      rw [q0,R _ q0 (by decide)]
      have HH:∀ w:World,Calls Tryz.prog 82 #[.agg #[.int .i64 o.d,.string o.nm,.slice av o.xs.length o.xs.length],.int .i64 i] w fun e w'=>e=.returned (.bool false)∧Bw w w':=fun w=>by
       have:=has_o o.d i o.nm av o.xs.length o.xs.length w
       rw [decide_eq_false hij] at this;exact this
      cases Rf with
      | true=>exact (Zji HF hk HH).mono fun e w' ⟨a1,a2⟩=>⟨a1,h.stay a2⟩
      | false =>
        have h0:i32B N=true:=by
         cases e:i32B N with
         | true=>rfl
         | false=>exact absurd ⟨rfl,e⟩ hN
        exact (Zjj HF hk h0 HH).mono fun e w' ⟨a1,a2⟩=>⟨a1,h.stay a2⟩
   ·rw [if_neg hk] at q0
    rw [q0,R _ q0 (by decide)]
    cases Rf with
    | true=>exact (set_kt HF (by simpa using hk)).mono fun e w' ⟨a1,a2⟩=>⟨a1,h.stay a2⟩
    | false=>exact (set_kf HF (by simpa using hk)).mono fun e w' ⟨a1,a2⟩=>⟨a1,h.stay a2⟩
end Go.Proofs.YtlnojhhddinjkaaGreat
