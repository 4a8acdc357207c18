import Derived.Test.YtlnojhhddinjkaaGreatHqI
set_option maxHeartbeats 2000000
set_option maxRecDepth 100000
namespace Go.Proofs.YtlnojhhddinjkaaGreat
open Go.RowKit Go.Maps
theorem obj_fin {W wr w5 w7:World} {S:Nat→Prop} {r b:Nat} {tv ev:Value} {es:List Dv} (h:RhAt W S r b tv ev es) (nm:ByteArray) (hn:es.length<1000) (hb:Bw W wr) {X7:Obj} {g5 c5 g7 c7:Nat}
 (O5:w5.ownsRow 0 40 2 (.slice (some ⟨g5,0,none⟩) (es.length+1) c5) (es.length+1) (Yt es++[.int .i64 0,.string nm])) (G5:wr.grownBy w5 tv.ownBlock) (V5:tv.ownBlock=some g5∨W.heap.size≤g5)
 (O7:w7.ownsRow 0 105 1 (.slice (some ⟨g7,0,none⟩) (es.length+1) c7) (es.length+1) (es.map dvV++[.slice none 0 0])) (G7:((w5.setCell ⟨r,1,none⟩ (.slice (some ⟨g5,0,none⟩) (es.length+1) c5)).alloc X7).grownBy w7 ev.ownBlock) (V7:ev.ownBlock=some g7∨W.heap.size≤g7) :
 RhN S W (w7.setCell ⟨r,2,none⟩ (.slice (some ⟨g7,0,none⟩) (es.length+1) c7)) r b (es++[⟨0,nm,none,[]⟩]):=by
 have hz:=hb.size
 have h5z:wr.heap.size≤w5.heap.size:=G5.size
 have h7z:w5.heap.size≤w7.heap.size:=by have:=G7.size;simp at this;omega
 have hh:RhAt wr S r b tv ev es:=h.below hb
 have rl:=hh.cells.2.2.2.2
 have rlW:=h.cells.2.2.2.2
 have tne:tv.ownBlock≠some r:=Zp hh.tw hh.hh (by decide)
 have vne:ev.ownBlock≠some r:=Zp hh.vw hh.hh (by decide)
 have k5:∀ k,k<wr.heap.size→tv.ownBlock≠some k→w5.heap[k]?=wr.heap[k]?:=fun k hk hne=>G5.block k hk (fun e=>hne e.symm)
 have k7:∀ k,k<w5.heap.size→k≠r→ev.ownBlock≠some k→w7.heap[k]?=w5.heap[k]?:=fun k hk hkr hne=>(G7.block k (by simp;omega) (fun e=>hne e.symm)).trans ((Below.heap_alloc _ _ _ (by simpa using hk)).trans (Below.heap_setCell _ _ _ _ hkr))
 have r5:=(k5 r rl tne).trans hh.hh
 have r6:(w5.setCell ⟨r,1,none⟩ (.slice (some ⟨g5,0,none⟩) (es.length+1) c5)).heap[r]?=some (.cells #[.pointer (some ⟨b,0,none⟩),.slice (some ⟨g5,0,none⟩) (es.length+1) c5,ev] 35 (0,0)):=by rw [Go.Joins.block_setCell (i:=1) r5];simp
 have r7:w7.heap[r]?=some (.cells #[.pointer (some ⟨b,0,none⟩),.slice (some ⟨g5,0,none⟩) (es.length+1) c5,ev] 35 (0,0)):=(G7.block r (by simp;omega) (fun e=>vne e.symm)).trans ((Below.heap_alloc _ _ _ (by simp;omega)).trans r6)
 have g5r:g5≠r:=by
  rintro rfl
  exact Zp O5 r5 (by decide) rfl
 have g7r:g7≠r:=by
  rintro rfl
  exact Zp O7 r7 (by decide) rfl
 have g5v:ev.ownBlock≠some g5:=by
  intro x
  have hv5:=(Zw hh.vw (fun g hg'=>by
   have:tv.ownBlock≠some g:=by
    intro y
    rcases hh.vw.2 with ⟨e1,_⟩|⟨gg,cap,cur,e1,_,e2,_⟩
    ·rw [e1] at hg';simp [Value.ownBlock] at hg'
    ·rw [e1] at hg';simp [Value.ownBlock] at hg';subst hg'
     exact Zp hh.tw e2 (by decide) y
   exact k5 g (hh.vw.lt g hg').2 this))
  rcases hv5.2 with ⟨e1,_⟩|⟨gg,cap,cur,e1,_,e2,_⟩
  ·rw [e1] at x;simp [Value.ownBlock] at x
  ·rw [e1] at x;simp [Value.ownBlock] at x;subst x
   exact Zp O5 e2 (by decide) rfl
 have l5:g5<w5.heap.size:=(O5.lt g5 rfl).2
 have hv:=h.push (w':=w7.setCell ⟨r,2,none⟩ (.slice (some ⟨g7,0,none⟩) (es.length+1) c7)) (tv':=.slice (some ⟨g5,0,none⟩) (es.length+1) c5) (ev':=.slice (some ⟨g7,0,none⟩) (es.length+1) c7) ⟨0,nm,none,[]⟩ hn (by simpa using h.n2) (fun _=>rfl) (fun g hg'=>by cases hg') (by simp;omega)
  (fun k hk hkr h1 h2=>(Below.heap_setCell _ _ _ _ hkr).trans ((k7 k (by omega) hkr h2).trans ((k5 k (by omega) h1).trans (hb.block k hk))))
  (by rw [Go.Joins.block_setCell (i:=2) r7];simp)
  (Zw O5 (fun g hg'=>by simp [Value.ownBlock] at hg';subst hg';exact (Below.heap_setCell _ _ _ _ g5r).trans (k7 g5 l5 g5r g5v)))
  (Zw O7 (fun g hg'=>by simp [Value.ownBlock] at hg';subst hg';exact Below.heap_setCell _ _ _ _ g7r))
  (fun k hk=>by simp [Value.ownBlock] at hk;subst hk;exact V5) (fun k hk=>by simp [Value.ownBlock] at hk;subst hk;exact V7)
 refine ⟨⟨_,_,hv⟩,?_⟩
 have T5:Tch S W w5:=((Tch.refl S W).bel hb).grown G5 (fun k hk=>.inl (h.tS k hk))
 have T7:Tch S W w7:=((T5.set (p:=⟨r,1,none⟩) (.inl h.rS) _).alloc X7).grown G7 (fun k hk=>.inl (h.vS k hk))
 exact T7.set (p:=⟨r,2,none⟩) (.inl h.rS) _
def dobE (cs:List Cls) (es:List Dv) (x:Int):Int:=match clsI cs x with
 | none=>3
 | some c=>if hasI c.fl 512||hasI c.fl 1024 then 34 else if 1000≤es.length then 32 else 0
def dobN (cs:List Cls) (es:List Dv) (x:Int):Int:=if dobE cs es x=0 then (es.length:Int)+1 else 0
def dobL (cs:List Cls) (es:List Dv) (x:Int):List Dv:=match clsI cs x with
 | none=>es
 | some c=>if hasI c.fl 512||hasI c.fl 1024 then es else if 1000≤es.length then es else es++[⟨0,c.nm,none,[]⟩]
theorem obj_ok {W:World} {S:Nat→Prop} {r b:Nat} {tv ev:Value} {es:List Dv} (h:RhAt W S r b tv ev es) {cs:List Cls} (hw:RAt b cs W) {k:Nat} {c:Cls} (hk:cs[k]?=some c) (hf:hasI c.fl 512=false) (hf2:hasI c.fl 1024=false) (hn:es.length<1000) :
 Calls Tryz.prog 35 #[.pointer (some ⟨r,0,none⟩),.int .i64 (k:Int)] W fun e w'=>e=.returned (.tuple #[.int .i64 ((es.length:Int)+1),.int .i64 0])∧RhN S W w' r b (es++[⟨0,c.nm,none,[]⟩]):=by
 obtain ⟨c0,c1,c2,fz,hl⟩:=h.cells
 obtain ⟨a1,k1,hv1⟩:=ownv h.tw
 obtain ⟨a2,k2,hv2⟩:=ownv h.vw
 obtain ⟨gc,capc,vi,vm,q0,qb,qg,n0,n1,n2,n3,n4,n5,_,_⟩:=hw.cells hk
 have hkl:=(List.getElem?_eq_some_iff.1 hk).1
 have HI:Hid (Calls Tryz.prog 63 #[.pointer (some ⟨b,0,none⟩),.int .i64 (k:Int)] W fun e w'=>e=.returned (.bool true)∧w'=W):=by
  have:=Zfr hw (k:Int)
  rw [Yj,hk] at this
  exact this
 have H1:Hid (∀ w:World,Calls Tryz.prog 59 #[.int .i64 c.fl,.int .i64 512] w fun e w'=>e=.returned (.bool false)∧w'=w):=fun w=>by have:=Ye c.fl 512 w;rw [hf] at this;exact this
 have H2:Hid (∀ w:World,Calls Tryz.prog 59 #[.int .i64 c.fl,.int .i64 1024] w fun e w'=>e=.returned (.bool false)∧w'=w):=fun w=>by have:=Ye c.fl 1024 w;rw [hf2] at this;exact this
 have ROW1:Hid (W.ownsRow 0 40 2 (.slice a1 es.length k1) es.length (Yt es)):=by have:=h.tw;rw [hv1] at this;exact this
 have ROW2:Hid (W.ownsRow 0 105 1 (.slice a2 es.length k2) es.length (es.map dvV)):=by have:=h.vw;rw [hv2] at this;exact this
 have TNE:Hid (Value.ownBlock (.slice a1 es.length k1)≠some r):=by rw [← hv1];exact Zp h.tw h.hh (by decide)
 have VNE:Hid (Value.ownBlock (.slice a2 es.length k2)≠some r):=by rw [← hv2];exact Zp h.vw h.hh (by decide)
 have RB:Hid (W.heap[r]?=some (.cells #[.pointer (some ⟨b,0,none⟩),.slice a1 es.length k1,.slice a2 es.length k2] 35 (0,0))):=by have:=h.hh;rw [hv1,hv2] at this;exact this
 have TV:Hid (∀ g,Value.ownBlock (.slice a2 es.length k2)=some g→Value.ownBlock (.slice a1 es.length k1)≠some g):=fun g hg' y=>by
  rcases ROW2.out.2 with ⟨e1,_⟩|⟨gg,cap,cur,e1,_,e2,_⟩
  ·rw [e1] at hg';simp [Value.ownBlock] at hg'
  ·rw [e1] at hg';simp [Value.ownBlock] at hg';subst hg'
   exact Zp ROW1.out e2 (by decide) y
 have FIN:Hid (∀ (wr w5 w7:World) (X7:Obj) (g5 c5 g7 c7:Nat),_):=fun wr w5 w7 X7 g5 c5 g7 c7=>obj_fin (wr:=wr) (w5:=w5) (w7:=w7) (X7:=X7) (g5:=g5) (c5:=c5) (g7:=g7) (c7:=c7) h c.nm hn
 rw [hv1,hv2] at FIN
 rw [hv1] at c1
 rw [hv2] at c2
 obtain ⟨iT,hiT,hzT0,hzT1,hzT2⟩:=info_parts Tryz.hinfoTy
 obtain ⟨iV,hiV,hzV0,hzV1,hzV2⟩:=info_parts Tryz.hinfoSv
 have rn:¬ r=W.heap.size:=by omega
 have bn:¬ b=W.heap.size:=by omega
 have gn:¬ gc=W.heap.size:=by omega
 obtain ⟨m,hm⟩:∃ m,es.length=m:=⟨_,rfl⟩
 obtain ⟨M,hM⟩:∃ M,cs.length=M:=⟨_,rfl⟩
 rw [hm] at c1 c2 ROW1 ROW2 TNE VNE RB TV FIN hn
 rw [hM] at q0 hkl
 have hkI:(k:Int)<(M:Int):=by omega
 have hm3:¬ (1000:Int)≤(m:Int):=by omega
 have HM:Hid (es.length=m):=hm
 have fz1:=fz 1
 have fz2:=fz 2
 generalize c.nm=nm at *
 generalize c.fl=fl at *
 clear hm hM hv1 hv2 h hw hk n1 n2 n4 n5 hf hf2 fz
 go_enter Tryz.func35,Tryz.ntmps35
 go_upto_region 8 with (first
  | (go_at_call 59;first|(refine (H1.out _).mono ?_;rintro e w9 ⟨rfl,hw9⟩;rw [hw9];clear hw9 w9)|(refine (H2.out _).mono ?_;rintro e w9 ⟨rfl,hw9⟩;rw [hw9];clear hw9 w9))
  | (go_at_call 63;refine (HI.out).mono ?_;rintro e w9 ⟨rfl,hw9⟩;rw [hw9];clear hw9 w9))
 go_region_law (refine step_append_lies _ rfl (.tmp 41) (.tmp 54) 32 rfl 0 40 iT (.agg #[.int .i64 0,.string ⟨#[]⟩]) 2 24 Tryz.underlying32 hiT hzT0 hzT1 hzT2 rfl (by decide) (.slice a1 m k1) m (Yt es) (by first|(simp [Act.eval];done)|(simp [Act.eval,Act.put];done)) ((ROW1.out.drew).alloc _) ⟨W.heap.size,0,none⟩ 1 1 [.int .i64 0,.string nm] (by first|(simp [Act.eval];done)|(simp [Act.eval,Act.put];done)) rfl (World.news_of_block (heap_alloc_new _ _)) ?_ (by decide) ?_ ?_ (Nat.zero_le _) _ rfl ?_;(intro u hu;simp at hu;rcases hu with rfl|rfl <;> rfl);(unfold maxLen;omega);omega;intro g5 cap5 w5 hown hgrow hg5 hl5;have O5:Hid _:=hown;have G5:Hid _:=hgrow;have V5:Hid (Value.ownBlock (.slice a1 m k1)=some g5∨W.heap.size≤g5):=hg5.imp id (fun e=>by rw [e];simp);have rb5:=(hgrow.block r (by simp;omega) (fun e=>TNE.out e.symm)).trans (hkA RB.out);obtain ⟨y0,y1,y2,yf,yL⟩:=r3c rb5;have RW5:Hid (w5.ownsRow 0 105 1 (.slice a2 m k2) m (es.map dvV)):=Zw ROW2.out (fun g hg'=>(hgrow.block g (by have:=(ROW2.out.lt g hg').2;simp;omega) (fun e=>TV.out g hg' e.symm)).trans (Below.heap_alloc _ _ _ (ROW2.out.lt g hg').2));have RR5:Hid _:=rb5;have Z5:Hid (W.heap.size≤w5.heap.size):=(by have h1:=hgrow.size;simp at h1;exact (by omega:W.heap.size≤w5.heap.size));clear hown hgrow hg5 rb5)
 all_goals go_wp2_with (at_builtin;refine wpList_append_lies _ rfl _ _ 33 rfl 0 105 iV (.slice none 0 0) 1 24 Tryz.underlying33 hiV hzV0 hzV1 hzV2 rfl (by decide) (.slice a2 m k2) m (es.map dvV) rfl ((Zw RW5.out (fun g hg'=>Below.heap_setCell _ _ _ _ (fun e=>VNE.out (hg'.trans (congrArg some e))))).alloc _) ⟨w5.heap.size,0,none⟩ 1 1 [.slice none 0 0] rfl rfl (World.news_of_block (haA _ _ (by simp))) (by intro u hu;simp at hu;subst hu;rfl) (by decide) (by unfold maxLen;omega) (by omega) (Nat.zero_le _) _ rfl ?_;intro g7 cap7 w7 hown hgrow hg7 hl7;have O7:Hid _:=hown;have G7:Hid _:=hgrow;have V7:Hid (Value.ownBlock (.slice a2 m k2)=some g7∨W.heap.size≤g7):=hg7.imp id (fun e=>by have h1:=Z5.out;simp at e;omega);have rb7:w7.heap[r]?=some (.cells #[.pointer (some ⟨b,0,none⟩),.slice (some ⟨g5,0,none⟩) (m+1) cap5,.slice a2 m k2] 35 (0,0)):=(hgrow.block r (by simp;omega) (fun e=>VNE.out e.symm)).trans (hkA ((Go.Joins.block_setCell (i:=1) RR5.out _).trans (by simp)));obtain ⟨x0,x1,x2,xf,xL⟩:=r3c rb7;clear hown hgrow hg7 rb7)
 all_goals go_ret2
 all_goals exact ⟨by rw [HM.out];simp,FIN.out _ w5 w7 _ g5 cap5 g7 cap7 sqR O5.out G5.out V5.out O7.out G7.out V7.out⟩
theorem obj_no {W:World} {r b:Nat} {cs:List Cls} (c0:W.cell? ⟨r,0,none⟩=some (.pointer (some ⟨b,0,none⟩))) (hw:RAt b cs W) (x:Int) (hx:clsI cs x=none):Calls Tryz.prog 35 #[.pointer (some ⟨r,0,none⟩),.int .i64 x] W fun e w'=>e=.returned (.tuple #[.int .i64 0,.int .i64 3])∧w'=W:=by
 have HI:Hid (Calls Tryz.prog 63 #[.pointer (some ⟨b,0,none⟩),.int .i64 x] W fun e w'=>e=.returned (.bool false)∧w'=W):=by
  have:=Zfr hw x
  rw [hx] at this
  exact this
 clear hw hx
 go_enter Tryz.func35,Tryz.ntmps35
 go_wp2_with (go_at_call 63;refine (HI.out).mono ?_;rintro e w9 ⟨rfl,hw9⟩;rw [hw9];clear hw9 w9)
 go_ret2
 exact ⟨rfl,rfl⟩
theorem obj_bad {W:World} {r b:Nat} {cs:List Cls} (c0:W.cell? ⟨r,0,none⟩=some (.pointer (some ⟨b,0,none⟩))) (hw:RAt b cs W) {k:Nat} {c:Cls} (hk:cs[k]?=some c) (hf:(hasI c.fl 512||hasI c.fl 1024)=true):Calls Tryz.prog 35 #[.pointer (some ⟨r,0,none⟩),.int .i64 (k:Int)] W fun e w'=>e=.returned (.tuple #[.int .i64 0,.int .i64 34])∧w'=W:=by
 obtain ⟨gc,capc,vi,vm,q0,qb,qg,n0,n1,n2,n3,n4,n5,_,_⟩:=hw.cells hk
 have hkl:=(List.getElem?_eq_some_iff.1 hk).1
 have HI:Hid (Calls Tryz.prog 63 #[.pointer (some ⟨b,0,none⟩),.int .i64 (k:Int)] W fun e w'=>e=.returned (.bool true)∧w'=W):=by
  have:=Zfr hw (k:Int)
  rw [Yj,hk] at this
  exact this
 obtain ⟨p,hp⟩:∃ p,hasI c.fl 512=p:=⟨_,rfl⟩
 obtain ⟨q,hq⟩:∃ q,hasI c.fl 1024=q:=⟨_,rfl⟩
 have H1:Hid (∀ w:World,Calls Tryz.prog 59 #[.int .i64 c.fl,.int .i64 512] w fun e w'=>e=.returned (.bool p)∧w'=w):=fun w=>by have:=Ye c.fl 512 w;rw [hp] at this;exact this
 have H2:Hid (∀ w:World,Calls Tryz.prog 59 #[.int .i64 c.fl,.int .i64 1024] w fun e w'=>e=.returned (.bool q)∧w'=w):=fun w=>by have:=Ye c.fl 1024 w;rw [hq] at this;exact this
 rw [hp,hq] at hf
 obtain ⟨M,hM⟩:∃ M,cs.length=M:=⟨_,rfl⟩
 rw [hM] at q0 hkl
 have hkI:(k:Int)<(M:Int):=by omega
 generalize c.fl=fl at *
 clear hM hw hk n1 n2 n4 n5 hp hq
 cases p with
 | true =>
   clear hf
   go_enter Tryz.func35,Tryz.ntmps35
   go_wp2_with (first
    | (go_at_call 59;refine (H1.out _).mono ?_;rintro e w9 ⟨rfl,hw9⟩;rw [hw9];clear hw9 w9)
    | (go_at_call 63;refine (HI.out).mono ?_;rintro e w9 ⟨rfl,hw9⟩;rw [hw9];clear hw9 w9))
   go_ret2
   exact ⟨rfl,rfl⟩
 | false =>
   simp at hf
   subst hf
   go_enter Tryz.func35,Tryz.ntmps35
   go_wp2_with (first
    | (go_at_call 59;first|(refine (H1.out _).mono ?_;rintro e w9 ⟨rfl,hw9⟩;rw [hw9];clear hw9 w9)|(refine (H2.out _).mono ?_;rintro e w9 ⟨rfl,hw9⟩;rw [hw9];clear hw9 w9))
    | (go_at_call 63;refine (HI.out).mono ?_;rintro e w9 ⟨rfl,hw9⟩;rw [hw9];clear hw9 w9))
   go_ret2
   exact ⟨rfl,rfl⟩
theorem obj_full {W:World} {r b L:Nat} {cs:List Cls} {a1:Option Addr} {k1:Nat} (c0:W.cell? ⟨r,0,none⟩=some (.pointer (some ⟨b,0,none⟩))) (c1:W.cell? ⟨r,1,none⟩=some (.slice a1 L k1)) (hw:RAt b cs W) {k:Nat} {c:Cls} (hk:cs[k]?=some c) (hf:hasI c.fl 512=false) (hf2:hasI c.fl 1024=false) (hL:1000≤L):Calls Tryz.prog 35 #[.pointer (some ⟨r,0,none⟩),.int .i64 (k:Int)] W fun e w'=>e=.returned (.tuple #[.int .i64 0,.int .i64 32])∧w'=W:=by
 obtain ⟨gc,capc,vi,vm,q0,qb,qg,n0,n1,n2,n3,n4,n5,_,_⟩:=hw.cells hk
 have hkl:=(List.getElem?_eq_some_iff.1 hk).1
 have HI:Hid (Calls Tryz.prog 63 #[.pointer (some ⟨b,0,none⟩),.int .i64 (k:Int)] W fun e w'=>e=.returned (.bool true)∧w'=W):=by
  have:=Zfr hw (k:Int)
  rw [Yj,hk] at this
  exact this
 have H1:Hid (∀ w:World,Calls Tryz.prog 59 #[.int .i64 c.fl,.int .i64 512] w fun e w'=>e=.returned (.bool false)∧w'=w):=fun w=>by have:=Ye c.fl 512 w;rw [hf] at this;exact this
 have H2:Hid (∀ w:World,Calls Tryz.prog 59 #[.int .i64 c.fl,.int .i64 1024] w fun e w'=>e=.returned (.bool false)∧w'=w):=fun w=>by have:=Ye c.fl 1024 w;rw [hf2] at this;exact this
 obtain ⟨M,hM⟩:∃ M,cs.length=M:=⟨_,rfl⟩
 rw [hM] at q0 hkl
 have hkI:(k:Int)<(M:Int):=by omega
 have hLI:(1000:Int)≤(L:Int):=by omega
 generalize c.fl=fl at *
 clear hM hw hk n1 n2 n4 n5 hf hf2
 go_enter Tryz.func35,Tryz.ntmps35
 go_wp2_with (first
  | (go_at_call 59;first|(refine (H1.out _).mono ?_;rintro e w9 ⟨rfl,hw9⟩;rw [hw9];clear hw9 w9)|(refine (H2.out _).mono ?_;rintro e w9 ⟨rfl,hw9⟩;rw [hw9];clear hw9 w9))
  | (go_at_call 63;refine (HI.out).mono ?_;rintro e w9 ⟨rfl,hw9⟩;rw [hw9];clear hw9 w9))
 go_ret2
 exact ⟨rfl,rfl⟩
theorem object_d {W:World} {S:Nat→Prop} {r b:Nat} {tv ev:Value} {es:List Dv} (h:RhAt W S r b tv ev es) {cs:List Cls} (hw:RAt b cs W) (x:Int) :
 Calls Tryz.prog 35 #[.pointer (some ⟨r,0,none⟩),.int .i64 x] W fun e w'=>e=.returned (.tuple #[.int .i64 (dobN cs es x),.int .i64 (dobE cs es x)])∧RhN S W w' r b (dobL cs es x):=by
 obtain ⟨c0,c1,c2,fz,hl⟩:=h.cells
 rcases Qq cs x with ⟨hx,_⟩|⟨k,c,rfl,hk,hx⟩
 ·have e1:dobE cs es x=3:=by rw [dobE,hx]
  have e2:dobL cs es x=es:=by rw [dobL,hx]
  rw [dobN,e1,e2,if_neg (by decide)]
  exact (obj_no c0 hw x hx).mono (fun e w' z=>⟨z.1,by rw [z.2];exact h.stay (Below.refl _ _)⟩)
 ·cases hf:(hasI c.fl 512||hasI c.fl 1024) with
  | true =>
    have e1:dobE cs es k=34:=by rw [dobE,hx];simp only [hf,if_true]
    have e2:dobL cs es k=es:=by rw [dobL,hx];simp only [hf,if_true]
    rw [dobN,e1,e2,if_neg (by decide)]
    exact (obj_bad c0 hw hk hf).mono (fun e w' z=>⟨z.1,by rw [z.2];exact h.stay (Below.refl _ _)⟩)
  | false =>
    have hf1:hasI c.fl 512=false:=by simp at hf;exact hf.1
    have hf2:hasI c.fl 1024=false:=by simp at hf;exact hf.2
    obtain ⟨a1,k1,hv1⟩:=ownv h.tw
    by_cases hn:1000≤es.length
    ·have e1:dobE cs es k=32:=by rw [dobE,hx];simp only [hf,hn,if_true,Bool.false_eq_true,if_false]
     have e2:dobL cs es k=es:=by rw [dobL,hx];simp only [hf,hn,if_true,Bool.false_eq_true,if_false]
     rw [dobN,e1,e2,if_neg (by decide)]
     exact (obj_full c0 (by rw [c1,hv1]) hw hk hf1 hf2 hn).mono (fun e w' z=>⟨z.1,by rw [z.2];exact h.stay (Below.refl _ _)⟩)
    ·have e1:dobE cs es k=0:=by rw [dobE,hx];simp only [hf,hn,Bool.false_eq_true,if_false]
     have e2:dobL cs es k=es++[⟨0,c.nm,none,[]⟩]:=by rw [dobL,hx];simp only [hf,hn,Bool.false_eq_true,if_false]
     rw [dobN,e1,e2,if_pos rfl]
     exact obj_ok h hw hk hf1 hf2 (by omega)
theorem arr_E0 {d:Int} {l:List UInt8} (h:arrE d l=0):∃ k:Nat,d=(k:Int)∧sndB ((k+1:Nat):Int) l=true:=by
 unfold arrE at h
 cases hs:sndB d l with
 | false=>rw [hs] at h;revert h;simp
 | true =>
   rw [hs] at h
   simp only [if_true] at h
   split at h
   ·cases h
   ·rename_i h5
    unfold sndB at hs
    simp only [Bool.and_eq_true,decide_eq_true_eq] at hs
    refine ⟨d.toNat,by omega,?_⟩
    unfold sndB
    simp only [Bool.and_eq_true,decide_eq_true_eq]
    exact ⟨⟨by omega,by omega⟩,hs.2⟩
theorem fil_one (os:List Ob) (d:Int) (nm:ByteArray) (n:Int):filL os d nm [n]=if filE os [n]=0 then [(d,nm,List.replicate n.toNat 0)] else []:=by
 unfold filL
 split
 ·rw [List.map_cons,List.map_nil,Zhj]
 ·rfl
theorem Zk9 {W:World} {S:Nat→Prop} {hb b:Nat} {ov:Value} {os:List Ob} (h:HpAt W S hb b ov os) {ps:List Plc} (hw:WAt b ps W) (d:Int) (nm:ByteArray) (hz:nm.size≤maxLen) (n:Int) :
 Calls Tryz.prog 29 #[.pointer (some ⟨hb,0,none⟩),.agg #[.int .i64 d,.string nm],.int .i64 n] W fun e w'=>e=.returned (.tuple #[.int .i64 (aryN ps os d nm n),.int .i64 (aryE ps os d nm n)])∧∃ new,HpN S W w' hb b (os++new)∧new.map Ob.p=aryL ps os d nm n:=by
 have HA:=Zgi d nm hz
 have HL:∀ w,Bw W w→Calls Tryz.prog 72 #[.pointer (some ⟨b,0,none⟩),.agg #[.int .i64 d,.string nm]] w fun e w'=>e=.returned (.int .i64 (ldI ps d nm))∧Bw w w':=fun w hl=>Zc9 (hw.below hl) d nm hz
 have c0:=h.cells.1
 by_cases e1:arrE d nm.data.toList=0
 ·rw [e1] at HA
  simp only [outD,outS,if_true] at HA
  by_cases e2:ldI ps d nm=0
  ·rw [e2] at HL
   obtain ⟨k,rfl,hsn⟩:=arr_E0 e1
   have q1:aryE ps os (k:Int) nm n=filE os [n]:=by rw [aryE,if_pos e1,if_pos e2]
   have q2:aryN ps os (k:Int) nm n=filN os [n]:=by rw [aryN,q1];rfl
   have q3:aryL ps os (k:Int) nm n=filL os ((k+1:Nat):Int) nm [n]:=by rw [aryL,q1,fil_one];rfl
   rw [q1,q2,q3]
   refine array_3 (k:Int) ((k+1:Nat):Int) n _ _ nm c0 HA HL (fun w g hl hg hc=>?_)
   have hl2:=hl.size
   refine (fill_c (h.below hl) (xs:=[n]) (n:=1) (o:=0) rfl (by omega) (by omega) (Nat.le_refl _) (k+1) nm hz hsn (by omega) (fun i x hx=>?_) (fun x=>by have:=h.sz _ x;omega)).mono fun e w' ⟨a1,new,a2,a3⟩=>⟨a1,new,a2.pre hl,a3⟩
   cases i with
   | zero=>simp at hx;subst hx;exact hc
   | succ i=>simp at hx
  ·have q1:aryE ps os d nm n=ldI ps d nm:=by rw [aryE,if_pos e1,if_neg e2]
   have q2:aryN ps os d nm n=0:=by rw [aryN,q1,if_neg e2]
   have q3:aryL ps os d nm n=[]:=by rw [aryL,q1,if_neg e2]
   rw [q1,q2,q3]
   exact (array_2 d _ _ n nm _ e2 c0 HA HL).mono fun e w' ⟨a1,a2⟩=>⟨a1,[],by rw [List.append_nil];exact h.stay a2,rfl⟩
 ·have q1:aryE ps os d nm n=arrE d nm.data.toList:=by rw [aryE,if_neg e1]
  have q2:aryN ps os d nm n=0:=by rw [aryN,q1,if_neg e1]
  have q3:aryL ps os d nm n=[]:=by rw [aryL,q1,if_neg e1]
  rw [q1,q2,q3]
  exact (array_1 d _ _ n nm _ e1 HA).mono fun e w' ⟨a1,a2⟩=>⟨a1,[],by rw [List.append_nil];exact h.stay a2,rfl⟩
def mulE (ps:List Plc) (os:List Ob) (d:Int) (nm:ByteArray) (xs:List Int):Int:=if ldI ps d nm=0 then (if xs.length=0∨d<(xs.length:Int) then 2 else filE os xs) else ldI ps d nm
def mulN (ps:List Plc) (os:List Ob) (d:Int) (nm:ByteArray) (xs:List Int):Int:=if mulE ps os d nm xs=0 then (os.length:Int)+1 else 0
def mulL (ps:List Plc) (os:List Ob) (d:Int) (nm:ByteArray) (xs:List Int):List PO:=if mulE ps os d nm xs=0 then filP nm d (xs.map Int.toNat) os.length else []
theorem multi_1 {W:World} {hb b:Nat} (d E:Int) (nm:ByteArray) (v:Value) (hE:¬ E=0) (c0:W.cell? ⟨hb,0,none⟩=some (.pointer (some ⟨b,0,none⟩)))
 (HL:Hid (∀ w,Bw W w→Calls Tryz.prog 72 #[.pointer (some ⟨b,0,none⟩),.agg #[.int .i64 d,.string nm]] w fun e w'=>e=.returned (.int .i64 E)∧Bw w w')) :
 Calls Tryz.prog 37 #[.pointer (some ⟨hb,0,none⟩),.agg #[.int .i64 d,.string nm],v] W fun e w'=>e=.returned (.tuple #[.int .i64 0,.int .i64 E])∧Bw W w':=by
 have hl:hb<W.heap.size:=World.block_lt_of_cell? W _ c0
 have hn:¬ hb=W.heap.size:=by omega
 have B0:Hid (Bw W (W.alloc (.cells #[.int .i64 d,.string nm] 40))):=(Below.refl _ _).alloc (Nat.le_refl _) _
 go_enter Tryz.func37,Tryz.ntmps37
 go_upto_region 3 with fail
 go_region_law (refine Zbo rfl 72 Zfg (.tmp 14) (.tmp 15) 25 40 rfl (.pointer (some ⟨b,0,none⟩)) (.agg #[.int .i64 d,.string nm]) (by first|(simp [Act.eval];done)|(simp [Act.eval,Act.put];done)) (by first|(simp [Act.eval];done)|(simp [Act.eval,Act.put];done)) (HL.out _ B0.out.drew) ?_;rintro e w3 ⟨rfl,hB⟩;refine ⟨_,rfl,?_⟩;have B3:Hid (Bw W w3):=Za B0.out.drew hB;clear hB)
 all_goals go_wp2
 all_goals go_ret2
 all_goals exact ⟨rfl,B3.out⟩
theorem multi_2 {W:World} {hb b:Nat} (d:Int) (nm:ByteArray) (a:Option Addr) (n cap:Nat) (hn9:n=0∨d<(n:Int)) (c0:W.cell? ⟨hb,0,none⟩=some (.pointer (some ⟨b,0,none⟩)))
 (HL:Hid (∀ w,Bw W w→Calls Tryz.prog 72 #[.pointer (some ⟨b,0,none⟩),.agg #[.int .i64 d,.string nm]] w fun e w'=>e=.returned (.int .i64 0)∧Bw w w')) :
 Calls Tryz.prog 37 #[.pointer (some ⟨hb,0,none⟩),.agg #[.int .i64 d,.string nm],.slice a n cap] W fun e w'=>e=.returned (.tuple #[.int .i64 0,.int .i64 2])∧Bw W w':=by
 have hl:hb<W.heap.size:=World.block_lt_of_cell? W _ c0
 have hn:¬ hb=W.heap.size:=by omega
 have B0:Hid (Bw W (W.alloc (.cells #[.int .i64 d,.string nm] 40))):=(Below.refl _ _).alloc (Nat.le_refl _) _
 have fin:(n:Int)=0∨(¬ (n:Int)=0∧d<(n:Int)):=by omega
 clear hn9
 rcases fin with h1|⟨h1,h2⟩
 all_goals
  go_enter Tryz.func37,Tryz.ntmps37
  go_upto_region 3 with fail
  go_region_law (refine Zbo rfl 72 Zfg (.tmp 14) (.tmp 15) 25 40 rfl (.pointer (some ⟨b,0,none⟩)) (.agg #[.int .i64 d,.string nm]) (by first|(simp [Act.eval];done)|(simp [Act.eval,Act.put];done)) (by first|(simp [Act.eval];done)|(simp [Act.eval,Act.put];done)) (HL.out _ B0.out.drew) ?_;rintro e w3 ⟨rfl,hB⟩;refine ⟨_,rfl,?_⟩;have B3:Hid (Bw W w3):=Za B0.out.drew hB;have B4:Hid (Below (W.alloc (.cells #[.int .i64 d,.string nm] 40)).heap.size (W.alloc (.cells #[.int .i64 d,.string nm] 40)) w3):=(Below.refl _ _).drew.trans hB;obtain ⟨xB,x0,x1,xf,xL,xN⟩:=k2c (n:=W.heap.size) B4.out (by simp) (Zg _ _);clear hB)
  all_goals go_wp2
  all_goals go_ret2
  all_goals exact ⟨rfl,B3.out⟩
theorem multi_3 {W:World} {hb b:Nat} (d N E:Int) (nm:ByteArray) (a:Option Addr) (n cap:Nat) {R:World→Prop} (h1:¬ n=0) (h2:(n:Int)≤d) (c0:W.cell? ⟨hb,0,none⟩=some (.pointer (some ⟨b,0,none⟩)))
 (HL:Hid (∀ w,Bw W w→Calls Tryz.prog 72 #[.pointer (some ⟨b,0,none⟩),.agg #[.int .i64 d,.string nm]] w fun e w'=>e=.returned (.int .i64 0)∧Bw w w'))
 (HF:Hid (∀ w,Bw W w→Calls Tryz.prog 73 #[.pointer (some ⟨hb,0,none⟩),.agg #[.int .i64 d,.string nm],.slice a n cap] w fun e w'=>e=.returned (.tuple #[.int .i64 N,.int .i64 E])∧R w')) :
 Calls Tryz.prog 37 #[.pointer (some ⟨hb,0,none⟩),.agg #[.int .i64 d,.string nm],.slice a n cap] W fun e w'=>e=.returned (.tuple #[.int .i64 N,.int .i64 E])∧R w':=by
 have hl:hb<W.heap.size:=World.block_lt_of_cell? W _ c0
 have hn:¬ hb=W.heap.size:=by omega
 have B0:Hid (Bw W (W.alloc (.cells #[.int .i64 d,.string nm] 40))):=(Below.refl _ _).alloc (Nat.le_refl _) _
 have g1:¬ (n:Int)=0:=by omega
 have g2:¬ d<(n:Int):=by omega
 go_enter Tryz.func37,Tryz.ntmps37
 go_upto_region 3 with fail
 go_region_law (refine Zbo rfl 72 Zfg (.tmp 14) (.tmp 15) 25 40 rfl (.pointer (some ⟨b,0,none⟩)) (.agg #[.int .i64 d,.string nm]) (by first|(simp [Act.eval];done)|(simp [Act.eval,Act.put];done)) (by first|(simp [Act.eval];done)|(simp [Act.eval,Act.put];done)) (HL.out _ B0.out.drew) ?_;rintro e w3 ⟨rfl,hB⟩;refine ⟨_,rfl,?_⟩;have B3:Hid (Bw W w3):=Za B0.out.drew hB;have B4:Hid (Below (W.alloc (.cells #[.int .i64 d,.string nm] 40)).heap.size (W.alloc (.cells #[.int .i64 d,.string nm] 40)) w3):=(Below.refl _ _).drew.trans hB;obtain ⟨xB,x0,x1,xf,xL,xN⟩:=k2c (n:=W.heap.size) B4.out (by simp) (Zg _ _);clear hB)
 all_goals go_wp2_with (go_at_call 73;refine (HF.out _ B3.out).mono ?_;rintro e w4 ⟨rfl,hx⟩;have R4:Hid (R w4):=hx;clear hx)
 all_goals go_ret2
 all_goals exact ⟨rfl,R4.out⟩
theorem multi_c {W:World} {S:Nat→Prop} {hb b:Nat} {ov:Value} {os:List Ob} (h:HpAt W S hb b ov os) {ps:List Plc} (hw:WAt b ps W) (d:Int) (nm:ByteArray) (hz:nm.size≤maxLen) (a:Option Addr) (n cap:Nat) (xs:List Int) (HN:xs.length=n) (hcap:n≤cap) (ha:¬ n=0→∃ g o,a=some ⟨g,o,none⟩∧IsAt W g o xs∧¬ S g) :
 Calls Tryz.prog 37 #[.pointer (some ⟨hb,0,none⟩),.agg #[.int .i64 d,.string nm],.slice a n cap] W fun e w'=>e=.returned (.tuple #[.int .i64 (mulN ps os d nm xs),.int .i64 (mulE ps os d nm xs)])∧∃ new,HpN S W w' hb b (os++new)∧new.map Ob.p=mulL ps os d nm xs:=by
 have HL:∀ w,Bw W w→Calls Tryz.prog 72 #[.pointer (some ⟨b,0,none⟩),.agg #[.int .i64 d,.string nm]] w fun e w'=>e=.returned (.int .i64 (ldI ps d nm))∧Bw w w':=fun w hl=>Zc9 (hw.below hl) d nm hz
 have c0:=h.cells.1
 by_cases e2:ldI ps d nm=0
 ·rw [e2] at HL
  by_cases e3:n=0∨d<(n:Int)
  ·have q1:mulE ps os d nm xs=2:=by rw [mulE,if_pos e2,HN,if_pos e3]
   have q2:mulN ps os d nm xs=0:=by rw [mulN,q1];rfl
   have q3:mulL ps os d nm xs=[]:=by rw [mulL,q1];rfl
   rw [q1,q2,q3]
   exact (multi_2 d nm a n cap e3 c0 HL).mono fun e w' ⟨a1,a2⟩=>⟨a1,[],by rw [List.append_nil];exact h.stay a2,rfl⟩
  ·have q1:mulE ps os d nm xs=filE os xs:=by rw [mulE,if_pos e2,HN,if_neg e3]
   have q2:mulN ps os d nm xs=filN os xs:=by rw [mulN,q1];rfl
   have q3:mulL ps os d nm xs=filL os d nm xs:=by rw [mulL,q1];rfl
   rw [q1,q2,q3]
   obtain ⟨g,o,rfl,hx,hg⟩:=ha (fun x=>e3 (.inl x))
   have hsn:sndB d nm.data.toList=true:=by
    cases hs:sndB d nm.data.toList with
    | true=>rfl
    | false=>unfold ldI at e2;rw [hs] at e2;revert e2;simp
   obtain ⟨h0,h255,_⟩:=Qn e2
   obtain ⟨k,rfl⟩:∃ k:Nat,d=(k:Int):=⟨d.toNat,by omega⟩
   have hgl:g<W.heap.size:=by
    obtain ⟨x,hx1⟩:∃ x,xs[0]?=some x:=⟨_,List.getElem?_eq_getElem (by omega)⟩
    exact World.block_lt_of_cell? W _ (hx 0 x hx1)
   refine multi_3 (k:Int) _ _ nm _ n cap (fun x=>e3 (.inl x)) (by omega) c0 HL (fun w hl=>?_)
   exact (fill_c (h.below hl) HN (by omega) (by omega) hcap k nm hz hsn (by omega) (hx.keep (hl.block g hgl)) hg).mono fun e w' ⟨a1,new,a2,a3⟩=>⟨a1,new,a2.pre hl,a3⟩
 ·have q1:mulE ps os d nm xs=ldI ps d nm:=by rw [mulE,if_neg e2]
  have q2:mulN ps os d nm xs=0:=by rw [mulN,q1,if_neg e2]
  have q3:mulL ps os d nm xs=[]:=by rw [mulL,q1,if_neg e2]
  rw [q1,q2,q3]
  exact (multi_1 d _ nm _ e2 c0 HL).mono fun e w' ⟨a1,a2⟩=>⟨a1,[],by rw [List.append_nil];exact h.stay a2,rfl⟩
def sbB (ps:List Plc) (x:Int) (s:ByteArray) (y:Int) (t:ByteArray):Bool:=if ldI ps x s=0 then (if ldI ps y t=0 then subB ps x s y t else false) else false
def sbE (ps:List Plc) (x:Int) (s:ByteArray) (y:Int) (t:ByteArray):Int:=if ldI ps x s=0 then (if ldI ps y t=0 then 0 else ldI ps y t) else ldI ps x s
theorem suI_eq (ps:List Plc) (x:Int) (s:ByteArray) (y:Int) (t:ByteArray):suI ps x s y t=.tuple #[.bool (sbB ps x s y t),.int .i64 (sbE ps x s y t)]:=by
 unfold suI sbB sbE
 split
 ·split <;> rfl
 ·rfl
def csE (ps:List Plc) (os:List Ob) (d:Int) (nm:ByteArray) (r:Int):Int:=match obI os r with
 | none=>obE r
 | some o=>if sbB ps o.d o.nm (outD (cmpE d nm.data.toList) (d - 1)) (outS (cmpE d nm.data.toList) nm) then 0 else 28
theorem callSub (vs:Array Value) (w:World):(callFunc 119 vs).run Tryz.prog w=.ok (.enter 119 vs) w:=by simp [go_sem]
theorem chk_err {W:World} {hb m:Nat} (d r E:Int) (nm:ByteArray) (a:Option Addr) (hE:¬ E=0) (HF:Hid (∀ w,Bw W w→Calls Tryz.prog 80 #[.pointer (some ⟨hb,0,none⟩),.int .i64 r] w fun e w'=>e=.returned (.tuple #[noO,.int .i64 E])∧Bw w w')) :
 Calls Tryz.prog 85 #[.pointer (some ⟨hb,0,none⟩),.agg #[.int .i64 d,.string nm,.slice a m m],.int .i64 r] W fun e w'=>e=.returned (.int .i64 E)∧Bw W w':=by
 have B0:Hid (Bw W (W.alloc (.cells #[.int .i64 d,.string nm,.slice a m m] 155))):=(Below.refl _ _).alloc (Nat.le_refl _) _
 unfold noO at HF
 go_enter Tryz.func85,Tryz.ntmps85
 go_wp2_with (go_at_call 80;refine (HF.out _ B0.out).mono ?_;rintro e w1 ⟨rfl,hB⟩;have B1:Hid (Bw W w1):=Za B0.out hB;clear hB HF)
 go_ret
 exact ⟨rfl,B1.out.alloc B1.out.size _⟩
theorem chk_go {W:World} {hb b m m2:Nat} (d r x d' E E2:Int) (nm s nm':ByteArray) (a a2:Option Addr) (B:Bool) (c0:W.cell? ⟨hb,0,none⟩=some (.pointer (some ⟨b,0,none⟩))) (HF:Hid (∀ w,Bw W w→Calls Tryz.prog 80 #[.pointer (some ⟨hb,0,none⟩),.int .i64 r] w fun e w'=>e=.returned (.tuple #[.agg #[.int .i64 x,.string s,.slice a2 m2 m2],.int .i64 0])∧Bw w w'))
 (HT:Hid (∀ w:World,Calls Tryz.prog 116 #[.agg #[.int .i64 d,.string nm]] w fun e w'=>e=.returned (.tuple #[.agg #[.int .i64 d',.string nm'],.int .i64 E2])∧Bw w w'))
 (HS:Hid (∀ w,Bw W w→Calls Tryz.prog 119 #[.pointer (some ⟨b,0,none⟩),.agg #[.int .i64 x,.string s],.agg #[.int .i64 d',.string nm']] w fun e w'=>e=.returned (.tuple #[.bool B,.int .i64 E])∧Bw w w')) :
 Calls Tryz.prog 85 #[.pointer (some ⟨hb,0,none⟩),.agg #[.int .i64 d,.string nm,.slice a m m],.int .i64 r] W fun e w'=>e=.returned (.int .i64 (if B then 0 else 28))∧Bw W w':=by
 have hl:hb<W.heap.size:=World.block_lt_of_cell? W _ c0
 have hn:¬ hb=W.heap.size:=by omega
 have B0:Hid (Bw W (W.alloc (.cells #[.int .i64 d,.string nm,.slice a m m] 155))):=(Below.refl _ _).alloc (Nat.le_refl _) _
 cases B
 all_goals
  go_enter Tryz.func85,Tryz.ntmps85
  go_upto_region 5 with (first
   | (go_at_call 80;refine (HF.out _ B0.out).mono ?_;rintro e w1 ⟨rfl,hB⟩;have B1:Hid (Bw W w1):=Za B0.out hB;obtain ⟨zB,z0,z1,z2,zf,zL,zN⟩:=k3c (n:=W.heap.size) hB;clear hB HF)
   | (go_at_call 116;refine (HT.out _).mono ?_;rintro e w2 ⟨rfl,hB⟩;have B2:Hid (Bw W w2):=Za (B1.out.alloc B1.out.size _) hB;obtain ⟨yB,y0,y1,y2,yf,yL,yN⟩:=k3c (n:=w1.heap.size) hB;have x0:w2.cell? ⟨hb,0,none⟩=some (.pointer (some ⟨b,0,none⟩)):=(B2.out.cell (p:=⟨hb,0,none⟩) hl).trans c0;have xl:hb<w2.heap.size:=(by omega);have xn:¬ hb=w2.heap.size:=(by omega);clear hB HT))
  go_region_law (refine Qj rfl 119 callSub (.tmp 32) (.tmp 34) (.tmp 35) 25 40 40 rfl (.pointer (some ⟨b,0,none⟩)) (.agg #[.int .i64 x,.string s]) (.agg #[.int .i64 d',.string nm']) (by first|(simp [Act.eval];done)|(simp [Act.eval,Act.put];done)) (by first|(simp [Act.eval];done)|(simp [Act.eval,Act.put];done)) (by first|(simp [Act.eval];done)|(simp [Act.eval,Act.put];done)) (HS.out _ (B2.out.alloc B2.out.size _).drew) ?_;rintro e w3 ⟨rfl,hB⟩;refine ⟨_,rfl,?_⟩;have B3:Hid (Bw W w3):=Za (B2.out.alloc B2.out.size _).drew hB;clear hB)
  all_goals go_wp2
  all_goals go_ret
  all_goals exact ⟨rfl,B3.out⟩
theorem check_s {W:World} {S:Nat→Prop} {hb b:Nat} {ov:Value} {os:List Ob} (h:HpAt W S hb b ov os) {ps:List Plc} (hw:WAt b ps W) (hi:WI ps) (hsz:∀ o∈os,o.nm.size≤maxLen) (d:Int) (nm:ByteArray) (hz:nm.size≤maxLen) (a:Option Addr) (m:Nat) (r:Int) :
 Calls Tryz.prog 85 #[.pointer (some ⟨hb,0,none⟩),.agg #[.int .i64 d,.string nm,.slice a m m],.int .i64 r] W fun e w'=>e=.returned (.int .i64 (csE ps os d nm r))∧Bw W w':=by
 have HF:∀ w,Bw W w→Calls Tryz.prog 80 #[.pointer (some ⟨hb,0,none⟩),.int .i64 r] w fun e w'=>e=.returned (.tuple #[obW (obI os r),.int .i64 (obF os r)])∧Bw w w':=fun w hl=>Zkp (h.below hl) r
 cases ho:obI os r with
 | none =>
   have q1:csE ps os d nm r=obE r:=by rw [csE,ho]
   have q2:obF os r=obE r:=by rw [obF,ho]
   rw [ho,q2] at HF
   rw [q1]
   exact chk_err d r _ nm a (Zba r) HF
 | some o =>
   have q1:csE ps os d nm r=if sbB ps o.d o.nm (outD (cmpE d nm.data.toList) (d - 1)) (outS (cmpE d nm.data.toList) nm) then 0 else 28:=by rw [csE,ho]
   have q2:obF os r=0:=by rw [obF,ho]
   obtain ⟨av,hv⟩:=Xu o (h.no o (Xm ho))
   rw [ho,q2,obW,obV,hv] at HF
   rw [q1]
   have hz2:(outS (cmpE d nm.data.toList) nm).size≤maxLen:=by unfold outS;split;exact hz;exact Nat.zero_le _
   refine chk_go d r o.d _ (sbE ps o.d o.nm (outD (cmpE d nm.data.toList) (d - 1)) (outS (cmpE d nm.data.toList) nm)) _ nm o.nm _ a av _ h.cells.1 HF (Jz d nm hz) (fun w hl=>?_)
   ·have:=sub_c (hw.below hl) hi o.d o.nm (outD (cmpE d nm.data.toList) (d - 1)) (outS (cmpE d nm.data.toList) nm) (hsz o (Xm ho)) hz2
    rw [suI_eq] at this
    exact this
end Go.Proofs.YtlnojhhddinjkaaGreat
