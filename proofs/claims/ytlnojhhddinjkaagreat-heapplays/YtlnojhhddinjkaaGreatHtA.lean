import Derived.Test.YtlnojhhddinjkaaGreatMxR
import Derived.Test.YtlnojhhddinjkaaGreatHqR
set_option maxHeartbeats 4000000
set_option maxRecDepth 100000
namespace Go.Proofs.YtlnojhhddinjkaaGreat
open Go.RowKit Go.Maps
theorem Tryz.hinfoIntH:(Tryz.prog.info? 3).map (fun i=>(i.zero,i.size,i.bytes))=some (some (.int .i64 0),1,8):=by kernel_rfl
theorem mulL_gd {ps:List Plc} {os:List Ob} {d:Int} {nm:ByteArray} (hz:nm.size≤maxLen) {xs:List Int}:∀ p∈mulL ps os d nm xs,0≤p.1∧p.2.1.size≤maxLen:=by
 intro p hp
 unfold mulL at hp
 split at hp
 ·rename_i h0
  refine Zkr nm hz _ d _ ?_ p hp
  rw [List.length_map]
  rw [mulE] at h0
  split at h0
  ·split at h0
   ·cases h0
   ·rename_i h2;omega
  ·rename_i h1;exact absurd h0 h1
 ·cases hp
def Zbn (W:World) (v:Value) (l:List Int):Prop:=Zfi W v l∧l.length≤17592186043904
theorem nums_rdw {W:World} {ao:Option Addr} {cap:Nat} {l:List Int} (hl:l.length≤cap) (hc:cap≤maxLen) (h:l≠[]→∃ b o,ao=some ⟨b,o,none⟩∧b<W.heap.size∧∀ k t,l[k]?=some t→W.cell? ⟨b,o+k,none⟩=some (.int .i64 t)) (h0:ao=none→cap=0):Rdw W (.slice ao l.length cap) l.length 1 (intL l):=by
 by_cases hne:l=[]
 ·subst hne
  cases ao with
  | none=>exact .inl ⟨rfl,.inl ⟨by rw [h0 rfl];rfl,rfl⟩⟩
  | some a=>exact .inr ⟨rfl,rfl,a,cap,rfl⟩
 ·obtain ⟨b,o,rfl,hb,hk⟩:=h hne
  refine .inl ⟨by simp [intL],.inr ⟨b,o,cap,rfl,hl,hc,hb,fun j u hj=>?_⟩⟩
  rw [intL,List.getElem?_map] at hj
  cases e:l[j]? with
  | none=>rw [e] at hj;cases hj
  | some t=>rw [e] at hj;cases hj;exact hk j t e
theorem ag_mul {W X v:World} {hb b rb xb:Nat} {ps:List Plc} {cs:List Cls} (E:Env W X hb b xb ps cs) (h:Pr X hb b rb xb v) (a c:Int) (r:Bool) (n d:Int) (nm:ByteArray) (lv:Value) (hz:nm.size≤maxLen) (l:List Int) (hN:Zbn W lv l):Calls Tryz.prog 8 #[.agg #[.int .i64 3,.int .i64 a,.int .i64 c,.bool r,.int .i64 n,.int .i64 d,.string nm,lv],.pointer (some ⟨hb,0,none⟩),.pointer (some ⟨rb,0,none⟩)] v fun e w'=>e=.returned (.bool true)∧Pr X hb b rb xb w':=by
 obtain ⟨os,es,t0,lk,gd⟩:=h.box (oBh 3 a c r n d nm lv)
 obtain ⟨U,hU⟩:∃ U,v.alloc (oBh 3 a c r n d nm lv)=U:=⟨_,rfl⟩
 have HU:Hid (v.alloc (oBh 3 a c r n d nm lv)=U):=hU
 have hob:U.heap[v.heap.size]?=some (oBh 3 a c r n d nm lv):=by rw [← hU];exact Zg _ _
 have T0:Hid (Tk X hb b rb xb (fun j=>j=v.heap.size) U os es (v.alloc (oBh 3 a c r n d nm lv))):=by rw [hU] at t0 ⊢;exact t0
 obtain ⟨⟨ao,cap,rfl,hlc,hcm,hl0,hlk⟩,hl9⟩:=hN
 obtain ⟨x,hx⟩:∃ x,mulN ps os d nm l=x:=⟨_,rfl⟩
 obtain ⟨y,hy⟩:∃ y,mulE ps os d nm l=y:=⟨_,rfl⟩
 have lm:=lk.mul ps d nm l
 obtain ⟨K,hK⟩:∃ K,l.length=K:=⟨_,rfl⟩
 have HK:Hid (l.length=K):=hK
 rw [hK] at hlc hl9
 have BW:Hid (∀ w,Kx X hb w→Bw W w):=fun w hk=>(E.kp w hk).2.2
 have HR:Hid (∀ w,Bw W w→Rdw w (.slice ao K cap) K 1 (intL l)):=fun w hw=>by
  rw [← hK]
  exact (nums_rdw (by omega) hcm hlk hl0).keep hw
 have HA:Hid (∀ (w:World) (g c2:Nat) (K2:Nat→Prop) (U2:World),Tk X hb b rb xb K2 U2 os es w→K2 g→K≤c2→IsAt w g 0 l→Calls Tryz.prog 37 #[.pointer (some ⟨hb,0,none⟩),.agg #[.int .i64 d,.string nm],.slice (some ⟨g,0,none⟩) K c2] w fun e w'=>e=.returned (.tuple #[.int .i64 x,.int .i64 y])∧∃ os',(∃ no,os'=os++no∧no.map Ob.p=mulL ps os d nm l)∧Tk X hb b rb xb K2 U2 os' es w'):=fun w g c2 K2 U2 t hg hc hi=>t.A (fun S ov hp hKS=>by
  rw [← hx,← hy]
  obtain ⟨ew,er,eb⟩:=E.kp w t.kx
  exact (multi_c hp ew d nm hz (some ⟨g,0,none⟩) K c2 l hK hc (fun _=>⟨g,0,rfl,hi,hKS g hg⟩)).mono fun e w' ⟨z1,no,z2,z3⟩=>⟨z1,_,z2,no,rfl,z3⟩)
 have HB:Hid (∀ (w:World) (os':List Ob) (K2:Nat→Prop) (U2:World),Tk X hb b rb xb K2 U2 os' es w→Calls Tryz.prog 38 #[.pointer (some ⟨rb,0,none⟩),.agg #[.int .i64 d,.string nm],.slice ao K cap] w fun e w'=>e=.returned (.tuple #[.int .i64 x,.int .i64 y])∧∃ es',(∃ ne,es'=es++ne∧ne.map Dv.q=(mulL ps os d nm l).map poQ)∧Tk X hb b rb xb K2 U2 os' es' w'):=fun w os' K2 U2 t=>t.B (fun S tv ev hr lo=>by
  rw [← hx,← hy]
  obtain ⟨ew,er,eb⟩:=E.kp w t.kx
  refine (multi_d hr er E.hT E.hn d nm hz ao K cap l hK (fun h0=>?_)).mono fun e w' ⟨z1,ne,z2,z3⟩=>⟨?_,_,z2,ne,rfl,?_⟩
  ·obtain ⟨g,o,e1,e2,e3⟩:=hlk (fun e=>h0 (by rw [← hK,e];rfl))
   exact ⟨g,o,e1,fun i z hz=>(eb.cell (p:=⟨g,o+i,none⟩) e2).trans (e3 i z hz),fun hs=>by have:=lo g hs;have:=E.wx;omega⟩
  ·rw [z1,lm,lk.len];rfl
  ·rw [z3,lm,mulL,lk.len]
   split <;> rfl)
 have HF:Hid (∀ os' es',(∃ no,os'=os++no∧no.map Ob.p=mulL ps os d nm l)→(∃ ne,es'=es++ne∧ne.map Dv.q=(mulL ps os d nm l).map poQ)→Lk os' es'∧Gd os'):=fun os' es' h1 h2=>by
  obtain ⟨no,rfl,h3⟩:=h1
  obtain ⟨ne,rfl,h4⟩:=h2
  exact ⟨lk.app (by rw [h3,h4]),gd.app (by rw [h3];exact mulL_gd hz)⟩
 have HO:Hid (∀ u∈intL l,u.oneCell'=true):=fun u hu=>by
  obtain ⟨z,_,rfl⟩:=List.mem_map.1 hu
  rfl
 have HLB:Hid (∀ i z,l[i]?=some z→∃ bk o,ao=some ⟨bk,o,none⟩∧bk<W.heap.size∧W.cell? ⟨bk,o+i,none⟩=some (.int .i64 z)):=fun i z hz=>by
  obtain ⟨bk,o,e1,e2,e3⟩:=hlk (by rintro rfl;simp at hz)
  exact ⟨bk,o,e1,e2,e3 i z hz⟩
 obtain ⟨i0,hi0,hz0,hz1,hz2⟩:=info_parts Tryz.hinfoIntH
 have BU:Hid (Bw W U):=BW.out U (by have:=T0.out.kx;rw [hU] at this;exact this)
 have hvU:U.heap.size=v.heap.size+1:=by rw [← hU];simp
 unfold oBh at T0 hob
 have HOB:Hid (∀ w,Bw U w→w.heap[v.heap.size]?=some (oBh 3 a c r n d nm (.slice ao K cap))):=fun w hl=>by
  rw [← hK];exact (hl.block v.heap.size (Array.getElem?_eq_some_iff.1 hob).1).trans hob
 rw [hK] at T0 hU HU ⊢
 unfold oBh at hU HU
 clear hx hy h t0 lk gd E hlk hl0 lm hK hob
 obtain ⟨y0,y1,y2,y3,y4,y5,y6,y7,yL⟩:=r8h (HOB.out U (Below.refl _ _))
 have yN:¬ v.heap.size=U.heap.size:=by omega
 clear hvU
 go_enter Tryz.func8,Tryz.ntmps8
 go_upto_region 12 with fail
 go_wp2_with (at_builtin;refine Xc rfl _ _ 41 rfl U.heap.size 3 i0 (.int .i64 0) 1 8 Tryz.underlying41 hi0 hz0 hz1 hz2 rfl (by decide) (.slice (some ⟨U.heap.size,0,none⟩) 0 0) 0 [] rfl (Za9 _ _ rfl _ _ _ (Nat.le_refl _)) (.slice ao K cap) K (intL l) rfl (HR.out _ (BU.out.alloc BU.out.size _)) HO.out ?c1 ?c2 ?c3 ?_)
 case c1=>unfold maxLen;omega
 case c2=>omega
 case c3=>simp
 intro v1 w1 hown hgrow
 obtain ⟨va1,vn1,rfl⟩:=ownv hown
 try simp only [Nat.zero_add] at hown
 try simp only [List.nil_append] at hown
 have B1:Hid (Bw U w1):=by
  refine Below.grown (w:=_) ((Below.refl _ U).alloc (Nat.le_refl _) (.cells #[] 3)) hgrow (by simp) (fun x hx=>?_)
  simp [Value.ownBlock] at hx;omega
 have O1:Hid (w1.ownsRow U.heap.size 3 1 (.slice va1 K vn1) K (intL l)):=(by rw [Hid];simpa using hown)
 clear hown hgrow
 go_wp2_with (at_builtin;refine wpList_append_own _ rfl _ _ 41 rfl U.heap.size 3 i0 (.int .i64 0) 1 8 Tryz.underlying41 hi0 hz0 hz1 hz2 rfl (by decide) (.slice va1 K vn1) K (intL l) (by first|rfl|simp) ?own ⟨w1.heap.size,0,none⟩ 2 2 [.int .i64 (-71),.int .i64 (-72)] rfl rfl ?hn ?h1 ?d1 ?d2 ?d3 ?_)
 case own=>exact Zm O1.out ((Below.refl _ _).alloc (Nat.le_refl _) _)
 case hn =>
  intro j u hj
  obtain ⟨p0,p1,_,_⟩:=r2c (Zg w1 (.cells #[.int .i64 (-71),.int .i64 (-72)] 3))
  rw [addr_add]
  match j,hj with
  | 0,hj=>cases hj;exact p0
  | 1,hj=>cases hj;exact p1
  | j+2,hj=>simp at hj
 case h1=>intro u hu;simp at hu;rcases hu with rfl|rfl <;> rfl
 case d1=>unfold maxLen;omega
 case d2=>omega
 case d3=>have:=B1.out.size;simp;omega
 intro v2 w2 hown hgrow _
 obtain ⟨va2,c2,rfl,hc2,sf⟩:=Zfy hown
 obtain ⟨g,rfl⟩:∃ g:Nat,va2=some ⟨g,0,none⟩:=by
  rcases sf with ⟨_,e,_⟩|h
  ·omega
  ·exact h
 have B2:Hid (Bw U w2):=by
  refine Below.grown (w:=_) (B1.out.alloc B1.out.size (.cells #[.int .i64 (-71),.int .i64 (-72)] 3)) hgrow (by have:=B1.out.size;simp;omega) (fun x hx=>?_)
  obtain ⟨h1,_⟩:=O1.out.lt x hx
  omega
 obtain ⟨hg1,hg2⟩:=hown.lt g rfl
 have hcell:∀ i z,(intL l++[.int .i64 (-71),.int .i64 (-72)])[i]?=some z→w2.cell? ⟨g,i,none⟩=some z:=fun i z hz=>by
  have hi:i<K+2:=by
   have:=(List.getElem?_eq_some_iff.1 hz).1
   simp [intL,HK.out] at this
   omega
  have:=hown.cellAt i (by omega)
  rw [this];exact hz
 have HI2:Hid (IsAt w2 g 0 l):=fun i z hz=>by
  rw [Nat.zero_add]
  refine hcell i _ ?_
  rw [List.getElem?_append_left (by rw [intL,List.length_map];exact (List.getElem?_eq_some_iff.1 hz).1),intL,List.getElem?_map,hz];rfl
 have HE1:Hid (w2.cell? ⟨g,K,none⟩=some (.int .i64 (-71))):=hcell K _ (by
  rw [List.getElem?_append_right (by simp [intL,HK.out]),intL,List.length_map,HK.out];simp)
 have HE2:Hid (w2.cell? ⟨g,K+1,none⟩=some (.int .i64 (-72))):=hcell (K+1) _ (by
  rw [List.getElem?_append_right (by simp [intL,HK.out]),intL,List.length_map,HK.out];simp)
 have T2:Hid (Tk X hb b rb xb (fun j=>j=v.heap.size∨(U.heap.size≤j∧j<w2.heap.size)) w2 os es w2):=by
  have t:=T0.out
  rw [hU] at t
  exact t.new B2.out
 have hOB2:w2.heap[v.heap.size]?=some (oBh 3 a c r n d nm (.slice ao K cap)):=HOB.out w2 B2.out
 have HG:Hid ((fun j=>j=v.heap.size∨(U.heap.size≤j∧j<w2.heap.size)) g):=.inr ⟨hg1,hg2⟩
 have hcI:(K:Int)≤(c2:Int):=by omega
 have hcN:K≤c2:=by omega
 clear hown hgrow sf hcell y0 y1 y2 y3 y4 y5 y6 y7 yL yN T0 HOB HR HO B1 O1
 obtain ⟨y0,y1,y2,y3,y4,y5,y6,y7,yL⟩:=r8h hOB2
 go_upto_region 13 with fail
 go_region_law (refine stp3h rfl 37 callMuA (.tmp 99) (.tmp 101) (.tmp 104) 26 40 41 rfl (.pointer (some ⟨hb,0,none⟩)) (.agg #[.int .i64 d,.string nm]) (.slice (some ⟨g,0,none⟩) K c2) (by first|(simp [Act.eval];done)|(simp [Act.eval,Act.put];done)) (by first|(simp [Act.eval];done)|(simp [Act.eval,Act.put];done)) (by first|(simp [Act.eval];done)|(simp [Act.eval,Act.put];done)) (HA.out _ g c2 _ _ (Tk.bel T2.out (Below.refl _ _).drew) HG.out hcN (fun i z hz=>HI2.out i z hz)) ?_;rintro e w3 ⟨rfl,os3,hp3,t3⟩;refine ⟨_,rfl,?_⟩;have HP3:Hid _:=hp3;have T3:Hid (Tk X hb b rb xb (fun j=>j=v.heap.size∨(U.heap.size≤j∧j<w2.heap.size)) w2 os3 es w3):=t3;obtain ⟨y0,y1,y2,y3,y4,y5,y6,y7,yL⟩:=r8h ((t3.at (.inl rfl)).trans hOB2);clear t3 hp3)
 go_upto_region 15 with (go_at_call 38;refine (HB.out _ _ _ _ T3.out).mono ?_;rintro e w4 ⟨rfl,es4,hq4,t4⟩;have HQ4:Hid _:=hq4;have T4:Hid (Tk X hb b rb xb (fun j=>j=v.heap.size∨(U.heap.size≤j∧j<w2.heap.size)) w2 os3 es4 w4):=t4;clear t4 hq4)
 obtain ⟨z0,z1,z2,z3,z4,z5,z6,z7,zL⟩:=r8h ((T4.out.at (.inl rfl)).trans hOB2)
 have hgg:=T4.out.at HG.out
 have hgL:=T4.out.lt HG.out
 have E1:w4.cell? ⟨g,K,none⟩=some (.int .i64 (-71)):=(World.cell?_of_block (a:=⟨g,K,none⟩) hgg).trans HE1.out
 have E2:w4.cell? ⟨g,K+1,none⟩=some (.int .i64 (-72)):=(World.cell?_of_block (a:=⟨g,K+1,none⟩) hgg).trans HE2.out
 have HI4:Hid (∀ i z,l[i]?=some z→w4.cell? ⟨g,0+i,none⟩=some (.int .i64 z)):=fun i z hz=>(World.cell?_of_block (a:=⟨g,0+i,none⟩) hgg).trans (HI2.out i z hz)
 have BW4:Hid (Bw W w4):=BW.out w4 T4.out.kx
 clear y0 y1 y2 y3 y4 y5 y6 y7 yL
 obtain ⟨σ,V,hne,V1,V2⟩:=class_of' (fun w'=>Bw w4 w') ⟨_,Below.refl _ _⟩
 have e7:=fun q=>((V1.out q).cell (p:=⟨v.heap.size,7,none⟩) zL).trans z7
 have eg:=fun q=>((V1.out q).cell (p:=⟨g,K,none⟩) hgL).trans E1
 have eh:=fun q=>((V1.out q).cell (p:=⟨g,K+1,none⟩) hgL).trans E2
 have VS:Hid (∀ q,Calls Tryz.prog 28 #[.slice (some ⟨g,0,none⟩) K c2,.slice ao K cap] (V q) fun e w''=>e=.returned (.bool true)∧∃ q',w''=V q'):=fun q=>(sameI_c l K (some ⟨g,0,none⟩) ao c2 cap (V q) HK (by omega) (fun i z hz=>⟨g,0,rfl,by have:=(V1.out q).size;omega,((V1.out q).cell (p:=⟨g,0+i,none⟩) hgL).trans (HI4.out i z hz)⟩) (fun i z hz=>by
  obtain ⟨bk,o,e1,e2,e3⟩:=HLB.out i z hz
  have b4:=Za BW4.out (V1.out q)
  exact ⟨bk,o,e1,Nat.lt_of_lt_of_le e2 b4.size,(b4.cell (p:=⟨bk,o+i,none⟩) e2).trans e3⟩)).mono fun e w'' zz=>⟨zz.1,V2.out _ ((V1.out q).trans (zz.2.mono (V1.out q).size))⟩
 have hk1:(K:Int)<((K+2:Nat):Int):=by omega
 have hk2:(K:Int)+1<((K+2:Nat):Int):=by omega
 have hkw:IntKind.i64.wrap ((K:Int)+1)=(K:Int)+1:=by rw [IntKind.wrap_i64];omega
 refine Zc (C:=fun w'=>∃ q,w'=V q) (by kernel_rfl) (by kernel_rfl) (V2.out _ (Below.refl _ _).drew) ?_
 repeat (go_big_quiet_step (first|(go_at_call 28;exact VS.out _)))
 refine wpQuiet_nil ?_
 intro w9 hw9
 obtain ⟨s9,rfl⟩:=hw9
 have PR:Hid (Pr X hb b rb xb (V s9)):=Tk.pr (T4.out.bel (V1.out s9)) (HF.out _ _ HP3.out HQ4.out).1 (HF.out _ _ HP3.out HQ4.out).2
 go_wp2
 go_ret
 exact ⟨Zb (by simp),PR.out⟩
theorem ag_none {X v:World} {hb b rb xb:Nat} (h:Pr X hb b rb xb v) (kd a c:Int) (r:Bool) (n d:Int) (nm:ByteArray) (lv:Value) (k1:¬ kd=1) (k2:¬ kd=2) (k3:¬ kd=3) (k4:¬ kd=4) (k5:¬ kd=5) (k6:¬ kd=6):Calls Tryz.prog 8 #[.agg #[.int .i64 kd,.int .i64 a,.int .i64 c,.bool r,.int .i64 n,.int .i64 d,.string nm,lv],.pointer (some ⟨hb,0,none⟩),.pointer (some ⟨rb,0,none⟩)] v fun e w'=>e=.returned (.bool true)∧Pr X hb b rb xb w':=by
 have T0:Hid (Pr X hb b rb xb v):=h
 clear h
 go_enter Tryz.func8,Tryz.ntmps8
 go_wp2
 go_ret
 exact ⟨rfl,Pr.bel T0.out sqR⟩
theorem ag_c {W X v:World} {hb b rb xb:Nat} {ps:List Plc} {cs:List Cls} (E:Env W X hb b xb ps cs) (h:Pr X hb b rb xb v) (kd a c:Int) (r:Bool) (n d:Int) (nm:ByteArray) (lv:Value) (hz:nm.size≤maxLen) (l:List Int) (hN:Zbn W lv l):Calls Tryz.prog 8 #[.agg #[.int .i64 kd,.int .i64 a,.int .i64 c,.bool r,.int .i64 n,.int .i64 d,.string nm,lv],.pointer (some ⟨hb,0,none⟩),.pointer (some ⟨rb,0,none⟩)] v fun e w'=>e=.returned (.bool true)∧Pr X hb b rb xb w':=by
 by_cases k1:kd=1
 ·subst k1;exact ag_obj E h a c r n d nm lv
 by_cases k2:kd=2
 ·subst k2;exact ag_ary E h a c r n d nm lv hz
 by_cases k3:kd=3
 ·subst k3;exact ag_mul E h a c r n d nm lv hz l hN
 by_cases k4:kd=4
 ·subst k4;exact ag_ask E h a c r n d nm lv
 by_cases k5:kd=5
 ·subst k5;exact ag_get E h a c r n d nm lv
 by_cases k6:kd=6
 ·subst k6;exact ag_set E h a c r n d nm lv
 exact ag_none h kd a c r n d nm lv k1 k2 k3 k4 k5 k6
theorem Zho {w w':World} {v:Value} {l:List Cls} (h:J3 w v l) (hb:Bw w w'):J3 w' v l:=by
 obtain ⟨ao,cap,rfl,h1,h2,h3⟩:=h
 refine ⟨ao,cap,rfl,h1,h2,fun hne=>?_⟩
 obtain ⟨bk,o,e,hlt,hc⟩:=h3 hne
 refine ⟨bk,o,e,Nat.lt_of_lt_of_le hlt hb.size,fun k c hk=>?_⟩
 obtain ⟨vi,vm,h4,h5⟩:=hc k c hk
 exact ⟨vi,vm,fun j u hj=>(hb.cell hlt).trans (h4 j u hj),h5.keep hb⟩
def KHp (o:Obj):Prop:=∀ xs,o≠.cells xs 138 (0,0)
theorem RAt.keptH {b:Nat} {cs:List Cls} {w w':World} (h:RAt b cs w) (hk:KeptK KHp w w'):RAt b cs w':=by
 obtain ⟨N,v,rs,h,e⟩:=h
 refine ⟨N,v,rs,?_,e⟩
 have hK:∀ (cs:Array Value) (t:Nat),t≠138→KHp (.cells cs t (0,0)):=fun cs t h1=>fun xs e=>h1 (by injection e)
 refine ⟨hk b _ h.hb (hK _ _ (by decide)),Jj h.row hk fun cs=>hK _ _ (by decide),fun r hr=>?_,h.lb⟩
 obtain ⟨qm,h3,h4⟩:=h.own r hr
 exact ⟨qm,h3,h4.keptK hk fun cs t ht=>hK _ _ (by rcases ht with rfl|rfl|rfl <;> decide)⟩
def Zgl (W:World) (v:Value) (ts:List OpH):Prop:=Zhw W v ts∧∀ t∈ts,t.l.length≤17592186043904
theorem Zeg (W:World):Zbn W (.slice none 0 0) []:=⟨⟨none,0,rfl,Nat.le_refl _,Nat.zero_le _,fun _=>rfl,fun h=>absurd rfl h⟩,Nat.zero_le _⟩
theorem pr_new {X w1:World} {hb b xb:Nat} (h1:HpAt w1 (fun k=>k=hb) hb b (.slice none 0 0) []) (hl:Bw w1 X):Pr X hb b X.heap.size xb (X.alloc (.cells #[.pointer (some ⟨xb,0,none⟩),.slice none 0 0,.slice none 0 0] 35)):=by
 obtain ⟨X',hX⟩:∃ X',X.alloc (.cells #[.pointer (some ⟨xb,0,none⟩),.slice none 0 0,.slice none 0 0] 35)=X':=⟨_,rfl⟩
 have hB:Bw X X':=by rw [← hX];exact (Below.refl _ _).alloc (Nat.le_refl _) _
 have hz:X'.heap.size=X.heap.size+1:=by rw [← hX];simp
 have hblk:X'.heap[X.heap.size]?=some (.cells #[.pointer (some ⟨xb,0,none⟩),.slice none 0 0,.slice none 0 0] 35 (0,0)):=by rw [← hX];exact Zg _ _
 have hbl:hb<X.heap.size:=Nat.lt_of_lt_of_le (h1.sz hb rfl) hl.size
 rw [hX]
 refine Tk.pr (K:=fun _=>False) (U:=X') (os:=[]) (es:=[]) ⟨fun k=>k=hb,fun k=>k=X.heap.size,?_,fun _ hj=>hj.elim⟩ rfl (fun o ho=>by simp at ho)
 refine ⟨⟨_,(h1.below hl).below hB⟩,⟨.slice none 0 0,.slice none 0 0,?_⟩,fun j hj x=>by omega,fun j hj=>.inl hj,fun j hj=>by omega,⟨hB.os,hB.tape,hB.output,hB.size,fun j hj _=>hB.block j hj⟩⟩
 exact { sz:=fun j hj=>by omega,rS:=rfl,tS:=fun k hk=>by simp [Value.ownBlock] at hk,vS:=fun k hk=>by simp [Value.ownBlock] at hk,eS:=fun e he=>by simp at he,hh:=hblk,tw:=World.ownsRow_nil _ _ _ _,vw:=World.ownsRow_nil _ _ _ _,el:=fun e he=>by simp at he,no:=fun e he=>by simp at he,dj:=fun i j o p g hi=>by simp at hi,n1:=Nat.zero_le _,n2:=Nat.zero_le _ }
theorem env_new {W V w1 X:World} {b hb xb:Nat} {l:List Cls} (hl:∀ c∈l,ClsW c) (h0:Bw W V) (h1:WAt b (wld l) V) (h2:Bw V w1) (h3:V.heap.size≤hb) (h4:HpAt w1 (fun k=>k=hb) hb b (.slice none 0 0) []) (h5:Bw w1 X) (h6:RAt xb (wldC l) X):Env W X hb b xb (wld l) (wldC l):=by
 have ht:=twW l hl
 have z0:=h0.size
 have z2:=h2.size
 have z5:=h5.size
 refine ⟨ht,(wld_wj l hl).2,ht.wi.pb,by rw [ht.tw.len];exact ht.wi.hi,by omega,fun w ⟨k1,k2,k3,k4,k5⟩=>⟨?_,?_,?_⟩⟩
 ·refine h1.below ⟨k1.trans (h5.os.trans h2.os),k2.trans (h5.tape.trans h2.tape),k3.trans (h5.output.trans h2.output),by omega,fun j hj=>?_⟩
  exact (k5 j (by omega) (by omega)).trans ((h5.block j (by omega)).trans (h2.block j hj))
 ·refine h6.keptH (fun j o hj hK=>?_)
  have hjl:=(Array.getElem?_eq_some_iff.1 hj).1
  refine (k5 j hjl (fun e=>?_)).trans hj
  subst e
  have hh:=(h5.block j (h4.sz j rfl)).trans h4.hh
  rw [hh] at hj
  exact hK _ (Option.some.inj hj).symm
 ·exact ⟨k1.trans (h5.os.trans (h2.os.trans h0.os)),k2.trans (h5.tape.trans (h2.tape.trans h0.tape)),k3.trans (h5.output.trans (h2.output.trans h0.output)),by omega,fun j hj=>(k5 j (by omega) (by omega)).trans ((h5.block j (by omega)).trans ((h2.block j (by omega)).trans (h0.block j hj)))⟩
theorem Pr.y {X v:World} {hb b rb xb:Nat} (h:Pr X hb b rb xb v):∃ a L c,v.cell? ⟨rb,1,none⟩=some (.slice a L c)∧L≤1000:=by
 obtain ⟨os,es,⟨S,S',bo,_⟩,_,_⟩:=h
 obtain ⟨tv,ev,h3⟩:=bo.r
 obtain ⟨a,c,e⟩:=ownv h3.tw
 exact ⟨a,es.length,c,by rw [h3.cells.2.1,e],h3.n1⟩
theorem Pr.len {X v:World} {hb b rb xb:Nat} (h:Pr X hb b rb xb v) (r:Int):Calls Tryz.prog 9 #[.pointer (some ⟨rb,0,none⟩),.int .i64 r] v fun e w'=>∃ (n:Nat) (x:Int),e=.returned (.tuple #[.int .i64 (n:Int),.int .i64 x])∧Pr X hb b rb xb w':=by
 have h0:=h
 obtain ⟨os,es,⟨S,S',bo,_⟩,_,_⟩:=h
 obtain ⟨tv,ev,h3⟩:=bo.r
 exact (Zke h3 r).mono fun e w' ⟨x,y⟩=>⟨_,_,x,h0.bel y⟩
theorem Zdt (u1:Value) (l:List Cls) (u2:Value) (ts:List OpH) (W:World) (h1:J3 W u1 l) (h2:Zgl W u2 ts):Calls Tryz.prog 3 #[u1,u2] W fun e w'=>e=.returned (.bool true)∧Bw W w':=by
 obtain ⟨⟨au,cau,rfl,hul,hut,huc⟩,huz⟩:=h2
 have HUC:Hid (∀ i t,ts[i]?=some t→t.nm.size≤maxLen∧Zbn W t.lv t.l∧∀ w,Bw W w→∃ b o,au=some ⟨b,o,none⟩∧w.cell? ⟨b,o+i * 8,none⟩=some (.int .i64 t.kd)∧w.cell? ⟨b,o+i * 8+1,none⟩=some (.int .i64 t.a)∧w.cell? ⟨b,o+i * 8+2,none⟩=some (.int .i64 t.b)∧w.cell? ⟨b,o+i * 8+3,none⟩=some (.bool t.v.1)∧w.cell? ⟨b,o+i * 8+4,none⟩=some (.int .i64 t.v.2)∧w.cell? ⟨b,o+i * 8+5,none⟩=some (.int .i64 t.d)∧w.cell? ⟨b,o+i * 8+6,none⟩=some (.string t.nm)∧w.cell? ⟨b,o+i * 8+7,none⟩=some t.lv):=fun i t ht=>by
  have hm:=List.mem_of_getElem? ht
  refine ⟨(hut t hm).1,⟨(hut t hm).2,huz t hm⟩,fun w hb=>?_⟩
  obtain ⟨b,o,e,hbl,hc⟩:=huc (by rintro rfl;simp at ht)
  obtain ⟨k0,k1,k2,k3,k4,k5,k6,k7⟩:=hc i t ht
  exact ⟨b,o,e,(hb.cell (p:=⟨b,o+i * 8,none⟩) hbl).trans k0,(hb.cell (p:=⟨b,o+i * 8+1,none⟩) hbl).trans k1,(hb.cell (p:=⟨b,o+i * 8+2,none⟩) hbl).trans k2,(hb.cell (p:=⟨b,o+i * 8+3,none⟩) hbl).trans k3,(hb.cell (p:=⟨b,o+i * 8+4,none⟩) hbl).trans k4,(hb.cell (p:=⟨b,o+i * 8+5,none⟩) hbl).trans k5,(hb.cell (p:=⟨b,o+i * 8+6,none⟩) hbl).trans k6,(hb.cell (p:=⟨b,o+i * 8+7,none⟩) hbl).trans k7⟩
 have HA:Hid (∀ w:World,Calls Tryz.prog 5 #[] w fun e w'=>e=.returned (.bool true)∧Bw w w'):=Zk8
 have HO:Hid (∀ w,Bw W w→Calls Tryz.prog 6 #[u1] w fun e w'=>∃ b hb V,e=.returned (.tuple #[.pointer (some ⟨b,0,none⟩),.pointer (some ⟨hb,0,none⟩)])∧Bw w V∧WAt b (wld l) V∧Bw V w'∧V.heap.size≤hb∧HpAt w' (fun k=>k=hb) hb b (.slice none 0 0) []):=fun w hb=>Zg2 u1 l w (Zho h1 (hb.mono (Nat.le_refl _)))
 have HR:Hid (∀ w,Bw W w→Calls Tryz.prog 7 #[u1] w fun e w'=>(∃ b,e=.returned (.pointer (some ⟨b,0,none⟩))∧RAt b (wldC l) w')∧Bw w w'):=fun w hb=>of_c u1 l w (Zho h1 hb)
 have HCW:Hid (∀ c∈l,ClsW c):=Zk0 h1
 obtain ⟨M,hM⟩:∃ M,ts.length=M:=⟨_,rfl⟩
 have HM:Hid (ts.length=M):=hM
 rw [hM]
 rw [hM] at hul
 unfold maxLen at hul
 clear huc hut huz hM h1
 go_enter Tryz.func3,Tryz.ntmps3
 go_wp2_with (first
  | (go_at_call 7;refine (HR.out _ (Za (Za B0.out B1.out) B2.out)).mono ?_;rintro e X ⟨⟨xb,rfl,hx⟩,hB⟩;have RX:Hid (RAt xb (wldC l) X):=hx;have B3:Hid (Bw w1 X):=hB;clear hx hB)
  | (go_at_call 6;refine (HO.out _ B0.out).mono ?_;rintro e w1 ⟨b,hb,V,rfl,hb1,hw1,hb2,hz1,hp1⟩;have B1:Hid (Bw w0 V):=hb1;have B2:Hid (Bw V w1):=hb2;have W1:Hid (WAt b (wld l) V):=hw1;have P1:Hid (HpAt w1 (fun k=>k=hb) hb b (.slice none 0 0) []):=hp1;have Z1:Hid (V.heap.size≤hb):=hz1;clear hb1 hw1 hb2 hp1 hz1)
  | (go_at_call 5;refine (HA.out _).mono ?_;rintro e w0 ⟨rfl,hB⟩;have B0:Hid (Bw W w0):=hB;clear hB))
 have EV:Hid (Env W X hb b xb (wld l) (wldC l)):=env_new HCW.out (Za B0.out B1.out) W1.out B2.out Z1.out P1.out B3.out RX.out
 have T1:Hid (Pr X hb b X.heap.size xb (X.alloc (.cells #[.pointer (some ⟨xb,0,none⟩),.slice none 0 0,.slice none 0 0] 35))):=pr_new P1.out B3.out
 clear HA HO HR B0 B1 B2 B3 W1 P1 Z1 RX HCW
 obtain ⟨rb,hrb⟩:∃ rb,X.heap.size=rb:=⟨_,rfl⟩
 rw [hrb] at T1 ⊢
 have HC:Hid (∀ w kd a c r n d nm lv ls,Pr X hb b rb xb w→nm.size≤maxLen→Zbn W lv ls→Calls Tryz.prog 8 #[.agg #[.int .i64 kd,.int .i64 a,.int .i64 c,.bool r,.int .i64 n,.int .i64 d,.string nm,lv],.pointer (some ⟨hb,0,none⟩),.pointer (some ⟨rb,0,none⟩)] w fun e w'=>e=.returned (.bool true)∧Pr X hb b rb xb w'):=fun w kd a c r n d nm lv ls hp hz hN=>ag_c EV.out hp kd a c r n d nm lv hz ls hN
 have HKP:Hid (∀ w,Pr X hb b rb xb w→Bw W w):=fun w hp=>(EV.out.kp w hp.kx).2.2
 have HL:Hid (∀ w (r:Int),Pr X hb b rb xb w→Calls Tryz.prog 9 #[.pointer (some ⟨rb,0,none⟩),.int .i64 r] w fun e w'=>∃ (n:Nat) (x:Int),e=.returned (.tuple #[.int .i64 (n:Int),.int .i64 x])∧Pr X hb b rb xb w'):=fun w r hp=>hp.len r
 clear EV hrb
 go_loopw [8] (fun iv wr=>∃ i:Nat,iv=.int .i64 (i:Int)∧i≤M∧Hid (Pr X hb b rb xb wr)) (fun iv _=>M - (intOf iv).toNat)
 case atStart=>exact ⟨0,rfl,Nat.zero_le _,T1⟩
 case round =>
  obtain ⟨i,rfl,hi,T2⟩:=hrel
  clear T1
  by_cases hlt:i<M
  ·obtain ⟨t,ht⟩:∃ t,ts[i]?=some t:=⟨_,List.getElem?_eq_getElem (by rw [HM.out];exact hlt)⟩
   obtain ⟨q1,q2,q3⟩:=HUC.out i t ht
   obtain ⟨bb,o,hau,d0,d1,d2,d3,d4,d5,d6,d7⟩:=q3 wr (HKP.out _ T2.out)
   subst hau
   have hiI:(i:Int)<(M:Int):=by omega
   obtain ⟨kd,ta,tb,tv,td,tn,tl,tls⟩:=t
   obtain ⟨tv1,tv2⟩:=tv
   simp only at d0 d1 d2 d3 d4 d5 d6 d7 q1 q2
   have HD:Hid (Calls Tryz.prog 8 #[.agg #[.int .i64 kd,.int .i64 ta,.int .i64 tb,.bool tv1,.int .i64 tv2,.int .i64 td,.string tn,tl],.pointer (some ⟨hb,0,none⟩),.pointer (some ⟨rb,0,none⟩)] wr fun e w'=>e=.returned (.bool true)∧Pr X hb b rb xb w'):=HC.out _ _ _ _ _ _ _ _ _ _ T2.out q1 q2
   clear HUC HC HL T2 ht q1 q2 q3
   go_wp2_with (go_at_call 8;refine HD.out.mono ?_;rintro e w3 ⟨rfl,t3⟩;have T3:Hid (Pr X hb b rb xb w3):=t3;clear t3)
   go_roundw
   case rel=>exact ⟨i+1,by go_num,by omega,T3⟩
   case measure=>simp [intOf];omega
  ·obtain rfl:i=M:=by omega
   have hiI:¬ (i:Int)<(i:Int):=by omega
   clear HUC
   go_wp2
   go_loopw [9] (fun rv wr=>∃ q:Nat,rv=.int .i64 (q:Int)∧q≤1001∧Hid (Pr X hb b rb xb wr)) (fun rv _=>1002 - (intOf rv).toNat)
   case atStart=>exact ⟨0,rfl,Nat.zero_le _,T2⟩
   case round =>
    obtain ⟨q,rfl,hq,T3⟩:=hrel
    clear T2
    obtain ⟨wo,hwo⟩:∃ x,x=wr:=⟨_,rfl⟩
    subst hwo
    obtain ⟨ya,yL,yc,y1,y2⟩:=T3.out.y
    by_cases hlt:q≤yL
    ·have hqI:(q:Int)≤(yL:Int):=by omega
     have HD:Hid (Calls Tryz.prog 8 #[.agg #[.int .i64 4,.int .i64 (q:Int),.int .i64 0,.bool false,.int .i64 0,.int .i64 0,.string ⟨#[]⟩,.slice none 0 0],.pointer (some ⟨hb,0,none⟩),.pointer (some ⟨rb,0,none⟩)] wo fun e w'=>e=.returned (.bool true)∧Pr X hb b rb xb w'):=HC.out _ _ _ _ _ _ _ _ _ _ T3.out (Nat.zero_le _) (Zeg W)
     clear T3
     go_wp2_with (first
      | (go_at_call 9;refine (HL.out _ _ T4.out).mono ?_;rintro e w5 ⟨n5,x5,rfl,t5⟩;have T5:Hid (Pr X hb b rb xb w5):=t5;clear t5)
      | (go_at_call 8;refine HD.out.mono ?_;rintro e w4 ⟨rfl,t4⟩;have T4:Hid (Pr X hb b rb xb w4):=t4;clear t4))
     go_loopw [12] (fun jv wr=>∃ j:Nat,jv=.int .i64 (j:Int)∧j≤5∧Hid (Pr X hb b rb xb wr)) (fun jv _=>6 - (intOf jv).toNat)
     case atStart=>exact ⟨0,rfl,Nat.zero_le _,T5⟩
     case round =>
      obtain ⟨j,rfl,hj,T6⟩:=hrel
      clear T5
      by_cases hjn:j<n5
      ·have hjI:(j:Int)<(n5:Int):=by omega
       by_cases hj5:j<5
       ·have hj5I:(j:Int)<5:=by omega
        have HE:Hid (Calls Tryz.prog 8 #[.agg #[.int .i64 5,.int .i64 (q:Int),.int .i64 (j:Int),.bool false,.int .i64 0,.int .i64 0,.string ⟨#[]⟩,.slice none 0 0],.pointer (some ⟨hb,0,none⟩),.pointer (some ⟨rb,0,none⟩)] wr fun e w'=>e=.returned (.bool true)∧Pr X hb b rb xb w'):=HC.out _ _ _ _ _ _ _ _ _ _ T6.out (Nat.zero_le _) (Zeg W)
        clear T6 HD HL HC
        go_wp2_with (go_at_call 8;refine HE.out.mono ?_;rintro e w7 ⟨rfl,t7⟩;have T7:Hid (Pr X hb b rb xb w7):=t7;clear t7)
        go_roundw
        case rel=>exact ⟨j+1,by go_num,by omega,T7⟩
        case measure=>simp [intOf];omega
       ·have hj5I:¬ (j:Int)<5:=by omega
        clear HD HL HC
        go_wp2
        go_roundw
        case rel=>exact ⟨q+1,by go_num,by omega,T6⟩
        case measure=>simp [intOf];omega
      ·have hjI:¬ (j:Int)<(n5:Int):=by omega
       clear HD HL HC
       go_wp2
       go_roundw
       case rel=>exact ⟨q+1,by go_num,by omega,T6⟩
       case measure=>simp [intOf];omega
    ·have hqI:¬ (q:Int)≤(yL:Int):=by omega
     clear HL HC
     go_wp2
     go_ret
     exact ⟨rfl,HKP.out _ T3.out⟩
end Go.Proofs.YtlnojhhddinjkaaGreat
