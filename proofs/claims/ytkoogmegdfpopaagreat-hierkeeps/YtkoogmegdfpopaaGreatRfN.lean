import Derived.Test.YtkoogmegdfpopaaGreatHkC
import Derived.Test.YtkoogmegdfpopaaGreatZkB
set_option maxHeartbeats 4000000
set_option maxRecDepth 100000
namespace Go.Proofs.YtkoogmegdfpopaaGreat
open Go.RowKit Go.Maps
theorem Ya {w w':World} {N e s:Nat} {v:Value} {n:Nat} {xs:List Value} (h:w.ownsRow N e s v n xs) (hk:∀ k,N≤k→k<w.heap.size→w'.heap[k]?=w.heap[k]?):w'.ownsRow N e s v n xs:=by
 refine ⟨h.1,?_⟩
 rcases h.2 with h|⟨g,cap,cur,e,hb,hg,hr⟩
 ·exact .inl h
 ·exact .inr ⟨g,cap,cur,e,hb,(hk g hb (Array.getElem?_eq_some_iff.1 hg).1).trans hg,hr⟩
theorem Zeq {w:World} {N e s g c k n:Nat} {zs xs:List Value} (h:w.ownsRow N e s (.slice (some ⟨g,0,none⟩) k c) k zs) (hn:n≤k) (hl:xs.length=n * s) (hx:∀ (j:Nat) (u:Value),xs[j]?=some u→zs[j]?=some u):Rds w (.slice (some ⟨g,0,none⟩) n c) n s xs:=by
 refine ⟨hl,?_⟩
 rcases h.2 with ⟨e,_⟩|⟨g',cap,cur,e,hb,hg,h1,h2,_⟩
 ·cases e
 ·injection e with e1 e2 e3
  injection e1 with e1
  injection e1 with e1 _ _
  subst e1 e3
  refine .inr ⟨g,0,c,rfl,Nat.le_trans hn h1,h2,(Array.getElem?_eq_some_iff.1 hg).1,fun j u hj=>?_⟩
  have hjl:=(List.getElem?_eq_some_iff.1 hj).1
  rw [Nat.zero_add]
  exact (h.cellAt j (Nat.lt_of_lt_of_le (by omega) (Nat.mul_le_mul_right s hn))).trans (hx j u hj)
theorem mths_rdz {w:World} {vm:Value} {qm:List (HM×Value)} {l:List Mth} (hr:Rds w vm qm.length 6 (Zm qm)) (hc:∀ p∈qm,Rds w p.2 p.1.n 7 p.1.xs) (hq:qm.map Prod.fst=l.map hmOf):IsMths w vm l:=by
 have hlen:qm.length=l.length:=by have:=congrArg List.length hq;simpa using this
 rcases hr.val with ⟨e1,e⟩|⟨bk,o,cap,e1,h1,h2,h3,h4⟩
 ·obtain rfl:l=[]:=List.length_eq_zero_iff.1 (by omega)
  exact ⟨none,0,e1,Nat.le_refl _,by unfold maxLen;omega,fun h=>absurd rfl h⟩
 ·refine ⟨_,cap,by rw [e1,hlen],by omega,h2,fun _=>⟨bk,o,rfl,h3,fun k m hk=>?_⟩⟩
  obtain ⟨⟨x,vc⟩,hx,hxm⟩:∃ p,qm[k]?=some p∧p.1=hmOf m:=by
   have hk2:(qm.map Prod.fst)[k]?=some (hmOf m):=by rw [hq,List.getElem?_map,hk];rfl
   rw [List.getElem?_map] at hk2
   cases e:qm[k]? with
   | none=>rw [e] at hk2;cases hk2
   | some p=>rw [e] at hk2;exact ⟨p,rfl,Option.some.inj hk2⟩
  simp only at hxm
  subst hxm
  have f:=fun j u (hj:j<6) (hu:(hmC (hmOf m,vc))[j]?=some u)=>h4 (k * 6+j) u ((Zp qm k _ hx j hj).trans hu)
  have f0:=f 0 _ (by omega) rfl
  have f1:=f 1 _ (by omega) rfl
  have f2:=f 2 _ (by omega) rfl
  have f3:=f 3 _ (by omega) rfl
  have f4:=f 4 _ (by omega) rfl
  have f5:=f 5 _ (by omega) rfl
  simp only [← Nat.add_assoc,Nat.add_zero] at f0 f1 f2 f3 f4 f5
  exact ⟨f0,f1,f2,f3,f4,vc,f5,Zfg (hc _ (List.mem_of_getElem? hx))⟩
structure RoomK (w:World) (N rb:Nat) (c:Cls) (vi' vm':Value) (gi ci gm cm:Nat) (us:List RU) (vC:Value) (qm:List (HM×Value)):Prop where
 lo:N≤rb
 rm:w.heap[rb]?=some (.cells #[.string c.nm,.string c.su,.slice (some ⟨gi,0,none⟩) c.ifs.length ci,.int .i64 c.fl,.int .i64 c.ld,.slice (some ⟨gm,0,none⟩) c.ms.length cm,.slice (some ⟨gi,0,none⟩) (c.ifs.length+2) ci,.slice (some ⟨gm,0,none⟩) (us.length+2) cm,vC,.string c.nm,.string c.su,vi',.int .i64 c.fl,.int .i64 c.ld,vm'] 39 (0,0))
 ifs:w.ownsRow N 9 1 (.slice (some ⟨gi,0,none⟩) (c.ifs.length+2) ci) (c.ifs.length+2) (Z0 c.ifs++mkS)
 ms:w.ownsRow N 48 6 (.slice (some ⟨gm,0,none⟩) (us.length+2) cm) (us.length+2) (Zm (us.map RU.mv++mkM))
 cs:w.ownsRow N 46 1 vC us.length (us.map RU.cv)
 co:∀ u∈us,w.ownsRow N 56 7 u.cv (u.h.n+2) (u.h.xs++mkI)
 was:OwnC w N vi' c.ifs.length (Z0 c.ifs) vm' qm
 hu:us.map RU.h=c.ms.map hmOf
 hq:qm.map Prod.fst=c.ms.map hmOf
section
variable {w w':World} {N rb:Nat} {c:Cls} {vi' vm':Value} {gi ci gm cm:Nat} {us:List RU} {vC:Value} {qm:List (HM×Value)}
theorem RoomK.keep (h:RoomK w N rb c vi' vm' gi ci gm cm us vC qm) (hk:∀ k,N≤k→k<w.heap.size→w'.heap[k]?=w.heap[k]?):RoomK w' N rb c vi' vm' gi ci gm cm us vC qm :=
 ⟨h.lo,(hk rb h.lo (Array.getElem?_eq_some_iff.1 h.rm).1).trans h.rm,Ya h.ifs hk,Ya h.ms hk,Ya h.cs hk,fun u hu=>Ya (h.co u hu) hk,⟨Ya h.was.ifs hk,Ya h.was.ms hk,fun p hp=>Ya (h.was.cod p hp) hk⟩,h.hu,h.hq⟩
theorem RoomK.len (h:RoomK w N rb c vi' vm' gi ci gm cm us vC qm):us.length=c.ms.length:=by have:=congrArg List.length h.hu;simpa using this
theorem RU.mv_fst (us:List RU):(us.map RU.mv).map Prod.fst=us.map RU.h:=by rw [List.map_map];rfl
theorem RoomK.msr (h:RoomK w N rb c vi' vm' gi ci gm cm us vC qm):Rds w (.slice (some ⟨gm,0,none⟩) c.ms.length cm) (us.map RU.mv).length 6 (Zm (us.map RU.mv)):=by
 rw [List.length_map,h.len]
 have hm:=h.ms
 rw [h.len] at hm
 refine Zeq hm (by omega) (by rw [Y2,List.length_map,h.len]) (fun j u hj=>?_)
 rw [Zat,List.getElem?_append_left (List.getElem?_eq_some_iff.1 hj).1]
 exact hj
theorem RoomK.cor (h:RoomK w N rb c vi' vm' gi ci gm cm us vC qm):∀ p∈us.map RU.mv,Rds w p.2 p.1.n 7 p.1.xs:=by
 intro p hp
 obtain ⟨u,hu,rfl⟩:=List.mem_map.1 hp
 have hm:u.h∈c.ms.map hmOf:=by rw [← h.hu];exact List.mem_map_of_mem hu
 obtain ⟨m,_,e⟩:=List.mem_map.1 hm
 refine Zeq (h.co u hu) (by omega) ?_ (fun j x hj=>?_)
 ·rw [RU.mv,← e,hmOf,Yk]
 ·replace hj:u.h.xs[j]?=some x:=hj
  rw [List.getElem?_append_left (List.getElem?_eq_some_iff.1 hj).1]
  exact hj
theorem RoomK.ifr (h:RoomK w N rb c vi' vm' gi ci gm cm us vC qm):Rds w (.slice (some ⟨gi,0,none⟩) c.ifs.length ci) c.ifs.length 1 (Z0 c.ifs):=by
 refine Zeq h.ifs (by omega) (by simp [Z0]) (fun j u hj=>?_)
 rw [List.getElem?_append_left (List.getElem?_eq_some_iff.1 hj).1]
 exact hj
theorem RoomK.clsIn (h:RoomK w N rb c vi' vm' gi ci gm cm us vC qm) (hw:ClsW c):ClsIn w (.slice (some ⟨gi,0,none⟩) c.ifs.length ci) (.slice (some ⟨gm,0,none⟩) c.ms.length cm) c:=by
 refine ⟨Yz h.ifr,mths_rdz h.msr h.cor (by rw [RU.mv_fst];exact h.hu),.inr ⟨_,_,_,rfl⟩,.inr ⟨_,_,_,rfl⟩,fun bk o n cap e k hk v hv=>?_,hw⟩
 injection e with e1
 injection e1 with e1
 injection e1 with e1 e2 _
 subst e1 e2
 obtain ⟨u,hu⟩:∃ u,us[k]?=some u:=⟨_,List.getElem?_eq_getElem (by rw [h.len];exact hk)⟩
 have h1:(us.map RU.mv++mkM)[k]?=some u.mv:=by rw [List.getElem?_append_left (by rw [List.length_map,h.len];exact hk),List.getElem?_map,hu];rfl
 have h2:=(h.ms.cellAt (k * 6+5) (by rw [h.len];omega)).trans (Zp _ k _ h1 5 (by omega))
 rw [Nat.zero_add,h2] at hv
 cases hv
 exact .inr ⟨_,_,_,rfl⟩
theorem RoomK.kpz (h:RoomK w N rb c vi' vm' gi ci gm cm us vC qm) (bi:c.ifs.length≤8796093022208) (bm:c.ms.length≤8796093022208) (bc:∀ m∈c.ms,m.code.length≤8796093022208) (hw:ClsW c):∃ aC cC,KpZ w rb c (.slice (some ⟨gi,0,none⟩) c.ifs.length ci) (.slice (some ⟨gm,0,none⟩) c.ms.length cm) vi' vm' gi ci gm cm cC aC:=by
 obtain ⟨aC,cC,rfl⟩:=ownv h.cs
 have hl:=h.len
 have hin:=h.clsIn hw
 have hm:=h.ms
 have hr:=h.rm
 rw [hl] at hm hr
 refine ⟨aC,cC,hr,hin.ifs,hin.ms,Yz (Zw h.was.ifs),Xf h.was h.hq,?_,?_,?_,?_,bi,bm,bc,?_⟩
 ·exact (h.ifs.cellAt c.ifs.length (by omega)).trans (by simp [Z0,mkS])
 ·exact (h.ifs.cellAt (c.ifs.length+1) (by omega)).trans (by simp [Z0,mkS])
 ·have h1:(us.map RU.mv++mkM)[c.ms.length]?=mkM[0]?:=by rw [List.getElem?_append_right (by simp [hl])];simp [hl]
  have:=(hm.cellAt (c.ms.length * 6+0) (by omega)).trans (Zp _ c.ms.length _ (h1.trans rfl) 0 (by omega))
  exact this
 ·have h1:(us.map RU.mv++mkM)[c.ms.length+1]?=mkM[1]?:=by rw [List.getElem?_append_right (by simp [hl])];simp [hl]
  have:=(hm.cellAt ((c.ms.length+1) * 6+0) (by omega)).trans (Zp _ (c.ms.length+1) _ (h1.trans rfl) 0 (by omega))
  exact this
 ·intro i m hi
  have hil:=(List.getElem?_eq_some_iff.1 hi).1
  obtain ⟨u,hu⟩:∃ u,us[i]?=some u:=⟨_,List.getElem?_eq_getElem (by rw [hl];exact hil)⟩
  have hum:u.h=hmOf m:=by
   have:=congrArg (·[i]?) h.hu
   simp only [List.getElem?_map,hu,hi,Option.map_some,Option.some.injEq] at this
   exact this
  obtain ⟨bC,cp,e1⟩:=Go.Joins.ownsRow_form h.cs (by omega)
  have hcs:=h.cs
  rw [e1] at hcs
  have hco:=h.co u (List.mem_of_getElem? hu)
  have hn:u.h.n=m.code.length:=by rw [hum];rfl
  have hx:u.h.xs.length=m.code.length * 7:=by rw [hum,hmOf,Yk]
  injection e1 with e1 _ _
  refine ⟨bC,u.g,u.c,e1,(hcs.cellAt i (by omega)).trans (by rw [List.getElem?_map,hu];simp [RU.cv,hn]),?_,?_⟩
  ·refine (hco.cellAt (m.code.length * 7) (by omega)).trans ?_
   rw [List.getElem?_append_right (by omega),hx,Nat.sub_self];rfl
  ·refine (hco.cellAt ((m.code.length+1) * 7) (by omega)).trans ?_
   rw [List.getElem?_append_right (by omega),hx,show (m.code.length+1) * 7 - m.code.length * 7=7 by omega];rfl
theorem RoomK.rmz {w0:World} (h:RoomK w N rb c vi' vm' gi ci gm cm us vC qm) (h0:RoomK w0 N rb c vi' vm' gi ci gm cm us vC qm):RmZ w (fun g=>N≤g∧g<w0.heap.size) rb (.slice (some ⟨gi,0,none⟩) (c.ifs.length+2) ci) (c.ifs.length+2) (.slice (some ⟨gm,0,none⟩) (us.length+2) cm) (us.length+2) vC (us.map fun u=>(u.cv,u.h.n+2)):=by
 refine ⟨⟨_,_,_,_,_,_,_,_,_,_,_,_,h.rm⟩,.of h.ifs (fun g hg=>h0.ifs.lt g hg),.of h.ms (fun g hg=>h0.ms.lt g hg),?_,?_⟩
 ·rw [List.length_map,List.map_map]
  exact Go.Joins.ownsRow_le h.cs (Nat.zero_le _)
 ·intro u hu
  obtain ⟨x,hx,rfl⟩:=List.mem_map.1 hu
  exact .of (h.co x hx) (fun g hg=>(h0.co x hx).lt g hg)
theorem RoomK.keptK {K:Obj→Prop} (h:RoomK w N rb c vi' vm' gi ci gm cm us vC qm) (hk:Jc K w w') (he:∀ cs t,t=9∨t=48∨t=56∨t=46∨t=39→K (.cells cs t (0,0))):RoomK w' N rb c vi' vm' gi ci gm cm us vC qm :=
 ⟨h.lo,hk _ _ h.rm (he _ _ (by decide)),Z9 h.ifs hk fun cs=>he cs _ (by decide),Z9 h.ms hk fun cs=>he cs _ (by decide),Z9 h.cs hk fun cs=>he cs _ (by decide),fun u hu=>Z9 (h.co u hu) hk fun cs=>he cs _ (by decide),h.was.keptK hk fun cs t ht=>he cs t (by rcases ht with e|e|e <;> simp [e]),h.hu,h.hq⟩
end
def K0 (o:Obj):Prop:=∃ cs t,o=.cells cs t (0,0)∧(t=9∨t=48∨t=56∨t=3)
theorem PlcAt.keptK {w w':World} {K:Obj→Prop} {N:Nat} {p:PV} {q:Plc} (h:PlcAt w N p q) (hk:Jc K w w') (he:∀ cs t,t=9∨t=48∨t=56∨t=3→K (.cells cs t (0,0))):PlcAt w' N p q:=by
 obtain ⟨qm,h3,h4⟩:=h.own
 exact ⟨h.nm,h.su,h.fl,h.ld,h.sp,⟨qm,h3,h4.keptK hk fun cs t ht=>he cs t (by rcases ht with e|e|e <;> simp [e])⟩,Z9 h.clo hk fun cs=>he cs _ (by decide)⟩
theorem CrO.keptK {w w':World} {K:Obj→Prop} {N:Nat} {r:CR} (h:CrO w N r) (hk:Jc K w w') (he:∀ cs t,t=9∨t=48∨t=56∨t=3→K (.cells cs t (0,0))):CrO w' N r:=by
 obtain ⟨qm,h3,h4⟩:=h
 exact ⟨qm,h3,h4.keptK hk fun cs t ht=>he cs t (by rcases ht with e|e|e <;> simp [e])⟩
theorem PlcAt.blk {w w':World} {N:Nat} {p:PV} {q:Plc} (h:PlcAt w N p q) (hk:∀ k,N≤k→k<w.heap.size→w'.heap[k]?=w.heap[k]?):PlcAt w' N p q:=by
 obtain ⟨qm,h3,h4⟩:=h.own
 exact ⟨h.nm,h.su,h.fl,h.ld,h.sp,⟨qm,h3,⟨Ya h4.ifs hk,Ya h4.ms hk,fun x hx=>Ya (h4.cod x hx) hk⟩⟩,Ya h.clo hk⟩
theorem CrO.blk {w w':World} {N:Nat} {r:CR} (h:CrO w N r) (hk:∀ k,N≤k→k<w.heap.size→w'.heap[k]?=w.heap[k]?):CrO w' N r:=by
 obtain ⟨qm,h3,h4⟩:=h
 exact ⟨qm,h3,⟨Ya h4.ifs hk,Ya h4.ms hk,fun x hx=>Ya (h4.cod x hx) hk⟩⟩
theorem CrO.le {w:World} {n n0:Nat} {r:CR} (h:CrO w n r) (hn:n0≤n):CrO w n0 r:=by
 obtain ⟨qm,h3,h2⟩:=h
 exact ⟨qm,h3,⟨Go.Joins.ownsRow_le h2.ifs hn,Go.Joins.ownsRow_le h2.ms hn,fun x hx=>Go.Joins.ownsRow_le (h2.cod x hx) hn⟩⟩
theorem row_kt {S:Nat→Prop} {w w':World} {N e s:Nat} {v:Value} {n:Nat} {xs:List Value} (h:w.ownsRow N e s v n xs) (hs:StZ S w w') (h1:e≠9) (h2:e≠48) (h3:e≠56):w'.ownsRow N e s v n xs:=by
 refine ⟨h.1,?_⟩
 rcases h.2 with hn|⟨g,cap,cur,rfl,hb,hgg,rest⟩
 ·exact .inl hn
 ·exact .inr ⟨g,cap,cur,rfl,hb,hs.kt g _ _ hgg h1 h2 h3,rest⟩
structure Mid (W w0 w1 w:World) (b mb b':Nat) (ps:List Plc) (cs:List Cls):Prop where
 lw:W.heap.size≤w0.heap.size
 n0:w0.heap.size≤w1.heap.size
 hw:∃ vp pv,HW w W.heap.size b mb ps vp pv∧mb<w0.heap.size∧∀ (k:Nat) (p:PV) (q:Plc),pv[k]?=some p→ps[k]?=some q→PlcAt w0 W.heap.size p q∨PlcAt w w1.heap.size p q
 rw:∃ M v rs,W.heap.size≤M∧M≤w0.heap.size∧RW w M b' v rs∧rs.map CR.c=cs∧∀ r∈rs,CrO w0 M r∨CrO w w1.heap.size r
 old:∀ (j:Nat) (o:Obj),w0.heap[j]?=some o→K0 o→w.heap[j]?=some o
 sz:w1.heap.size≤w.heap.size
 bel:Bw W w
section
variable {W w0 w1 w w':World} {b mb b':Nat} {ps:List Plc} {cs:List Cls}
theorem Mid.start (h:TwoW W b mb b' ps cs w0) (hb:Bw w0 w1):Mid W w0 w1 w1 b mb b' ps cs:=by
 obtain ⟨⟨vp,pv,h1⟩,⟨M,v,rs,h2,h3,h4,h5⟩,h6⟩:=h
 refine ⟨h6.size,hb.size,⟨vp,pv,h1.below hb,?_,fun k p q e1 e2=>.inl (h1.pl k p q e1 e2)⟩,⟨M,v,rs,h2,h3,h4.below hb,h5,fun r hr=>.inl (h4.own r hr)⟩,fun j o hj _=>(hb.block j (Array.getElem?_eq_some_iff.1 hj).1).trans hj,Nat.le_refl _,Zj h6 hb⟩
 obtain ⟨es,cl,hm,_⟩:=h1.map
 exact (Array.getElem?_eq_some_iff.1 hm).1
theorem Mid.below (h:Mid W w0 w1 w b mb b' ps cs) (hb:Bw w w'):Mid W w0 w1 w' b mb b' ps cs:=by
 obtain ⟨l,n,⟨vp,pv,h1,h2,h3⟩,⟨M,v,rs,g1,g2,g3,g4,g5⟩,h4,h5,h6⟩:=h
 exact ⟨l,n,⟨vp,pv,h1.below hb,h2,fun k p q e1 e2=>(h3 k p q e1 e2).imp id (fun x=>x.below hb)⟩,⟨M,v,rs,g1,g2,g3.below hb,g4,fun r hr=>(g5 r hr).imp id (fun x=>x.below hb)⟩,fun j o hj hK=>(hb.block j (Array.getElem?_eq_some_iff.1 (h4 j o hj hK)).1).trans (h4 j o hj hK),Nat.le_trans h5 hb.size,Zj h6 hb⟩
theorem Mid.spoil (h:Mid W w0 w1 w b mb b' ps cs) (hs:StZ (fun g=>w0.heap.size≤g∧g<w1.heap.size) w w'):TwoW W b mb b' ps cs w':=by
 obtain ⟨l,n,⟨vp,pv,h1,h2,h3⟩,⟨M,v,rs,g1,g2,g3,g4,g5⟩,h4,h5,h6⟩:=h
 have hk:Jc K0 w0 w':=fun j o hj hK=>by
  have hj0:=(Array.getElem?_eq_some_iff.1 hj).1
  exact (hs.tz.blk j (by omega) (fun x=>by omega)).trans (h4 j o hj hK)
 have he:∀ (cs:Array Value) (t:TypeId),t=9∨t=48∨t=56∨t=3→K0 (.cells cs t (0,0)):=fun cs t ht=>⟨cs,t,rfl,ht⟩
 have hn:∀ k,w1.heap.size≤k→k<w.heap.size→w'.heap[k]?=w.heap[k]?:=fun k k1 k2=>hs.tz.blk k k2 (fun x=>by omega)
 refine ⟨⟨vp,pv,hs.kt _ _ _ h1.hb (by decide) (by decide) (by decide),row_kt h1.row hs (by decide) (by decide) (by decide),h1.len,fun k p q e1 e2=>?_,?_,h1.lb,h1.lm,h1.wf⟩,⟨M,v,rs,g1,by have:=hs.tz.size;omega,⟨hs.kt _ _ _ g3.hb (by decide) (by decide) (by decide),row_kt g3.row hs (by decide) (by decide) (by decide),fun r hr=>?_,g3.lb⟩,g4⟩,h6.trans (hs.tz.below (by omega) (fun k x=>by omega))⟩
 ·rcases h3 k p q e1 e2 with x|x
  ·exact x.keptK hk he
  ·exact (x.blk hn).le (by omega)
 ·obtain ⟨es,cl,hm,rest⟩:=h1.map
  exact ⟨es,cl,(hs.tz.blk mb (by omega) (fun x=>by omega)).trans hm,rest⟩
 ·rcases g5 r hr with x|x
  ·exact x.keptK hk he
  ·exact (x.blk hn).le (by omega)
end
theorem Zii {o:Obj} (h:K0 o):Zee o:=by
 obtain ⟨cs,t,rfl,ht⟩:=h
 refine ⟨fun xs e=>?_,fun xs e=>?_,fun es cl e=>by injection e⟩ <;> (injection e with _ e;rcases ht with h|h|h|h <;> (rw [h] at e;exact absurd e (by decide)))
theorem k0_ref {o:Obj} (h:K0 o):KRef o:=by
 obtain ⟨cs,t,rfl,ht⟩:=h
 refine ⟨fun xs e=>?_,fun xs e=>?_⟩ <;> (injection e with _ e;rcases ht with h|h|h|h <;> (rw [h] at e;exact absurd e (by decide)))
section
variable {W w0 w1 w:World} {b mb b':Nat} {ps:List Plc} {cs:List Cls}
theorem mid_hier (h:Mid W w0 w1 w1 b mb b' ps cs) (hW:WI ps) (c:Cls) (vi vm:Value) (hc:ClsIn w1 vi vm c):Calls Tryz.prog 8 #[.pointer (some ⟨b,0,none⟩),.agg #[.string c.nm,.string c.su,vi,.int .i64 c.fl,.int .i64 c.ld,vm]] w1 fun e w'=>e=.returned (dfV ps.length (defN ps c))∧Mid W w0 w1 w' b mb b' (dfP ps (defN ps c)) cs∧Jc Zee w1 w'∧Below W.heap.size w1 w':=by
 obtain ⟨l,n,⟨vp,pv,h1,h2,h3⟩,⟨M,v,rs,g1,g2,g3,g4,g5⟩,h4,h5,h6⟩:=h
 refine (Zg4 W.heap.size b mb ps vp pv c vi vm w1 h1 h6.size hc hW.nm).mono ?_
 rintro e w' ⟨rfl,⟨vp',pv',hw',hnew⟩,hb',hk⟩
 have hK:=Zih h1 hk
 have he:∀ (cs:Array Value) (t:TypeId),t=9∨t=48∨t=56∨t=3→Zee (.cells cs t (0,0)):=fun cs t ht=>Zii ⟨cs,t,rfl,ht⟩
 refine ⟨rfl,⟨l,n,⟨vp',pv',hw',h2,fun k p q e1 e2=>?_⟩,⟨M,v,rs,g1,g2,g3.keptK hK,g4,fun r hr=>(g5 r hr).imp id (fun x=>x.keptK hK he)⟩,fun j o hj h0=>hK _ _ (h4 j o hj h0) (Zii h0),hb'.size,h6.trans hb'⟩,hK,hb'⟩
 rcases hnew with ⟨rfl,rfl⟩|⟨qn,hd,pn,rfl,hp,_⟩
 ·have hl:(dfP ps (defN ps c)).length=ps.length:=by rw [← hw'.len,h1.len]
  have e3:ps[k]?=some q:=by
   cases hd:defN ps c with
   | ok q2=>rw [hd] at hl;simp [dfP] at hl
   | error x=>rw [hd] at e2;exact e2
  exact (h3 k p q e1 e3).imp id (fun x=>x.keptK hK he)
 ·rw [hd] at e2
  have e2:(ps++[qn])[k]?=some q:=e2
  by_cases hlt:k<pv.length
  ·rw [List.getElem?_append_left hlt] at e1
   rw [List.getElem?_append_left (by rw [← h1.len];exact hlt)] at e2
   exact (h3 k p q e1 e2).imp id (fun x=>x.keptK hK he)
  ·have hkl:=(List.getElem?_eq_some_iff.1 e1).1
   rw [List.length_append,List.length_singleton] at hkl
   have ek:k=pv.length:=by omega
   subst ek
   rw [List.getElem?_append_right (Nat.le_refl _),Nat.sub_self] at e1
   rw [h1.len,List.getElem?_append_right (Nat.le_refl _),Nat.sub_self] at e2
   cases e1
   cases e2
   exact .inr hp
theorem mid_ref (h:Mid W w0 w1 w b mb b' ps cs) {qs:List Plc} (ht:Twin cs qs) (hW:WI qs) (c:Cls) (vi vm:Value) (hc:ClsIn w vi vm c):Calls Tryz.prog 9 #[.pointer (some ⟨b',0,none⟩),.agg #[.string c.nm,.string c.su,vi,.int .i64 c.fl,.int .i64 c.ld,vm]] w fun e w'=>e=.returned (rdfV cs (rdfN cs c))∧Mid W w0 w1 w' b mb b' ps (rdfC cs c (rdfN cs c))∧Jc KRef w w'∧Below W.heap.size w w':=by
 obtain ⟨l,n,⟨vp,pv,h1,h2,h3⟩,⟨M,v,rs,g1,g2,g3,g4,g5⟩,h4,h5,h6⟩:=h
 have hln:rs.length≤300:=by
  have e1:rs.length=cs.length:=by rw [← g4,List.length_map]
  rw [e1,ht.len];exact hW.hi
 refine (Zem M b' v rs c vi vm w g3 (by omega) hc (fun q hq=>ht.sz hW q.c (by rw [← g4];exact List.mem_map_of_mem hq)) hln).mono ?_
 rintro e w' ⟨rfl,⟨v2,rs2,hw2,hrs2,hnew⟩,hb',hf⟩
 rw [g4] at hrs2 ⊢
 have hK:=kept_ref g3 hf
 have he:∀ (cs:Array Value) (t:TypeId),t=9∨t=48∨t=56∨t=3→KRef (.cells cs t (0,0)):=fun cs t ht=>k0_ref ⟨cs,t,rfl,ht⟩
 refine ⟨rfl,⟨l,n,⟨vp,pv,h1.keptK hK,h2,fun k p q e1 e2=>(h3 k p q e1 e2).imp id (fun x=>x.keptK hK he)⟩,⟨M,v2,rs2,g1,g2,hw2,hrs2,fun r hr=>?_⟩,fun j o hj h0=>hK _ _ (h4 j o hj h0) (k0_ref h0),Nat.le_trans h5 hb'.size,h6.trans (hb'.mono g1)⟩,hK,hb'.mono g1⟩
 rcases hnew with ⟨rfl,rfl⟩|⟨rn,rfl,hr2,_⟩
 ·exact (g5 r hr).imp id (fun x=>x.keptK hK he)
 ·rcases List.mem_append.1 hr with hr|hr
  ·exact (g5 r hr).imp id (fun x=>x.keptK hK he)
  ·obtain rfl:r=rn:=by simpa using hr
   exact .inr (hr2.le h5)
end
def ClsY (c:Cls):Prop:=c.ifs.length≤8796093021952∧c.ms.length≤1759218604390∧∀ m∈c.ms,m.code.length≤1599289640354
theorem Zgd (c:Cls) (vi vm:Value) (W:World) (hc:ClsIn W vi vm c) (hz:ClsY c):Calls Tryz.prog 7 #[.agg #[.string c.nm,.string c.su,vi,.int .i64 c.fl,.int .i64 c.ld,vm]] W fun e w'=>(∃ rb vi' vm' gi ci gm cm us vC qm,e=.returned (.pointer (some ⟨rb,0,none⟩))∧RoomK w' W.heap.size rb c vi' vm' gi ci gm cm us vC qm)∧Bw W w':=by
 obtain ⟨r1,pm,r2,r3,r4⟩:=hc.rdw
 have hlen:pm.length=c.ms.length:=by
  have:=congrArg List.length r2
  simpa [hcOf] using this
 refine (roomy_c c.nm c.su c.fl c.ld vi vm c.ifs.length (Z0 c.ifs) pm W r1 (J5 _) hz.1 r3 (by rw [hlen];exact hz.2.1) (fun p hp=>⟨r4 p hp,?_⟩)).mono ?_
 ·have hp1:p.1∈(hcOf c).ms:=by rw [← r2];exact List.mem_map_of_mem hp
  obtain ⟨m,hm,e⟩:=List.mem_map.1 hp1
  rw [← e]
  exact ⟨Q0 _,hz.2.2 m hm⟩
 ·rintro e w' ⟨rb,w1,gi,ci,gm,cm,us,vC,vi',vm',qm,rfl,hlt,hR,hu,ho,hq,hb⟩
  rw [hlen] at hR
  exact ⟨⟨rb,vi',vm',gi,ci,gm,cm,us,vC,qm,rfl,⟨Nat.le_of_lt hlt,hR.rm,Go.Joins.ownsRow_le hR.ifs (by omega),Go.Joins.ownsRow_le hR.ms (by omega),Go.Joins.ownsRow_le hR.cs (by omega),fun u hu=>Go.Joins.ownsRow_le (hR.co u hu) (by omega),ho,hu.trans r2,hq.trans r2⟩⟩,hb⟩
theorem RoomK.six {w:World} {N rb:Nat} {c:Cls} {vi' vm':Value} {gi ci gm cm:Nat} {us:List RU} {vC:Value} {qm:List (HM×Value)} (h:RoomK w N rb c vi' vm' gi ci gm cm us vC qm):w.cell? ⟨rb,0,none⟩=some (.string c.nm)∧w.cell? ⟨rb,1,none⟩=some (.string c.su)∧w.cell? ⟨rb,2,none⟩=some (.slice (some ⟨gi,0,none⟩) c.ifs.length ci)∧w.cell? ⟨rb,3,none⟩=some (.int .i64 c.fl)∧w.cell? ⟨rb,4,none⟩=some (.int .i64 c.ld)∧w.cell? ⟨rb,5,none⟩=some (.slice (some ⟨gm,0,none⟩) c.ms.length cm) :=
 ⟨(cell_of_row w rb 0 _ _ _ h.rm).trans rfl,(cell_of_row w rb 1 _ _ _ h.rm).trans rfl,(cell_of_row w rb 2 _ _ _ h.rm).trans rfl,(cell_of_row w rb 3 _ _ _ h.rm).trans rfl,(cell_of_row w rb 4 _ _ _ h.rm).trans rfl,(cell_of_row w rb 5 _ _ _ h.rm).trans rfl⟩
theorem he_hier (cs:Array Value) (t:TypeId) (ht:t=9∨t=48∨t=56∨t=46∨t=39):Zee (.cells cs t (0,0)):=by
 refine ⟨fun xs e=>?_,fun xs e=>?_,fun es cl e=>by injection e⟩ <;> (injection e with _ e;rcases ht with h|h|h|h|h <;> (rw [h] at e;exact absurd e (by decide)))
theorem he_ref (cs:Array Value) (t:TypeId) (ht:t=9∨t=48∨t=56∨t=46∨t=39):KRef (.cells cs t (0,0)):=by
 refine ⟨fun xs e=>?_,fun xs e=>?_⟩ <;> (injection e with _ e;rcases ht with h|h|h|h|h <;> (rw [h] at e;exact absurd e (by decide)))
theorem Jr (l:List Nat) (v1 v2:Value) (W:World) (h1:Rds W v1 l.length 1 (l.map numV)) (h2:Rds W v2 l.length 1 (l.map numV)) (hn:l.length≤1000000000):Calls Tryz.prog 22 #[v1,v2] W fun e w'=>e=.returned (.bool true)∧Bw W w':=by
 have HC:Hid (∀ (v:Value),Rds W v l.length 1 (l.map numV)→(∃ a c,v=.slice a l.length c∧∀ (i x:Nat),l[i]?=some x→∃ bk o,a=some ⟨bk,o,none⟩∧bk<W.heap.size∧W.cell? ⟨bk,o+i,none⟩=some (.int .i64 (x:Int)))):=by
  intro v h
  rcases h.val with ⟨e1,e⟩|⟨bk,o,cap,e1,_,_,h3,h4⟩
  ·refine ⟨none,0,by rw [e1,e],fun i x hx=>?_⟩
   rw [List.length_eq_zero_iff.1 e] at hx;simp at hx
  ·exact ⟨some ⟨bk,o,none⟩,cap,e1,fun i x hx=>⟨bk,o,rfl,h3,h4 i _ (by rw [List.getElem?_map,hx];rfl)⟩⟩
 obtain ⟨a1,c1,rfl,k1⟩:=HC.out v1 h1
 obtain ⟨a2,c2,rfl,k2⟩:=HC.out v2 h2
 obtain ⟨K,hK⟩:∃ K,l.length=K:=⟨_,rfl⟩
 have HK:Hid (l.length=K):=hK
 have K1:Hid _:=k1
 have K2:Hid _:=k2
 rw [hK] at hn ⊢
 clear h1 h2 hK HC k1 k2
 go_enter Tryz.func22,Tryz.ntmps22
 go_wp2
 go_loopw [5] (fun iv wr=>∃ i:Nat,iv=.int .i64 i∧i≤K∧Hid (Bw W wr)) (fun iv _=>K - (intOf iv).toNat)
 case atStart=>exact ⟨0,rfl,Nat.zero_le _,Below.refl _ _⟩
 case round =>
  obtain ⟨i,rfl,hi,hb⟩:=hrel
  by_cases hlt:i<K
  ·obtain ⟨x,hx⟩:∃ x,l[i]?=some x:=⟨_,List.getElem?_eq_getElem (by rw [HK.out];exact hlt)⟩
   obtain ⟨g1,o1,rfl,l1,q1⟩:=K1.out i x hx
   obtain ⟨g2,o2,rfl,l2,q2⟩:=K2.out i x hx
   have hiI:(i:Int)<(K:Int):=by omega
   obtain ⟨σ,V,hne,V1,V2⟩:=class_of' (fun w'=>Bw W w') ⟨_,Below.refl _ _⟩
   have kp:∀ (s:σ) (bb j:Nat) (v:Value),bb<W.heap.size→W.cell? ⟨bb,j,none⟩=some v→(V s).cell? ⟨bb,j,none⟩=some v:=fun s bb j v hl h=>((V1.out s).cell (p:=⟨bb,j,none⟩) hl).trans h
   replace q1:=fun s=>kp s _ _ _ l1 q1
   replace q2:=fun s=>kp s _ _ _ l2 q2
   clear hx K1 K2 kp
   go_wp2
   refine Zl (C:=fun w'=>∃ s,w'=V s) (by kernel_rfl) (by kernel_rfl) (V2.out _ (hb.out.drew)) ?_
   repeat (go_big_quiet_step (fail))
   refine wpQuiet_nil ?_
   intro w9 hw9
   obtain ⟨s9,rfl⟩:=hw9
   have B9:Hid (Bw W (V s9)):=V1.out s9
   go_wp2
   go_roundw
   case rel=>exact ⟨i+1,by go_num,by omega,B9⟩
   case measure=>simp [intOf];omega
  ·have hiI:¬ (i:Int)<(K:Int):=by omega
   go_wp2
   exact bodyPost_ret (results_tmp rfl _ _ _) rfl ⟨rfl,hb.out⟩
def chR (ps:List Plc) (x:Int):List Nat×Int:=match plcI ps x with
 | some _=>(chL (ps.map nd) x.toNat,0)
 | none=>([],3)
def clR (ps:List Plc) (x:Int):List Nat×Int:=match plcI ps x with
 | some q=>(q.cl,0)
 | none=>([],3)
def NumsA (r:List Nat×Int) (e:Ending) (w':World):Prop:=∃ a c,e=.returned (.tuple #[.slice a r.1.length c,.int .i64 r.2])∧Rds w' (.slice a r.1.length c) r.1.length 1 (r.1.map numV)
theorem NumsA.of {N:Nat} {l:List Nat} {E:Int} {v:Value} {w':World} (h:w'.ownsRow N 3 1 v l.length (l.map numV)):NumsA (l,E) (.returned (.tuple #[v,.int .i64 E])) w':=by
 obtain ⟨a,c,rfl⟩:=ownv h
 exact ⟨a,c,rfl,Zw h⟩
theorem NumsA.nil (E:Int) (w':World):NumsA ([],E) (.returned (.tuple #[.slice none 0 0,.int .i64 E])) w':=NumsA.of (N:=0) (World.ownsRow_nil w' 0 _ _)
theorem Zi5 {b:Nat} {ps:List Plc} {W:World} (h:WAt b ps W) (x:Int) (hx:plcI ps x=none):Calls Tryz.prog 17 #[.pointer (some ⟨b,0,none⟩),.int .i64 x] W fun e w'=>e=.returned (.tuple #[.slice none 0 0,.int .i64 3])∧Bw W w':=by
 have HH:Hid (∀ w,Bw W w→Calls Tryz.prog 36 #[.pointer (some ⟨b,0,none⟩),.int .i64 x] w fun e w'=>e=.returned (.bool false)∧w'=w):=fun w hb=>by
  have:=has_c (h.below hb) x
  rw [hx] at this
  exact this
 clear h hx
 go_enter Tryz.func17,Tryz.ntmps17
 go_wp2_with (go_at_call 36;refine (HH.out _ sqR).mono ?_;rintro e w9 ⟨rfl,hw9⟩;rw [hw9];clear hw9 w9)
 exact bodyPost_ret (v:=.tuple #[.slice none 0 0,.int .i64 3]) (by simp [results,Tryz.results17,go_sem, *]) rfl ⟨rfl,sqR⟩
def SpW (ps:List Plc):Prop:=∀ k q,0<k→ps[k]?=some q→Z4 ps q.c.su.data.toList=some q.sp
theorem spW (l:List Cls) (hl:∀ c∈l,ClsW c):SpW (wld l):=by
 have key:WI (wld l)∧SpW (wld l):=by
  refine Zbt (P:=fun ps=>WI ps∧SpW ps) ⟨wi3,fun k q h0 hk=>?_⟩ (fun ps c h hc=>⟨h.1.define c hc,?_⟩) l hl
  ·match k,hk with
   | 1,hk=>simp [P3] at hk;subst hk;decide
   | 2,hk=>simp [P3] at hk;subst hk;decide
   | (k+3),hk=>simp [P3] at hk
  ·cases hd:defN ps c with
   | error e=>exact h.2
   | ok p =>
     obtain ⟨_,_,hn,s,l,hs,_,rfl⟩:=Zd8 hd
     intro k q h0 hk
     have hk2:(ps++[(⟨hcOf c,s,Zz (ps.map Plc.cl) s l⟩:Plc)])[k]?=some q:=hk
     show Z4 (ps++[_]) q.c.su.data.toList=some q.sp
     by_cases hlt:k<ps.length
     ·rw [List.getElem?_append_left hlt] at hk2
      exact Xq (h.2 k q h0 hk2) hn
     ·rw [List.getElem?_append_right (by omega)] at hk2
      have he:k - ps.length=0:=by
       have:=(List.getElem?_eq_some_iff.1 hk2).1
       simp at this;omega
      rw [he] at hk2
      simp at hk2
      subst hk2
      refine Xq ?_ hn
      show Z4 ps c.su.data.toList=some s
      rw [Zv] at hs
      cases hl2:Z4 ps c.su.data.toList with
      | none=>rw [hl2] at hs;cases hs
      | some j =>
        rw [hl2] at hs
        simp only at hs
        cases hq:ps[j]? with
        | none=>rw [hq] at hs;cases hs
        | some q =>
          rw [hq] at hs
          simp only at hs
          split at hs
          ·split at hs
           ·cases hs;rfl
           ·cases hs
          ·cases hs
 exact key.2
theorem Zhi (c a b:List Nat):Zg c (a++b)=Zg (Zg c a) b:=by
 induction a generalizing c with
 | nil=>rfl
 | cons x r ih=>rw [List.cons_append,Zg,Zg];exact ih _
theorem Zc1 {c a:List Nat} (h:∀ x∈a,x∈c):Zg c a=c:=by
 induction a with
 | nil=>rfl
 | cons x r ih =>
   rw [Zg]
   have hx:c.contains x=true:=by simpa using h x (by simp)
   simp only [hx,if_true]
   exact ih (fun y hy=>h y (by simp [hy]))
theorem Qb (l a b:List Nat):Zg l (Zg a b)=Zg (Zg l a) b:=by
 induction b generalizing a with
 | nil=>rfl
 | cons x r ih =>
   rw [Zg,Zg,ih]
   congr 1
   by_cases hx:a.contains x=true
   ·have h1:(Zg l a).contains x=true:=by
     have:x∈a:=by simpa using hx
     simpa using (Z8 l a x).2 (.inr this)
    simp only [hx,h1,if_true]
   ·simp only [hx,if_false,Bool.false_eq_true]
    rw [Zhi,Zg,Zg]
theorem Zar (cls:List (List Nat)) (l:List Nat):∀ (ks:List Nat) (a:List Nat),Zg l (ks.foldl (gathF cls) a)=ks.foldl (gathF cls) (Zg l a)
 | [],_=>rfl
 | k::r,a=>by
   rw [List.foldl_cons,List.foldl_cons,Zar cls l r]
   congr 1
   rw [gathF,gathF,Qb,Qb]
structure TwW (cs:List Cls) (ps:List Plc):Prop where
 tw:Twin cs ps
 nm:NmW ps
 sp:SpW ps
 wi:WI ps
theorem twW (l:List Cls) (hl:∀ c∈l,ClsW c):TwW (wldC l) (wld l):=⟨twin_all l hl,nmW l hl,spW l hl,wld_wi l hl⟩
theorem TwW.super {cs:List Cls} {ps:List Plc} (h:TwW cs ps) {k:Nat} {c:Cls} (hk:cs[k]?=some c) (h0:0<k):nmdI c.su.toList cs 0=((spO (ps.map nd) k:Nat):Int):=by
 obtain ⟨q,hq,hc⟩:=h.tw.at hk
 rw [Qv h.tw h.nm,Lib.toList_data]
 have:=h.sp k q h0 hq
 rw [hc] at this
 have e:(hcOf c).su=c.su:=rfl
 rw [e] at this
 rw [this,lkI,spO,nd_at' hq];rfl
theorem Zgk {b:Nat} {cs:List Cls} {ps:List Plc} {W:World} (h:RAt b cs W) (ht:TwW cs ps) (k:Nat) (hk:k<ps.length):Calls Tryz.prog 20 #[.pointer (some ⟨b,0,none⟩),.int .i64 (k:Int)] W fun e w'=>(∃ v,e=.returned (.tuple #[v,.int .i64 0])∧w'.ownsRow W.heap.size 3 1 v (chL (ps.map nd) k).length ((chL (ps.map nd) k).map numV))∧Bw W w':=by
 obtain ⟨i0,hi0,hz0,hz1,hz2⟩:=info_parts Tryz.hinfo3
 have hlen:=ht.tw.len
 have h3:=ht.wi.hi
 have HR:Hid (RAt b cs W):=h
 have HT:Hid (TwW cs ps):=ht
 obtain ⟨L,hL⟩:∃ L,cs.length=L:=⟨_,rfl⟩
 have HL:Hid (cs.length=L):=hL
 have HI:Hid (∀ w,Bw W w→Calls Tryz.prog 38 #[.pointer (some ⟨b,0,none⟩),.int .i64 (k:Int)] w fun e w'=>e=.returned (.bool true)∧w'=w):=fun w hb=>by
  have:=rIn_c (h.below hb) (k:Int)
  rw [Y4,List.getElem?_eq_getElem (by omega)] at this
  exact this
 have HN:Hid (∀ w (c:Cls),Bw W w→Calls Tryz.prog 32 #[.pointer (some ⟨b,0,none⟩),.string c.su] w fun e w'=>e=.returned (.int .i64 (nmdI c.su.toList cs 0))∧w'=w):=fun w c hb=>Zb8 (h.below hb) c.su (by omega)
 have hkL:k<L:=by omega
 have hL3:L≤300:=by omega
 clear h ht hlen h3 hk hL
 go_enter Tryz.func20,Tryz.ntmps20
 go_wp2_with (go_at_call 38;refine (HI.out _ (Below.refl _ _)).mono ?_;rintro e w9 ⟨rfl,hw9⟩;rw [hw9];clear hw9 w9)
 go_loopw [1,6] (fun kv lv wr=>∃ (cur:Nat) (P:List Nat),kv=.int .i64 (cur:Int)∧cur<L∧P.length+cur≤300∧Hid (chL (ps.map nd) k=P++chL (ps.map nd) cur)∧Hid (wr.ownsRow W.heap.size 3 1 lv (P++[cur]).length ((P++[cur]).map numV))∧Hid (Bw W wr)) (fun kv _ _=>(intOf kv).toNat)
 case atStart=>exact ⟨k,[],rfl,hkL,by simp;omega,rfl,Zbk W _ rfl _ _ _ _ _ (Nat.le_refl _) (by unfold maxLen;omega) rfl,(Below.refl _ _).alloc (Nat.le_refl _) _⟩
 case round =>
  obtain ⟨cur,P,rfl,hcur,hPc,hch,hO,hB⟩:=hrel
  by_cases h0:cur=0
  ·subst h0
   have HE:Hid (chL (ps.map nd) k=P++[0]):=hch.out
   obtain ⟨va,vn,rfl⟩:=ownv hO.out
   clear hch
   go_wp2
   refine bodyPost_ret (results_tmp2 rfl _ _ _) rfl ⟨⟨.slice va (P++[0]).length vn,rfl,?_⟩,hB.out⟩
   rw [HE.out];exact hO.out
  ·have h0I:¬ (cur:Int)=0:=by omega
   obtain ⟨c,hc⟩:∃ c,cs[cur]?=some c:=⟨_,List.getElem?_eq_getElem (by rw [HL.out];exact hcur)⟩
   have hsu:=HT.out.super hc (by omega)
   have hcurp:cur<(ps.map nd).length:=by rw [List.length_map,← HT.out.tw.len,HL.out];exact hcur
   have hsl:=HT.out.wi.wo.spLt hcurp (by omega)
   have hcons:=Zac HT.out.wi.wo hcurp (by omega)
   have HNX:Hid (chL (ps.map nd) k=(P++[cur])++chL (ps.map nd) (spO (ps.map nd) cur)):=by rw [Hid,hch.out,hcons];simp
   obtain ⟨g,cap,vi,vm,b0,hlt,hgl,c0,c1,c2,c3,c4,c5,_,_⟩:=(HR.out.below hB.out).cells hc
   have HN1:Hid (Calls Tryz.prog 32 #[.pointer (some ⟨b,0,none⟩),.string c.su] wr fun e w'=>e=.returned (.int .i64 ((spO (ps.map nd) cur:Nat):Int))∧w'=wr):=by rw [← hsu];exact HN.out wr c hB.out
   rw [HL.out] at b0
   generalize spO (ps.map nd) cur=s at *
   have hcI:(cur:Int)<(L:Int):=by omega
   obtain ⟨va,vn,rfl⟩:=ownv hO.out
   have hPl:(P++[cur]).length=P.length+1:=by simp
   rw [hPl] at hO
   clear hcons hch hsu hc HN HI c0 c2 c3 c4 c5
   go_wp2_with (first
    | (go_at_call 32;refine HN1.out.mono ?_;rintro e w9 ⟨rfl,hw9⟩;rw [hw9];clear hw9 w9 HN1)
    | (at_builtin;refine wpList_append_own _ rfl _ _ 57 rfl W.heap.size 3 i0 (.int .i64 0) 1 8 Tryz.underlying57 hi0 hz0 hz1 hz2 rfl (by decide) (.slice va (P++[cur]).length vn) (P.length+1) ((P++[cur]).map numV) (by first|rfl|(rw [hPl];rfl)) (by rw [hPl];exact hO.out.alloc _) ⟨wr.heap.size,0,none⟩ 1 1 [.int .i64 (s:Int)] rfl rfl ?c1 ?c2 ?c3 ?c4 ?c5 ?_))
   case c1=>intro jj u hj;rw [addr_add];cases jj with
    | zero=>simp at hj;subst hj;simp [go_sem]
    | succ jj=>simp at hj
   case c2=>intro u hu;simp at hu;subst hu;rfl
   case c3=>unfold maxLen;omega
   case c4=>omega
   case c5=>have:=hB.out.size;simp;omega
   intro v' w2 hown hgrow _
   obtain ⟨va2,vn2,rfl⟩:=ownv hown
   have B2:Hid (Bw W w2):=by
    have hb1:Bw W (wr.alloc (.cells #[.int .i64 (s:Int)] 3)):=hB.out.alloc hB.out.size _
    refine hb1.grown hgrow hb1.size (fun x hx=>?_)
    have:=(hO.out.lt x hx).1
    omega
   have O2:Hid (w2.ownsRow W.heap.size 3 1 (.slice va2 (P.length+1+1) vn2) ((P++[cur])++[s]).length (((P++[cur])++[s]).map numV)):=by
    have e:((P++[cur])++[s]).map numV=P.map numV++[numV cur,.int .i64 (s:Int)]:=by simp [numV]
    have e2:((P++[cur])++[s]).length=P.length+1+1:=by simp
    rw [Hid,e,e2];simpa [numV] using hown
   clear hown hgrow
   go_wp2
   go_roundw
   case rel=>exact ⟨s,P++[cur],rfl,by omega,by omega,HNX,O2,B2⟩
   case measure=>simp [intOf];omega
theorem Zhj {a b:List (List UInt8)} (h:Z0 a=Z0 b):a=b:=by
 induction a generalizing b with
 | nil=>cases b with
   | nil=>rfl
   | cons y t=>simp [Z0] at h
 | cons x r ih=>cases b with
   | nil=>simp [Z0] at h
   | cons y t =>
     simp only [Z0,List.map_cons,List.cons.injEq,Value.string.injEq,ByteArray.mk.injEq] at h
     have e1:x=y:=by have:=congrArg Array.toList h.1;simpa using this
     rw [e1,ih h.2]
theorem TwW.ifaces {cs:List Cls} {ps:List Plc} (h:TwW cs ps) (hJ:WJ ps) {k:Nat} {c:Cls} (hk:cs[k]?=some c):∃ ks:List Nat,ks.length=c.ifs.length∧(∀ (i:Nat) (p:List UInt8),c.ifs[i]?=some p→∃ j,ks[i]?=some j∧nmdI p cs 0=((j:Nat):Int)∧j<k)∧clO (ps.map nd) k=Zz (ps.map Plc.cl) (spO (ps.map nd) k) ks:=by
 obtain ⟨q,hq,hc⟩:=h.tw.at hk
 obtain ⟨names,ks,h1,_,_,h4,h5,h6,h7⟩:=hJ k q hq
 have e:names=c.ifs:=by
  rw [hc] at h1
  exact (Zhj h1).symm
 subst e
 refine ⟨ks,h4,fun i p hp=>?_,?_⟩
 ·obtain ⟨j,hj,hl⟩:=h5 i p hp
  exact ⟨j,hj,by rw [Qv h.tw h.nm,hl,lkI],h6 j (List.mem_of_getElem? hj)⟩
 ·have e1:clO (ps.map nd) k=q.cl:=by rw [clO,nd_at' hq];rfl
  have e2:spO (ps.map nd) k=q.sp:=by rw [spO,nd_at' hq];rfl
  rw [e1,e2];exact h7
structure ClL (ps:List Plc) (l:List Nat):Prop where
 up:∀ x∈l,∀ y∈clO (ps.map nd) x,y∈l
 nod:l.Nodup
 lt:∀ x∈l,x<ps.length
theorem ClL.nil (ps:List Plc):ClL ps []:=⟨fun x hx=>by simp at hx,List.nodup_nil,fun x hx=>by simp at hx⟩
theorem ClL.len {ps:List Plc} {l:List Nat} (h:ClL ps l):l.length≤ps.length:=Yj _ _ h.nod h.lt
theorem ClL.take {ps:List Plc} {l:List Nat} (hW:WI ps) (h:ClL ps l) (k:Nat) (hk:k<ps.length):ClL ps (Zg l (clO (ps.map nd) k)):=by
 refine ⟨fun x hx y hy=>?_,Yd _ _ h.nod,fun x hx=>?_⟩
 ·rcases (Z8 _ _ _).1 hx with hx|hx
  ·exact (Z8 _ _ _).2 (.inl (h.up x hx y hy))
  ·obtain ⟨_,_,p,hp,_,h3⟩:=Xj hW.wo hx
   exact (Z8 _ _ _).2 (.inr (h3 y (by rw [clO,hp] at hy;exact hy)))
 ·rcases (Z8 _ _ _).1 hx with hx|hx
  ·exact h.lt x hx
  ·have:=(Xj hW.wo hx).1
   omega
theorem Zdw {ps:List Plc} {l:List Nat} (h:ClL ps l) {k:Nat} (hk:k∈l):gathF (ps.map Plc.cl) l k=l:=by
 rw [gathF,Zck,Zc1 (h.up k hk)]
 exact Zc1 (fun x hx=>by simp at hx;rw [hx];exact hk)
theorem Zfq {ps:List Plc} (hW:WI ps) {l:List Nat} {k:Nat} (hk:¬ k∈l):gathF (ps.map Plc.cl) l k=Zg l (clO (ps.map nd) k)++[k]:=by
 rw [gathF,Zck]
 have hn:¬ k∈Zg l (clO (ps.map nd) k):=fun hm=>by
  rcases (Z8 _ _ _).1 hm with hm|hm
  ·exact hk hm
  ·have:=(Xj hW.wo hm).1
   omega
 have hc:(Zg l (clO (ps.map nd) k)).contains k=false:=by simpa using hn
 rw [Zg,Zg,hc];rfl
theorem ClL.gathF {ps:List Plc} {l:List Nat} (hW:WI ps) (h:ClL ps l) (k:Nat) (hk:k<ps.length):ClL ps (gathF (ps.map Plc.cl) l k):=by
 by_cases hm:k∈l
 ·rw [Zdw h hm];exact h
 ·rw [Zfq hW hm]
  have h1:=h.take hW k hk
  have hn:¬ k∈Zg l (clO (ps.map nd) k):=fun hm2=>by
   rcases (Z8 _ _ _).1 hm2 with hm2|hm2
   ·exact hm hm2
   ·have:=(Xj hW.wo hm2).1
    omega
  refine ⟨fun x hx y hy=>?_,?_,fun x hx=>?_⟩
  ·rcases List.mem_append.1 hx with hx|hx
   ·exact List.mem_append_left _ (h1.up x hx y hy)
   ·simp at hx
    subst hx
    exact List.mem_append_left _ ((Z8 _ _ _).2 (.inr hy))
  ·refine List.nodup_append.2 ⟨h1.nod,by simp,fun a ha b hb hab=>?_⟩
   simp at hb
   rw [hab,hb] at ha
   exact hn ha
  ·rcases List.mem_append.1 hx with hx|hx
   ·exact h1.lt x hx
   ·simp at hx;omega
theorem Zil {ps:List Plc} (l:List Nat) (k:Nat) (ks:List Nat) (h:clO (ps.map nd) k=Zz (ps.map Plc.cl) (spO (ps.map nd) k) ks):Zg l (clO (ps.map nd) k)=ks.foldl (gathF (ps.map Plc.cl)) (Zg l (clO (ps.map nd) (spO (ps.map nd) k))):=by
 rw [h,Zz,Zar,Qb,Zck];rfl
theorem Zel {b:Nat} {cs:List Cls} {ps:List Plc} {W:World} (h:RAt b cs W) (ht:TwW cs ps) (hJ:WJ ps):∀ (id:Nat),id<ps.length→∀ (w:World) (v:Value) (l:List Nat),Bw W w→w.ownsRow W.heap.size 3 1 v l.length (l.map numV)→ClL ps l→Calls Tryz.prog 45 #[.pointer (some ⟨b,0,none⟩),.int .i64 (id:Int),v] w fun e w'=>(∃ v',e=.returned v'∧w'.ownsRow W.heap.size 3 1 v' (Zg l (clO (ps.map nd) id)).length ((Zg l (clO (ps.map nd) id)).map numV))∧Bw W w':=by
 intro id
 induction id using Nat.strongRecOn with
 | _ id ih =>
 intro hid w v l hw hrow hcl
 obtain ⟨i0,hi0,hz0,hz1,hz2⟩:=info_parts Tryz.hinfo3
 have hlen:=ht.tw.len
 have h3:=ht.wi.hi
 obtain ⟨c,hc⟩:∃ c,cs[id]?=some c:=⟨_,List.getElem?_eq_getElem (by omega)⟩
 obtain ⟨ks,hk1,hk2,hk3⟩:=ht.ifaces hJ hc
 have hgt:=Zil (ps:=ps) l id ks hk3
 have HR:Hid (RAt b cs W):=h
 have HTW:Hid (TwW cs ps):=ht
 have HW3:Hid (ps.length≤300):=h3
 have HCC:Hid (cs[id]?=some c):=hc
 have HKS:Hid (∀ (i:Nat) (p:List UInt8),c.ifs[i]?=some p→∃ j,ks[i]?=some j∧nmdI p cs 0=((j:Nat):Int)∧j<id):=hk2
 have HN:Hid (∀ (w':World) (s:ByteArray),Bw W w'→Calls Tryz.prog 32 #[.pointer (some ⟨b,0,none⟩),.string s] w' fun e w''=>e=.returned (.int .i64 (nmdI s.toList cs 0))∧w''=w'):=fun w' s hb=>Zb8 (h.below hb) s (by omega)
 have HIH:Hid (∀ (j:Nat),j<id→∀ (w:World) (v:Value) (l:List Nat),Bw W w→w.ownsRow W.heap.size 3 1 v l.length (l.map numV)→ClL ps l→Calls Tryz.prog 45 #[.pointer (some ⟨b,0,none⟩),.int .i64 (j:Int),v] w fun e w'=>(∃ v',e=.returned v'∧w'.ownsRow W.heap.size 3 1 v' (Zg l (clO (ps.map nd) j)).length ((Zg l (clO (ps.map nd) j)).map numV))∧Bw W w'):=fun j hj=>ih j hj (by omega)
 have HHA:Hid (∀ (v:Value) (l:List Nat) (p:Nat) (w:World),w.ownsRow W.heap.size 3 1 v l.length (l.map numV)→l.length≤1000000→Calls Tryz.prog 68 #[v,.int .i64 (p:Int)] w fun e w'=>e=.returned (.bool (l.contains p))∧Bw w w'):=fun v l p w hr hl=>rHas_any v l p w (Zw hr) hl
 obtain ⟨n,hn⟩:∃ n,c.ifs.length=n:=⟨_,rfl⟩
 have HNI:Hid (c.ifs.length=n):=hn
 have HKL:Hid (ks.length=n):=hk1.trans hn
 obtain ⟨L,hL⟩:∃ L,cs.length=L:=⟨_,rfl⟩
 have HL:Hid (cs.length=L):=hL
 have hidL:id<L:=by omega
 have hidI:(id:Int)<(L:Int):=by omega
 have HCL:Hid (ClL ps l):=hcl
 have HRW:Hid (w.ownsRow W.heap.size 3 1 v l.length (l.map numV)):=hrow
 have HBW:Hid (Bw W w):=hw
 have hnb:n≤1000000:=by
  obtain ⟨q,hq,hqc⟩:=ht.tw.at hc
  have h1:=(ht.wi.pb q (List.mem_of_getElem? hq)).ni
  rw [hqc] at h1
  rw [← hn];exact h1
 obtain ⟨va0,vn0,rfl⟩:=ownv hrow
 by_cases h0:id=0
 ·have hks:ks=[]:=by
   cases hcs:c.ifs with
   | nil=>exact List.length_eq_zero_iff.1 (by rw [hk1,hcs];rfl)
   | cons p r =>
     obtain ⟨j,_,_,hj⟩:=hk2 0 p (by rw [hcs];rfl)
     omega
  have hz:clO (ps.map nd) id=[]:=by
   obtain ⟨n0,h1,_,h2,_⟩:=ht.wi.wo.top
   rw [h0,clO,h1];exact h2
  have HX1:Hid (Zg l (clO (ps.map nd) id)=l):=by rw [Hid,hz];rfl
  have hn0:n=0:=by rw [← HKL.out,hks];rfl
  subst hn0
  subst h0
  obtain ⟨g,cap,vi,vm,b0,hlt0,hgl,c0,c1,c2,c3,c4,c5,hst,_⟩:=(h.below hw).cells hc
  rw [hL] at b0
  obtain ⟨ao,icap,rfl,_,_,_⟩:=hst
  rw [hn] at c2
  have hL0:(0:Int)<(L:Int):=by omega
  clear hlen h3 hc hk1 hk2 hk3 hgt h ht hJ ih hn hL hcl hrow hw hks hz HIH HHA HN HKS c0 c1 c3 c4 c5
  go_enter Tryz.func45,Tryz.ntmps45
  go_wp2
  go_loopw [2,7] (fun lv iv wr=>lv=.slice va0 l.length vn0∧iv=.int .i64 0∧wr=w) (fun _ _ _=>0)
  case atStart=>exact ⟨rfl,rfl,rfl⟩
  case round =>
   obtain ⟨rfl,rfl,rfl⟩:=hrel
   go_wp2
   refine bodyPost_ret (results_tmp rfl _ _ _) rfl ⟨⟨.slice va0 l.length vn0,rfl,?_⟩,HBW.out⟩
   rw [HX1.out];exact HRW.out
 ·obtain ⟨l1,hl1⟩:∃ l1,l1=Zg l (clO (ps.map nd) (spO (ps.map nd) id)):=⟨_,rfl⟩
  have HX1:Hid (ks.foldl (gathF (ps.map Plc.cl)) l1=Zg l (clO (ps.map nd) id)):=by rw [Hid,hl1];exact hgt.symm
  have hidp:id<(ps.map nd).length:=by rw [List.length_map];exact hid
  have hsl:=ht.wi.wo.spLt hidp (by omega)
  have hsu:=ht.super hc (by omega)
  have HCL1:Hid (ClL ps l1):=by rw [Hid,hl1];exact hcl.take ht.wi _ (by omega)
  have HS1:Hid (∀ w',Bw W w'→Calls Tryz.prog 32 #[.pointer (some ⟨b,0,none⟩),.string c.su] w' fun e w''=>e=.returned (.int .i64 ((spO (ps.map nd) id:Nat):Int))∧w''=w'):=fun w' hb=>by rw [← hsu];exact HN.out w' c.su hb
  have HS2:Hid (Calls Tryz.prog 45 #[.pointer (some ⟨b,0,none⟩),.int .i64 ((spO (ps.map nd) id:Nat):Int),.slice va0 l.length vn0] w fun e w'=>(∃ v',e=.returned v'∧w'.ownsRow W.heap.size 3 1 v' l1.length (l1.map numV))∧Bw W w'):=by rw [hl1];exact HIH.out _ hsl w _ l hw hrow hcl
  obtain ⟨g0,cap0,vi0,vm0,b00,hlt00,hgl0,_,c10,_,_,_,_,_,_⟩:=(h.below hw).cells hc
  rw [hL] at b00
  generalize spO (ps.map nd) id=sp at *
  have h0I:¬ (id:Int)=0:=by omega
  clear hlen h3 hc hk1 hk2 hk3 hgt h ht hJ ih hn hL hcl hrow hw hl1 hsu
  go_enter Tryz.func45,Tryz.ntmps45
  go_wp2_with (first
   | (go_at_call 32;refine (HS1.out _ HBW.out).mono ?_;rintro e w9 ⟨rfl,hw9⟩;rw [hw9];clear hw9 w9 HS1)
   | (go_at_call 45;refine HS2.out.mono ?_;rintro e w1 ⟨⟨v1,rfl,ho⟩,hb⟩;obtain ⟨va1,vn1,rfl⟩:=ownv ho;have O1:Hid (w1.ownsRow W.heap.size 3 1 (.slice va1 l1.length vn1) l1.length (l1.map numV)):=ho;have B1:Hid (Bw W w1):=hb;clear hb ho HS2))
  go_loopw [2,7] (fun lv iv wr=>∃ (i:Nat),iv=.int .i64 (i:Int)∧i≤n∧Hid (wr.ownsRow W.heap.size 3 1 lv ((ks.take i).foldl (gathF (ps.map Plc.cl)) l1).length (((ks.take i).foldl (gathF (ps.map Plc.cl)) l1).map numV))∧Hid (ClL ps ((ks.take i).foldl (gathF (ps.map Plc.cl)) l1))∧Hid (Bw W wr)) (fun _ iv _=>n - (intOf iv).toNat)
  case atStart=>exact ⟨0,rfl,Nat.zero_le _,O1,HCL1,B1⟩
  case round =>
   obtain ⟨i,rfl,hi,hO,hC,hB⟩:=hrel
   obtain ⟨g,cap,vi,vm,b0,hlt0,hgl,c0,c1,c2,c3,c4,c5,hst,_⟩:=(HR.out.below hB.out).cells HCC.out
   rw [HL.out] at b0
   obtain ⟨ao,icap,rfl,hq1,hq2,hq3⟩:=hst
   rw [HNI.out] at c2 hq1
   have HQ3:Hid _:=hq3
   clear c0 c1 c3 c4 c5 hq3
   by_cases hlt:i<n
   ·have hltI:(i:Int)<(n:Int):=by omega
    obtain ⟨p,hp⟩:∃ p,c.ifs[i]?=some p:=⟨_,List.getElem?_eq_getElem (by rw [HNI.out];exact hlt)⟩
    obtain ⟨k,hk,hkn,hkl⟩:=HKS.out i p hp
    obtain ⟨bk,o,rfl,hbk,hcs⟩:=HQ3.out (fun e=>by rw [e] at hp;simp at hp)
    have hce:=hcs i p hp
    have hfold:(ks.take (i+1)).foldl (gathF (ps.map Plc.cl)) l1=gathF (ps.map Plc.cl) ((ks.take i).foldl (gathF (ps.map Plc.cl)) l1) k:=by
     rw [List.take_add_one,hk,List.foldl_append];rfl
    have HN1:Hid (Calls Tryz.prog 32 #[.pointer (some ⟨b,0,none⟩),.string ⟨p.toArray⟩] wr fun e w''=>e=.returned (.int .i64 (k:Int))∧w''=wr):=by
     have:=HN.out wr ⟨p.toArray⟩ hB.out
     rw [show (ByteArray.mk p.toArray).toList=p from by rw [Lib.toList_data],hkn] at this
     exact this
    obtain ⟨Lc,hLc⟩:∃ Lc,(ks.take i).foldl (gathF (ps.map Plc.cl)) l1=Lc:=⟨_,rfl⟩
    rw [hLc] at hO hC hfold
    have HFO:Hid _:=hfold
    have hLb:Lc.length≤300:=Nat.le_trans hC.out.len HW3.out
    have HA1:Hid (∀ (v:Value),wr.ownsRow W.heap.size 3 1 v Lc.length (Lc.map numV)→Calls Tryz.prog 68 #[v,.int .i64 (k:Int)] wr fun e w'=>e=.returned (.bool (Lc.contains k))∧Bw wr w'):=fun v hr=>HHA.out v Lc k wr hr (by omega)
    have HG1:Hid (∀ (w:World) (v:Value),Bw W w→w.ownsRow W.heap.size 3 1 v Lc.length (Lc.map numV)→Calls Tryz.prog 45 #[.pointer (some ⟨b,0,none⟩),.int .i64 (k:Int),v] w fun e w'=>(∃ v',e=.returned v'∧w'.ownsRow W.heap.size 3 1 v' (Zg Lc (clO (ps.map nd) k)).length ((Zg Lc (clO (ps.map nd) k)).map numV))∧Bw W w'):=fun w v hb hr=>HIH.out k hkl w v Lc hb hr hC.out
    have HCN:Hid (ClL ps (gathF (ps.map Plc.cl) Lc k)):=hC.out.gathF HTW.out.wi k (by omega)
    have HG2:Hid (Lc.contains k=true→gathF (ps.map Plc.cl) Lc k=Lc):=fun he=>Zdw hC.out (by simpa using he)
    have HG3:Hid (Lc.contains k=false→gathF (ps.map Plc.cl) Lc k=Zg Lc (clO (ps.map nd) k)++[k]∧(Zg Lc (clO (ps.map nd) k)).length≤300):=fun he=>⟨Zfq HTW.out.wi (by simpa using he),Nat.le_trans (hC.out.take HTW.out.wi k (by omega)).len HW3.out⟩
    obtain ⟨va,vn,rfl⟩:=ownv hO.out
    clear hcs hp hk hkn hfold hLc HX1 HN HIH HHA HQ3
    cases hz:Lc.contains k with
    | true =>
      rw [hz] at HA1
      have he:=HG2.out hz
      rw [he] at HFO HCN
      clear HG1 HG2 HG3 hz he
      go_wp2_with (first
       | (go_at_call 32;refine HN1.out.mono ?_;rintro e w9 ⟨rfl,hw9⟩;rw [hw9];clear hw9 w9 HN1)
       | (go_at_call 68;refine (HA1.out _ hO.out).mono ?_;rintro e w2 ⟨rfl,hb⟩;have O2:Hid (w2.ownsRow W.heap.size 3 1 (.slice va Lc.length vn) Lc.length (Lc.map numV)):=Zi hO.out hb;have B2:Hid (Bw W w2):=Zj hB.out hb;clear hb HA1))
      go_roundw
      case rel=>exact ⟨i+1,by go_num,by omega,by rw [HFO.out];exact O2,by rw [HFO.out];exact HCN,B2⟩
      case measure=>simp [intOf];omega
    | false =>
      rw [hz] at HA1
      obtain ⟨he,hlb⟩:=HG3.out hz
      rw [he] at HFO HCN
      generalize Zg Lc (clO (ps.map nd) k)=T at *
      clear HG2 HG3 hz he
      go_wp2_with (first
       | (go_at_call 32;refine HN1.out.mono ?_;rintro e w9 ⟨rfl,hw9⟩;rw [hw9];clear hw9 w9 HN1)
       | (go_at_call 68;refine (HA1.out _ hO.out).mono ?_;rintro e w2 ⟨rfl,hb⟩;have O2:Hid (w2.ownsRow W.heap.size 3 1 (.slice va Lc.length vn) Lc.length (Lc.map numV)):=Zi hO.out hb;have B2:Hid (Bw W w2):=Zj hB.out hb;clear hb HA1)
       | (go_at_call 45;refine (HG1.out _ _ B2.out O2.out).mono ?_;rintro e w3 ⟨⟨v3,rfl,ho⟩,hb⟩;obtain ⟨va3,vn3,rfl⟩:=ownv ho;have O3:Hid (w3.ownsRow W.heap.size 3 1 (.slice va3 T.length vn3) T.length (T.map numV)):=ho;have B3:Hid (Bw W w3):=hb;clear hb ho HG1)
       | (at_builtin;refine wpList_append_own _ rfl _ _ 57 rfl W.heap.size 3 i0 (.int .i64 0) 1 8 Tryz.underlying57 hi0 hz0 hz1 hz2 rfl (by decide) (.slice va3 T.length vn3) T.length (T.map numV) rfl (O3.out.alloc _) ⟨w3.heap.size,0,none⟩ 1 1 [.int .i64 (k:Int)] rfl rfl ?c1 ?c2 ?c3 ?c4 ?c5 ?_))
      case c1=>intro jj u hj;rw [addr_add];cases jj with
       | zero=>simp at hj;subst hj;simp [go_sem]
       | succ jj=>simp at hj
      case c2=>intro u hu;simp at hu;subst hu;rfl
      case c3=>unfold maxLen;omega
      case c4=>omega
      case c5=>have:=B3.out.size;simp;omega
      intro v' w4 hown hgrow _
      obtain ⟨va4,vn4,rfl⟩:=ownv hown
      have B4:Hid (Bw W w4):=by
       have hb1:Bw W (w3.alloc (.cells #[.int .i64 (k:Int)] 3)):=B3.out.alloc B3.out.size _
       refine hb1.grown hgrow hb1.size (fun x hx=>?_)
       have:=(O3.out.lt x hx).1
       omega
      have O4:Hid (w4.ownsRow W.heap.size 3 1 (.slice va4 (T.length+1) vn4) (T++[k]).length ((T++[k]).map numV)):=by
       rw [Hid,List.length_append,List.map_append];exact hown
      clear hown hgrow
      go_wp2
      go_roundw
      case rel=>exact ⟨i+1,by go_num,by omega,by rw [HFO.out];exact O4,by rw [HFO.out];exact HCN,B4⟩
      case measure=>simp [intOf];omega
   ·have e:i=n:=by omega
    have HT:Hid ((ks.take i).foldl (gathF (ps.map Plc.cl)) l1=Zg l (clO (ps.map nd) id)):=by
     rw [Hid,e,← HKL.out,List.take_of_length_le (Nat.le_refl _)]
     exact HX1.out
    rw [HT.out] at hO
    subst e
    obtain ⟨va,vn,rfl⟩:=ownv hO.out
    clear HT HX1
    go_wp2
    refine bodyPost_ret (results_tmp rfl _ _ _) rfl ⟨⟨_,rfl,?_⟩,hB.out⟩
    exact hO.out
theorem Zh3 {b:Nat} {cs:List Cls} {ps:List Plc} {W:World} (h:RAt b cs W) (ht:TwW cs ps) (i:Int):Calls Tryz.prog 38 #[.pointer (some ⟨b,0,none⟩),.int .i64 i] W fun e w'=>e=.returned (.bool (plcI ps i).isSome)∧w'=W:=by
 have:=rIn_c h i
 rcases ht.tw.clsI i with ⟨h1,h2⟩|⟨k,c,q,rfl,_,_,_,h1,h2⟩
 ·rw [h1] at this;rw [h2];exact this
 ·rw [h1] at this;rw [h2];exact this
end Go.Proofs.YtkoogmegdfpopaaGreat
