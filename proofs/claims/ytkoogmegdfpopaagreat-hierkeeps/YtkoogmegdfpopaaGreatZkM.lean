import Derived.Test.YtkoogmegdfpopaaGreatRfN
set_option maxHeartbeats 8000000
set_option maxRecDepth 100000
namespace Go.Proofs.YtkoogmegdfpopaaGreat
open Go.RowKit Go.Maps
theorem TwW.ms {cs:List Cls} {ps:List Plc} (h:TwW cs ps) {k:Nat} {c:Cls} {q:Plc} (hc:cs[k]?=some c) (hq:ps[k]?=some q):q.c=hcOf c:=by
 obtain ⟨q',h1,h2⟩:=h.tw.at hc
 rw [hq] at h1
 cases h1
 exact h2
theorem Zdc {b:Nat} {cs:List Cls} {ps:List Plc} {W:World} (h:RAt b cs W) (ht:TwW cs ps) (hJ:WJ ps) (k:Nat) (q:Plc) (hq:ps[k]?=some q):Calls Tryz.prog 21 #[.pointer (some ⟨b,0,none⟩),.int .i64 (k:Int)] W fun e w'=>(∃ v,e=.returned (.tuple #[v,.int .i64 0])∧w'.ownsRow W.heap.size 3 1 v q.cl.length (q.cl.map numV))∧Bw W w':=by
 have hkl:=(List.getElem?_eq_some_iff.1 hq).1
 have hcl:clO (ps.map nd) k=q.cl:=by rw [clO,nd_at' hq];rfl
 have HI:Hid (Calls Tryz.prog 38 #[.pointer (some ⟨b,0,none⟩),.int .i64 (k:Int)] W fun e w'=>e=.returned (.bool true)∧w'=W):=(Zh3 h ht k).mono fun e w' zz=>⟨by rw [zz.1,J6,hq];rfl,zz.2⟩
 have HG:Hid (∀ w,Bw W w→Calls Tryz.prog 45 #[.pointer (some ⟨b,0,none⟩),.int .i64 (k:Int),.slice none 0 0] w fun e w'=>(∃ v',e=.returned v'∧w'.ownsRow W.heap.size 3 1 v' q.cl.length (q.cl.map numV))∧Bw W w'):=fun w hb=>by
  have:=Zel h ht hJ k hkl w (.slice none 0 0) [] hb (World.ownsRow_nil _ _ _ _) (ClL.nil ps)
  rw [take_nil _ (Zfw ht.wi.wo k),hcl] at this
  exact this
 generalize q.cl.length=n at *
 generalize q.cl.map numV=xs at *
 clear h ht hJ hq hkl hcl
 go_enter Tryz.func21,Tryz.ntmps21
 go_wp2_with (first
  | (go_at_call 38;refine HI.out.mono ?_;rintro e w9 ⟨rfl,hw9⟩;rw [hw9];clear hw9 w9)
  | (go_at_call 45;refine (HG.out _ (Below.refl _ _)).mono ?_;rintro e w1 ⟨⟨v,rfl,ho⟩,hb⟩;obtain ⟨a1,c1,rfl⟩:=ownv ho;have O1:Hid (w1.ownsRow W.heap.size 3 1 (.slice a1 n c1) n xs):=ho;have B1:Hid (Bw W w1):=hb;clear ho hb HG))
 exact bodyPost_ret (results_tmp2 rfl _ _ _) rfl ⟨⟨_,rfl,O1.out⟩,B1.out⟩
theorem Zen {b:Nat} {cs:List Cls} {ps:List Plc} {W:World} (h:RAt b cs W) (ht:TwW cs ps) (x:Int) (hx:plcI ps x=none):Calls Tryz.prog 21 #[.pointer (some ⟨b,0,none⟩),.int .i64 x] W fun e w'=>e=.returned (.tuple #[.slice none 0 0,.int .i64 3])∧Bw W w':=by
 have HI:Hid (Calls Tryz.prog 38 #[.pointer (some ⟨b,0,none⟩),.int .i64 x] W fun e w'=>e=.returned (.bool false)∧w'=W):=(Zh3 h ht x).mono fun e w' zz=>⟨by rw [zz.1,hx];rfl,zz.2⟩
 clear h ht hx
 go_enter Tryz.func21,Tryz.ntmps21
 go_wp2_with (go_at_call 38;refine HI.out.mono ?_;rintro e w9 ⟨rfl,hw9⟩;rw [hw9];clear hw9 w9)
 exact bodyPost_ret (results_tmp2 rfl _ _ _) rfl ⟨rfl,Below.refl _ _⟩
theorem chL_len {ps:List Plc} (hi:WI ps) {k:Nat} (hk:k<ps.length):(chL (ps.map nd) k).length≤1000000:=by
 have:=ch_len hi.wo k (by simpa using hk)
 have:=hi.hi
 omega
theorem Zgl {b:Nat} {cs:List Cls} {ps:List Plc} {W:World} (h:RAt b cs W) (ht:TwW cs ps) (c:Int) (hc:plcI ps c=none):Calls Tryz.prog 20 #[.pointer (some ⟨b,0,none⟩),.int .i64 c] W fun e w'=>e=.returned (.tuple #[.slice none 0 0,.int .i64 3])∧Bw W w':=by
 have HI:Hid (∀ w,Bw W w→Calls Tryz.prog 38 #[.pointer (some ⟨b,0,none⟩),.int .i64 c] w fun e w'=>e=.returned (.bool false)∧w'=w):=fun w hb=>(Zh3 (h.below hb) ht c).mono fun e w' zz=>⟨by rw [zz.1,hc];rfl,zz.2⟩
 clear h ht hc
 go_enter Tryz.func20,Tryz.ntmps20
 go_wp2_with (go_at_call 38;refine (HI.out _ sqR).mono ?_;rintro e w9 ⟨rfl,hw9⟩;rw [hw9];clear hw9 w9)
 exact bodyPost_ret (results_tmp2 rfl _ _ _) rfl ⟨rfl,sqR⟩
theorem rChain_r {b:Nat} {cs:List Cls} {ps:List Plc} {W:World} (h:RAt b cs W) (ht:TwW cs ps) (x:Int):Calls Tryz.prog 20 #[.pointer (some ⟨b,0,none⟩),.int .i64 x] W fun e w'=>NumsA (chR ps x) e w'∧Bw W w':=by
 rcases Zu ps x with ⟨hn,_⟩|⟨k,q,rfl,hk,hq⟩
 ·refine (Zgl h ht x hn).mono fun e w' zz=>⟨?_,zz.2⟩
  rw [zz.1,chR,hn]
  exact NumsA.nil 3 w'
 ·refine (Zgk h ht k (List.getElem?_eq_some_iff.1 hk).1).mono ?_
  rintro e w' ⟨⟨v,rfl,ho⟩,hb⟩
  rw [chR,hq]
  exact ⟨NumsA.of ho,hb⟩
theorem Zgh {b:Nat} {cs:List Cls} {ps:List Plc} {W:World} (h:RAt b cs W) (ht:TwW cs ps) (hJ:WJ ps) (x:Int):Calls Tryz.prog 21 #[.pointer (some ⟨b,0,none⟩),.int .i64 x] W fun e w'=>NumsA (clR ps x) e w'∧Bw W w':=by
 rcases Zu ps x with ⟨hn,_⟩|⟨k,q,rfl,hk,hq⟩
 ·refine (Zen h ht x hn).mono fun e w' zz=>⟨?_,zz.2⟩
  rw [zz.1,clR,hn]
  exact NumsA.nil 3 w'
 ·refine (Zdc h ht hJ k q hk).mono ?_
  rintro e w' ⟨⟨v,rfl,ho⟩,hb⟩
  rw [clR,hq]
  exact ⟨NumsA.of ho,hb⟩
theorem kp6 {V w:World} {N n:Nat} {t:TypeId} {a0 a1 a2 a3 a4 a5:Value} (hb:Below N V w) (hn:n<N:=by first|omega|(simp;try omega)) (h:V.heap[n]?=some (.cells #[a0,a1,a2,a3,a4,a5] t (0,0)):=by first|exact Hid.out (by assumption)|exact hkeep (Hid.out (by assumption))|exact hkeep (hkeep (Hid.out (by assumption)))|exact halloc2 _ _ rfl|exact hkeep (halloc2 _ _ rfl)|exact hkeep (hkeep (halloc2 _ _ rfl))|exact halloc2 _ _ (by simp;done)):Hid (w.heap[n]?=some (.cells #[a0,a1,a2,a3,a4,a5] t (0,0)))∧w.cell? ⟨n,0,none⟩=some a0∧w.cell? ⟨n,1,none⟩=some a1∧w.cell? ⟨n,2,none⟩=some a2∧w.cell? ⟨n,3,none⟩=some a3∧w.cell? ⟨n,4,none⟩=some a4∧w.cell? ⟨n,5,none⟩=some a5∧(∀ k,w.frozen? ⟨n,k,none⟩=false)∧n<w.heap.size∧¬ n=w.heap.size:=by
 have h2:=(hb.block n hn).trans h
 obtain ⟨c0,c1,c2,c3,c4,c5,f,l⟩:=rw6 h2
 exact ⟨h2,c0,c1,c2,c3,c4,c5,f,l,by omega⟩
theorem wi_cl {ps:List Plc} (hW:WI ps) {j:Nat} {r:Plc} (hr:ps[j]?=some r):r.cl.length≤ps.length:=by
 have hj:=(List.getElem?_eq_some_iff.1 hr).1
 have e:clO (ps.map nd) j=r.cl:=by rw [clO,nd_at' hr];rfl
 refine Yj _ _ (by rw [← e];exact Zfw hW.wo j) (fun i hi=>?_)
 rw [← e] at hi
 have:=(Xj hW.wo hi).1
 omega
theorem Ji {w:World} {N:Nat} {vi vm:Value} {qm:List (HM×Value)} {c:Cls} (h:OwnC w N vi c.ifs.length (Z0 c.ifs) vm qm) (hq:qm.map Prod.fst=c.ms.map hmOf):(∃ ai ci,vi=.slice ai c.ifs.length ci)∧(∃ am cm,vm=.slice am c.ms.length cm)∧IsStrs w vi c.ifs∧IsMths w vm c.ms:=by
 have hlen:qm.length=c.ms.length:=by have:=congrArg List.length hq;simpa using this
 obtain ⟨a1,c1,e1⟩:=ownv h.ifs
 obtain ⟨a2,c2,e2⟩:=ownv h.ms
 exact ⟨⟨a1,c1,e1⟩,⟨a2,c2,by rw [e2,hlen]⟩,Yz (Zw h.ifs),Xf h hq⟩
theorem Zh5 {b:Nat} {cs:List Cls} {ps:List Plc} {W:World} (h:RAt b cs W) (ht:TwW cs ps) (x:Int) (hx:plcI ps x=none):Calls Tryz.prog 13 #[.pointer (some ⟨b,0,none⟩),.int .i64 x] W fun e w'=>e=.returned (.tuple #[.agg #[.string ⟨#[]⟩,.string ⟨#[]⟩,.slice none 0 0,.int .i64 0,.int .i64 0,.slice none 0 0],.int .i64 3])∧Bw W w':=by
 have HI:Hid (∀ w,Bw W w→Calls Tryz.prog 38 #[.pointer (some ⟨b,0,none⟩),.int .i64 x] w fun e w'=>e=.returned (.bool false)∧w'=w):=fun w hb=>(Zh3 (h.below hb) ht x).mono fun e w' zz=>⟨by rw [zz.1,hx];rfl,zz.2⟩
 clear h ht hx
 go_enter Tryz.func13,Tryz.ntmps13
 go_wp2_with (go_at_call 38;refine (HI.out _ sqR).mono ?_;rintro e w9 ⟨rfl,hw9⟩;rw [hw9];clear hw9 w9)
 exact bodyPost_ret (v:=.tuple #[.agg #[.string ⟨#[]⟩,.string ⟨#[]⟩,.slice none 0 0,.int .i64 0,.int .i64 0,.slice none 0 0],.int .i64 3]) (by simp [results,Tryz.results13,go_sem, *]) rfl ⟨rfl,sqR⟩
theorem Zgi {b:Nat} {cs:List Cls} {ps:List Plc} {W:World} (h:RAt b cs W) (ht:TwW cs ps) (k:Nat) (c:Cls) (q:Plc) (hc:cs[k]?=some c) (hq:ps[k]?=some q):Calls Tryz.prog 13 #[.pointer (some ⟨b,0,none⟩),.int .i64 (k:Int)] W fun e w'=>(∃ vi vm qm,e=.returned (.tuple #[.agg #[.string c.nm,.string c.su,vi,.int .i64 c.fl,.int .i64 c.ld,vm],.int .i64 0])∧OwnC w' W.heap.size vi c.ifs.length (Z0 c.ifs) vm qm∧qm.map Prod.fst=c.ms.map hmOf)∧Bw W w':=by
 have HI:Hid (∀ w,Bw W w→Calls Tryz.prog 38 #[.pointer (some ⟨b,0,none⟩),.int .i64 (k:Int)] w fun e w'=>e=.returned (.bool true)∧w'=w):=fun w hb=>(Zh3 (h.below hb) ht k).mono fun e w' zz=>⟨by rw [zz.1,J6,hq];rfl,zz.2⟩
 have hB:=ht.wi.pb q (List.mem_of_getElem? hq)
 have hqc:=ht.ms hc hq
 have hkl:k<cs.length:=(List.getElem?_eq_some_iff.1 hc).1
 obtain ⟨N,v,rs,h,rfl⟩:=h
 rw [List.getElem?_map] at hc
 obtain ⟨r,hr,rfl⟩:∃ r,rs[k]?=some r∧r.c=c:=by
  cases e:rs[k]? with
  | none=>rw [e] at hc;cases hc
  | some r=>rw [e] at hc;exact ⟨r,rfl,Option.some.inj hc⟩
 rw [List.length_map] at hkl
 obtain ⟨g,cap,rfl⟩:=Go.Joins.ownsRow_form h.row (by omega)
 have hat:=fun j hj=>(h.row.cellAt (k * 6+j) (by omega)).trans (Zfs rs k r hr j hj)
 have b0:=cell_of_row W b 0 _ _ _ h.hb
 simp only [List.getElem?_toArray,List.getElem?_cons_zero] at b0
 obtain ⟨qm,hqm,ho⟩:=h.own r (List.mem_of_getElem? hr)
 obtain ⟨⟨ai,ci,hvi⟩,⟨am,cm,hvm⟩,_,_⟩:=Ji ho hqm
 have c0:W.cell? ⟨g,k * 6,none⟩=some (.string r.c.nm):=hat 0 (by omega)
 have c1:W.cell? ⟨g,k * 6+1,none⟩=some (.string r.c.su):=hat 1 (by omega)
 have c2:W.cell? ⟨g,k * 6+2,none⟩=some (.slice ai r.c.ifs.length ci):=by rw [← hvi];exact hat 2 (by omega)
 have c3:W.cell? ⟨g,k * 6+3,none⟩=some (.int .i64 r.c.fl):=hat 3 (by omega)
 have c4:W.cell? ⟨g,k * 6+4,none⟩=some (.int .i64 r.c.ld):=hat 4 (by omega)
 have c5:W.cell? ⟨g,k * 6+5,none⟩=some (.slice am r.c.ms.length cm):=by rw [← hvm];exact hat 5 (by omega)
 have hbl:b<W.heap.size:=(Array.getElem?_eq_some_iff.1 h.hb).1
 have hgl:g<W.heap.size:=World.block_lt_of_cell? W _ c0
 have hbn:¬ b=W.heap.size:=by omega
 have hgn:¬ g=W.heap.size:=by omega
 have HCP:Hid (∀ w,Bw W w→Calls Tryz.prog 27 #[.agg #[.string r.c.nm,.string r.c.su,.slice ai r.c.ifs.length ci,.int .i64 r.c.fl,.int .i64 r.c.ld,.slice am r.c.ms.length cm]] w fun e w'=>(∃ vi vm qm,e=.returned (.agg #[.string r.c.nm,.string r.c.su,vi,.int .i64 r.c.fl,.int .i64 r.c.ld,vm])∧OwnC w' w.heap.size vi r.c.ifs.length (Z0 r.c.ifs) vm qm∧qm.map Prod.fst=r.c.ms.map hmOf)∧Bw w w'):=fun w hb=>by
  have e1:q.c.ni=r.c.ifs.length:=by rw [hqc];rfl
  have e2:q.c.xi=Z0 r.c.ifs:=by rw [hqc];rfl
  have e3:q.c.ms=r.c.ms.map hmOf:=by rw [hqc];rfl
  have hlen:qm.length=r.c.ms.length:=by have:=congrArg List.length hqm;simpa using this
  have hml:r.c.ms.length≤1000000:=by have:=hB.ms;rw [e3,List.length_map] at this;exact this
  have hcp:=Zak r.c.nm r.c.su r.c.fl r.c.ld r.vi r.vm r.c.ifs.length (Z0 r.c.ifs) qm w (.inl ((Zw ho.ifs).keep hb)) (by rw [← e2];exact hB.xi) (by have:=hB.ni;omega) (.inl ((Zw ho.ms).keep hb)) (by omega) (fun p hp=>by
   have hm:p.1∈q.c.ms:=by rw [e3,← hqm];exact List.mem_map_of_mem hp
   have:=hB.cd p.1 hm
   exact ⟨.inl ((Zw (ho.cod p hp)).keep hb),this.1,by omega⟩)
  rw [hvi,hvm] at hcp
  refine hcp.mono ?_
  rintro e w' ⟨vi,vm,qm',rfl,h1,h2,h3⟩
  exact ⟨⟨vi,vm,qm',rfl,h1,h2.trans hqm⟩,h3⟩
 have hkI:(k:Int)<(rs.length:Int):=by omega
 generalize r.c=c at *
 clear hat ho hqm hB hqc h hr ht hq hc
 go_enter Tryz.func13,Tryz.ntmps13
 go_wp2_with (first
  | (go_at_call 38;refine (HI.out _ sqR).mono ?_;rintro e w9 ⟨rfl,hw9⟩;rw [hw9];clear hw9 w9)
  | (go_at_call 27;refine (HCP.out _ sqR).mono ?_;rintro e w1 ⟨⟨vi,vm,qm1,rfl,ho,hm⟩,hb⟩;obtain ⟨⟨a1,d1,rfl⟩,⟨a2,d2,rfl⟩,_,_⟩:=Ji ho hm;have O1:Hid (OwnC w1 (W.heap.size+1) (.slice a1 c.ifs.length d1) c.ifs.length (Z0 c.ifs) (.slice a2 c.ms.length d2) qm1∧qm1.map Prod.fst=c.ms.map hmOf):=⟨ho.le (by simp),hm⟩;have rrd:=kp6 (n:=W.heap.size) hb (by simp) (Xs _ _);obtain ⟨rrB,rr0,rr1,rr2,rr3,rr4,rr5,rrf,rrL,rrN⟩:=rrd;have B1:Hid (Bw W w1):=Zj sqR hb;clear hb ho hm HCP))
 refine bodyPost_ret (v:=.tuple #[.agg #[.string c.nm,.string c.su,.slice a1 c.ifs.length d1,.int .i64 c.fl,.int .i64 c.ld,.slice a2 c.ms.length d2],.int .i64 0]) (by simp [results,Tryz.results13,go_sem, *]) rfl ⟨⟨_,_,qm1,rfl,?_⟩,?_⟩
 ·have o2:=(((((O1.out.1.setCell (a:=⟨W.heap.size,0,none⟩) (Nat.lt_succ_self _) (.string c.nm)).setCell (a:=⟨W.heap.size,1,none⟩) (Nat.lt_succ_self _) (.string c.su)).setCell (a:=⟨W.heap.size,2,none⟩) (Nat.lt_succ_self _) (.slice a1 c.ifs.length d1)).setCell (a:=⟨W.heap.size,3,none⟩) (Nat.lt_succ_self _) (.int .i64 c.fl)).setCell (a:=⟨W.heap.size,4,none⟩) (Nat.lt_succ_self _) (.int .i64 c.ld)).setCell (a:=⟨W.heap.size,5,none⟩) (Nat.lt_succ_self _) (.slice a2 c.ms.length d2)
  exact ⟨o2.le (by omega),O1.out.2⟩
 ·exact (((((B1.out.setCell (Nat.le_refl _) _).setCell (Nat.le_refl _) _).setCell (Nat.le_refl _) _).setCell (Nat.le_refl _) _).setCell (Nat.le_refl _) _).setCell (Nat.le_refl _) _
theorem Zb2 {P:Program} (w:World) (base:Nat) (t ty e:TypeId) (i:TypeInfo) (z:Value) (size bytes:Nat) (ht:P.underlying t=some (.slice e)) (hi:P.info? e=some i) (hz:i.zero=some z)
 (hsize:i.size=size) (hby:i.bytes=bytes) (hzs:z.cells.size=size) (hsz:0<size)
 (v:Value) (n:Nat) (xs:List Value) (hown:w.ownsRow base e size v n xs)
 (a:Addr) (m c:Nat) (news:List Value) (hl:news.length=m * size) (hnews:∀ j u,news[j]?=some u→w.cell? (a.add j)=some u) (h1:∀ u∈news,u.oneCell'=true)
 (h63:n+m≤maxLen) (hbytes:(n+m) * bytes≤140737488355328) (hbase:base≤w.heap.size) :
 ∃ v' w',(Builtin.append_ #[t,t] ty #[v,.slice (some a) m c]).run P w=.ok v' w'∧w'.ownsRow base e size v' (n+m) (xs++news)∧w.grownBy w' v.ownBlock∧(∀ k,v'.ownBlock=some k→v.ownBlock=some k∨w.heap.size≤k)∧∀ b0 v0 n0 xs0,n0≤n→w.ownsRow b0 e size v0 n0 xs0→w'.ownsRow b0 e size v0 n0 xs0:=by
 obtain ⟨v',w',hr,h2,h3,_⟩:=run_append_own (P:=P) w base t ty e i z size bytes ht hi hz hsize hby hzs hsz v n xs hown a m c news hl hnews h1 h63 hbytes hbase
 refine ⟨v',w',hr,h2,h3,?_⟩
 have ok:w'.ownsRow w.heap.size e size v' (n+m) (xs++news)→w.grownBy w' none→(∀ k,v'.ownBlock=some k→v.ownBlock=some k∨w.heap.size≤k)∧∀ b0 v0 n0 xs0,n0≤n→w.ownsRow b0 e size v0 n0 xs0→w'.ownsRow b0 e size v0 n0 xs0:=fun r1 r2=>⟨fun k hk=>.inr (r1.lt k hk).1,fun b0 v0 n0 xs0 _ h0=>h0.kept r2 (by cases v0.ownBlock with|none=>exact .inl rfl|some k=>exact .inr (by simp))⟩
 rcases hown.2 with ⟨rfl,rfl⟩|⟨g,cap,cur,rfl,hb,hg,hnc,hcm,hcs,htk⟩
 ·obtain ⟨v2,w2,hr2,r1,r2,_⟩:=run_append_own (P:=P) w w.heap.size t ty e i z size bytes ht hi hz hsize hby hzs hsz (.slice none 0 0) 0 xs ⟨hown.1,.inl ⟨rfl,rfl⟩⟩ a m c news hl hnews h1 h63 hbytes (Nat.le_refl _)
  rw [hr] at hr2
  injection hr2 with e1 e2
  subst e1 e2
  exact ok r1 r2
 ·by_cases hf:cap<n+m
  ·obtain ⟨v2,w2,hr2,r1,r2⟩:=run_append_arg_grows (P:=P) w t ty e i z size bytes ht hi hz hsize hby hzs hsz ⟨g,0,none⟩ n cap xs hown.1 (hown.cells rfl) a m c news hl hnews hf h63 hbytes
   rw [hr] at hr2
   injection hr2 with e1 e2
   subst e1 e2
   exact ok r1 r2
  ·have hfit:n * i.size+news.length≤cur.size:=by rw [hl,hcs,hsize,← Nat.add_mul];exact Nat.mul_le_mul_right _ (by omega)
   have hr2:=run_append_room (P:=P) w t ty e i ht hi g n cap cur hg a m c news (by rw [hsize];exact hl) hnews h1 (by omega) hfit
   rw [hr] at hr2
   injection hr2 with e1 e2
   subst e1 e2
   refine ⟨fun k hk=>.inl hk,fun b0 v0 n0 xs0 hn0 h0=>?_⟩
   by_cases hv:v0.ownBlock=some g
   ·refine ⟨h0.1,?_⟩
    rcases h0.2 with ⟨rfl,rfl⟩|⟨g0,cap0,cur0,rfl,hb0,hg0,q1,q2,q3,q4⟩
    ·exact .inl ⟨rfl,rfl⟩
    ·obtain rfl:g0=g:=by simpa [Value.ownBlock] using hv
     rw [hg] at hg0
     injection hg0 with hg0
     injection hg0 with hc0
     subst hc0
     have hle:n0 * size≤n * i.size:=by rw [hsize];exact Nat.mul_le_mul_right _ hn0
     refine .inr ⟨g0,cap0,_,rfl,hb0,setRow_heap w g0 cur _ e _ hg,q1,q2,?_,?_⟩
     ·rw [← q3]
      simp only [List.size_toArray,List.length_append,List.length_take,List.length_drop,Array.length_toList]
      omega
     ·rw [← q4]
      simp only [List.append_assoc]
      rw [List.take_append_of_le_length (by rw [List.length_take,Array.length_toList];omega),List.take_take,Nat.min_eq_left hle]
   ·exact h0.kept h3 (.inr (by simpa [Value.ownBlock] using hv))
theorem Jv {P:Program} {w:World} {ops:Array Oper} {rest:List Oper} {o:Oper} {a:Act} {Q:Exit→Act→World→Prop} (hgd:o.guard=none) (s x:Operand) (t:TypeId)
 (ho:o.op=.call { callee:=.builtin .append,args:=#[s,x],argTypes:=#[t,t] })
 (base:Nat) (e:TypeId) (i:TypeInfo) (z:Value) (size bytes:Nat) (ht:P.underlying t=some (.slice e)) (hi:P.info? e=some i) (hz:i.zero=some z)
 (hsize:i.size=size) (hby:i.bytes=bytes) (hzs:z.cells.size=size) (hsz:0<size)
 (v:Value) (n:Nat) (xs:List Value) (hs:a.eval s=v) (hown:w.ownsRow base e size v n xs)
 (ad:Addr) (m c:Nat) (news:List Value) (hx:a.eval x=.slice (some ad) m c) (hl:news.length=m * size) (hnews:∀ j u,news[j]?=some u→w.cell? (ad.add j)=some u) (h1:∀ u∈news,u.oneCell'=true)
 (h63:n+m≤maxLen) (hbytes:(n+m) * bytes≤140737488355328) (hbase:base≤w.heap.size)
 (h:∀ v' w',w'.ownsRow base e size v' (n+m) (xs++news)→w.grownBy w' v.ownBlock→(∀ k,v'.ownBlock=some k→v.ownBlock=some k∨w.heap.size≤k)→(∀ b0 v0 n0 xs0,n0≤n→w.ownsRow b0 e size v0 n0 xs0→w'.ownsRow b0 e size v0 n0 xs0)→wpList P ops Q rest (a.put o.dst v') w') :
 wpList P ops Q (o::rest) a w:=by
 refine wpList_plain hgd fun K hK=>?_
 obtain ⟨v',w',hr,h2,h3,h4,h5⟩:=Zb2 (P:=P) w base t o.type e i z size bytes ht hi hz hsize hby hzs hsz v n xs hown ad m c news hl hnews h1 h63 hbytes hbase
 unfold Oper.wp execOp
 simp only [ho,resolve,invoke,builtin,Sem.run_bind,Sem.run_pure,Result.andThen_ok,List.map_toArray,List.map_cons,List.map_nil,hs,hx,hr]
 exact hK _ _ (h v' w' h2 h3 h4 h5)
abbrev SlT:=Option Addr×Nat×Nat
def slV (r:SlT):Value:=.slice r.1 r.2.1 r.2.2
def nmv (j:Nat):Value:=.int .i64 (-1 - (j:Int))
structure NaS (N:Nat) (R:List SlT) (W:World):Prop where
 own:∀ (j:Nat) (r:SlT),R[j]?=some r→∃ xs,W.ownsRow N 3 1 (slV r) r.2.1 xs
 apart:∀ (j j':Nat) (r r':SlT) (k:Nat),R[j]?=some r→R[j']?=some r'→(slV r).ownBlock=some k→(slV r').ownBlock=some k→j=j'
 base:N≤W.heap.size
def KpR (N:Nat) (R:List SlT) (W w:World):Prop:=Below N W w∧∀ k,k<W.heap.size→(∀ (j:Nat) (r:SlT),R[j]?=some r→(slV r).ownBlock≠some k)→w.heap[k]?=W.heap[k]?
theorem KpR.refl (N:Nat) (R:List SlT) (W:World):KpR N R W W:=⟨Below.refl _ _,fun _ _ _=>rfl⟩
theorem KpR.alloc {N:Nat} {R:List SlT} {W w:World} (h:KpR N R W w) (hN:N≤W.heap.size) (o:Obj):KpR N R W (w.alloc o) :=
 ⟨h.1.alloc (Nat.le_trans hN h.1.size) o,fun k hk hr=>(Below.heap_alloc _ _ _ (Nat.lt_of_lt_of_le hk h.1.size)).trans (h.2 k hk hr)⟩
theorem KpR.grown {N:Nat} {R:List SlT} {W w w':World} {row:Option Nat} (h:KpR N R W w) (hN:N≤W.heap.size) (hg:w.grownBy w' row) (hr:∀ k,row=some k→N≤k∧((∃ (j:Nat) (r:SlT),R[j]?=some r∧(slV r).ownBlock=some k)∨W.heap.size≤k)):KpR N R W w':=by
 refine ⟨h.1.grown hg (Nat.le_trans hN h.1.size) (fun k hk=>(hr k hk).1),fun k hk hn=>?_⟩
 refine (hg.block k (Nat.lt_of_lt_of_le hk h.1.size) (fun e=>?_)).trans (h.2 k hk hn)
 rcases (hr k e.symm).2 with ⟨j,r,h1,h2⟩|h1
 ·exact hn j r h1 h2
 ·omega
def RowsA (N:Nat) (R:List SlT) (i q:Nat) (w:World):Prop:=∀ (j:Nat) (r:SlT),R[j]?=some r→∃ xs,w.ownsRow N 3 1 (slV r) r.2.1 xs∧(j<i→xs=List.replicate r.2.1 (nmv j))∧(j=i→xs.take q=List.replicate q (nmv i))
theorem RowsA.start {N:Nat} {R:List SlT} {W:World} (h:NaS N R W):RowsA N R 0 0 W:=fun j r hj=>by
 obtain ⟨xs,h1⟩:=h.own j r hj
 exact ⟨xs,h1,fun h=>absurd h (by omega),fun _=>by simp⟩
theorem RowsA.next {N:Nat} {R:List SlT} {i:Nat} {w:World} {r:SlT} (h:RowsA N R i r.2.1 w) (hr:R[i]?=some r):RowsA N R (i+1) 0 w:=fun j r' hj=>by
 obtain ⟨xs,h1,h2,h3⟩:=h j r' hj
 refine ⟨xs,h1,fun hlt=>?_,fun _=>by simp⟩
 by_cases e:j=i
 ·subst e
  rw [hr] at hj
  injection hj with hj
  subst hj
  have:=h3 rfl
  rwa [List.take_of_length_le (by rw [h1.1];omega)] at this
 ·exact h2 (by omega)
theorem RowsA.kept {N:Nat} {R:List SlT} {i q:Nat} {w w':World} {row:Option Nat} (h:RowsA N R i q w) (hg:w.grownBy w' row) (hr:∀ k,row=some k→∀ (j:Nat) (r:SlT),R[j]?=some r→(slV r).ownBlock≠some k):RowsA N R i q w':=fun j r hj=>by
 obtain ⟨xs,h1,h2⟩:=h j r hj
 refine ⟨xs,h1.kept hg ?_,h2⟩
 cases ob:(slV r).ownBlock with
 | none=>exact .inl rfl
 | some k=>exact .inr fun e=>hr k e.symm j r hj ob
theorem RowsA.store {N:Nat} {R:List SlT} {W w:World} {i q g c n:Nat} (S:NaS N R W) (h:RowsA N R i q w) (hr:R[i]?=some (some ⟨g,0,none⟩,n,c)) (hq:q<n):RowsA N R i (q+1) (w.setCell ⟨g,q,none⟩ (nmv i))∧w.grownBy (w.setCell ⟨g,q,none⟩ (nmv i)) (some g):=by
 obtain ⟨ys,hi1,hi2,hi3⟩:=h i _ hr
 have st:=World.ownsRow.stored hi1 q (nmv i)
 refine ⟨fun j r hj=>?_,st.2⟩
 by_cases e:j=i
 ·subst e
  rw [hr] at hj
  injection hj with hj
  subst hj
  refine ⟨_,st.1,fun hlt=>absurd hlt (by omega),fun _=>?_⟩
  have hl:q<ys.length:=by have:=hi1.1;simp only at this;omega
  rw [List.take_add_one,List.getElem?_set_self hl,List.take_set,List.set_eq_of_length_le (by rw [List.length_take];omega),hi3 rfl,List.replicate_succ']
  rfl
 ·obtain ⟨xs,h1,h2,h3⟩:=h j r hj
  refine ⟨xs,h1.kept st.2 ?_,h2,fun e1=>absurd e1 e⟩
  cases ob:(slV r).ownBlock with
  | none=>exact .inl rfl
  | some k=>exact .inr fun e1=>e (S.apart j i r _ k hj hr ob e1.symm)
theorem NaS.blk {N:Nat} {R:List SlT} {W:World} (S:NaS N R W) {j k:Nat} {r:SlT} (hj:R[j]?=some r) (hk:(slV r).ownBlock=some k):N≤k∧k<W.heap.size:=by
 obtain ⟨xs,h⟩:=S.own j r hj
 exact h.lt k hk
def RowsB (N:Nat) (R:List SlT) (w:World):Prop:=∀ (j:Nat) (r:SlT),R[j]?=some r→w.ownsRow N 3 1 (slV r) r.2.1 (List.replicate r.2.1 (nmv j))
theorem RowsA.full {N:Nat} {R:List SlT} {w:World} (h:RowsA N R R.length 0 w):RowsB N R w:=fun j r hj=>by
 obtain ⟨xs,h1,h2,_⟩:=h j r hj
 have hl:j<R.length:=(List.getElem?_eq_some_iff.1 hj).1
 rw [← h2 hl]
 exact h1
def GrB (N:Nat) (R:List SlT) (W:World) (i Z:Nat) (G:List Value) (w:World):Prop:=∀ (j:Nat) (r:SlT),j<i→R[j]?=some r→∃ a c,G[j]?=some (.slice a (r.2.1+40) c)∧w.ownsRow N 3 1 (.slice a (r.2.1+40) c) (r.2.1+40) (List.replicate (r.2.1+40) (nmv j))∧∀ k,(Value.slice a (r.2.1+40) c).ownBlock=some k→((slV r).ownBlock=some k∨W.heap.size<k)∧k<Z
def CurB (N:Nat) (r:SlT) (i q Z:Nat) (a:Option Addr) (c:Nat) (w:World):Prop:=w.ownsRow N 3 1 (.slice a (r.2.1+q) c) (r.2.1+q) (List.replicate (r.2.1+q) (nmv i))∧∀ k,(Value.slice a (r.2.1+q) c).ownBlock=some k→(slV r).ownBlock=some k∨Z≤k
theorem appB {N:Nat} {R:List SlT} {W w w':World} {i q Z:Nat} {G:List Value} {r:SlT} {a:Option Addr} {c:Nat} (S:NaS N R W) (hK:KpR N R W w) (hB:RowsB N R w) (hG:GrB N R W i Z G w) (hr:R[i]?=some r) (hC:CurB N r i q Z a c w) (hZ:W.heap.size<Z) (hZw:Z≤w.heap.size) (hg:w.grownBy w' (Value.slice a (r.2.1+q) c).ownBlock) (hk:∀ b0 v0 n0 xs0,n0≤r.2.1+q→w.ownsRow b0 3 1 v0 n0 xs0→w'.ownsRow b0 3 1 v0 n0 xs0):KpR N R W w'∧RowsB N R w'∧GrB N R W i Z G w'∧w'.heap[W.heap.size]?=w.heap[W.heap.size]?:=by
 have hN:=S.base
 refine ⟨hK.grown hN hg (fun k e=>?_),fun j r' hj=>?_,fun j r' hji hj=>?_,?_⟩
 ·rcases hC.2 k e with h|h
  ·exact ⟨(S.blk hr h).1,.inl ⟨i,r,hr,h⟩⟩
  ·exact ⟨by omega,.inr (by omega)⟩
 ·have h0:=hB j r' hj
  by_cases e:j=i
  ·subst e
   rw [hr] at hj
   injection hj with hj
   subst hj
   exact hk _ _ _ _ (by omega) h0
  ·refine h0.kept hg ?_
   cases ob:(slV r').ownBlock with
   | none=>exact .inl rfl
   | some k =>
     refine .inr fun e1=>?_
     have hb:=(S.blk hj ob).2
     rcases hC.2 k e1.symm with h|h
     ·exact e (S.apart j i r' r k hj hr ob h)
     ·omega
 ·obtain ⟨a',c',g1,g2,g3⟩:=hG j r' hji hj
  refine ⟨a',c',g1,g2.kept hg ?_,g3⟩
  cases ob:(Value.slice a' (r'.2.1+40) c').ownBlock with
  | none=>exact .inl rfl
  | some k =>
    refine .inr fun e1=>?_
    obtain ⟨p1,p2⟩:=g3 k ob
    rcases hC.2 k e1.symm with h|h
    ·have hb:=(S.blk hr h).2
     rcases p1 with p1|p1
     ·have:=S.apart j i r' r k hj hr p1 h
      omega
     ·omega
    ·omega
 ·refine hg.block _ (by omega) (fun e1=>?_)
  rcases hC.2 _ e1.symm with h|h
  ·have:=(S.blk hr h).2
   omega
  ·omega
theorem CurB.start {N:Nat} {R:List SlT} {w:World} {i Z:Nat} {r:SlT} (hB:RowsB N R w) (hr:R[i]?=some r):CurB N r i 0 Z r.1 r.2.2 w:=⟨hB i r hr,fun _ hk=>.inl hk⟩
theorem GrB.next {N:Nat} {R:List SlT} {W w:World} {i Z Z':Nat} {G:List Value} {r:SlT} {a:Option Addr} {c:Nat} (hG:GrB N R W i Z G w) (hr:R[i]?=some r) (hC:CurB N r i 40 Z a c w) (hZ:W.heap.size<Z) (hZ1:Z≤w.heap.size) (hZ2:w.heap.size≤Z') (hi:i<G.length):GrB N R W (i+1) Z' (G.set i (.slice a (r.2.1+40) c)) w:=fun j r' hji hj=>by
 by_cases e:j=i
 ·subst e
  rw [hr] at hj
  injection hj with hj
  subst hj
  refine ⟨a,c,by rw [List.getElem?_set_self hi],hC.1,fun k hk=>⟨?_,Nat.lt_of_lt_of_le (hC.1.lt k hk).2 hZ2⟩⟩
  rcases hC.2 k hk with h|h
  ·exact .inl h
  ·exact .inr (by omega)
 ·obtain ⟨a',c',g1,g2,g3⟩:=hG j r' (by omega) hj
  exact ⟨a',c',by rw [List.getElem?_set_ne (by omega)];exact g1,g2,fun k hk=>⟨(g3 k hk).1,by have:=(g3 k hk).2;omega⟩⟩
theorem RowsB.kept {N:Nat} {R:List SlT} {w w':World} {k0:Nat} (h:RowsB N R w) (hg:w.grownBy w' (some k0)) (hr:∀ (j:Nat) (r:SlT),R[j]?=some r→(slV r).ownBlock≠some k0):RowsB N R w':=fun j r hj=>by
 refine (h j r hj).kept hg ?_
 cases ob:(slV r).ownBlock with
 | none=>exact .inl rfl
 | some k=>exact .inr fun e=>hr j r hj (by rw [ob,e])
theorem GrB.kept {N:Nat} {R:List SlT} {W w w':World} {i Z k0:Nat} {G:List Value} (h:GrB N R W i Z G w) (hg:w.grownBy w' (some k0)) (h0:k0=W.heap.size) (hr:∀ (j:Nat) (r:SlT),R[j]?=some r→(slV r).ownBlock≠some k0):GrB N R W i Z G w':=fun j r hji hj=>by
 obtain ⟨a',c',g1,g2,g3⟩:=h j r hji hj
 refine ⟨a',c',g1,g2.kept hg ?_,g3⟩
 cases ob:(Value.slice a' (r.2.1+40) c').ownBlock with
 | none=>exact .inl rfl
 | some k =>
   refine .inr fun e=>?_
   injection e with e
   subst e
   rcases (g3 k ob).1 with h1|h1
   ·exact hr j r hj h1
   ·omega
theorem Tryz.hinfoIn2:(Tryz.prog.info? 3).map (fun i=>(i.zero,i.size,i.bytes))=some (some (.int .i64 0),1,8):=by kernel_rfl
theorem Tryz.hinfoSl:(Tryz.prog.info? 57).map (fun i=>(i.zero,i.size,i.bytes))=some (some (.slice none 0 0),1,24):=by kernel_rfl
theorem apart_c (N:Nat) (R:List SlT) (W:World) (gl cl:Nat) (S:NaS N R W) (hl:W.heap[gl]?=some (.cells (R.map slV).toArray 57 (0,0))) (hM:R.length≤100) (hn:∀ (j:Nat) (r:SlT),R[j]?=some r→r.2.1≤1000000):Calls Tryz.prog 19 #[.slice (some ⟨gl,0,none⟩) R.length cl] W fun e w'=>e=.returned (.bool true)∧KpR N R W w':=by
 obtain ⟨M,hMe⟩:∃ M,R.length=M:=⟨_,rfl⟩
 have HM:Hid (R.length=M):=hMe
 rw [hMe] at hM ⊢
 clear hMe
 have SS:Hid (NaS N R W):=S
 have glL:gl<W.heap.size:=(Array.getElem?_eq_some_iff.1 hl).1
 have GLn:∀ (j:Nat) (r:SlT),R[j]?=some r→(slV r).ownBlock≠some gl:=fun j r hj e=>by
  obtain ⟨xs,h⟩:=S.own j r hj
  rcases h.2 with ⟨e1,_⟩|⟨g,cap,cur,e1,_,h3,_⟩
  ·rw [e1] at e;cases e
  ·rw [e1] at e
   injection e with e
   simp only at e
   subst e
   rw [hl] at h3
   injection h3 with h3
   injection h3 with _ h3
   exact absurd h3 (by decide)
 have CE:Hid (∀ w,KpR N R W w→∀ (j:Nat) (a:Option Addr) (n c:Nat),R[j]?=some (a,n,c)→w.cell? ⟨gl,j,none⟩=some (.slice a n c)):=fun w h j a n c hj=>by
  rw [cell_of_row w gl j _ _ _ ((h.2 gl glL GLn).trans hl)]
  simp [hj,slV]
 have HN:Hid (∀ (j:Nat) (r:SlT),R[j]?=some r→r.2.1≤1000000):=hn
 clear S glL GLn hl hn
 obtain ⟨i0,hi0,hz0,hz1,hz2⟩:=info_parts Tryz.hinfoIn2
 obtain ⟨iM,hiM,hzM,hsM,hbM⟩:=info_parts Tryz.hinfoSl
 obtain ⟨G0,hG0,hGl⟩:∃ G0:List Value,madeCells (Value.slice none 0 0).cells (M * 1)=G0.toArray∧G0.length=M:=⟨(madeCells (Value.slice none 0 0).cells (M * 1)).toList,by simp,by rw [Array.length_toList,size_madeCells];omega⟩
 have hmk:∀ w:World,(Instr.makeSlice 61 (.int .i64 (M:Int)) (.int .i64 (M:Int))).run Tryz.prog w=.ok (.slice (some ⟨w.heap.size,0,none⟩) M M) (w.alloc (.cells G0.toArray 57)):=fun w=>by
  have:=run_make w (P:=Tryz.prog) 61 57 iM _ Tryz.underlying61 hiM hzM .i64 .i64 (M:Int) (M:Int) (by omega) (Int.le_refl _) (by rw [hbM];omega) (by omega)
  rw [hsM,Int.toNat_natCast,hG0] at this
  exact this
 have A0:Hid (KpR N R W (W.alloc (.cells G0.toArray 57))∧RowsA N R 0 0 (W.alloc (.cells G0.toArray 57))∧(W.alloc (.cells G0.toArray 57)).heap[W.heap.size]?=some (.cells G0.toArray 57 (0,0))) :=
  ⟨(KpR.refl N R W).alloc SS.out.base _,(RowsA.start SS.out).kept (World.grownBy_alloc W _ none) (fun k e=>by cases e),Xs _ _⟩
 go_enter Tryz.func19,Tryz.ntmps19
 go_wp2
 go_loopw [4] (fun iv wr=>∃ i:Nat,iv=.int .i64 i∧i≤M∧Hid (KpR N R W wr∧RowsA N R i 0 wr∧wr.heap[W.heap.size]?=some (.cells G0.toArray 57 (0,0)))) (fun iv _=>M - (intOf iv).toNat)
 case atStart=>exact ⟨0,rfl,Nat.zero_le _,A0.out⟩
 case round =>
  obtain ⟨i,rfl,hi,hI⟩:=hrel
  clear A0 hmk
  by_cases hlt:i<M
  ·have hiI:(i:Int)<(M:Int):=by omega
   obtain ⟨⟨a,n,c⟩,hr⟩:∃ r,R[i]?=some r:=⟨_,List.getElem?_eq_getElem (by rw [HM.out];exact hlt)⟩
   have hn:n≤1000000:=HN.out i _ hr
   have HR:Hid (R[i]?=some (a,n,c)):=hr
   clear hr
   go_wp2
   go_loopw [5] (fun jv wq=>∃ q:Nat,jv=.int .i64 q∧q≤n∧Hid (KpR N R W wq∧RowsA N R i q wq∧wq.heap[W.heap.size]?=some (.cells G0.toArray 57 (0,0)))) (fun jv _=>n - (intOf jv).toNat)
   case atStart=>exact ⟨0,rfl,Nat.zero_le _,hI.out⟩
   case round =>
    obtain ⟨q,rfl,hq,hQ⟩:=hrel
    have x0:=CE.out _ hQ.out.1 i a n c HR.out
    by_cases hq2:q<n
    ·have hqI:(q:Int)<(n:Int):=by omega
     obtain ⟨xs,h1,_⟩:=hQ.out.2.1 i _ HR.out
     obtain ⟨g,cp,hf⟩:=Go.Joins.ownsRow_form h1 (by show 0<n;omega)
     injection hf with e1 _ e2
     simp only at e1 e2
     subst e1 e2
     have hlen:xs.length=n * 1:=h1.1
     have y0:=(World.ownsRow.cellAt h1 q (by show q<n * 1;omega)).trans (List.getElem?_eq_getElem (by omega))
     generalize xs[q]=yv at y0
     have yf:=World.ownsRow.frozenAt h1 q
     have hwr:IntKind.i64.wrap (-1 - (i:Int))=-1 - (i:Int):=by rw [IntKind.wrap_i64];omega
     have NX:Hid (KpR N R W (wr.setCell ⟨g,q,none⟩ (.int .i64 (-1 - (i:Int))))∧RowsA N R i (q+1) (wr.setCell ⟨g,q,none⟩ (.int .i64 (-1 - (i:Int))))∧(wr.setCell ⟨g,q,none⟩ (.int .i64 (-1 - (i:Int)))).heap[W.heap.size]?=some (.cells G0.toArray 57 (0,0))):=by
      have st:=RowsA.store SS.out hQ.out.2.1 HR.out hq2
      have bl:=SS.out.blk HR.out (k:=g) rfl
      refine ⟨hQ.out.1.grown SS.out.base st.2 (fun k e=>?_),st.1,?_⟩
      ·injection e with e
       subst e
       exact ⟨bl.1,.inl ⟨i,_,HR.out,rfl⟩⟩
      ·exact (heap_setCell_other _ _ _ _ (by simp;omega)).trans hQ.out.2.2
     clear h1 hlen
     go_wp2
     exact ⟨⟨q+1,by simp,by omega,NX.out⟩,by simp [intOf];omega⟩
    ·have e:q=n:=by omega
     subst e
     go_wp2
     exact ⟨⟨i+1,by simp,by omega,hQ.out.1,RowsA.next (r:=(a,q,c)) hQ.out.2.1 HR.out,hQ.out.2.2⟩,by simp [intOf];omega⟩
  ·have e:i=M:=by omega
   subst e
   have hI2:=hI.out
   have B0:Hid (KpR N R W wr∧RowsB N R wr∧∃ G:List Value,G.length=i∧wr.heap[W.heap.size]?=some (.cells G.toArray 57 (0,0))∧GrB N R W 0 wr.heap.size G wr):=⟨hI2.1,by have:=hI2.2.1;rw [← HM.out] at this;exact this.full,G0,hGl,hI2.2.2,fun j r hj=>absurd hj (by omega)⟩
   clear hI hI2
   go_wp2
   go_loopw [6] (fun iv wp=>∃ m:Nat,iv=.int .i64 m∧m≤i∧Hid (KpR N R W wp∧RowsB N R wp∧∃ G:List Value,G.length=i∧wp.heap[W.heap.size]?=some (.cells G.toArray 57 (0,0))∧GrB N R W m wp.heap.size G wp)) (fun iv _=>i - (intOf iv).toNat)
   case atStart=>exact ⟨0,rfl,Nat.zero_le _,B0.out⟩
   case round =>
    obtain ⟨m,rfl,hm,hP⟩:=hrel
    by_cases hlt2:m<i
    ·have hmI:(m:Int)<(i:Int):=by omega
     obtain ⟨⟨a,n,c⟩,hr⟩:∃ r,R[m]?=some r:=⟨_,List.getElem?_eq_getElem (by rw [HM.out];exact hlt2)⟩
     have hn:n≤1000000:=HN.out m _ hr
     have HR:Hid (R[m]?=some (a,n,c)):=hr
     clear hr B0
     obtain ⟨hK,hB,G,hGL,hGh,hGB⟩:=hP.out
     have x0:=CE.out _ hK m a n c HR.out
     obtain ⟨Z,hZ⟩:∃ Z,wr.heap.size=Z:=⟨_,rfl⟩
     have hZ1:W.heap.size<Z:=by rw [← hZ];exact (Array.getElem?_eq_some_iff.1 hGh).1
     rw [hZ] at hGB
     have C0:Hid (KpR N R W wr∧RowsB N R wr∧GrB N R W m Z G wr∧CurB N (a,n,c) m 0 Z a c wr∧wr.heap[W.heap.size]?=some (.cells G.toArray 57 (0,0))∧Z≤wr.heap.size):=⟨hK,hB,hGB,CurB.start hB HR.out,hGh,by omega⟩
     clear hP hK hB hGh hGB hZ
     go_wp2
     go_loopw [7,8] (fun gv kv wq=>∃ (q:Nat) (a':Option Addr) (c':Nat),kv=.int .i64 q∧gv=.slice a' (n+q) c'∧q≤40∧Hid (KpR N R W wq∧RowsB N R wq∧GrB N R W m Z G wq∧CurB N (a,n,c) m q Z a' c' wq∧wq.heap[W.heap.size]?=some (.cells G.toArray 57 (0,0))∧Z≤wq.heap.size)) (fun _ kv _=>40 - (intOf kv).toNat)
     case atStart=>exact ⟨0,a,c,rfl,rfl,Nat.zero_le _,C0.out⟩
     case round =>
      obtain ⟨q,a',c',rfl,rfl,hq,hQ⟩:=hrel
      clear C0 x0
      by_cases hq2:q<40
      ·have hqI:(q:Int)<40:=by omega
       have hwr:IntKind.i64.wrap (-1 - (m:Int))=-1 - (m:Int):=by rw [IntKind.wrap_i64];omega
       go_wp2_with (at_builtin;refine Jv rfl _ _ 57 rfl N 3 i0 (.int .i64 0) 1 8 Tryz.underlying57 hi0 hz0 hz1 hz2 rfl (by decide) (.slice a' (n+q) c') (n+q) (List.replicate (n+q) (nmv m)) rfl (hQ.out.2.2.2.1.1.alloc _) ⟨wr.heap.size,0,none⟩ 1 1 [nmv m] rfl rfl ?c1 ?c2 ?c3 ?c4 ?c5 ?_)
       case c1=>exact World.news_of_block (cs:=#[nmv m]) (Xs _ _)
       case c2=>intro u hu;simp at hu;rw [hu];rfl
       case c3=>unfold maxLen;omega
       case c4=>omega
       case c5=>have h1:=SS.out.base;have h2:=hQ.out.1.1.size;simp;omega
       intro v' w4 hown hgrow hblk hkp
       obtain ⟨a4,c4,rfl⟩:=ownv hown
       obtain ⟨hK,hB,hG,hC,hH,hZw⟩:=hQ.out
       have NX:Hid (KpR N R W w4∧RowsB N R w4∧GrB N R W m Z G w4∧CurB N (a,n,c) m (q+1) Z a4 c4 w4∧w4.heap[W.heap.size]?=some (.cells G.toArray 57 (0,0))∧Z≤w4.heap.size):=by
        have hlt:W.heap.size<wr.heap.size:=by omega
        have ap:=appB (a:=a') (c:=c') SS.out (hK.alloc SS.out.base _) (fun j r hj=>(hB j r hj).alloc _) (fun j r h1 h2=>by obtain ⟨u1,u2,u3,u4,u5⟩:=hG j r h1 h2;exact ⟨u1,u2,u3,u4.alloc _,u5⟩) HR.out ⟨hC.1.alloc _,hC.2⟩ hZ1 (by simp;omega) hgrow hkp
        refine ⟨ap.1,ap.2.1,ap.2.2.1,⟨?_,fun k hk=>?_⟩,ap.2.2.2.trans ((Below.heap_alloc _ _ _ hlt).trans hH),?_⟩
        ·have e:=List.replicate_succ' (n:=n+q) (a:=nmv m)
         show w4.ownsRow N 3 1 (.slice a4 (n+(q+1)) c4) (n+(q+1)) (List.replicate (n+(q+1)) (nmv m))
         rw [← Nat.add_assoc,e]
         exact hown
        ·rcases hblk k hk with h|h
         ·exact hC.2 k h
         ·exact .inr (by first|omega|(simp at h;omega))
        ·have:=hgrow.size
         simp at this
         omega
       clear hown hgrow hblk hkp hK hB hG hC hH hZw hQ
       go_wp2
       exact ⟨⟨q+1,a4,c4,by simp,rfl,by omega,NX.out⟩,by simp [intOf];omega⟩
      ·have e:q=40:=by omega
       subst e
       obtain ⟨hK,hB,hG,hC,hH,hZw⟩:=hQ.out
       obtain ⟨yv,hyv⟩:∃ yv,G[m]?=some yv:=⟨_,List.getElem?_eq_getElem (by omega)⟩
       have y0:wr.cell? ⟨W.heap.size,m,none⟩=some yv:=(cell_of_row wr W.heap.size m _ _ _ hH).trans (by rw [List.getElem?_toArray];exact hyv)
       clear hyv
       have yf:=frozen_of_row wr W.heap.size m _ _ hH
       have NX:Hid (KpR N R W (wr.setCell ⟨W.heap.size,m,none⟩ (.slice a' (n+40) c'))∧RowsB N R (wr.setCell ⟨W.heap.size,m,none⟩ (.slice a' (n+40) c'))∧∃ G:List Value,G.length=i∧(wr.setCell ⟨W.heap.size,m,none⟩ (.slice a' (n+40) c')).heap[W.heap.size]?=some (.cells G.toArray 57 (0,0))∧GrB N R W (m+1) (wr.setCell ⟨W.heap.size,m,none⟩ (.slice a' (n+40) c')).heap.size G (wr.setCell ⟨W.heap.size,m,none⟩ (.slice a' (n+40) c'))):=by
        have gs:=Zn wr W.heap.size m (.slice a' (n+40) c')
        have ne:∀ (j:Nat) (r:SlT),R[j]?=some r→(slV r).ownBlock≠some W.heap.size:=fun j r hj e=>by have:=(SS.out.blk hj e).2;omega
        refine ⟨hK.grown SS.out.base gs (fun k e=>?_),hB.kept gs ne,G.set m (.slice a' (n+40) c'),by rw [List.length_set];exact hGL,?_,?_⟩
        ·injection e with e
         subst e
         exact ⟨SS.out.base,.inr (Nat.le_refl _)⟩
        ·rw [heap_setCell_same _ _ _ _ _ _ hH]
         simp
        ·exact (GrB.next (r:=(a,n,c)) hG HR.out hC hZ1 hZw (by simp) (by omega)).kept gs rfl ne
       clear hK hB hG hC hH hZw hQ
       go_wp2
       exact ⟨⟨m+1,by simp,by omega,NX.out⟩,by simp [intOf];omega⟩
    ·have e:m=i:=by omega
     subst e
     obtain ⟨hK,hB,G,hGL,hGh,hGB⟩:=hP.out
     clear hP B0
     have D0:Hid (KpR N R W wr):=hK
     have GC:Hid (∀ (j:Nat) (a:Option Addr) (n c:Nat),R[j]?=some (a,n,c)→wr.cell? ⟨gl,j,none⟩=some (.slice a n c)):=CE.out _ hK
     have GG:Hid (∀ (j:Nat) (a:Option Addr) (n c:Nat),R[j]?=some (a,n,c)→∃ a' c',wr.cell? ⟨W.heap.size,j,none⟩=some (.slice a' (n+40) c')∧wr.ownsRow N 3 1 (.slice a' (n+40) c') (n+40) (List.replicate (n+40) (nmv j))):=fun j a n c hj=>by
      obtain ⟨a',c',u1,u2,_⟩:=hGB j _ (by rw [← HM.out];exact (List.getElem?_eq_some_iff.1 hj).1) hj
      exact ⟨a',c',by rw [cell_of_row wr W.heap.size j _ _ _ hGh,List.getElem?_toArray];exact u1,u2⟩
     have RB:Hid (RowsB N R wr):=hB
     clear hK hB hGL hGh hGB CE
     obtain ⟨wz,hwz⟩:∃ wz,wr=wz:=⟨_,rfl⟩
     rw [hwz] at D0 GC GG RB ⊢
     clear hwz
     go_wp2
     go_loopw [9] (fun iv wr=>∃ i:Nat,iv=.int .i64 i∧i≤m∧wr=wz) (fun iv _=>m - (intOf iv).toNat)
     case atStart=>exact ⟨0,rfl,Nat.zero_le _,rfl⟩
     case round =>
      obtain ⟨i,rfl,hi3,hwz⟩:=hrel
      rw [hwz]
      clear hwz
      by_cases hlt3:i<m
      ·have hiI:(i:Int)<(m:Int):=by omega
       obtain ⟨⟨a,n,c⟩,hr⟩:∃ r,R[i]?=some r:=⟨_,List.getElem?_eq_getElem (by rw [HM.out];exact hlt3)⟩
       have hn:n≤1000000:=HN.out i _ hr
       have x0:=GC.out i a n c hr
       obtain ⟨a',c',x1,hO⟩:=GG.out i a n c hr
       have hL:=RB.out i _ hr
       obtain ⟨g',cp',hf⟩:=Go.Joins.ownsRow_form hO (by omega)
       injection hf with e1 _ e2
       subst e1 e2
       have hwr:IntKind.i64.wrap (-1 - (i:Int))=-1 - (i:Int):=by rw [IntKind.wrap_i64];omega
       clear hr
       go_wp2
       go_loopw [10] (fun jv wr=>∃ q:Nat,jv=.int .i64 q∧q≤n+40∧wr=wz) (fun jv _=>n+40 - (intOf jv).toNat)
       case atStart=>exact ⟨0,rfl,Nat.zero_le _,rfl⟩
       case round =>
        obtain ⟨q,rfl,hq,hwz⟩:=hrel
        rw [hwz]
        clear hwz
        by_cases hq2:q<n+40
        ·have hqI:(q:Int)<((n+40:Nat):Int):=by omega
         have y0:wz.cell? ⟨g',q,none⟩=some (.int .i64 (-1 - (i:Int))):=(World.ownsRow.cellAt hO q (by omega)).trans (by rw [List.getElem?_replicate,if_pos hq2];rfl)
         by_cases hq3:q<n
         ·have hq3I:(q:Int)<(n:Int):=by omega
          obtain ⟨g,cp,hf⟩:=Go.Joins.ownsRow_form hL (by show 0<n;omega)
          injection hf with e1 _ e2
          simp only at e1 e2
          subst e1 e2
          have z0:wz.cell? ⟨g,q,none⟩=some (.int .i64 (-1 - (i:Int))):=(World.ownsRow.cellAt hL q (by show q<n * 1;omega)).trans (by rw [List.getElem?_replicate,if_pos hq3];rfl)
          clear hL hO
          go_wp2
          exact ⟨⟨q+1,by simp,by omega,trivial⟩,by simp [intOf];omega⟩
         ·have hq3I:¬ (q:Int)<(n:Int):=by omega
          clear hL hO
          go_wp2
          exact ⟨⟨q+1,by simp,by omega,trivial⟩,by simp [intOf];omega⟩
        ·have e:q=n+40:=by omega
         subst e
         go_wp2
         exact ⟨⟨i+1,by simp,by omega,trivial⟩,by simp [intOf];omega⟩
      ·have e:i=m:=by omega
       subst e
       go_wp2
       exact bodyPost_ret (results_tmp rfl _ _ _) rfl ⟨rfl,D0.out⟩
def ClsO (N:Nat) (c:Cls) (E:Int) (e:Ending) (w':World):Prop:=∃ ai ci am cm qm,e=.returned (.tuple #[.agg #[.string c.nm,.string c.su,.slice ai c.ifs.length ci,.int .i64 c.fl,.int .i64 c.ld,.slice am c.ms.length cm],.int .i64 E])∧OwnC w' N (.slice ai c.ifs.length ci) c.ifs.length (Z0 c.ifs) (.slice am c.ms.length cm) qm∧qm.map Prod.fst=c.ms.map hmOf
theorem ClsO.nil (N:Nat) (E:Int) (w:World):ClsO N ⟨⟨#[]⟩,⟨#[]⟩,[],0,0,[]⟩ E (.returned (.tuple #[.agg #[.string ⟨#[]⟩,.string ⟨#[]⟩,.slice none 0 0,.int .i64 0,.int .i64 0,.slice none 0 0],.int .i64 E])) w :=
 ⟨none,0,none,0,[],rfl,⟨⟨rfl,.inl ⟨rfl,rfl⟩⟩,⟨rfl,.inl ⟨rfl,rfl⟩⟩,fun p hp=>by cases hp⟩,rfl⟩
theorem ClsO.of {N:Nat} {c:Cls} {E:Int} {vi vm:Value} {qm:List (HM×Value)} {w':World} (ho:OwnC w' N vi c.ifs.length (Z0 c.ifs) vm qm) (hm:qm.map Prod.fst=c.ms.map hmOf):ClsO N c E (.returned (.tuple #[.agg #[.string c.nm,.string c.su,vi,.int .i64 c.fl,.int .i64 c.ld,vm],.int .i64 E])) w':=by
 obtain ⟨⟨ai,ci,rfl⟩,⟨am,cm,rfl⟩,_,_⟩:=Ji ho hm
 exact ⟨ai,ci,am,cm,qm,rfl,ho,hm⟩
theorem two_own {cs:List Cls} {ps:List Plc} (ht:TwW cs ps) (x:Int):∃ (c:Cls) (E:Int),c.ifs.length≤1000000∧c.ms.length≤1000000∧(∀ m∈c.ms,m.code.length≤1000000)∧(∀ b w,WAt b ps w→Calls Tryz.prog 12 #[.pointer (some ⟨b,0,none⟩),.int .i64 x] w fun e w'=>ClsO w.heap.size c E e w'∧Bw w w')∧(∀ b w,RAt b cs w→Calls Tryz.prog 13 #[.pointer (some ⟨b,0,none⟩),.int .i64 x] w fun e w'=>ClsO w.heap.size c E e w'∧Bw w w'):=by
 rcases Zu ps x with ⟨h1,h2⟩|⟨k,q,rfl,h2,h1⟩
 ·refine ⟨⟨⟨#[]⟩,⟨#[]⟩,[],0,0,[]⟩,3,Nat.zero_le _,Nat.zero_le _,fun m hm=>(by cases hm),fun b w hw=>?_,fun b w hw=>?_⟩
  ·refine (Zi2 hw ht.wi.pb x).mono fun e w' zz=>⟨?_,zz.2⟩
   have z:=zz.1
   rw [h1] at z
   rw [show e=_ from z]
   exact ClsO.nil _ _ _
  ·refine (Zh5 hw ht x h1).mono fun e w' zz=>⟨?_,zz.2⟩
   rw [zz.1]
   exact ClsO.nil _ _ _
 ·obtain ⟨c,hc⟩:∃ c,cs[k]?=some c:=⟨_,List.getElem?_eq_getElem (by rw [ht.tw.len];exact (List.getElem?_eq_some_iff.1 h2).1)⟩
  have hqc:=ht.ms hc h2
  have hB:=ht.wi.pb q (List.mem_of_getElem? h2)
  have e1:q.c.ni=c.ifs.length:=by rw [hqc];rfl
  have e3:q.c.ms=c.ms.map hmOf:=by rw [hqc];rfl
  refine ⟨c,0,by have:=hB.ni;omega,by have:=hB.ms;rw [e3,List.length_map] at this;exact this,fun m hm=>?_,fun b w hw=>?_,fun b w hw=>?_⟩
  ·have:=(hB.cd (hmOf m) (by rw [e3];exact List.mem_map_of_mem hm)).2
   simp only [hmOf] at this
   omega
  ·refine (Zi2 hw ht.wi.pb (k:Int)).mono fun e w' zz=>⟨?_,zz.2⟩
   have z:=zz.1
   rw [h1] at z
   obtain ⟨vi,vm,qm,rfl,ho,hm⟩:=z
   have e0:q.c.nm=c.nm∧q.c.su=c.su∧q.c.fl=c.fl∧q.c.ld=c.ld:=by rw [hqc];exact ⟨rfl,rfl,rfl,rfl⟩
   have e2:q.c.xi=Z0 c.ifs:=by rw [hqc];rfl
   rw [e1,e2] at ho
   rw [e3] at hm
   rw [e0.1,e0.2.1,e0.2.2.1,e0.2.2.2]
   exact ClsO.of ho hm
  ·refine (Zgi hw ht k c q hc h2).mono fun e w' zz=>⟨?_,zz.2⟩
   obtain ⟨vi,vm,qm,rfl,ho,hm⟩:=zz.1
   exact ClsO.of ho hm
theorem ClZ.of {w:World} {N:Nat} {c:Cls} {vi vm:Value} {qm:List (HM×Value)} (ho:OwnC w N vi c.ifs.length (Z0 c.ifs) vm qm) (hm:qm.map Prod.fst=c.ms.map hmOf) (b1:c.ifs.length≤1000000) (b2:c.ms.length≤1000000) (b3:∀ m∈c.ms,m.code.length≤1000000):ClZ w (fun g=>N≤g∧g<w.heap.size) vi c.ifs.length vm (qm.map fun p=>(p.2,p.1.n)):=by
 have hl:qm.length=c.ms.length:=by have:=congrArg List.length hm;simpa using this
 refine ⟨.of ho.ifs (fun g hg=>ho.ifs.lt g hg),⟨Zm qm,by rw [List.length_map];exact Go.Joins.ownsRow_le ho.ms (Nat.zero_le _),fun k u hu=>?_⟩,fun g hg=>ho.ms.lt g hg,fun u hu=>?_,b1,by rw [List.length_map,hl];exact b2⟩
 ·rw [List.getElem?_map] at hu
  cases e:qm[k]? with
  | none=>rw [e] at hu;cases hu
  | some p =>
    rw [e] at hu
    cases hu
    exact (Zp qm k p e 5 (by omega)).trans rfl
 ·obtain ⟨p,hp,rfl⟩:=List.mem_map.1 hu
  refine ⟨.of (ho.cod p hp) (fun g hg=>(ho.cod p hp).lt g hg),?_⟩
  have h1:p.1∈c.ms.map hmOf:=by rw [← hm];exact List.mem_map_of_mem hp
  obtain ⟨m,hm1,e⟩:=List.mem_map.1 h1
  have:=b3 m hm1
  simp only
  rw [← e]
  exact this
end Go.Proofs.YtkoogmegdfpopaaGreat
