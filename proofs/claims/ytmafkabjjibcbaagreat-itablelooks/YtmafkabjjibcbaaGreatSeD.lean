import Derived.Test.YtmafkabjjibcbaaGreatRpD
set_option maxHeartbeats 16000000
set_option maxRecDepth 100000
namespace Go.Proofs.YtmafkabjjibcbaaGreat
open Go.RowKit Go.Maps
theorem Zky (W:World) (b:Nat) (x E E2:Int) (f:Bool) (hE:(¬ E2=0∧E=3)∨(E2=0∧f=true∧E=23)) (HC:Hid (Calls Tryz.prog 51 #[.pointer (some ⟨b,0,none⟩),.int .i64 x] W fun e w'=>(∃ v,e=.returned (.tuple #[v,.int .i64 E2]))∧Bw W w')) (HF:Hid (∀ w,Bw W w→Calls Tryz.prog 61 #[.pointer (some ⟨b,0,none⟩),.int .i64 x] w fun e w'=>e=.returned (.bool f)∧w'=w)):Calls Tryz.prog 18 #[.pointer (some ⟨b,0,none⟩),.int .i64 x] W fun e w'=>e=.returned (.tuple #[.slice none 0 0,.int .i64 E])∧Bw W w':=by
 go_enter Tryz.func18,Tryz.ntmps18
 rcases hE with ⟨hE2,rfl⟩|⟨rfl,rfl,rfl⟩
 case' inl=>have hE3:(E2 == 0)=false:=by simp [hE2]
 all_goals
  go_wp2_with (first|(go_at_call 51;refine HC.out.mono ?_;rintro e w1 ⟨⟨v,rfl⟩,hb⟩;have B1:Hid (Bw W w1):=hb;clear hb HC)|(go_at_call 61;refine (HF.out _ B1.out).mono ?_;rintro e w9 ⟨rfl,hw9⟩;rw [hw9];clear hw9 w9 HF))
  exact bodyPost_ret (results_tmp2 rfl _ _ _) rfl ⟨rfl,B1.out⟩
theorem r14r_c {b:Nat} {cs:List Cls} {ps:List Plc} {W:World} (h:RAt b cs W) (ht:TwW cs ps) (hJ:WJ ps) (x:Int):Calls Tryz.prog 18 #[.pointer (some ⟨b,0,none⟩),.int .i64 x] W fun e w'=>(∃ v,e=.returned (.tuple #[v,.int .i64 (itE ps x)])∧w'.ownsRow W.heap.size 38 2 v (rtsR ps x).length (Zf (rtsR ps x)))∧Bw W w':=by
 have hW:=ht.wi
 have HF:∀ w,Bw W w→Calls Tryz.prog 61 #[.pointer (some ⟨b,0,none⟩),.int .i64 x] w fun e w'=>e=.returned (.bool (ifcI ps x))∧w'=w:=fun w hb=>by
  have:=Yy (h.below hb) x
  rw [Zar ht] at this
  exact this
 rcases Zl ps x with ⟨hn,_⟩|⟨k,q,rfl,hq,hp⟩
 ·have e1:itE ps x=3:=by rw [itE,hn]
  have e2:rtsR ps x=[]:=by rw [rtsR,hn]
  rw [e1,e2]
  refine (Zky W b x 3 3 _ (.inl ⟨by decide,rfl⟩) ((Zbv h ht x hn).mono fun e w' zz=>⟨⟨_,zz.1⟩,zz.2⟩) HF).mono fun e w' zz=>⟨⟨_,zz.1,World.ownsRow_nil _ _ _ _⟩,zz.2⟩
 ·have hcl:=Za1 h ht hJ k q hq
  cases hf:ifcI ps (k:Int) with
  | true =>
    have e1:itE ps (k:Int)=23:=by rw [itE,hp];simp only;rw [hf];rfl
    have e2:rtsR ps (k:Int)=[]:=by rw [rtsR,hp];simp only;rw [hf];rfl
    rw [e1,e2]
    rw [hf] at HF
    refine (Zky W b k 23 0 true (.inr ⟨rfl,rfl,rfl⟩) (hcl.mono fun e w' zz=>⟨by obtain ⟨v,h1,_⟩:=zz.1;exact ⟨v,h1⟩,zz.2⟩) HF).mono fun e w' zz=>⟨⟨_,zz.1,World.ownsRow_nil _ _ _ _⟩,zz.2⟩
  | false =>
    have e1:itE ps (k:Int)=0:=by rw [itE,hp];simp only;rw [hf];rfl
    have e2:rtsR ps (k:Int)=rtsP ps q:=by rw [rtsR,hp];simp only;rw [hf];rfl
    rw [e1,e2,rtsP]
    rw [hf] at HF
    have hk:k<ps.length:=(List.getElem?_eq_some_iff.1 hq).1
    obtain ⟨q0,hq0⟩:∃ q0,ps[0]?=some q0:=⟨_,List.getElem?_eq_getElem (by omega)⟩
    have hcl2:=hW.wo.cl k (nd q) (by rw [List.getElem?_map,hq];rfl)
    have hmt:∀ (j:Nat) (p:Plc),ps[j]?=some p→mtK ps j=p.c.ms:=fun j p hj=>by rw [mtK,hj]
    have hlen:∀ j,(mtK ps j).length≤1000000:=fun j=>by
     rw [mtK]
     split
     ·rename_i p hp;exact (hW.pb p (List.mem_of_getElem? hp)).ms
     ·exact Nat.zero_le _
    obtain ⟨c0,hc0,hqc0⟩:=ht.tw.at' hq0
    have hms0:mtK ps 0=c0.ms.map hmOf:=by rw [hmt 0 q0 hq0,hqc0];rfl
    obtain ⟨g,cap,vi,vm,b0,hbl,hgl,_,_,_,_,_,c5,_,hMs⟩:=RAt.cells h hc0
    obtain ⟨am,cm,rfl,_,_,m3⟩:=hMs
    have hcc:0<cs.length:=(List.getElem?_eq_some_iff.1 hc0).1
    have hK:q.cl.length≤300:=by
     have h3:q.cl.length≤ps.length:=by
      have:=List.Nodup.length_le_of_subset hcl2.1 (l₂:=List.range ps.length) (fun i hi=>List.mem_range.2 (by
       have h5:=(hcl2.2 i hi).1
       omega))
      rw [List.length_range] at this
      exact this
     have:=hW.hi
     omega
    refine r14r_w W b g cs.length cap am c0.ms.length cm (mtK ps 0) (mtK ps) q.cl q.cl.length k b0 hbl hgl (by omega) (by simpa using c5) (by have:=hlen 0;rw [hms0,List.length_map] at this;exact this) (show _=_ by rw [hms0,List.length_map]) rfl hK ?_ ?_ hcl HF
    ·intro i m hm
     rw [hms0,List.getElem?_map] at hm
     cases e:c0.ms[i]? with
     | none=>rw [e] at hm;cases hm
     | some y =>
       rw [e] at hm
       cases hm
       obtain ⟨bk,o,rfl,hbk,hat⟩:=m3 (by intro h0;rw [h0] at e;simp at e)
       obtain ⟨t0,t1,t2,t3,t4,v5,t5,t6⟩:=hat i y e
       obtain ⟨sa,sc,rfl,_⟩:=t6
       exact ⟨bk,o,sa,_,sc,rfl,hbk,t0,t1,t2,t3,t4,t5⟩
    ·intro j kk hj
     have hkk:kk<ps.length:=by
      have h5:=(hcl2.2 kk (List.mem_of_getElem? hj)).1
      omega
     obtain ⟨p,hpk⟩:∃ p,ps[kk]?=some p:=⟨_,List.getElem?_eq_getElem hkk⟩
     obtain ⟨c,hc,hqc⟩:=ht.tw.at' hpk
     have hms:mtK ps kk=c.ms.map hmOf:=by rw [hmt kk p hpk,hqc];rfl
     obtain ⟨g',cap',vi',vm',b0',_,_,_,_,_,_,_,c5',_,hMs'⟩:=RAt.cells h hc
     obtain ⟨am',cm',rfl,_,_,m3'⟩:=hMs'
     rw [b0] at b0'
     cases b0'
     refine ⟨(List.getElem?_eq_some_iff.1 hc).1,hlen kk,am',cm',(by rw [hms,List.length_map];exact c5'),fun i m hm=>?_⟩
     rw [hms,List.getElem?_map] at hm
     cases e:c.ms[i]? with
     | none=>rw [e] at hm;cases hm
     | some y =>
       rw [e] at hm
       cases hm
       obtain ⟨bk,o,rfl,hbk,hat⟩:=m3' (by intro h0;rw [h0] at e;simp at e)
       exact ⟨bk,o,rfl,hbk,(hat i y e).2.2.1⟩
theorem r14b_w (W:World) (b:Nat) (x E:Int) (R:List (Int×Int)) (n:Nat) (HRL:Hid (R.length=n)) (hn:n≤301000000) (F G:Int×Int→(Int×Int)×Int) (EN:Int×Int→Ent) (HEN:Hid (∀ y,EN y=⟨y,(F y).1,(F y).2,(G y).1,(G y).2⟩))
 (HR:Hid (Calls Tryz.prog 18 #[.pointer (some ⟨b,0,none⟩),.int .i64 x] W fun e w'=>(∃ v,e=.returned (.tuple #[v,.int .i64 E])∧w'.ownsRow W.heap.size 38 2 v n (Zf R))∧Bw W w'))
 (HI:Hid (∀ (c i:Int) w,Bw W w→Calls Tryz.prog 29 #[.pointer (some ⟨b,0,none⟩),.int .i64 x,.agg #[.int .i64 c,.int .i64 i]] w fun e w'=>e=.returned (idE (F (c,i)))∧Bw w w'))
 (HV:Hid (∀ (c i:Int) w,Bw W w→Calls Tryz.prog 26 #[.pointer (some ⟨b,0,none⟩),.int .i64 x,.agg #[.int .i64 c,.int .i64 i]] w fun e w'=>e=.returned (idE (G (c,i)))∧Bw w w')) :
 Calls Tryz.prog 13 #[.pointer (some ⟨b,0,none⟩),.int .i64 x] W fun e w'=>(∃ v,e=.returned (.tuple #[v,.int .i64 E])∧w'.ownsRow W.heap.size 40 8 v (R.map EN).length (Xk (R.map EN)))∧Bw W w':=by
 obtain ⟨i0,hi0,hz0,hz1,hz2⟩:=info_parts Tryz.hinfoE
 go_enter Tryz.func13,Tryz.ntmps13
 go_wp2_with (go_at_call 18;refine HR.out.mono ?_;rintro e V ⟨⟨v0,rfl,ho⟩,hb⟩;obtain ⟨aa,ca,rfl⟩:=ownv ho;have RO:Hid (V.ownsRow W.heap.size 38 2 (.slice aa n ca) n (Zf R)):=ho;have BV:Hid (Bw W V):=hb;clear ho hb HR)
 go_loopw [8,9] (fun sv iv wr=>∃ i:Nat,iv=.int .i64 i∧i≤n∧Hid (wr.ownsRow V.heap.size 40 8 sv i (Xk ((R.take i).map EN)))∧Hid (Bw V wr)) (fun _ iv _=>n - (intOf iv).toNat)
 case atStart=>exact ⟨0,rfl,Nat.zero_le _,World.ownsRow_nil _ _ _ _,Below.refl _ _⟩
 case round =>
  obtain ⟨i,rfl,hi,hO,hB⟩:=hrel
  by_cases hlt:i<n
  ·have hiI:(i:Int)<(n:Int):=by omega
   obtain ⟨y,hy⟩:∃ y,R[i]?=some y:=⟨_,List.getElem?_eq_getElem (by rw [HRL.out];exact hlt)⟩
   obtain ⟨g2,c2,hf2,_,g2V,q2⟩:=Zb1 RO.out (by omega)
   injection hf2 with ha2 _ hc2
   subst ha2 hc2
   obtain ⟨p0,p1⟩:=Zeh R i y hy
   have CX:Hid (V.cell? ⟨g2,i * 2,none⟩=some (.int .i64 y.1)∧V.cell? ⟨g2,i * 2+1,none⟩=some (.int .i64 y.2)):=⟨q2 _ _ p0,q2 _ _ p1⟩
   have g2r:g2<wr.heap.size:=Nat.lt_of_lt_of_le g2V hB.out.size
   have cy0:wr.cell? ⟨g2,i * 2,none⟩=some (.int .i64 y.1):=(hB.out.cell (p:=⟨g2,i * 2,none⟩) g2V).trans CX.out.1
   have cy1:wr.cell? ⟨g2,i * 2+1,none⟩=some (.int .i64 y.2):=(hB.out.cell (p:=⟨g2,i * 2+1,none⟩) g2V).trans CX.out.2
   have HST:Hid (Xk ((R.take (i+1)).map EN)=Xk ((R.take i).map EN)++(EN y).cells):=by
    show _=_
    rw [List.take_add_one,hy,Option.toList_some,List.map_append,Zls];simp [Xk]
   have HIy:=HI.out y.1 y.2
   have HVy:=HV.out y.1 y.2
   rw [HEN.out y] at HST
   obtain ⟨y1,y2⟩:=y
   simp only [idE,Ent.cells] at HIy HVy HST CX cy0 cy1
   generalize F (y1,y2)=FF at *
   generalize G (y1,y2)=GG at *
   obtain ⟨⟨a1,a2⟩,a3⟩:=FF
   obtain ⟨⟨v1,v2⟩,v3⟩:=GG
   have HII:Hid (∀ w,Bw W w→Calls Tryz.prog 29 #[.pointer (some ⟨b,0,none⟩),.int .i64 x,.agg #[.int .i64 y1,.int .i64 y2]] w fun e w'=>e=.returned (.tuple #[.agg #[.int .i64 a1,.int .i64 a2],.int .i64 a3])∧Bw w w'):=HIy
   have HVV:Hid (∀ w,Bw W w→Calls Tryz.prog 26 #[.pointer (some ⟨b,0,none⟩),.int .i64 x,.agg #[.int .i64 y1,.int .i64 y2]] w fun e w'=>e=.returned (.tuple #[.agg #[.int .i64 v1,.int .i64 v2],.int .i64 v3])∧Bw w w'):=HVy
   obtain ⟨ta,tc,rfl⟩:=ownv hO.out
   clear hy p0 p1 q2 HIy HVy HI HV HEN
   go_wp2_with (first
    | (go_at_call 29;refine (HII.out _ (Zb BV.out hB.out)).mono ?_;rintro e w2 ⟨rfl,hb⟩;have OL:Hid (w2.ownsRow V.heap.size 40 8 (.slice ta i tc) i (Xk ((R.take i).map EN))):=Zd hO.out hb;have B2:Hid (Bw V w2):=Zb hB.out hb;have cz0:w2.cell? ⟨g2,i * 2,none⟩=some (.int .i64 y1):=(B2.out.cell (p:=⟨g2,i * 2,none⟩) g2V).trans CX.out.1;have cz1:w2.cell? ⟨g2,i * 2+1,none⟩=some (.int .i64 y2):=(B2.out.cell (p:=⟨g2,i * 2+1,none⟩) g2V).trans CX.out.2;have g2w:g2<w2.heap.size:=Nat.lt_of_lt_of_le g2V B2.out.size;have g2n:¬ g2=w2.heap.size:=(by omega);clear hb HII cy0 cy1)
    | (go_at_call 26;refine (HVV.out _ (Zb BV.out (B2.out.alloc B2.out.size _))).mono ?_;rintro e w3 ⟨rfl,hb⟩;have mmd:=kp2 (n:=w2.heap.size) hb (by simp) (Zo _ _);obtain ⟨mmB,mm0,mm1,mmf,mmL,mmN⟩:=mmd;have OL3:Hid (w3.ownsRow V.heap.size 40 8 (.slice ta i tc) i (Xk ((R.take i).map EN))):=Zd (OL.out.alloc _) hb;have B3:Hid (Bw V w3):=Zb (B2.out.alloc B2.out.size _) hb;clear hb HVV cz0 cz1 OL))
   have bU:Bw V (w3.alloc (.cells #[.int .i64 v1,.int .i64 v2] 38)):=B3.out.alloc B3.out.size _
   have hU0:(w3.alloc (.cells #[.int .i64 v1,.int .i64 v2] 38)).heap[w3.heap.size]?=some (.cells #[.int .i64 v1,.int .i64 v2] 38 (0,0)):=Zo _ _
   have hU1:(w3.alloc (.cells #[.int .i64 v1,.int .i64 v2] 38)).heap[w2.heap.size]?=some (.cells #[.int .i64 a1,.int .i64 a2] 38 (0,0)):=Zg mmB.out
   have hUs:(w3.alloc (.cells #[.int .i64 v1,.int .i64 v2] 38)).heap.size=w3.heap.size+1:=by simp
   have OU:Hid ((w3.alloc (.cells #[.int .i64 v1,.int .i64 v2] 38)).ownsRow V.heap.size 40 8 (.slice ta i tc) i (Xk ((R.take i).map EN))):=OL3.out.alloc _
   have hw3:V.heap.size≤w3.heap.size:=B3.out.size
   clear mmB mm0 mm1 mmf mmN
   generalize (w3.alloc (.cells #[.int .i64 v1,.int .i64 v2] 38))=U at *
   have BU:Hid (Bw V U):=bU
   have cz0:U.cell? ⟨g2,i * 2,none⟩=some (.int .i64 y1):=(bU.cell (p:=⟨g2,i * 2,none⟩) g2V).trans CX.out.1
   have cz1:U.cell? ⟨g2,i * 2+1,none⟩=some (.int .i64 y2):=(bU.cell (p:=⟨g2,i * 2+1,none⟩) g2V).trans CX.out.2
   obtain ⟨m0,m1,mf,mL⟩:=rw2 hU0
   obtain ⟨l0,l1,lf,lL⟩:=rw2 hU1
   have mN:¬ w3.heap.size=U.heap.size:=by omega
   have lN:¬ w2.heap.size=U.heap.size:=by omega
   have gN:¬ g2=U.heap.size:=by omega
   have gL:g2<U.heap.size:=by omega
   clear bU hU0 hU1 OL3 B3 B2 CX
   go_upto_region 8 with fail
   go_region_law (refine step_append_lies _ rfl (.tmp 46) (.tmp 56) 26 rfl V.heap.size 40 i0 (.agg #[.int .i64 0,.int .i64 0,.int .i64 0,.int .i64 0,.int .i64 0,.int .i64 0,.int .i64 0,.int .i64 0]) 8 64 Tryz.underlying26 hi0 hz0 hz1 hz2 rfl (by decide) (.slice ta i tc) i (Xk ((R.take i).map EN)) (by simp [Act.eval]) ((OU.out.drew).alloc _) ⟨U.heap.size,0,none⟩ 1 1 [.int .i64 y1,.int .i64 y2,.int .i64 a1,.int .i64 a2,.int .i64 a3,.int .i64 v1,.int .i64 v2,.int .i64 v3] (by simp [Act.eval]) rfl (World.news_of_block (heap_alloc_new _ _)) ?_ (by decide) ?_ ?_ ?_ _ rfl ?_;(intro u hu;simp at hu;rcases hu with rfl|rfl|rfl|rfl|rfl|rfl|rfl|rfl <;> rfl);(unfold maxLen;omega);omega;(simp;omega);intro g5 cap5 w5 hown hgrow _ _;have O5:Hid (w5.ownsRow V.heap.size 40 8 (.slice (some ⟨g5,0,none⟩) (i+1) cap5) (i+1) (Xk ((R.take i).map EN)++[.int .i64 y1,.int .i64 y2,.int .i64 a1,.int .i64 a2,.int .i64 a3,.int .i64 v1,.int .i64 v2,.int .i64 v3])):=hown;have B5:Hid (Bw V w5):=(by refine Below.grown (BU.out.drew.alloc (by simpa using BU.out.size) _) hgrow (by have:=BU.out.size;simp;omega) (fun z hz=>?_);exact (OU.out.lt z hz).1);clear hown hgrow)
   all_goals go_wp2
   all_goals exact ⟨⟨i+1,by simp,by omega,(by rw [HST.out];exact O5),B5⟩,by simp [intOf];omega⟩
  ·have e:i=n:=by omega
   subst e
   rw [List.take_of_length_le (by rw [HRL.out];exact Nat.le_refl _)] at hO
   obtain ⟨ta,tc,e9⟩:=ownv hO.out
   go_wp2
   exact bodyPost_ret (results_tmp2 rfl _ _ _) rfl ⟨⟨_,rfl,(by rw [List.length_map,HRL.out];exact Go.Joins.ownsRow_le hO.out BV.out.size)⟩,Zb BV.out hB.out⟩
theorem Zhp {ps:List Plc} (hW:WI ps) (x:Int):(rtsR ps x).length≤301000000:=by
 rcases Zec ps x with ⟨_,k,q,_,hq,_,e⟩|⟨e,_⟩
 ·rw [e];exact Zka hW hq
 ·rw [e];exact Nat.zero_le _
theorem r14b_c {b:Nat} {cs:List Cls} {ps:List Plc} {W:World} (h:RAt b cs W) (ht:TwW cs ps) (hJ:WJ ps) (hS:SndI ps) (hU:UnqM ps) (hz:∀ c∈cs,c.nm.size≤maxLen) (x:Int):Calls Tryz.prog 13 #[.pointer (some ⟨b,0,none⟩),.int .i64 x] W fun e w'=>(∃ v,e=.returned (.tuple #[v,.int .i64 (itE ps x)])∧w'.ownsRow W.heap.size 40 8 v (itT ps x).length (Xk (itT ps x)))∧Bw W w' :=
 r14b_w W b x (itE ps x) (rtsR ps x) _ rfl (Zhp ht.wi x) (itfI ps x) (virI ps x) (entP ps x) (fun _=>rfl) (r14r_c h ht hJ x) (fun c i _ hb=>r12itf_c (h.below hb) ht hJ x c i) (fun c i _ hb=>r12vir_c (h.below hb) ht hJ hS hU hz x c i)
theorem r14k_1 (W:World) (b:Nat) (r c i:Int) (HI:Hid (∀ w,Bw W w→Calls Tryz.prog 63 #[.pointer (some ⟨b,0,none⟩),.agg #[.int .i64 c,.int .i64 i]] w fun e w'=>e=.returned (.bool false)∧Bw w w')):Calls Tryz.prog 21 #[.pointer (some ⟨b,0,none⟩),.int .i64 r,.agg #[.int .i64 c,.int .i64 i]] W fun e w'=>e=.returned (.tuple #[zeE.agg,.int .i64 3])∧Bw W w':=by
 go_enter Tryz.func21,Tryz.ntmps21
 go_wp2_with (first
  | (go_at_call 63;refine (HI.out _ sqR).mono ?_;rintro e w1 ⟨rfl,hb⟩;have mmd:=kp2 (n:=W.heap.size) hb;(try clear mmB mm0 mm1 mmf mmL mmN);obtain ⟨mmB,mm0,mm1,mmf,mmL,mmN⟩:=mmd;have zzd:=kp8 (n:=W.heap.size+1) hb (by first|omega|(simp;try omega)) (by first|exact Za _ _ (by simp)|exact zzB.out);(try clear zzB zz0 zz1 zz2 zz3 zz4 zz5 zz6 zz7 zzf zzL zzN);obtain ⟨zzB,zz0,zz1,zz2,zz3,zz4,zz5,zz6,zz7,zzf,zzL,zzN⟩:=zzd;have B1:Hid (Bw W w1):=Zb sqR hb;have ZL1:Hid (W.heap.size+1<w1.heap.size):=zzL;clear hb HI))
 exact bodyPost_ret (v:=.tuple #[.agg #[.int .i64 0,.int .i64 0,.int .i64 0,.int .i64 0,.int .i64 0,.int .i64 0,.int .i64 0,.int .i64 0],.int .i64 3]) (by simp [results,Tryz.results21,go_sem, *]) rfl ⟨rfl,(sqE B1)⟩
theorem r14k_2 (W:World) (b:Nat) (r c i:Int) (E:Int) (hE:¬ E=0) (n:Nat) (T:List Ent) (HI:Hid (∀ w,Bw W w→Calls Tryz.prog 63 #[.pointer (some ⟨b,0,none⟩),.agg #[.int .i64 c,.int .i64 i]] w fun e w'=>e=.returned (.bool true)∧Bw w w')) (HT:Hid (∀ w,Bw W w→Calls Tryz.prog 13 #[.pointer (some ⟨b,0,none⟩),.int .i64 r] w fun e w'=>(∃ v,e=.returned (.tuple #[v,.int .i64 E])∧w'.ownsRow w.heap.size 40 8 v n (Xk T))∧Bw w w')):Calls Tryz.prog 21 #[.pointer (some ⟨b,0,none⟩),.int .i64 r,.agg #[.int .i64 c,.int .i64 i]] W fun e w'=>e=.returned (.tuple #[zeE.agg,.int .i64 E])∧Bw W w':=by
 go_enter Tryz.func21,Tryz.ntmps21
 go_wp2_with (first
  | (go_at_call 63;refine (HI.out _ sqR).mono ?_;rintro e w1 ⟨rfl,hb⟩;have mmd:=kp2 (n:=W.heap.size) hb;(try clear mmB mm0 mm1 mmf mmL mmN);obtain ⟨mmB,mm0,mm1,mmf,mmL,mmN⟩:=mmd;have zzd:=kp8 (n:=W.heap.size+1) hb (by first|omega|(simp;try omega)) (by first|exact Za _ _ (by simp)|exact zzB.out);(try clear zzB zz0 zz1 zz2 zz3 zz4 zz5 zz6 zz7 zzf zzL zzN);obtain ⟨zzB,zz0,zz1,zz2,zz3,zz4,zz5,zz6,zz7,zzf,zzL,zzN⟩:=zzd;have B1:Hid (Bw W w1):=Zb sqR hb;have ZL1:Hid (W.heap.size+1<w1.heap.size):=zzL;clear hb HI)
  | (go_at_call 13;refine (HT.out _ B1.out).mono ?_;rintro e w3 ⟨⟨v,rfl,ho⟩,hb⟩;obtain ⟨va,vc,rfl⟩:=ownv ho;have OT:Hid (w3.ownsRow w1.heap.size 40 8 (.slice va n vc) n (Xk T)):=ho;clear ho;have mmd:=kp2 (n:=W.heap.size) hb;(try clear mmB mm0 mm1 mmf mmL mmN);obtain ⟨mmB,mm0,mm1,mmf,mmL,mmN⟩:=mmd;have zzd:=kp8 (n:=W.heap.size+1) hb (by first|omega|(simp;try omega)) (by first|exact Za _ _ (by simp)|exact zzB.out);(try clear zzB zz0 zz1 zz2 zz3 zz4 zz5 zz6 zz7 zzf zzL zzN);obtain ⟨zzB,zz0,zz1,zz2,zz3,zz4,zz5,zz6,zz7,zzf,zzL,zzN⟩:=zzd;have B3:Hid (Bw W w3):=Zb B1.out hb;clear hb HT))
 exact bodyPost_ret (v:=.tuple #[.agg #[.int .i64 0,.int .i64 0,.int .i64 0,.int .i64 0,.int .i64 0,.int .i64 0,.int .i64 0,.int .i64 0],.int .i64 E]) (by simp [results,Tryz.results21,go_sem, *]) rfl ⟨rfl,(sqE B3)⟩
theorem r14k_3 (W:World) (b:Nat) (r c i:Int) (T:List Ent) (n:Nat) (HTL:Hid (T.length=n)) (hn:n≤301000000) (HI:Hid (∀ w,Bw W w→Calls Tryz.prog 63 #[.pointer (some ⟨b,0,none⟩),.agg #[.int .i64 c,.int .i64 i]] w fun e w'=>e=.returned (.bool true)∧Bw w w')) (HT:Hid (∀ w,Bw W w→Calls Tryz.prog 13 #[.pointer (some ⟨b,0,none⟩),.int .i64 r] w fun e w'=>(∃ v,e=.returned (.tuple #[v,.int .i64 0])∧w'.ownsRow w.heap.size 40 8 v n (Xk T))∧Bw w w')):Calls Tryz.prog 21 #[.pointer (some ⟨b,0,none⟩),.int .i64 r,.agg #[.int .i64 c,.int .i64 i]] W fun e w'=>((∃ y∈T,y.r=(c,i)∧e=.returned (.tuple #[y.agg,.int .i64 0]))∨((∀ y∈T,¬ y.r=(c,i))∧e=.returned (.tuple #[zeE.agg,.int .i64 6])))∧Bw W w':=by
 go_enter Tryz.func21,Tryz.ntmps21
 go_wp2_with (first
  | (go_at_call 63;refine (HI.out _ sqR).mono ?_;rintro e w1 ⟨rfl,hb⟩;have mmd:=kp2 (n:=W.heap.size) hb;(try clear mmB mm0 mm1 mmf mmL mmN);obtain ⟨mmB,mm0,mm1,mmf,mmL,mmN⟩:=mmd;have zzd:=kp8 (n:=W.heap.size+1) hb (by first|omega|(simp;try omega)) (by first|exact Za _ _ (by simp)|exact zzB.out);(try clear zzB zz0 zz1 zz2 zz3 zz4 zz5 zz6 zz7 zzf zzL zzN);obtain ⟨zzB,zz0,zz1,zz2,zz3,zz4,zz5,zz6,zz7,zzf,zzL,zzN⟩:=zzd;have B1:Hid (Bw W w1):=Zb sqR hb;have ZL1:Hid (W.heap.size+1<w1.heap.size):=zzL;clear hb HI)
  | (go_at_call 13;refine (HT.out _ B1.out).mono ?_;rintro e w3 ⟨⟨v,rfl,ho⟩,hb⟩;obtain ⟨va,vc,rfl⟩:=ownv ho;have OT:Hid (w3.ownsRow w1.heap.size 40 8 (.slice va n vc) n (Xk T)):=ho;clear ho;have mmd:=kp2 (n:=W.heap.size) hb;(try clear mmB mm0 mm1 mmf mmL mmN);obtain ⟨mmB,mm0,mm1,mmf,mmL,mmN⟩:=mmd;have zzd:=kp8 (n:=W.heap.size+1) hb (by first|omega|(simp;try omega)) (by first|exact Za _ _ (by simp)|exact zzB.out);(try clear zzB zz0 zz1 zz2 zz3 zz4 zz5 zz6 zz7 zzf zzL zzN);obtain ⟨zzB,zz0,zz1,zz2,zz3,zz4,zz5,zz6,zz7,zzf,zzL,zzN⟩:=zzd;have B3:Hid (Bw W w3):=Zb B1.out hb;clear hb HT))
 go_loopw [10] (fun iv wr=>∃ k:Nat,iv=.int .i64 k∧k≤n∧Hid (∀ y∈T.take k,¬ y.r=(c,i))∧Hid (Bw w3 wr)) (fun iv _=>n - (intOf iv).toNat)
 case atStart=>exact ⟨0,rfl,Nat.zero_le _,(fun y hy=>by cases hy),Below.refl _ _⟩
 case round =>
  obtain ⟨k,rfl,hk,hN,hB⟩:=hrel
  by_cases hlt:k<n
  ·have hkI:(k:Int)<(n:Int):=by omega
   obtain ⟨x,hx⟩:∃ x,T[k]?=some x:=⟨_,List.getElem?_eq_getElem (by rw [HTL.out];exact hlt)⟩
   obtain ⟨g1,d1,hf1,_,hgl1,q1⟩:=Zb1 OT.out (by omega)
   injection hf1 with ha1 _ hc1
   subst ha1 hc1
   have e0:w3.cell? ⟨g1,k * 8,none⟩=_:=q1 _ _ ((Xb T k x 0 hx (by decide)).trans rfl)
   have e1:=q1 _ _ ((Xb T k x 1 hx (by decide)).trans rfl)
   have e2:=q1 _ _ ((Xb T k x 2 hx (by decide)).trans rfl)
   have e3:=q1 _ _ ((Xb T k x 3 hx (by decide)).trans rfl)
   have e4:=q1 _ _ ((Xb T k x 4 hx (by decide)).trans rfl)
   have e5:=q1 _ _ ((Xb T k x 5 hx (by decide)).trans rfl)
   have e6:=q1 _ _ ((Xb T k x 6 hx (by decide)).trans rfl)
   have e7:=q1 _ _ ((Xb T k x 7 hx (by decide)).trans rfl)
   obtain ⟨σ,U,hne,U1,U2⟩:=class_of' (fun w'=>Bw w3 w') ⟨_,Below.refl _ _⟩
   have kp:∀ (s:σ) (bb j:Nat) (v:Value),bb<w3.heap.size→w3.cell? ⟨bb,j,none⟩=some v→(U s).cell? ⟨bb,j,none⟩=some v:=fun s bb j v hl h=>((U1.out s).cell (p:=⟨bb,j,none⟩) hl).trans h
   replace e0:=fun s=>kp s _ _ _ hgl1 e0
   replace e1:=fun s=>kp s _ _ _ hgl1 e1
   replace e2:=fun s=>kp s _ _ _ hgl1 e2
   replace e3:=fun s=>kp s _ _ _ hgl1 e3
   replace e4:=fun s=>kp s _ _ _ hgl1 e4
   replace e5:=fun s=>kp s _ _ _ hgl1 e5
   replace e6:=fun s=>kp s _ _ _ hgl1 e6
   replace e7:=fun s=>kp s _ _ _ hgl1 e7
   have u0:=fun s=>kp s _ _ _ mmL mm0
   have u1:=fun s=>kp s _ _ _ mmL mm1
   have ZB:Hid (∀ s,(U s).heap[W.heap.size+1]?=some (.cells #[.int .i64 0,.int .i64 0,.int .i64 0,.int .i64 0,.int .i64 0,.int .i64 0,.int .i64 0,.int .i64 0] 40 (0,0))):=fun s=>((U1.out s).block _ zzL).trans zzB.out
   have HNn:Hid (¬ x.r=(c,i)→∀ y∈T.take (k+1),¬ y.r=(c,i)):=fun h y hy=>by
    rw [List.take_add_one,hx,Option.toList_some,List.mem_append] at hy
    rcases hy with hy|hy
    ·exact hN.out y hy
    ·rw [List.mem_singleton] at hy;rw [hy];exact h
   have HMx:Hid (x∈T):=List.mem_of_getElem? hx
   have HS1:Hid (∀ s,Calls Tryz.prog 27 #[.agg #[.int .i64 x.r.1,.int .i64 x.r.2],.agg #[.int .i64 c,.int .i64 i]] (U s) fun e w'=>e=.returned (.bool ((x.r.1 == c)&&(x.r.2 == i)))∧∃ s',w'=U s'):=fun s=>(Zdu x.r (c,i) (U s)).mono fun e w' zz=>⟨zz.1,U2.out _ (Zb (U1.out s) zz.2)⟩
   have HB1:Hid (((x.r.1 == c)&&(x.r.2 == i))=true↔x.r=(c,i)):=by
    show _↔_
    rw [Bool.and_eq_true,beq_iff_eq,beq_iff_eq]
    constructor
    ·rintro ⟨h1,h2⟩;exact Prod.ext h1 h2
    ·intro h;rw [h];exact ⟨rfl,rfl⟩
   generalize ((x.r.1 == c)&&(x.r.2 == i))=b1 at *
   obtain ⟨⟨r1,r2⟩,⟨m1,m2⟩,ee,⟨v1,v2⟩,ff⟩:=x
   simp only at e0 e1 e2 e3 e4 e5 e6 e7 HS1
   clear hx kp q1 hN mmB mm0 mm1 mmf mmN zzB zz0 zz1 zz2 zz3 zz4 zz5 zz6 zz7 zzf zzN
   cases b1
   all_goals
    go_wp2
    refine Ze (C:=fun w'=>∃ s,w'=U s) (by kernel_rfl) (by kernel_rfl) (U2.out _ (hB.out.drew)) ?_
    repeat (go_big_quiet_step ((go_at_call 27;exact HS1.out _)))
    refine wpQuiet_nil ?_
    intro w8 hw8
    obtain ⟨s8,rfl⟩:=hw8
    have B8:Hid (Bw w3 (U s8)):=U1.out s8
    obtain ⟨z0,z1,z2,z3,z4,z5,z6,z7,zf,zL⟩:=rw8 (ZB.out s8)
    have gN:¬ g1=W.heap.size+1:=(by have h1:=(OT.out.lt g1 rfl).1;have h2:=ZL1.out;omega)
    go_wp2
   ·exact ⟨⟨k+1,by simp,by omega,HNn.out (fun h=>by have:=HB1.out.2 h;simp at this),B8⟩,by simp [intOf];omega⟩
   ·exact bodyPost_ret (v:=.tuple #[.agg #[.int .i64 r1,.int .i64 r2,.int .i64 m1,.int .i64 m2,.int .i64 ee,.int .i64 v1,.int .i64 v2,.int .i64 ff],.int .i64 0]) (by simp [results,Tryz.results21,go_sem, *]) rfl ⟨.inl ⟨_,HMx.out,HB1.out.1 (by trivial),rfl⟩,(by repeat (first|refine Below.setCell ?_ (by simp;try omega) _|exact Zb B3.out B8.out))⟩
  ·have e:k=n:=by omega
   subst e
   have HNa:Hid (∀ y∈T,¬ y.r=(c,i)):=by
    have h:=hN.out
    rw [List.take_of_length_le (by rw [HTL.out];exact Nat.le_refl _)] at h
    exact h
   have zzB2:wr.heap[W.heap.size+1]?=some (.cells #[.int .i64 0,.int .i64 0,.int .i64 0,.int .i64 0,.int .i64 0,.int .i64 0,.int .i64 0,.int .i64 0] 40 (0,0)):=(hB.out.block _ zzL).trans zzB.out
   clear zzB zz0 zz1 zz2 zz3 zz4 zz5 zz6 zz7 zzf zzN mmB mm0 mm1 mmf mmN
   obtain ⟨z0,z1,z2,z3,z4,z5,z6,z7,zf,zL⟩:=rw8 zzB2
   clear zzB2
   go_wp2
   exact bodyPost_ret (v:=.tuple #[.agg #[.int .i64 0,.int .i64 0,.int .i64 0,.int .i64 0,.int .i64 0,.int .i64 0,.int .i64 0,.int .i64 0],.int .i64 6]) (by simp [results,Tryz.results21,go_sem, *]) rfl ⟨.inr ⟨HNa.out,rfl⟩,(by repeat (first|refine Below.setCell ?_ (by simp;try omega) _|exact Zb B3.out hB.out))⟩
theorem r14k_c {b:Nat} {cs:List Cls} {ps:List Plc} {W:World} (h:RAt b cs W) (ht:TwW cs ps) (hJ:WJ ps) (hS:SndI ps) (hU:UnqM ps) (hz:∀ c∈cs,c.nm.size≤maxLen) (r c i:Int):Calls Tryz.prog 21 #[.pointer (some ⟨b,0,none⟩),.int .i64 r,.agg #[.int .i64 c,.int .i64 i]] W fun e w'=>e=.returned (.tuple #[(lokR ps r (c,i)).1.agg,.int .i64 (lokR ps r (c,i)).2])∧Bw W w':=by
 have hI:∀ w,Bw W w→Calls Tryz.prog 63 #[.pointer (some ⟨b,0,none⟩),.agg #[.int .i64 c,.int .i64 i]] w fun e w'=>e=.returned (.bool (Zm ps c i).isSome)∧Bw w w':=fun w hb=>Zcz (h.below hb) ht c i
 have hT:∀ w,Bw W w→Calls Tryz.prog 13 #[.pointer (some ⟨b,0,none⟩),.int .i64 r] w fun e w'=>(∃ v,e=.returned (.tuple #[v,.int .i64 (itE ps r)])∧w'.ownsRow w.heap.size 40 8 v (itT ps r).length (Xk (itT ps r)))∧Bw w w':=fun w hb=>r14b_c (h.below hb) ht hJ hS hU hz r
 cases hm:Zm ps c i with
 | none =>
   rw [hm] at hI
   have e:lokR ps r (c,i)=(zeE,3):=by rw [lokR];simp only;rw [hm]
   rw [e]
   exact r14k_1 W b r c i hI
 | some m =>
   rw [hm] at hI
   by_cases hE:itE ps r=0
   ·rw [hE] at hT
    have hl:(itT ps r).length≤301000000:=by rw [itT,List.length_map];exact Zhp ht.wi r
    refine (r14k_3 W b r c i (itT ps r) _ rfl hl hI hT).mono fun e w' zz=>⟨?_,zz.2⟩
    have hmem:∀ y,y∈itT ps r→y=entP ps r y.r∧y.r∈rtsR ps r:=fun y hy=>by
     rw [itT,List.mem_map] at hy
     obtain ⟨a,ha,rfl⟩:=hy
     exact ⟨rfl,ha⟩
    rcases zz.1 with ⟨y,hy,hyr,e1⟩|⟨hno,e1⟩
    ·obtain ⟨h1,h2⟩:=hmem y hy
     rw [hyr] at h1 h2
     have e:lokR ps r (c,i)=(entP ps r (c,i),0):=by rw [lokR];simp only;rw [hm];simp only;rw [if_pos hE,if_pos h2]
     rw [e,e1,h1]
    ·have h2:¬ (c,i)∈rtsR ps r:=fun h3=>hno (entP ps r (c,i)) (by rw [itT];exact List.mem_map_of_mem h3) rfl
     have e:lokR ps r (c,i)=(zeE,6):=by rw [lokR];simp only;rw [hm];simp only;rw [if_pos hE,if_neg h2]
     rw [e,e1]
   ·have e:lokR ps r (c,i)=(zeE,itE ps r):=by rw [lokR];simp only;rw [hm];simp only;rw [if_neg hE]
    rw [e]
    exact r14k_2 W b r c i (itE ps r) hE _ _ hI hT
theorem Zgo {w w':World} {v:Value} {l:List Cls} (h:Za4 w v l) (hb:Bw w w'):Za4 w' v l:=by
 obtain ⟨ao,cap,rfl,h1,h2,h3⟩:=h
 refine ⟨ao,cap,rfl,h1,h2,fun hne=>?_⟩
 obtain ⟨bk,o,e,hlt,hc⟩:=h3 hne
 refine ⟨bk,o,e,Nat.lt_of_lt_of_le hlt hb.size,fun k c hk=>?_⟩
 obtain ⟨vi,vm,h4,h5⟩:=hc k c hk
 exact ⟨vi,vm,fun j u hj=>(hb.cell hlt).trans (h4 j u hj),h5.keep hb⟩
theorem rts3:rtsR P3 0=[(0,1)]:=by kernel_rfl
theorem itE3:itE P3 0=0:=by kernel_rfl
theorem Zmo (W:World) (HN:Hid (∀ w:World,Calls Tryz.prog 35 #[] w fun e w'=>∃ b,e=.returned (.pointer (some ⟨b,0,none⟩))∧WAt b P3 w'∧Bw w w')) (HM:Hid (∀ (w:World) (b:Nat),WAt b P3 w→Calls Tryz.prog 12 #[.pointer (some ⟨b,0,none⟩),.int .i64 0] w fun e w'=>(∃ v,e=.returned (.tuple #[v,.int .i64 0])∧w'.ownsRow w.heap.size 38 2 v 1 (Zf [(0,1)]))∧Bw w w')):Calls Tryz.prog 9 #[] W fun e w'=>e=.returned (.bool true)∧Bw W w':=by
 go_enter Tryz.func9,Tryz.ntmps9
 go_wp2_with (first
  | (go_at_call 35;refine (HN.out _).mono ?_;rintro e w1 ⟨b,rfl,hw,hb⟩;have H1:Hid (WAt b P3 w1):=hw;have B1:Hid (Bw W w1):=hb;clear hw hb HN)
  | (go_at_call 12;refine (HM.out _ _ H1.out).mono ?_;rintro e w2 ⟨⟨v,rfl,ho⟩,hb⟩;obtain ⟨g,cap,rfl,_,hgl,hcs⟩:=Zb1 ho (by decide);have t0:=hcs 0 _ rfl;have t1:=hcs 1 _ rfl;have B2:Hid (Bw W w2):=Zb B1.out hb;clear hb ho hcs HM))
 all_goals go_ret
 all_goals exact ⟨retB (by simp),B2.out⟩
theorem Zmp (W:World):Calls Tryz.prog 9 #[] W fun e w'=>e=.returned (.bool true)∧Bw W w' :=
 Zmo W (fun w=>(Zk8 w).mono fun e w' zz=>⟨_,zz.1,by obtain ⟨vp,pv,hw⟩:=zz.2.1;exact hw.wat,zz.2.2⟩) (fun w b h=>by
  have:=Zke h wi3 0
  rw [rts3,itE3] at this
  exact this)
theorem Zmm (v:Value) (l:List Cls) (W:World) (h:Za4 W v l):Calls Tryz.prog 10 #[v] W fun e w'=>(∃ b,e=.returned (.pointer (some ⟨b,0,none⟩))∧∃ mb vp pv,HW w' W.heap.size b mb (wld l) vp pv)∧Bw W w':=by
 have hCW:=Zma h
 obtain ⟨ao,cap,rfl,h1,h2,h3⟩:=h
 unfold maxLen at h2
 obtain ⟨L,hL⟩:∃ L,l.length=L:=⟨_,rfl⟩
 have HL:Hid (l.length=L):=hL
 have HI:Hid _:=h3
 have HCW:Hid (∀ c∈l,ClsW c):=hCW
 rw [hL] at h1 ⊢
 clear hL h3 hCW
 have HN:Hid (∀ w:World,Calls Tryz.prog 35 #[] w fun e w'=>e=.returned (.pointer (some ⟨w.heap.size+1,0,none⟩))∧(∃ vp pv,HW w' w.heap.size (w.heap.size+1) w.heap.size P3 vp pv)∧Bw w w'):=Zk8
 go_enter Tryz.func10,Tryz.ntmps10
 go_wp2_with (first
  | (go_at_call 35;refine (HN.out _).mono ?_;rintro e w2 ⟨rfl,hw,hb⟩;have H2:Hid (∃ vp pv,HW w2 W.heap.size (W.heap.size+1) W.heap.size P3 vp pv):=hw;have B2:Hid (Bw W w2):=hb;clear hb hw HN))
 go_loopw [4] (fun iv wr=>∃ (i:Nat),iv=.int .i64 i∧i≤L∧Hid (∃ vp pv,HW wr W.heap.size (W.heap.size+1) W.heap.size (wld (l.take i)) vp pv)∧Hid (Bw W wr)) (fun iv _=>L - (intOf iv).toNat)
 case atStart=>exact ⟨0,rfl,Nat.zero_le _,H2,B2⟩
 case round =>
  clear H2 B2
  obtain ⟨i,rfl,hi,hHW,hB⟩:=hrel
  by_cases hlt:i<L
  ·obtain ⟨c,hc⟩:∃ c,l[i]?=some c:=⟨_,List.getElem?_eq_getElem (by rw [HL.out];exact hlt)⟩
   obtain ⟨bk,o,rfl,hbk,hcl⟩:=HI.out (fun e=>by rw [e] at hc;simp at hc)
   obtain ⟨vi,vm,hcell,hin⟩:=hcl i c hc
   have bel:Bw W wr:=hB.out
   have p0:wr.cell? ⟨bk,o+i * 6,none⟩=some (.string c.nm):=(bel.cell (p:=⟨bk,o+i * 6,none⟩) hbk).trans (hcell 0 _ rfl)
   have p1:wr.cell? ⟨bk,o+i * 6+1,none⟩=some (.string c.su):=(bel.cell (p:=⟨bk,o+i * 6+1,none⟩) hbk).trans (hcell 1 _ rfl)
   have p2:wr.cell? ⟨bk,o+i * 6+2,none⟩=some vi:=(bel.cell (p:=⟨bk,o+i * 6+2,none⟩) hbk).trans (hcell 2 _ rfl)
   have p3:wr.cell? ⟨bk,o+i * 6+3,none⟩=some (.int .i64 c.fl):=(bel.cell (p:=⟨bk,o+i * 6+3,none⟩) hbk).trans (hcell 3 _ rfl)
   have p4:wr.cell? ⟨bk,o+i * 6+4,none⟩=some (.int .i64 c.ld):=(bel.cell (p:=⟨bk,o+i * 6+4,none⟩) hbk).trans (hcell 4 _ rfl)
   have p5:wr.cell? ⟨bk,o+i * 6+5,none⟩=some vm:=(bel.cell (p:=⟨bk,o+i * 6+5,none⟩) hbk).trans (hcell 5 _ rfl)
   have hWI:WI (wld (l.take i)):=Zjy _ (fun c hc=>HCW.out c (List.mem_of_mem_take hc))
   have HD:Hid (Calls Tryz.prog 38 #[.pointer (some ⟨W.heap.size+1,0,none⟩),.agg #[.string c.nm,.string c.su,vi,.int .i64 c.fl,.int .i64 c.ld,vm]] wr fun e w'=>(∃ u,e=.returned u)∧Hid (∃ vp pv,HW w' W.heap.size (W.heap.size+1) W.heap.size (wld (l.take (i+1))) vp pv)∧Hid (Bw W w')):=by
    obtain ⟨vp,pv,hw⟩:=hHW.out
    refine (Zjo W.heap.size (W.heap.size+1) W.heap.size _ vp pv c vi vm wr hw hB.out.size (hin.keep bel) hWI.nm).mono ?_
    rintro e w' ⟨rfl,hw',hb',_⟩
    rw [wld_at hc]
    exact ⟨⟨_,rfl⟩,hw',hB.out.trans hb'⟩
   clear hcl hcell hin hc bel hWI hHW hB HI
   go_wp2_with (go_at_call 38;refine HD.out.mono ?_;rintro e w3 ⟨⟨u3,rfl⟩,hw3,hb3⟩;clear HD)
   go_roundw
   case rel=>exact ⟨i+1,by go_num,by omega,hw3,hb3⟩
   case measure=>simp [intOf];omega
  ·have e:i=L:=by omega
   subst e
   have HF:Hid (∃ mb vp pv,HW wr W.heap.size (W.heap.size+1) mb (wld l) vp pv):=by
    obtain ⟨vp,pv,hw⟩:=hHW.out
    rw [List.take_of_length_le (by rw [HL.out];exact Nat.le_refl _)] at hw
    exact ⟨_,_,_,hw⟩
   clear hHW HI
   go_wp2
   exact bodyPost_ret (results_tmp rfl _ _ _) rfl ⟨⟨_,rfl,HF.out⟩,hB.out⟩
theorem callB14 (vs:Array Value) (w:World):(callFunc 10 vs).run Tryz.prog w=.ok (.enter 10 vs) w:=by simp [go_sem]
theorem callOf14 (vs:Array Value) (w:World):(callFunc 14 vs).run Tryz.prog w=.ok (.enter 14 vs) w:=by simp [go_sem]
theorem callLk (vs:Array Value) (w:World):(callFunc 16 vs).run Tryz.prog w=.ok (.enter 16 vs) w:=by simp [go_sem]
theorem callRk (vs:Array Value) (w:World):(callFunc 21 vs).run Tryz.prog w=.ok (.enter 21 vs) w:=by simp [go_sem]
theorem all8 {w:World} {n:Nat} {t:TypeId} {a0 a1 a2 a3 a4 a5 a6 a7:Value} (h:w.heap[n]?=some (.cells #[a0,a1,a2,a3,a4,a5,a6,a7] t (0,0))) (u0 u1 u2 u3 u4 u5 u6 u7:Value):((((((((w.setCell ⟨n,0,none⟩ u0).setCell ⟨n,1,none⟩ u1).setCell ⟨n,2,none⟩ u2).setCell ⟨n,3,none⟩ u3).setCell ⟨n,4,none⟩ u4).setCell ⟨n,5,none⟩ u5).setCell ⟨n,6,none⟩ u6).setCell ⟨n,7,none⟩ u7).heap[n]?=some (.cells #[u0,u1,u2,u3,u4,u5,u6,u7] t (0,0)):=by
 have h0:(w.setCell ⟨n,0,none⟩ u0).heap[n]?=some (.cells #[u0,a1,a2,a3,a4,a5,a6,a7] t (0,0)):=(Go.Joins.block_setCell (i:=0) h u0).trans (by simp)
 have h1:((w.setCell ⟨n,0,none⟩ u0).setCell ⟨n,1,none⟩ u1).heap[n]?=some (.cells #[u0,u1,a2,a3,a4,a5,a6,a7] t (0,0)):=(Go.Joins.block_setCell (i:=1) h0 u1).trans (by simp)
 have h2:(((w.setCell ⟨n,0,none⟩ u0).setCell ⟨n,1,none⟩ u1).setCell ⟨n,2,none⟩ u2).heap[n]?=some (.cells #[u0,u1,u2,a3,a4,a5,a6,a7] t (0,0)):=(Go.Joins.block_setCell (i:=2) h1 u2).trans (by simp)
 have h3:((((w.setCell ⟨n,0,none⟩ u0).setCell ⟨n,1,none⟩ u1).setCell ⟨n,2,none⟩ u2).setCell ⟨n,3,none⟩ u3).heap[n]?=some (.cells #[u0,u1,u2,u3,a4,a5,a6,a7] t (0,0)):=(Go.Joins.block_setCell (i:=3) h2 u3).trans (by simp)
 have h4:(((((w.setCell ⟨n,0,none⟩ u0).setCell ⟨n,1,none⟩ u1).setCell ⟨n,2,none⟩ u2).setCell ⟨n,3,none⟩ u3).setCell ⟨n,4,none⟩ u4).heap[n]?=some (.cells #[u0,u1,u2,u3,u4,a5,a6,a7] t (0,0)):=(Go.Joins.block_setCell (i:=4) h3 u4).trans (by simp)
 have h5:((((((w.setCell ⟨n,0,none⟩ u0).setCell ⟨n,1,none⟩ u1).setCell ⟨n,2,none⟩ u2).setCell ⟨n,3,none⟩ u3).setCell ⟨n,4,none⟩ u4).setCell ⟨n,5,none⟩ u5).heap[n]?=some (.cells #[u0,u1,u2,u3,u4,u5,a6,a7] t (0,0)):=(Go.Joins.block_setCell (i:=5) h4 u5).trans (by simp)
 have h6:(((((((w.setCell ⟨n,0,none⟩ u0).setCell ⟨n,1,none⟩ u1).setCell ⟨n,2,none⟩ u2).setCell ⟨n,3,none⟩ u3).setCell ⟨n,4,none⟩ u4).setCell ⟨n,5,none⟩ u5).setCell ⟨n,6,none⟩ u6).heap[n]?=some (.cells #[u0,u1,u2,u3,u4,u5,u6,a7] t (0,0)):=(Go.Joins.block_setCell (i:=6) h5 u6).trans (by simp)
 have h7:((((((((w.setCell ⟨n,0,none⟩ u0).setCell ⟨n,1,none⟩ u1).setCell ⟨n,2,none⟩ u2).setCell ⟨n,3,none⟩ u3).setCell ⟨n,4,none⟩ u4).setCell ⟨n,5,none⟩ u5).setCell ⟨n,6,none⟩ u6).setCell ⟨n,7,none⟩ u7).heap[n]?=some (.cells #[u0,u1,u2,u3,u4,u5,u6,u7] t (0,0)):=(Go.Joins.block_setCell (i:=7) h6 u7).trans (by simp)
 exact h7
theorem far8 {w:World} {n k:Nat} {u0 u1 u2 u3 u4 u5 u6 u7:Value} {x:Obj} (h:¬ k=n) (hx:w.heap[k]?=some x):((((((((w.setCell ⟨n,0,none⟩ u0).setCell ⟨n,1,none⟩ u1).setCell ⟨n,2,none⟩ u2).setCell ⟨n,3,none⟩ u3).setCell ⟨n,4,none⟩ u4).setCell ⟨n,5,none⟩ u5).setCell ⟨n,6,none⟩ u6).setCell ⟨n,7,none⟩ u7).heap[k]?=some x:=by
 rw [heap_setCell_other _ _ _ _ (by simp;omega),heap_setCell_other _ _ _ _ (by simp;omega),heap_setCell_other _ _ _ _ (by simp;omega),heap_setCell_other _ _ _ _ (by simp;omega),heap_setCell_other _ _ _ _ (by simp;omega),heap_setCell_other _ _ _ _ (by simp;omega),heap_setCell_other _ _ _ _ (by simp;omega),heap_setCell_other _ _ _ _ (by simp;omega)]
 exact hx
theorem bel8 {V w:World} {N n:Nat} {u0 u1 u2 u3 u4 u5 u6 u7:Value} (h:Below N V w) (hn:N≤n):Below N V ((((((((w.setCell ⟨n,0,none⟩ u0).setCell ⟨n,1,none⟩ u1).setCell ⟨n,2,none⟩ u2).setCell ⟨n,3,none⟩ u3).setCell ⟨n,4,none⟩ u4).setCell ⟨n,5,none⟩ u5).setCell ⟨n,6,none⟩ u6).setCell ⟨n,7,none⟩ u7):=by
 exact (Below.setCell (Below.setCell (Below.setCell (Below.setCell (Below.setCell (Below.setCell (Below.setCell (Below.setCell h (by simpa using hn) _) (by simpa using hn) _) (by simpa using hn) _) (by simpa using hn) _) (by simpa using hn) _) (by simpa using hn) _) (by simpa using hn) _) (by simpa using hn) _)
theorem looks_w (ps:List Plc) (cs:List Cls) (W:World) (av:Option Addr) (nv cv:Nat) (r c i:Int) (r1 r2 m1 m2 ee v1 v2 ff E:Int) (HB:Hid (∀ w:World,Bw W w→Calls Tryz.prog 10 #[.slice av nv cv] w fun e w'=>(∃ b,e=.returned (.pointer (some ⟨b,0,none⟩))∧WAt b ps w')∧Bw w w')) (HO:Hid (∀ w:World,Bw W w→Calls Tryz.prog 14 #[.slice av nv cv] w fun e w'=>(∃ b,e=.returned (.pointer (some ⟨b,0,none⟩))∧RAt b cs w')∧Bw w w')) (HT:Hid (∀ b w,WAt b ps w→Calls Tryz.prog 16 #[.pointer (some ⟨b,0,none⟩),.int .i64 r,.agg #[.int .i64 c,.int .i64 i]] w fun e w'=>(e=.returned (.tuple #[.agg #[.int .i64 r1,.int .i64 r2,.int .i64 m1,.int .i64 m2,.int .i64 ee,.int .i64 v1,.int .i64 v2,.int .i64 ff],.int .i64 E]))∧Bw w w')) (HU:Hid (∀ b w,RAt b cs w→Calls Tryz.prog 21 #[.pointer (some ⟨b,0,none⟩),.int .i64 r,.agg #[.int .i64 c,.int .i64 i]] w fun e w'=>(e=.returned (.tuple #[.agg #[.int .i64 r1,.int .i64 r2,.int .i64 m1,.int .i64 m2,.int .i64 ee,.int .i64 v1,.int .i64 v2,.int .i64 ff],.int .i64 E]))∧Bw w w')) :
 Calls Tryz.prog 5 #[.slice av nv cv,.int .i64 r,.agg #[.int .i64 c,.int .i64 i]] W fun e w'=>e=.returned (.bool true)∧Bw W w':=by
 have HA:Hid (∀ w:World,Calls Tryz.prog 9 #[] w fun e w'=>e=.returned (.bool true)∧Bw w w'):=Zmp
 have HS:Hid (∀ w:World,Calls Tryz.prog 22 #[.agg #[.int .i64 r1,.int .i64 r2,.int .i64 m1,.int .i64 m2,.int .i64 ee,.int .i64 v1,.int .i64 v2,.int .i64 ff],.agg #[.int .i64 r1,.int .i64 r2,.int .i64 m1,.int .i64 m2,.int .i64 ee,.int .i64 v1,.int .i64 v2,.int .i64 ff]] w fun e w'=>e=.returned (.bool true)∧Bw w w'):=fun w=>Zj9 r1 r2 m1 m2 ee v1 v2 ff w
 have BB:Hid (Bw W W):=Below.refl _ _
 go_enter Tryz.func5,Tryz.ntmps5
 go_wp2_with (first
  | (go_at_call 9;refine (HA.out _).mono ?_;rintro e w1 ⟨rfl,hb⟩;have mmd:=kp2 (n:=W.heap.size) hb;(try clear mmB mm0 mm1 mmf mmL mmN);obtain ⟨mmB,mm0,mm1,mmf,mmL,mmN⟩:=mmd;have BB2:Bw W w1:=Zb (by repeat (first|exact BB.out|exact Below.refl _ _|refine Below.setCell ?_ (by simp;try omega) _|refine Below.alloc ?_ (by have:=BB.out.size;simp;try omega) _|refine Below.drew ?_)) hb;clear BB;have BB:Hid (Bw W w1):=BB2;clear hb HA BB2))
 have q1:W.heap.size<w1.heap.size:=mmL
 go_cut [7,8] (fun s7 s8 wx=>Hid (∃ g,s7=.pointer (some ⟨g,0,none⟩)∧s8=.int .i64 E∧W.heap.size<g∧wx.heap[g]?=some (.cells #[.int .i64 r1,.int .i64 r2,.int .i64 m1,.int .i64 m2,.int .i64 ee,.int .i64 v1,.int .i64 v2,.int .i64 ff] 40 (0,0))∧wx.heap[W.heap.size]?=some (.cells #[.int .i64 c,.int .i64 i] 38 (0,0))∧Bw W wx))
 case first =>
  clear HO HU HS
  go_region_law (first
   | (refine Qw rfl 10 callB14 (.tmp 14) 22 rfl (.slice av nv cv) (by simp [Act.eval,Act.put]) (HB.out _ (by first|exact BB.out.drew|exact (BB.out.drew).alloc (by have:=BB.out.size;simpa using this) _)) ?_;rintro e w2 ⟨⟨b,rfl,hw⟩,hb⟩;refine ⟨_,rfl,?_⟩;have mmd:=kp2 (n:=W.heap.size) hb;(try clear mmB mm0 mm1 mmf mmL mmN);obtain ⟨mmB,mm0,mm1,mmf,mmL,mmN⟩:=mmd;(try (have zzd:=kp8 (n:=w1.heap.size) hb (by first|omega|(simp;try omega)) (by first|exact Za _ _ rfl);(try clear zzB zz0 zz1 zz2 zz3 zz4 zz5 zz6 zz7 zzf zzL zzN);obtain ⟨zzB,zz0,zz1,zz2,zz3,zz4,zz5,zz6,zz7,zzf,zzL,zzN⟩:=zzd));have HH:Hid (WAt b ps w2):=hw;have X2:Hid (Bw W w2):=Zb (by first|exact BB.out.drew|exact (BB.out.drew).alloc (by have:=BB.out.size;simpa using this) _) hb;clear hb HB hw)
   | (refine Zag rfl 16 callLk (.tmp 15) (.tmp 16) (.tmp 17) 24 3 38 rfl (.pointer (some ⟨b,0,none⟩)) (.int .i64 r) (.agg #[.int .i64 c,.int .i64 i]) (by simp [Act.eval]) (by simp [Act.eval]) (by simp [Act.eval]) (HT.out _ _ (by first|exact HH.out|exact HH.out.below ((Below.refl _ _).alloc (Nat.le_refl _) _))) ?_;rintro e w3 ⟨rfl,hb⟩;refine ⟨_,rfl,?_⟩;have qa:W.heap.size<w2.heap.size:=mmL;have mmd:=kp2 (n:=W.heap.size) hb;(try clear mmB mm0 mm1 mmf mmL mmN);obtain ⟨mmB,mm0,mm1,mmf,mmL,mmN⟩:=mmd;(try (have zzd:=kp8 (n:=w1.heap.size) hb (by first|omega|(simp;try omega)) (by first|exact zzB.out|exact Zg zzB.out);(try clear zzB zz0 zz1 zz2 zz3 zz4 zz5 zz6 zz7 zzf zzL zzN);obtain ⟨zzB,zz0,zz1,zz2,zz3,zz4,zz5,zz6,zz7,zzf,zzL,zzN⟩:=zzd));(try (have zyd:=kp8 (n:=w2.heap.size) hb (by first|omega|(simp;try omega)) (by first|exact Za _ _ rfl);(try clear zyB zy0 zy1 zy2 zy3 zy4 zy5 zy6 zy7 zyf zyL zyN);obtain ⟨zyB,zy0,zy1,zy2,zy3,zy4,zy5,zy6,zy7,zyf,zyL,zyN⟩:=zyd));have X3:Hid (Bw W w3):=Zb (by first|exact X2.out|exact X2.out.alloc X2.out.size _) hb;clear hb HT))
  all_goals (go_wp2_with fail)
  all_goals go_meet
  ·exact ⟨_,rfl,rfl,by omega,Za _ _ rfl,Zg mmB.out,X3.out.alloc X3.out.size _⟩
  ·exact ⟨_,rfl,rfl,by omega,all8 zyB.out _ _ _ _ _ _ _ _,far8 (by omega) mmB.out,bel8 X3.out (by omega)⟩
  ·exact ⟨_,rfl,rfl,by omega,all8 zyB.out _ _ _ _ _ _ _ _,far8 (by omega) mmB.out,bel8 X3.out (by omega)⟩
  ·exact ⟨_,rfl,rfl,by omega,Za _ _ rfl,Zg mmB.out,X3.out.alloc X3.out.size _⟩
  ·exact ⟨_,rfl,rfl,by omega,all8 zyB.out _ _ _ _ _ _ _ _,far8 (by omega) mmB.out,bel8 X3.out (by omega)⟩
  ·exact ⟨_,rfl,rfl,by omega,all8 zzB.out _ _ _ _ _ _ _ _,far8 (by omega) mmB.out,bel8 X3.out (by omega)⟩
  ·exact ⟨_,rfl,rfl,by omega,all8 zzB.out _ _ _ _ _ _ _ _,far8 (by omega) mmB.out,bel8 X3.out (by omega)⟩
  ·exact ⟨_,rfl,rfl,by omega,all8 zzB.out _ _ _ _ _ _ _ _,far8 (by omega) mmB.out,bel8 X3.out (by omega)⟩
 case rest =>
  obtain ⟨g,rfl,rfl,hg,hgB,hrB,hBB⟩:=hcut.out
  clear hcut mmB mm0 mm1 mmf mmL mmN BB q1 HB HT
  have BC:Hid (Bw W wc):=hBB
  have ggB:Hid (wc.heap[g]?=some (.cells #[.int .i64 r1,.int .i64 r2,.int .i64 m1,.int .i64 m2,.int .i64 ee,.int .i64 v1,.int .i64 v2,.int .i64 ff] 40 (0,0))):=hgB
  have mmB:Hid (wc.heap[W.heap.size]?=some (.cells #[.int .i64 c,.int .i64 i] 38 (0,0))):=hrB
  obtain ⟨mm0,mm1,mmf,mmL⟩:=rw2 hrB
  have mmN:¬ W.heap.size=wc.heap.size:=by omega
  have ggL:g<wc.heap.size:=(rw8 hgB).2.2.2.2.2.2.2.2.2
  have ggN:¬ g=wc.heap.size:=by omega
  have q1:W.heap.size<wc.heap.size:=mmL
  have q0:g<wc.heap.size:=ggL
  clear hgB hrB hBB
  go_wp2
  go_cut [9,10] (fun s9 s10 wx=>Hid (∃ g2,s9=.pointer (some ⟨g2,0,none⟩)∧s10=.int .i64 E∧wx.heap[g2]?=some (.cells #[.int .i64 r1,.int .i64 r2,.int .i64 m1,.int .i64 m2,.int .i64 ee,.int .i64 v1,.int .i64 v2,.int .i64 ff] 40 (0,0))∧wx.heap[g]?=some (.cells #[.int .i64 r1,.int .i64 r2,.int .i64 m1,.int .i64 m2,.int .i64 ee,.int .i64 v1,.int .i64 v2,.int .i64 ff] 40 (0,0))∧Bw W wx))
  case first =>
   clear HS
   go_region_law (first
    | (refine Qw rfl 14 callOf14 (.tmp 22) 22 rfl (.slice av nv cv) (by simp [Act.eval,Act.put]) (HO.out _ (by first|exact BC.out.drew|exact (BC.out.drew).alloc (by have:=BC.out.size;simpa using this) _)) ?_;rintro e w4 ⟨⟨bx,rfl,hw⟩,hb⟩;refine ⟨_,rfl,?_⟩;have mmd:=kp2 (n:=W.heap.size) hb;(try clear mmB mm0 mm1 mmf mmL mmN);obtain ⟨mmB,mm0,mm1,mmf,mmL,mmN⟩:=mmd;(try (have zzd:=kp8 (n:=wc.heap.size) hb (by first|omega|(simp;try omega)) (by first|exact Za _ _ rfl);(try clear zzB zz0 zz1 zz2 zz3 zz4 zz5 zz6 zz7 zzf zzL zzN);obtain ⟨zzB,zz0,zz1,zz2,zz3,zz4,zz5,zz6,zz7,zzf,zzL,zzN⟩:=zzd));have ggd:=kp8 (n:=g) hb (by first|omega|(simp;try omega)) (by first|exact ggB.out|exact Zg ggB.out);(try clear ggB gg0 gg1 gg2 gg3 gg4 gg5 gg6 gg7 ggf ggL ggN);obtain ⟨ggB,gg0,gg1,gg2,gg3,gg4,gg5,gg6,gg7,ggf,ggL,ggN⟩:=ggd;clear gg0 gg1 gg2 gg3 gg4 gg5 gg6 gg7 ggf;have HR:Hid (RAt bx cs w4):=hw;have X4:Hid (Bw W w4):=Zb (by first|exact BC.out.drew|exact (BC.out.drew).alloc (by have:=BC.out.size;simpa using this) _) hb;clear hb HO hw)
    | (refine Zag rfl 21 callRk (.tmp 23) (.tmp 24) (.tmp 25) 34 3 38 rfl (.pointer (some ⟨bx,0,none⟩)) (.int .i64 r) (.agg #[.int .i64 c,.int .i64 i]) (by simp [Act.eval]) (by simp [Act.eval]) (by simp [Act.eval]) (HU.out _ _ (by first|exact HR.out|exact HR.out.below ((Below.refl _ _).alloc (Nat.le_refl _) _))) ?_;rintro e w5 ⟨rfl,hb⟩;refine ⟨_,rfl,?_⟩;have qb:W.heap.size<w4.heap.size:=mmL;have qg:g<w4.heap.size:=ggL;(try (have zzd:=kp8 (n:=wc.heap.size) hb (by first|omega|(simp;try omega)) (by first|exact zzB.out|exact Zg zzB.out);(try clear zzB zz0 zz1 zz2 zz3 zz4 zz5 zz6 zz7 zzf zzL zzN);obtain ⟨zzB,zz0,zz1,zz2,zz3,zz4,zz5,zz6,zz7,zzf,zzL,zzN⟩:=zzd));(try (have zyd:=kp8 (n:=w4.heap.size) hb (by first|omega|(simp;try omega)) (by first|exact Za _ _ rfl);(try clear zyB zy0 zy1 zy2 zy3 zy4 zy5 zy6 zy7 zyf zyL zyN);obtain ⟨zyB,zy0,zy1,zy2,zy3,zy4,zy5,zy6,zy7,zyf,zyL,zyN⟩:=zyd));have ggd:=kp8 (n:=g) hb (by first|omega|(simp;try omega)) (by first|exact ggB.out|exact Zg ggB.out);(try clear ggB gg0 gg1 gg2 gg3 gg4 gg5 gg6 gg7 ggf ggL ggN);obtain ⟨ggB,gg0,gg1,gg2,gg3,gg4,gg5,gg6,gg7,ggf,ggL,ggN⟩:=ggd;clear gg0 gg1 gg2 gg3 gg4 gg5 gg6 gg7 ggf;have X5:Hid (Bw W w5):=Zb (by first|exact X4.out|exact X4.out.alloc X4.out.size _) hb;clear hb HU))
   all_goals (go_wp2_with fail)
   all_goals go_meet
   ·exact ⟨_,rfl,rfl,Za _ _ rfl,Zg ggB.out,X5.out.alloc X5.out.size _⟩
   ·exact ⟨_,rfl,rfl,all8 zyB.out _ _ _ _ _ _ _ _,far8 (by omega) ggB.out,bel8 X5.out (by omega)⟩
   ·exact ⟨_,rfl,rfl,all8 zyB.out _ _ _ _ _ _ _ _,far8 (by omega) ggB.out,bel8 X5.out (by omega)⟩
   ·exact ⟨_,rfl,rfl,Za _ _ rfl,Zg ggB.out,X5.out.alloc X5.out.size _⟩
   ·exact ⟨_,rfl,rfl,all8 zyB.out _ _ _ _ _ _ _ _,far8 (by omega) ggB.out,bel8 X5.out (by omega)⟩
   ·exact ⟨_,rfl,rfl,all8 zzB.out _ _ _ _ _ _ _ _,far8 (by omega) ggB.out,bel8 X5.out (by omega)⟩
   ·exact ⟨_,rfl,rfl,all8 zzB.out _ _ _ _ _ _ _ _,far8 (by omega) ggB.out,bel8 X5.out (by omega)⟩
   ·exact ⟨_,rfl,rfl,all8 zzB.out _ _ _ _ _ _ _ _,far8 (by omega) ggB.out,bel8 X5.out (by omega)⟩
  case rest =>
   obtain ⟨g2,rfl,rfl,h2B,hgB,hBB⟩:=hcut.out
   obtain ⟨h0,h1,h2,h3,h4,h5,h6,h7,_,_⟩:=rw8 h2B
   obtain ⟨k0,k1,k2,k3,k4,k5,k6,k7,_,_⟩:=rw8 hgB
   have BF:Hid (Bw W _):=hBB
   clear hcut h2B hgB hBB ggL ggN mm0 mm1 mmf mmL mmN
   go_wp2_with (first
    | (go_at_call 22;refine (HS.out _).mono ?_;rintro e w8 ⟨rfl,hb⟩;have B9:Hid (Bw W w8):=Zb BF.out hb;clear hb HS))
   all_goals go_ret
   all_goals exact ⟨retB (by simp),B9.out⟩
theorem Zch (v:Value) (l:List Cls) (r c i:Int) (W:World) (h:Za4 W v l):Calls Tryz.prog 5 #[v,.int .i64 r,.agg #[.int .i64 c,.int .i64 i]] W fun e w'=>e=.returned (.bool true)∧Bw W w':=by
 have hCW:=Zma h
 obtain ⟨hWI,hWJ⟩:=wld_wj l hCW
 have ht:=twW l hCW
 have hS:=sndI_wld l hCW
 have hU:=unqM_wld l hCW
 have hz:=ht.tw.sz ht.wi
 obtain ⟨av,nv,cv,rfl⟩:∃ a n c,v=.slice a n c:=by
  obtain ⟨ao,cap,e,_⟩:=h
  exact ⟨_,_,_,e⟩
 have H1:∀ b w,WAt b (wld l) w→_:=fun b w hw=>lok_c hw hWI r c i
 have H2:∀ b w,RAt b (wldC l) w→_:=fun b w hw=>r14k_c hw ht hWJ hS hU hz r c i
 generalize lokR (wld l) r (c,i)=LL at H1 H2
 obtain ⟨⟨⟨r1,r2⟩,⟨m1,m2⟩,ee,⟨v1,v2⟩,ff⟩,E⟩:=LL
 exact looks_w (wld l) (wldC l) W av nv cv r c i r1 r2 m1 m2 ee v1 v2 ff E (fun w hb=>(Zmm _ l w (Zgo h hb)).mono fun e w' zz=>⟨by obtain ⟨b,e1,mb,vp,pv,hw⟩:=zz.1;exact ⟨b,e1,hw.wat⟩,zz.2⟩) (fun w hb=>of_c _ l w (Zgo h hb)) H1 H2
end Go.Proofs.YtmafkabjjibcbaaGreat
