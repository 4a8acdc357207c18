import Derived.Test.YtmafkabjjibcbaaGreatRnF
set_option maxHeartbeats 16000000
set_option maxRecDepth 100000
namespace Go.Proofs.YtmafkabjjibcbaaGreat
open Go.RowKit Go.Maps
theorem any_gK {ps:List Plc} {nm ds:ByteArray} (Ks:List Nat) (s:Nat):((Ks.map (gK ps nm ds)).any fun x=>(x.1 == (gK ps nm ds s).1)&&(x.2 == (gK ps nm ds s).2))=Ks.contains s:=by
 rw [Bool.eq_iff_iff,List.any_eq_true,List.contains_iff_mem]
 constructor
 ·rintro ⟨x,hx,h⟩
  obtain ⟨k,hk,rfl⟩:=List.mem_map.1 hx
  simp only [gK,Bool.and_eq_true,beq_iff_eq] at h
  have:k=s:=by omega
  rw [← this];exact hk
 ·intro h
  exact ⟨_,List.mem_map.2 ⟨s,h,rfl⟩,by simp⟩
theorem AllS.len {ps:List Plc} {a:Int×Int} {nm ds:ByteArray} {Ks:List Nat} (h:AllS ps a nm ds Ks):Ks.length≤ps.length:=Zu _ _ h.nd h.lt
theorem r9all_w {b:Nat} {ps:List Plc} {W:World} (c i:Int) (x:HM) (hps:ps.length≤300) (RR:World→Prop) (HRB:Hid (∀ w w',RR w→Bw w w'→RR w')) (HRG:Hid (∀ w,Bw W w→RR w))
 (HST:Hid (hasI x.fl 8=false)) (kA:Nat) (HKA:Hid (kA<ps.length∧gK ps x.nm x.ds kA=(c,i)∧stI ps (c,i)=false))
 (HM:Hid (∀ w,RR w→Calls Tryz.prog 188 #[.pointer (some ⟨b,0,none⟩),.agg #[.int .i64 c,.int .i64 i]] w fun e w'=>(∃ a n s,e=.returned (.agg #[.string x.nm,.string x.ds,.int .i64 x.fl,.int .i64 x.lo,.int .i64 x.st,.slice a n s]))∧Bw w w'))
 (HN:Hid (∀ w,RR w→Calls Tryz.prog 189 #[.pointer (some ⟨b,0,none⟩),.agg #[.int .i64 c,.int .i64 i]] w fun e w'=>(∃ v,e=.returned v∧w'.ownsRow w.heap.size 38 2 v (namK ps x.nm x.ds ps.length).length (Zf ((namK ps x.nm x.ds ps.length).map (gK ps x.nm x.ds))))∧Bw w w'))
 (HP:Hid (∀ (s y:Nat) w,s∈namK ps x.nm x.ds ps.length→Ov ps (c,i) (gK ps x.nm x.ds y)→RR w→Calls Tryz.prog 191 #[.pointer (some ⟨b,0,none⟩),.agg #[.int .i64 (gK ps x.nm x.ds s).1,.int .i64 (gK ps x.nm x.ds s).2],.agg #[.int .i64 (gK ps x.nm x.ds y).1,.int .i64 (gK ps x.nm x.ds y).2]] w fun e w'=>e=.returned (.bool (plI ps (gK ps x.nm x.ds s) (gK ps x.nm x.ds y)))∧Bw w w')) :
 Calls Tryz.prog 126 #[.pointer (some ⟨b,0,none⟩),.agg #[.int .i64 c,.int .i64 i]] W fun e w'=>(∃ v Ks,e=.returned v∧w'.ownsRow W.heap.size 38 2 v (Ks.map (gK ps x.nm x.ds)).length (Zf (Ks.map (gK ps x.nm x.ds)))∧AllS ps (c,i) x.nm x.ds Ks∧DoneI ps x.nm x.ds Ks.length Ks)∧Bw W w':=by
 obtain ⟨i0,hi0,hz0,hz1,hz2⟩:=info_parts Tryz.hinfoD
 have HH:Hid (∀ w:World,Calls Tryz.prog 62 #[.int .i64 x.fl,.int .i64 8] w fun e w'=>e=.returned (.bool false)∧w'=w):=fun w=>by
  have:=Zw x.fl 8 w
  rw [HST.out] at this
  exact this
 obtain ⟨G,hG⟩:∃ G:Nat→Int×Int,G=gK ps x.nm x.ds:=⟨_,rfl⟩
 have HGA:Hid (∀ (Ks:List Nat) (s:Nat),((Ks.map G).any fun y=>(y.1 == (G s).1)&&(y.2 == (G s).2))=Ks.contains s):=fun Ks s=>by rw [hG];exact any_gK Ks s
 have HGE:Hid (G=gK ps x.nm x.ds):=hG
 rw [← hG] at HN HP HKA ⊢
 obtain ⟨S,hS⟩:∃ S,S=namK ps x.nm x.ds ps.length:=⟨_,rfl⟩
 have HSE:Hid (S=namK ps x.nm x.ds ps.length):=hS
 rw [← hS] at HN HP
 have hSl:S.length≤300:=by
  have:=Zd5 ps x.nm x.ds ps.length
  rw [Zd4,List.length_map,← hS] at this
  omega
 obtain ⟨T,hT⟩:∃ T,S.length=T:=⟨_,rfl⟩
 have HTL:Hid (S.length=T):=hT
 rw [hT] at HN hSl
 clear hG hS hT
 have FLD:∀ (a:Option Addr) (n m:Nat) (w:World),(Instr.field 87 (.agg #[.string x.nm,.string x.ds,.int .i64 x.fl,.int .i64 x.lo,.int .i64 x.st,.slice a n m]) 2).run Tryz.prog w=.ok (.int .i64 x.fl) w:=fun a n m w=>by
  simp [Instr.field,run_underlying Tryz.underlying87,go_sem,part,asAgg]
 go_enter Tryz.func126,Tryz.ntmps126
 go_wp2_with (first
  | (go_at_call 188;refine (HM.out _ (HRG.out _ ((Below.refl _ _).alloc (Nat.le_refl _) _))).mono ?_;rintro e w1 ⟨⟨xa,xk,xo,rfl⟩,hb⟩;have cbd:=kp2 (n:=W.heap.size) hb (by simp) (Zm _ _);obtain ⟨cbB,cb0,cb1,cbf,cbL,cbN⟩:=cbd;have B1:Hid (Bw W w1):=Za ((Below.refl _ _).alloc (Nat.le_refl _) _) hb;clear hb HM)
  | (go_at_call 62;refine (HH.out _).mono ?_;rintro e w9 ⟨rfl,hw9⟩;rw [hw9];clear hw9 w9 HH)
  | (go_at_call 189;refine (HN.out _ (HRG.out _ (B1.out.alloc B1.out.size _))).mono ?_;rintro e w2 ⟨⟨v,rfl,ho⟩,hb⟩;obtain ⟨sa,sc,rfl⟩:=ownv ho;have OS:Hid (w2.ownsRow (w1.heap.size+1) 38 2 (.slice sa T sc) T (Zf (S.map G))):=Go.Joins.ownsRow_le ho (by simp);have LB:Hid (w2.heap[w1.heap.size]?=some (.cells #[.int .i64 c,.int .i64 i] 38 (0,0))):=(hb.block w1.heap.size (by simp)).trans (Zm _ _);have B2:Hid (Bw w1 w2):=Za ((Below.refl _ _).alloc (Nat.le_refl _) _) hb;clear ho hb HN))
 have hLB:=LB.out
 clear LB
 go_loopw [5,7] (fun sv kv wr=>∃ (Ks:List Nat) (ii:Nat) (la:Option Addr) (lc:Nat),sv=.slice la Ks.length lc∧kv=.int .i64 ii∧ii≤Ks.length∧Ks.length≤300∧Hid (AllS ps (c,i) x.nm x.ds Ks)∧Hid (DoneI ps x.nm x.ds ii Ks)∧Hid (wr.ownsRow w1.heap.size 38 2 (.slice la Ks.length lc) Ks.length (Zf (Ks.map G)))∧Hid (Value.ownBlock (.slice sa T sc)=none∨Value.ownBlock (.slice sa T sc)≠Value.ownBlock (.slice la Ks.length lc))∧Hid (wr.ownsRow (w1.heap.size+1) 38 2 (.slice sa T sc) T (Zf (S.map G)))∧Hid (Bw w1 wr)) (fun _ kv _=>300 - (intOf kv).toNat)
 case atStart =>
  refine ⟨[kA],0,some ⟨w1.heap.size,0,none⟩,1,rfl,rfl,by simp,by simp,?_,?_,?_,?_,OS,B2⟩
  ·have:=HKA.out;exact AllS.start this.1 (by rw [← HGE.out];exact this.2.1) this.2.2
  ·intro p y hp;omega
  ·refine ⟨rfl,.inr ⟨w1.heap.size,1,_,rfl,Nat.le_refl _,hLB,Nat.le_refl _,by unfold maxLen;omega,rfl,?_⟩⟩
   simp [Zf,HKA.out.2.1]
  ·rcases OS.out.2 with hn|⟨g,cap,cur,hv,hg,_⟩
   ·exact .inl (by rw [hn.1];rfl)
   ·refine .inr ?_
    rw [hv]
    simp [Value.ownBlock]
    omega
 case round =>
  obtain ⟨Ks0,ii,la0,lc0,rfl,rfl,hii,hK30,hA0,hD0,hO0,hNE0,hOS0,hB0⟩:=hrel
  by_cases hlt:ii<Ks0.length
  ·have hiiI:(ii:Int)<(Ks0.length:Int):=by omega
   obtain ⟨kx,hkx0⟩:∃ kx,Ks0[ii]?=some kx:=⟨_,List.getElem?_eq_getElem hlt⟩
   obtain ⟨wo,hwo⟩:∃ w,w=wr:=⟨_,rfl⟩
   subst hwo
   go_wp2
   go_loopw [5,8] (fun sv jv wr=>∃ (Ks:List Nat) (j:Nat) (la:Option Addr) (lc:Nat),sv=.slice la Ks.length lc∧jv=.int .i64 j∧j≤T∧Ks.length≤300∧Hid (AllS ps (c,i) x.nm x.ds Ks)∧Hid (DoneI ps x.nm x.ds ii Ks)∧Hid (Ks[ii]?=some kx)∧Hid (∀ s∈S.take j,plI ps (G s) (G kx)=true→s∈Ks)∧Hid (wr.ownsRow w1.heap.size 38 2 (.slice la Ks.length lc) Ks.length (Zf (Ks.map G)))∧Hid (Value.ownBlock (.slice sa T sc)=none∨Value.ownBlock (.slice sa T sc)≠Value.ownBlock (.slice la Ks.length lc))∧Hid (wr.ownsRow (w1.heap.size+1) 38 2 (.slice sa T sc) T (Zf (S.map G)))∧Hid (Bw w1 wr)) (fun _ jv _=>T - (intOf jv).toNat)
   case atStart=>exact ⟨Ks0,0,la0,lc0,rfl,rfl,Nat.zero_le _,hK30,hA0,hD0,hkx0,(fun s hs=>by cases hs),hO0,hNE0,hOS0,hB0⟩
   case round =>
    obtain ⟨Ks,j,la,lc,rfl,rfl,hj,hK3,hA,hD,hkx,hNJ,hO,hNE,hOS,hB⟩:=hrel
    have hiK:ii<Ks.length:=(List.getElem?_eq_some_iff.1 hkx.out).1
    by_cases hlj:j<T
    ·have hjS:j<S.length:=by rw [HTL.out];exact hlj
     have hjI:(j:Int)<(T:Int):=by omega
     have hiiK:(ii:Int)<(Ks.length:Int):=by omega
     obtain ⟨s,hs⟩:∃ s,S[j]?=some s:=⟨_,List.getElem?_eq_getElem hjS⟩
     have hsm:s∈S:=List.mem_of_getElem? hs
     obtain ⟨gs,c2,hform⟩:=Go.Joins.ownsRow_form hOS.out (by omega)
     injection hform with hca _ hcc
     subst hca hcc
     obtain ⟨d0,d1,hgs⟩:=Yc (l:=S.map G) (i:=j) (x:=G s) (by rw [List.length_map,HTL.out];exact hOS.out) (by rw [List.getElem?_map,hs];rfl)
     obtain ⟨gl,c3,hform2⟩:=Go.Joins.ownsRow_form hO.out (by omega)
     injection hform2 with hca2 _ hcc2
     subst hca2 hcc2
     obtain ⟨l0,l1,hgl⟩:=Yc (l:=Ks.map G) (i:=ii) (x:=G kx) (by rw [List.length_map];exact hO.out) (by rw [List.getElem?_map,hkx.out];rfl)
     obtain ⟨σ,V,hne,V1,V2⟩:=class_of' (fun w'=>Bw wr w') ⟨_,Below.refl _ _⟩
     replace d0:=fun s0=>((V1.out s0).cell (p:=⟨gs,j * 2,none⟩) hgs).trans d0
     replace d1:=fun s0=>((V1.out s0).cell (p:=⟨gs,j * 2+1,none⟩) hgs).trans d1
     replace l0:=fun s0=>((V1.out s0).cell (p:=⟨gl,ii * 2,none⟩) hgl).trans l0
     replace l1:=fun s0=>((V1.out s0).cell (p:=⟨gl,ii * 2+1,none⟩) hgl).trans l1
     have HQ:Hid (∀ s0,Calls Tryz.prog 190 #[.slice (some ⟨gl,0,none⟩) Ks.length lc,.agg #[.int .i64 (G s).1,.int .i64 (G s).2]] (V s0) fun e w''=>e=.returned (.bool (Ks.contains s))∧∃ s',w''=V s'):=fun s0=>by
      have:=r9in_c (W:=V s0) (N:=w1.heap.size) (Ks.map G) (by rw [List.length_map];omega) (.slice (some ⟨gl,0,none⟩) Ks.length lc) (by rw [List.length_map];exact Zb hO.out (V1.out s0)) (G s).1 (G s).2
      rw [HGA.out] at this
      exact this.mono fun e w'' zz=>⟨zz.1,V2.out _ (Za (V1.out s0) zz.2)⟩
     have hRwr:RR wr:=HRG.out _ (B1.out.trans (hB.out.mono B1.out.size))
     have HPL:Hid (∀ s0,Calls Tryz.prog 191 #[.pointer (some ⟨b,0,none⟩),.agg #[.int .i64 (G s).1,.int .i64 (G s).2],.agg #[.int .i64 (G kx).1,.int .i64 (G kx).2]] (V s0) fun e w''=>e=.returned (.bool (plI ps (G s) (G kx)))∧∃ s',w''=V s'):=fun s0=>(HP.out s kx (V s0) hsm (by rw [HGE.out];exact hA.out.ov kx (List.mem_of_getElem? hkx.out)) (HRB.out _ _ hRwr (V1.out s0))).mono fun e w'' zz=>⟨zz.1,V2.out _ (Za (V1.out s0) zz.2)⟩
     have NXT:Hid (∀ Ks':List Nat,(∀ t∈Ks,t∈Ks')→(plI ps (G s) (G kx)=true→s∈Ks')→∀ t∈S.take (j+1),plI ps (G t) (G kx)=true→t∈Ks'):=fun Ks' h1 h2 t ht hp=>by
      rw [List.take_add_one,hs,Option.toList_some,List.mem_append] at ht
      rcases ht with ht|ht
      ·exact h1 t (hNJ.out t ht hp)
      ·rw [List.mem_singleton] at ht
       subst ht
       exact h2 hp
     have HIN:Hid (Ks.contains s=true→s∈Ks):=fun h=>List.contains_iff_mem.1 h
     have HNI:Hid (Ks.contains s=false→¬ s∈Ks):=fun h hm=>by
      rw [List.contains_iff_mem.2 hm] at h;cases h
     have HSN:Hid (∀ hp:plI ps (G s) (G kx)=true,¬ s∈Ks→AllS ps (c,i) x.nm x.ds (Ks++[s])∧DoneI ps x.nm x.ds ii (Ks++[s])):=fun hp hn=>by
      rw [HGE.out] at hp
      exact ⟨hA.out.snoc (by rw [← HSE.out];exact hsm) hn (List.mem_of_getElem? hkx.out) hp,hD.out.snoc (by omega) s⟩
     have HLE:Hid (Ks.length≤ps.length):=hA.out.len
     have HGS:Hid ((Ks++[s]).map G=Ks.map G++[G s]):=by rw [Hid,List.map_append];rfl
     generalize hct:Ks.contains s=ct at *
     generalize hpl:plI ps (G s) (G kx)=pl at *
     generalize hgS:G s=Gs at *
     generalize hgX:G kx=Gx at *
     obtain ⟨s1,s2⟩:=Gs
     obtain ⟨x1,x2⟩:=Gx
     simp only at d0 d1 l0 l1 HQ HPL
     clear hct hs hjS hsm hgS hgX HP hRwr
     cases ct
     case true =>
      have NX:=NXT.out Ks (fun t h=>h) (fun _=>HIN.out rfl)
      go_wp2
      refine Ze (C:=fun w'=>∃ s,w'=V s) (by kernel_rfl) (by kernel_rfl) (V2.out _ ((Below.refl _ _).drew)) ?_
      repeat (go_big_quiet_step (first|(go_at_call 190;exact HQ.out _)|(go_at_call 191;exact HPL.out _)))
      refine wpQuiet_nil ?_
      intro w9 hw9
      obtain ⟨s9,hw9⟩:=hw9
      have hb9:Bw wr w9:=by rw [hw9];exact V1.out s9
      have q0:w9.cell? ⟨gs,j * 2,none⟩=some (.int .i64 s1):=by rw [hw9];exact d0 s9
      have q1:w9.cell? ⟨gs,j * 2+1,none⟩=some (.int .i64 s2):=by rw [hw9];exact d1 s9
      have B9:Hid (Bw w1 w9):=Za hB.out hb9
      have O9:Hid (w9.ownsRow w1.heap.size 38 2 (.slice (some ⟨gl,0,none⟩) Ks.length lc) Ks.length (Zf (Ks.map G))):=Zb hO.out hb9
      have S9:Hid (w9.ownsRow (w1.heap.size+1) 38 2 (.slice (some ⟨gs,0,none⟩) T sc) T (Zf (S.map G))):=Zb hOS.out hb9
      clear hw9 hb9
      go_wp2
      go_roundw
      case rel=>exact ⟨Ks,j+1,some ⟨gl,0,none⟩,lc,rfl,by go_num,by omega,hK3,hA,hD,hkx,NX,O9,hNE,S9,B9⟩
      case measure=>simp [intOf];omega
     case false =>
      cases pl
      case false =>
       have NX:=NXT.out Ks (fun t h=>h) (fun h=>by cases h)
       go_wp2
       refine Ze (C:=fun w'=>∃ s,w'=V s) (by kernel_rfl) (by kernel_rfl) (V2.out _ ((Below.refl _ _).drew)) ?_
       repeat (go_big_quiet_step (first|(go_at_call 190;exact HQ.out _)|(go_at_call 191;exact HPL.out _)))
       refine wpQuiet_nil ?_
       intro w9 hw9
       obtain ⟨s9,hw9⟩:=hw9
       have hb9:Bw wr w9:=by rw [hw9];exact V1.out s9
       have q0:w9.cell? ⟨gs,j * 2,none⟩=some (.int .i64 s1):=by rw [hw9];exact d0 s9
       have q1:w9.cell? ⟨gs,j * 2+1,none⟩=some (.int .i64 s2):=by rw [hw9];exact d1 s9
       have B9:Hid (Bw w1 w9):=Za hB.out hb9
       have O9:Hid (w9.ownsRow w1.heap.size 38 2 (.slice (some ⟨gl,0,none⟩) Ks.length lc) Ks.length (Zf (Ks.map G))):=Zb hO.out hb9
       have S9:Hid (w9.ownsRow (w1.heap.size+1) 38 2 (.slice (some ⟨gs,0,none⟩) T sc) T (Zf (S.map G))):=Zb hOS.out hb9
       clear hw9 hb9
       go_wp2
       go_roundw
       case rel=>exact ⟨Ks,j+1,some ⟨gl,0,none⟩,lc,rfl,by go_num,by omega,hK3,hA,hD,hkx,NX,O9,hNE,S9,B9⟩
       case measure=>simp [intOf];omega
      case true =>
       obtain ⟨hA2,hD2⟩:=HSN.out rfl (HNI.out rfl)
       have NX:=NXT.out (Ks++[s]) (fun t h=>List.mem_append_left _ h) (fun _=>List.mem_append_right _ (List.mem_singleton.2 rfl))
       have hK4:Ks.length+1≤300:=by have:=hA2.len;rw [List.length_append,List.length_singleton] at this;omega
       have hkx2:(Ks++[s])[ii]?=some kx:=by rw [List.getElem?_append_left hiK];exact hkx.out
       go_wp2
       refine Ze (C:=fun w'=>∃ s,w'=V s) (by kernel_rfl) (by kernel_rfl) (V2.out _ ((Below.refl _ _).drew)) ?_
       repeat (go_big_quiet_step (first|(go_at_call 190;exact HQ.out _)|(go_at_call 191;exact HPL.out _)))
       refine wpQuiet_nil ?_
       intro w9 hw9
       obtain ⟨s9,hw9⟩:=hw9
       have hb9:Bw wr w9:=by rw [hw9];exact V1.out s9
       have q0:w9.cell? ⟨gs,j * 2,none⟩=some (.int .i64 s1):=by rw [hw9];exact d0 s9
       have q1:w9.cell? ⟨gs,j * 2+1,none⟩=some (.int .i64 s2):=by rw [hw9];exact d1 s9
       have B9:Hid (Bw w1 w9):=Za hB.out hb9
       have O9:Hid (w9.ownsRow w1.heap.size 38 2 (.slice (some ⟨gl,0,none⟩) Ks.length lc) Ks.length (Zf (Ks.map G))):=Zb hO.out hb9
       have S9:Hid (w9.ownsRow (w1.heap.size+1) 38 2 (.slice (some ⟨gs,0,none⟩) T sc) T (Zf (S.map G))):=Zb hOS.out hb9
       clear hw9 hb9
       have gsN:¬ gs=w9.heap.size:=by have:=World.block_lt_of_cell? w9 _ q0;simp only at this;omega
       go_wp2_with (first
        | (at_builtin;refine wpList_append_own_at _ rfl _ _ 30 rfl w1.heap.size 38 i0 (.agg #[.int .i64 0,.int .i64 0]) 2 16 Tryz.underlying30 hi0 hz0 hz1 hz2 rfl (by decide) (.slice (some ⟨gl,0,none⟩) Ks.length lc) Ks.length (Zf (Ks.map G)) rfl (O9.out.alloc _) ⟨w9.heap.size,0,none⟩ 1 1 [.int .i64 s1,.int .i64 s2] rfl rfl ?c1 ?c2 ?c3 ?c4 ?c5 ?_))
       case c1=>intro jj u hj;rw [addr_add];match jj,hj with
        | 0,hj=>simp at hj;subst hj;simp [go_sem]
        | 1,hj=>simp at hj;subst hj;simp [go_sem]
        | (jj+2),hj=>simp at hj
       case c2=>intro u hu;simp at hu;rcases hu with rfl|rfl <;> rfl
       case c3=>unfold maxLen;omega
       case c4=>omega
       case c5=>have:=B9.out.size;simp;omega
       intro v' w4 hown hgrow _ hblk
       obtain ⟨va2,vn2,rfl⟩:=ownv hown
       have B4:Hid (Bw w1 w4):=by
        have hb1:Bw w1 (w9.alloc (.cells #[.int .i64 s1,.int .i64 s2] 38)):=B9.out.alloc B9.out.size _
        refine hb1.grown hgrow hb1.size (fun x hx=>?_)
        have:=(O9.out.lt x hx).1
        omega
       have O4:Hid (w4.ownsRow w1.heap.size 38 2 (.slice va2 (Ks.length+1) vn2) (Ks++[s]).length (Zf ((Ks++[s]).map G))):=by
        rw [Hid,List.length_append,HGS.out,Y2];exact hown
       have S4:Hid (w4.ownsRow (w1.heap.size+1) 38 2 (.slice (some ⟨gs,0,none⟩) T sc) T (Zf (S.map G))):=(S9.out.alloc _).kept hgrow hNE.out
       have NE4:Hid (Value.ownBlock (.slice (some ⟨gs,0,none⟩) T sc)=none∨Value.ownBlock (.slice (some ⟨gs,0,none⟩) T sc)≠Value.ownBlock (.slice va2 (Ks.length+1) vn2)):=by
        rcases hblk with hblk|hblk
        ·rw [Hid,hblk];exact hNE.out
        ·rw [Hid,hblk]
         cases hz:Value.ownBlock (.slice (some ⟨gs,0,none⟩) T sc) with
         | none=>exact .inl rfl
         | some z =>
           refine .inr (fun e=>?_)
           have:=(S9.out.lt z hz).2
           simp at e
           omega
       clear hown hgrow hblk
       go_wp2
       go_roundw
       case rel=>exact ⟨Ks++[s],j+1,va2,vn2,by simp,by go_num,by omega,by simpa using hK4,hA2,hD2,hkx2,NX,by simpa using O4,by simpa using NE4,S4,B4⟩
       case measure=>simp [intOf];omega
    ·have e:j=T:=by omega
     subst e
     have hD3:DoneI ps x.nm x.ds (ii+1) Ks:=by
      intro p y hp hy t ht hpl
      by_cases e:p=ii
      ·subst e
       rw [hkx.out] at hy
       cases hy
       have h1:=hNJ.out t (by rw [← HTL.out,List.take_length,HSE.out];exact ht)
       rw [HGE.out] at h1
       exact h1 hpl
      ·exact hD.out p y (by omega) hy t ht hpl
     clear hNJ hD
     go_wp2
     go_roundw
     case rel=>exact ⟨Ks,ii+1,la,lc,rfl,by go_num,hiK,hK3,hA,hD3,hO,hNE,hOS,hB⟩
     case measure=>simp [intOf];omega
  ·have e:ii=Ks0.length:=by omega
   subst e
   go_wp2
   exact bodyPost_ret (results_tmp rfl _ _ _) rfl ⟨⟨_,Ks0,rfl,by rw [List.length_map];exact Go.Joins.ownsRow_le hO0.out B1.out.size,hA0.out,hD0.out⟩,B1.out.trans (hB0.out.mono B1.out.size)⟩
theorem r9all_c {b:Nat} {cs:List Cls} {ps:List Plc} {W:World} (h:RAt b cs W) (ht:TwW cs ps) (hJ:WJ ps) (hS:SndI ps) (hU:UnqM ps) (hz:∀ c∈cs,c.nm.size≤maxLen) (c i:Int) (x:HM) (hx:Zo ps c i=some x) (hst:hasI x.fl 8=false):Calls Tryz.prog 126 #[.pointer (some ⟨b,0,none⟩),.agg #[.int .i64 c,.int .i64 i]] W fun e w'=>(∃ v A,e=.returned v∧w'.ownsRow W.heap.size 38 2 v A.length (Zf A)∧A.length≤300∧(∀ y,y∈A↔Ov ps (c,i) y)∧A.Nodup)∧Bw W w':=by
 obtain ⟨kA,hk,hg,_⟩:=Zhd hU (a:=(c,i)) hx (nm:=x.nm) (ds:=x.ds) rfl rfl
 have hs0:stI ps (c,i)=false:=by rw [stI];simp only [hx];exact hst
 refine (r9all_w (b:=b) (ps:=ps) (W:=W) c i x ht.wi.hi (RAt b cs) (fun w w' hw hb=>hw.below hb) (fun w hb=>h.below hb) hst kA ⟨hk,hg,hs0⟩ (fun w hw=>Jp hw ht c i x hx) (fun w hw=>?_) (fun s y w hs ho hw=>?_)).mono fun e w' zz=>?_
 ·have:=Zkx hw ht c i x hx
  rw [Zd4,List.length_map] at this
  exact this
 ·obtain ⟨_,h2,_⟩:=Zbh.1 hs
  obtain ⟨⟨m1,hm1,_⟩,_⟩:=J4 h2
  obtain ⟨n,hn⟩:=ho
  obtain ⟨m2,hm2,_⟩:=Yp ht.wi (a:=(c,i)) hx n _ hn
  exact Zkw hw ht hJ hS hz _ _ _ _ m1 m2 hm1 hm2
 ·obtain ⟨⟨v,Ks,e1,e2,e3,e4⟩,e5⟩:=zz
  refine ⟨⟨v,Ks.map (gK ps x.nm x.ds),e1,e2,?_,fun y=>AllS.all ht.wi hU (a:=(c,i)) hx e3 e4 y,?_⟩,e5⟩
  ·rw [List.length_map]
   exact Nat.le_trans e3.len ht.wi.hi
  ·refine List.Pairwise.map _ (fun a b hab he=>hab ?_) e3.nd
   have:=congrArg Prod.fst he
   simp only [gK] at this
   omega
def ovC (ps:List Plc) (nm ds:ByteArray) (a:Int×Int) (k:Nat):Bool:=decide ((fndI ps (k:Int) nm ds).2=0)&&(ovrI ps (gK ps nm ds k) a).1
theorem ov_st {ps:List Plc} {a x:Int×Int} (h:Ov ps a x):stI ps a=false:=by
 obtain ⟨n,hn⟩:=h
 induction n generalizing x with
 | zero=>exact hn.2
 | succ n ih=>obtain ⟨y,hy,_⟩:=hn;exact ih hy
theorem Zam {ps:List Plc} (hW:WI ps) (hU:UnqM ps) {a:Int×Int} {ma:HM} (ha:Zo ps a.1 a.2=some ma) {k:Nat}:ovC ps ma.nm ma.ds a k=true↔Ov ps a (gK ps ma.nm ma.ds k):=by
 constructor
 ·intro h
  rw [ovC,Bool.and_eq_true] at h
  cases hx:Zo ps (gK ps ma.nm ma.ds k).1 (gK ps ma.nm ma.ds k).2 with
  | none=>have:=h.2;simp [ovrI,hx] at this
  | some mx=>exact (Zk5 hW hU ha hx).2.1 h.2
 ·intro h
  obtain ⟨n,hn⟩:=h
  obtain ⟨mx,hmx,e1,e2,_⟩:=Yp hW ha n _ hn
  have hf:=hU.fnd hmx e1 e2
  rw [ovC,Bool.and_eq_true,decide_eq_true_iff]
  refine ⟨?_,(Zk5 hW hU ha hmx).2.2 ⟨n,hn⟩⟩
  have:(gK ps ma.nm ma.ds k).1=(k:Int):=rfl
  rw [this] at hf
  rw [hf]
theorem ov_gK {ps:List Plc} (hW:WI ps) (hU:UnqM ps) {a:Int×Int} {ma:HM} (ha:Zo ps a.1 a.2=some ma) {x:Int×Int} (h:Ov ps a x):∃ k,k<ps.length∧x=gK ps ma.nm ma.ds k∧ovC ps ma.nm ma.ds a k=true∧a.1≤(k:Int):=by
 obtain ⟨n,hn⟩:=h
 obtain ⟨mx,hmx,e1,e2,_,e4,_⟩:=Yp hW ha n _ hn
 obtain ⟨k,hk,e,_⟩:=Zhd hU hmx e1 e2
 refine ⟨k,hk,e.symm,(Zam hW hU ha).2 (e ▸ ⟨n,hn⟩),?_⟩
 have h1:=Zes hW e4
 have h2:(k:Int)=x.1:=by rw [← e];rfl
 omega
theorem ovC_le {ps:List Plc} (hW:WI ps) (hU:UnqM ps) {a:Int×Int} {ma:HM} (ha:Zo ps a.1 a.2=some ma) {k:Nat} (h:ovC ps ma.nm ma.ds a k=true):a.1≤(k:Int)∧k<ps.length:=by
 obtain ⟨j,hj,e,_,h4⟩:=ov_gK hW hU ha ((Zam hW hU ha).1 h)
 have:(k:Int)=(j:Int):=congrArg Prod.fst e
 omega
theorem Zlm {ps:List Plc} (hW:WI ps) (hU:UnqM ps) {a:Int×Int} {ma:HM} (ha:Zo ps a.1 a.2=some ma) {l:List Nat} (hasc:l.Pairwise (· < ·)) (hcl:∀ d∈l,∀ j:Nat,extI ps (d:Int) (j:Int)=true→ifcI ps (j:Int)=false→a.1<(j:Int)→j∈l):∀ n,gthL ps a (askL ps ma a (l.take n))=(if stI ps a then [] else [a])++((l.take n).filter fun k=>ovC ps ma.nm ma.ds a k&&((k:Int) != a.1)).map (gK ps ma.nm ma.ds):=by
 intro n
 induction n with
 | zero =>
   rw [List.take_zero,askL,nskL,gthL,List.foldl_cons,List.foldl_nil,gth1,Zav.2 rfl]
   cases stI ps a <;> simp
 | succ n ih =>
   by_cases hn:n<l.length
   ·obtain ⟨d,hd⟩:∃ d,l[n]?=some d:=⟨_,List.getElem?_eq_getElem hn⟩
    have hst:=Zb0 (ps:=ps) (nm:=ma.nm) (ds:=ma.ds) (a:=a.1) hd
    have hask:askL ps ma a (l.take (n+1))=askL ps ma a (l.take n)++(if (fndI ps (d:Int) ma.nm ma.ds).2=0∧(d:Int)≠a.1 then [gK ps ma.nm ma.ds d] else []):=by rw [askL,hst,askL,List.cons_append];rfl
    rw [hask,List.take_add_one,hd,Option.toList_some,List.filter_append,List.map_append]
    by_cases hc:(fndI ps (d:Int) ma.nm ma.ds).2=0∧(d:Int)≠a.1
    ·rw [if_pos hc,Zb4,gth1]
     have he:eqI (gK ps ma.nm ma.ds d) a=false:=by
      cases e:eqI (gK ps ma.nm ma.ds d) a with
      | false=>rfl
      | true=>rw [Zav] at e;exact absurd (congrArg Prod.fst e) hc.2
     have hk:(gthL ps a (askL ps ma a (l.take n))).any (plI ps (gK ps ma.nm ma.ds d))=ovC ps ma.nm ma.ds a d:=by
      rw [Bool.eq_iff_iff,Zam hW hU ha]
      constructor
      ·intro h
       obtain ⟨y,hy,hp⟩:=List.any_eq_true.1 h
       exact (Zll _ [] (fun y hy=>by cases hy) y hy:Ov ps a y).step hp
      ·intro h
       have hs:=ov_st h
       obtain ⟨m,hm⟩:=h
       cases m with
       | zero=>exact absurd (congrArg Prod.fst hm.1) hc.2
       | succ m =>
         obtain ⟨y,hy,hp⟩:=hm
         refine List.any_eq_true.2 ⟨y,?_,hp⟩
         obtain ⟨my,hmy,e1,e2,_,_,e5⟩:=Yp hW ha m y hy
         rw [ih,hs]
         rcases e5 with rfl|⟨hif,hlt⟩
         ·exact List.mem_append_left _ (List.mem_singleton.2 rfl)
         ·obtain ⟨j,hj,ej,hoj,_⟩:=ov_gK hW hU ha ⟨m,hy⟩
          obtain ⟨_,_,_,_,_,_,_,_,hne,_,hex⟩:=Zbd hp
          have hy1:y.1=(j:Int):=by rw [ej];rfl
          have hd1:(gK ps ma.nm ma.ds d).1=(d:Int):=rfl
          rw [hy1] at hif hlt hne hex
          rw [hd1] at hne hex
          have hle:=Zes hW hex
          have hjl:=hcl d (List.mem_of_getElem? hd) j hex hif hlt
          refine List.mem_append_right _ (List.mem_map.2 ⟨j,List.mem_filter.2 ⟨Zj6 hasc hd hjl (by omega),?_⟩,ej.symm⟩)
          rw [hoj,Bool.true_and,bne_iff_ne]
          omega
     rw [he,hk,Bool.false_and,Bool.false_or,ih]
     have hb:((d:Int) != a.1)=true:=by rw [bne_iff_ne];exact hc.2
     cases ho:ovC ps ma.nm ma.ds a d with
     | true=>simp [ho,hb,List.append_assoc]
     | false=>simp [ho]
    ·rw [if_neg hc,List.append_nil,ih]
     have:(ovC ps ma.nm ma.ds a d&&((d:Int) != a.1))=false:=by
      rw [ovC]
      by_cases h1:(fndI ps (d:Int) ma.nm ma.ds).2=0
      ·have h2:(d:Int)=a.1:=Decidable.not_not.1 fun h=>hc ⟨h1,h⟩
       rw [h2];simp
      ·simp [h1]
     simp [this]
   ·rw [List.take_of_length_le (by omega)] at ih ⊢
    exact ih
theorem last_max {F:List Nat} (h:F.Pairwise (· < ·)) {j:Nat} (hj:F.getLast?=some j):j∈F∧∀ x∈F,x≤j:=by
 rcases List.eq_nil_or_concat F with rfl|⟨F0,y,rfl⟩
 ·cases hj
 ·rw [List.concat_eq_append] at h hj ⊢
  rw [List.getLast?_append] at hj
  simp at hj
  subst hj
  refine ⟨by simp,fun x hx=>?_⟩
  rcases List.mem_append.1 hx with hx|hx
  ·exact Nat.le_of_lt ((List.pairwise_append.1 h).2.2 x hx y (by simp))
  ·rw [List.mem_singleton] at hx;omega
theorem Zca {p:Nat→Bool}:∀ {l:List Nat},l.Pairwise (· > ·)→∀ {j:Nat},j∈l→p j=true→(∀ x∈l,p x=true→x≤j)→l.find? p=some j
 | [],_,_,h,_,_=>by cases h
 | y::r,hp,j,hj,hpj,hm=>by
   rw [List.find?_cons]
   rw [List.pairwise_cons] at hp
   cases hy:p y with
   | true =>
     rcases List.mem_cons.1 hj with rfl|hj
     ·rfl
     ·have h1:=hm y (by simp) hy
      have h2:=hp.1 j hj
      omega
   | false =>
     rcases List.mem_cons.1 hj with rfl|hj
     ·rw [hy] at hpj;cases hpj
     ·exact Zca hp.2 hj hpj fun x hx h=>hm x (List.mem_cons_of_mem _ hx) h
def firD (ps:List Plc) (nm ds:ByteArray) (a:Int×Int) (l:List Nat):(Int×Int)×Int:=match l.find? (ovC ps nm ds a) with
 | some j=>(gK ps nm ds j,0)
 | none=>((0,0),6)
theorem Zgi {ps:List Plc} {nm ds:ByteArray} {a:Int×Int} {l:List Nat} {j:Nat} (h:l.find? (ovC ps nm ds a)=some j):firD ps nm ds a l=(gK ps nm ds j,0):=by rw [firD,h]
theorem Zgj {ps:List Plc} {nm ds:ByteArray} {a:Int×Int} {l:List Nat} (h:∀ x∈l,ovC ps nm ds a x=false):firD ps nm ds a l=((0,0),6):=by
 have:l.find? (ovC ps nm ds a)=none:=by rw [List.find?_eq_none];intro x hx;rw [h x hx];simp
 rw [firD,this]
theorem Zmi {ps:List Plc} (hW:WI ps) {k:Nat} (hk:k<ps.length) {d:Nat} (hd:d∈chL (ps.map nd) k) {j:Nat} (hex:extI ps (d:Int) (j:Int)=true) (hif:ifcI ps (j:Int)=false):j∈chL (ps.map nd) k:=by
 have hkl:k<(ps.map nd).length:=by simpa using hk
 obtain ⟨i,j2,hi,hj,hil,hjl,he⟩:=X5 hex
 obtain rfl:d=i:=by omega
 obtain rfl:j=j2:=by omega
 refine Zeu hW.wo k hkl d hd j ?_
 rcases (Zau _ _ _).1 he with h|h
 ·exact h
 ·exfalso
  obtain ⟨_,_,p,hp1,hp2,_⟩:=Yk hW.wo h
  rw [ifcI,Z6] at hif
  rw [List.getElem?_map] at hp1
  obtain ⟨q,hq,rfl⟩:=Option.map_eq_some_iff.1 hp1
  rw [hq] at hif
  have:(nd q).i=false:=hif
  rw [this] at hp2
  cases hp2
theorem Zgh {ps:List Plc} (hW:WI ps) (hU:UnqM ps) {a:Int×Int} {ma:HM} (ha:Zo ps a.1 a.2=some ma) {k:Nat} {q:Plc} (hq:ps[k]?=some q):firI ps (k:Int) a=firD ps ma.nm ma.ds a (chL (ps.map nd) k):=by
 have hk:=(List.getElem?_eq_some_iff.1 hq).1
 have hkl:k<(ps.map nd).length:=by simpa using hk
 have hdesc:=Zmh hW.wo k hkl
 have hasc:(chL (ps.map nd) k).reverse.Pairwise (· < ·):=by rw [List.pairwise_reverse];exact hdesc
 have hg:=Zlm hW hU ha hasc (fun d hd j h1 h2 _=>List.mem_reverse.2 (Zmi hW hk (List.mem_reverse.1 hd) h1 h2)) (chL (ps.map nd) k).reverse.length
 rw [List.take_length] at hg
 have e0:firI ps (k:Int) a=lstI (chL (ps.map nd) k) (gthL ps a (askL ps ma a (chL (ps.map nd) k).reverse)):=by
  rw [firI,ha,Z6,hq];rfl
 rw [e0,hg]
 obtain ⟨F,hF⟩:∃ F,((chL (ps.map nd) k).reverse.filter fun k=>ovC ps ma.nm ma.ds a k&&((k:Int) != a.1))=F:=⟨_,rfl⟩
 rw [hF]
 have hFasc:F.Pairwise (· < ·):=by rw [← hF];exact hasc.filter _
 have hFm:∀ x,x∈F↔x∈chL (ps.map nd) k∧ovC ps ma.nm ma.ds a x=true∧(x:Int)≠a.1:=fun x=>by
  rw [← hF,List.mem_filter,List.mem_reverse,Bool.and_eq_true,bne_iff_ne]
 cases hl:F.getLast? with
 | some j =>
   obtain ⟨hj1,hj2⟩:=last_max hFasc hl
   obtain ⟨h1,h2,h3⟩:=(hFm j).1 hj1
   have hle:=(ovC_le hW hU ha h2).1
   rw [Zgi (Zca hdesc h1 h2 fun x hx hp=>?_)]
   ·have hlast:((if stI ps a then [] else [a])++F.map (gK ps ma.nm ma.ds)).getLast?=some (gK ps ma.nm ma.ds j):=by
     rw [List.getLast?_append,List.getLast?_map,hl];rfl
    rw [Zb2 hlast,if_pos]
    exact List.contains_iff_mem.2 (List.mem_map.2 ⟨j,h1,rfl⟩)
   ·by_cases hxa:(x:Int)=a.1
    ·omega
    ·exact hj2 x ((hFm x).2 ⟨hx,hp,hxa⟩)
 | none =>
   have hF0:F=[]:=List.getLast?_eq_none_iff.1 hl
   rw [hF0,List.map_nil,List.append_nil]
   cases hs:stI ps a with
   | true =>
     rw [Zgj fun x hx=>?_]
     ·rfl
     ·cases ho:ovC ps ma.nm ma.ds a x with
      | false=>rfl
      | true=>rw [ov_st ((Zam hW hU ha).1 ho)] at hs;cases hs
   | false =>
     simp only [Bool.false_eq_true,if_false]
     rw [Zb2 (x:=a) rfl]
     by_cases hin:((chL (ps.map nd) k).map (fun k:Nat=>(k:Int))).contains a.1=true
     ·rw [if_pos hin]
      obtain ⟨j,hj,ej⟩:=List.mem_map.1 (List.contains_iff_mem.1 hin)
      obtain ⟨j2,hj2,e2,hoj,_⟩:=ov_gK hW hU ha ⟨0,rfl,hs⟩
      have:(j2:Int)=a.1:=by rw [e2];rfl
      obtain rfl:j=j2:=by omega
      rw [Zgi (Zca hdesc hj hoj fun x hx hp=>?_),← e2]
      by_cases hxa:(x:Int)=a.1
      ·omega
      ·have:=(hFm x).2 ⟨hx,hp,hxa⟩
       rw [hF0] at this;cases this
     ·rw [if_neg hin,Zgj fun x hx=>?_]
      cases ho:ovC ps ma.nm ma.ds a x with
      | false=>rfl
      | true =>
        by_cases hxa:(x:Int)=a.1
        ·exact absurd (List.contains_iff_mem.2 (List.mem_map.2 ⟨x,hx,hxa⟩)) hin
        ·have:=(hFm x).2 ⟨hx,ho,hxa⟩
         rw [hF0] at this;cases this
theorem r9all_no {b:Nat} {cs:List Cls} {ps:List Plc} {W:World} (h:RAt b cs W) (ht:TwW cs ps) (c i:Int) (x:HM) (hx:Zo ps c i=some x) (hst:hasI x.fl 8=true):Calls Tryz.prog 126 #[.pointer (some ⟨b,0,none⟩),.agg #[.int .i64 c,.int .i64 i]] W fun e w'=>e=.returned (.slice none 0 0)∧Bw W w':=by
 have HM:Hid (∀ w,Bw W w→Calls Tryz.prog 188 #[.pointer (some ⟨b,0,none⟩),.agg #[.int .i64 c,.int .i64 i]] w fun e w'=>(∃ a n s,e=.returned (.agg #[.string x.nm,.string x.ds,.int .i64 x.fl,.int .i64 x.lo,.int .i64 x.st,.slice a n s]))∧Bw w w'):=fun w hb=>Jp (h.below hb) ht c i x hx
 have HH:Hid (∀ w:World,Calls Tryz.prog 62 #[.int .i64 x.fl,.int .i64 8] w fun e w'=>e=.returned (.bool true)∧w'=w):=fun w=>by
  have:=Zw x.fl 8 w
  rw [hst] at this
  exact this
 have FLD:∀ (a:Option Addr) (n m:Nat) (w:World),(Instr.field 87 (.agg #[.string x.nm,.string x.ds,.int .i64 x.fl,.int .i64 x.lo,.int .i64 x.st,.slice a n m]) 2).run Tryz.prog w=.ok (.int .i64 x.fl) w:=fun a n m w=>by
  simp [Instr.field,run_underlying Tryz.underlying87,go_sem,part,asAgg]
 clear h ht hx hst
 go_enter Tryz.func126,Tryz.ntmps126
 go_wp2_with (first
  | (go_at_call 188;refine (HM.out _ ((Below.refl _ _).alloc (Nat.le_refl _) _)).mono ?_;rintro e w1 ⟨⟨xa,xk,xo,rfl⟩,hb⟩;have B1:Hid (Bw W w1):=Za ((Below.refl _ _).alloc (Nat.le_refl _) _) hb;clear hb HM)
  | (go_at_call 62;refine (HH.out _).mono ?_;rintro e w9 ⟨rfl,hw9⟩;rw [hw9];clear hw9 w9 HH))
 all_goals exact bodyPost_ret (results_tmp rfl _ _ _) rfl ⟨rfl,B1.out⟩
theorem Zkz {b:Nat} {cs:List Cls} {ps:List Plc} {W:World} (h:RAt b cs W) (ht:TwW cs ps) (hJ:WJ ps) (hS:SndI ps) (hU:UnqM ps) (hz:∀ c∈cs,c.nm.size≤maxLen) (c i:Int) (x:HM) (hx:Zo ps c i=some x):Calls Tryz.prog 126 #[.pointer (some ⟨b,0,none⟩),.agg #[.int .i64 c,.int .i64 i]] W fun e w'=>(∃ v A,e=.returned v∧w'.ownsRow W.heap.size 38 2 v A.length (Zf A)∧A.length≤300∧(∀ y,y∈A↔Ov ps (c,i) y)∧A.Nodup)∧Bw W w':=by
 cases hst:hasI x.fl 8 with
 | false=>exact r9all_c h ht hJ hS hU hz c i x hx hst
 | true =>
   refine (r9all_no h ht c i x hx hst).mono fun e w' zz=>⟨⟨_,[],zz.1,World.ownsRow_nil _ _ _ _,by simp,fun y=>⟨fun hy=>(by cases hy),fun hy=>?_⟩,List.nodup_nil⟩,zz.2⟩
   have h0:=ov_st hy
   rw [stI] at h0
   simp only [hx] at h0
   exact absurd (show hasI x.fl 8=false from h0) (by rw [hst];decide)
def firA (A:List (Int×Int)):List Nat→(Int×Int)×Int
 | []=>((0,0),6)
 | c::r=>match A.find? (fun y=>y.1 == (c:Int)) with
   | some y=>(y,0)
   | none=>firA A r
theorem firA_at {A:List (Int×Int)} {l:List Nat} {i c:Nat} (h:l[i]?=some c):firA A (l.drop i)=match A.find? (fun y=>y.1 == (c:Int)) with
 | some y=>(y,0)
 | none=>firA A (l.drop (i+1)):=by
 obtain ⟨hi,rfl⟩:=List.getElem?_eq_some_iff.1 h
 rw [List.drop_eq_getElem_cons hi,firA]
theorem find_at {A:List (Int×Int)} {p:Int×Int→Bool} {j:Nat} {y:Int×Int} (h:A[j]?=some y):(A.drop j).find? p=if p y then some y else (A.drop (j+1)).find? p:=by
 obtain ⟨hi,rfl⟩:=List.getElem?_eq_some_iff.1 h
 rw [List.drop_eq_getElem_cons hi,List.find?_cons]
 split <;> simp_all
theorem Ze7 {w:World} {N g cap K:Nat} {l:List Nat} (h:w.ownsRow N 3 1 (.slice (some ⟨g,0,none⟩) K cap) K (l.map numV)) {i c:Nat} (hi:l[i]?=some c):w.cell? ⟨g,i,none⟩=some (.int .i64 (c:Int))∧g<w.heap.size:=by
 rcases h with ⟨hl,⟨hn,_⟩|⟨g2,cap2,cur,hv,_,hb,_,_,hcs,ht⟩⟩
 ·cases hn
 ·injection hv with h1 _ _
  injection h1 with h1
  injection h1 with h1 _ _
  subst h1
  refine ⟨?_,(Array.getElem?_eq_some_iff.1 hb).1⟩
  rw [cell_of_row w g i _ _ _ hb]
  have hi2:=(List.getElem?_eq_some_iff.1 hi).1
  have hlk:(l.map numV).length=l.length:=List.length_map ..
  have e:(cur.toList.take (K * 1))[i]?=some (numV c):=by rw [ht,List.getElem?_map,hi];rfl
  rw [List.getElem?_take_of_lt (by omega)] at e
  rw [← Array.getElem?_toList,e]
  rfl
theorem r9Fw (W:World) (b:Nat) (r a1 a2:Int) (l:List Nat) (K:Nat) (hK:K≤1000000) (HLK:Hid (l.length=K)) (PA:List (Int×Int)→Prop) (R:(Int×Int)×Int) (HPR:Hid (∀ A,PA A→firA A l=R))
 (HI:Hid (∀ w,Bw W w→Calls Tryz.prog 63 #[.pointer (some ⟨b,0,none⟩),.agg #[.int .i64 a1,.int .i64 a2]] w fun e w'=>e=.returned (.bool true)∧Bw w w'))
 (HN:Hid (∀ w,Bw W w→Calls Tryz.prog 68 #[.pointer (some ⟨b,0,none⟩),.int .i64 r] w fun e w'=>e=.returned (.bool true)∧w'=w))
 (HL:Hid (∀ w,Bw W w→Calls Tryz.prog 126 #[.pointer (some ⟨b,0,none⟩),.agg #[.int .i64 a1,.int .i64 a2]] w fun e w'=>(∃ v A,e=.returned v∧w'.ownsRow w.heap.size 38 2 v A.length (Zf A)∧A.length≤300∧PA A)∧Bw w w'))
 (HC:Hid (∀ w,Bw W w→Calls Tryz.prog 50 #[.pointer (some ⟨b,0,none⟩),.int .i64 r] w fun e w'=>(∃ v,e=.returned (.tuple #[v,.int .i64 0])∧w'.ownsRow w.heap.size 3 1 v K (l.map numV))∧Bw w w')) :
 Calls Tryz.prog 70 #[.pointer (some ⟨b,0,none⟩),.int .i64 r,.agg #[.int .i64 a1,.int .i64 a2]] W fun e w'=>e=.returned (idE R)∧Bw W w':=by
 have BB:Hid (Bw W W):=Below.refl _ _
 go_enter Tryz.func70,Tryz.ntmps70
 go_wp2_with (first
  | (go_at_call 63;refine (HI.out _ sqR).mono ?_;rintro e w1 ⟨rfl,hb⟩;have abd:=kp2 (n:=W.heap.size) hb (by simp;try omega) (Zg (Zm _ _));obtain ⟨abB,ab0,ab1,abf,abL,abN⟩:=abd;have zbd:=kp2 (n:=W.heap.size+1) hb (by simp;try omega) (Zd _ _ (by simp));obtain ⟨zbB,zb0,zb1,zbf,zbL,zbN⟩:=zbd;have B1:Hid (Bw W w1):=Za sqR hb;clear hb HI)
  | (go_at_call 68;refine (HN.out _ B1.out).mono ?_;rintro e w9 ⟨rfl,hw9⟩;rw [hw9];clear hw9 w9 HN)
  | (go_at_call 126;refine (HL.out _ B1.out).mono ?_;rintro e w2 ⟨⟨v,A,rfl,ho,hA3,hPA⟩,hb⟩;obtain ⟨va,vc,rfl⟩:=ownv ho;have OA2:Hid (w2.ownsRow w1.heap.size 38 2 (.slice va A.length vc) A.length (Zf A)):=ho;have HPA:Hid (PA A):=hPA;have zbd:=kp2 (n:=W.heap.size+1) hb (by first|omega|(simp;try omega)) zbB.out;clear zbB zb0 zb1 zbf zbL zbN;obtain ⟨zbB,zb0,zb1,zbf,zbL,zbN⟩:=zbd;have B2:Hid (Bw W w2):=Za B1.out hb;clear hb ho hPA HL)
  | (go_at_call 50;refine (HC.out _ B2.out).mono ?_;rintro e w3 ⟨⟨v,rfl,ho⟩,hb⟩;obtain ⟨ca,cc,rfl⟩:=ownv ho;have OC3:Hid (w3.ownsRow w2.heap.size 3 1 (.slice ca K cc) K (l.map numV)):=ho;have OA3:Hid (w3.ownsRow w1.heap.size 38 2 (.slice va A.length vc) A.length (Zf A)):=Zb OA2.out hb;have zbd:=kp2 (n:=W.heap.size+1) hb (by first|omega|(simp;try omega)) zbB.out;clear zbB zb0 zb1 zbf zbL zbN;obtain ⟨zbB,zb0,zb1,zbf,zbL,zbN⟩:=zbd;have B3:Hid (Bw W w3):=Za B2.out hb;clear hb ho HC OA2))
 have HF0:Hid (firA A l=R):=HPR.out A HPA.out
 have ZB:Hid (w3.heap[W.heap.size+1]?=some (.cells #[.int .i64 0,.int .i64 0] 38 (0,0))):=zbB.out
 have HZL:Hid (W.heap.size+1<w3.heap.size):=zbL
 clear zbB zb0 zb1 zbf zbL zbN HPR HPA abB ab0 ab1 abf abL abN
 obtain ⟨T,hT⟩:∃ T,A.length=T:=⟨_,rfl⟩
 have HT:Hid (A.length=T):=hT
 rw [hT] at hA3 OA3 ⊢
 clear hT
 obtain ⟨σ,V,hne,V1,V2⟩:=class_of' (fun w'=>Bw w3 w') ⟨_,Below.refl _ _⟩
 go_loopw [11] (fun kv wr=>∃ (i:Nat),kv=.int .i64 i∧i≤K∧Hid (firA A (l.drop i)=R)∧Hid (Bw w3 wr)) (fun kv _=>K - (intOf kv).toNat)
 case atStart=>exact ⟨0,rfl,Nat.zero_le _,HF0,Below.refl _ _⟩
 case round =>
  obtain ⟨i,rfl,hi,hF,hBo⟩:=hrel
  by_cases hlt:i<K
  ·have hiI:(i:Int)<(K:Int):=by omega
   obtain ⟨c,hc⟩:∃ c,l[i]?=some c:=⟨_,List.getElem?_eq_getElem (by rw [HLK.out];exact hlt)⟩
   obtain ⟨gc,c2,hform⟩:=Go.Joins.ownsRow_form OC3.out (by omega)
   injection hform with hca _ hcc
   subst hca hcc
   obtain ⟨k0,kL⟩:=Ze7 OC3.out hc
   replace k0:=fun s0=>((V1.out s0).cell (p:=⟨gc,i,none⟩) kL).trans k0
   have hst:=firA_at (A:=A) hc
   rw [hF.out] at hst
   have HST:Hid _:=hst
   obtain ⟨wo,hwo⟩:∃ w,w=wr:=⟨_,rfl⟩
   subst hwo
   clear hst hF hc
   go_wp2
   go_loopw [12] (fun kv wr=>∃ (j:Nat),kv=.int .i64 j∧j≤T∧Hid (A.find? (fun y=>y.1 == (c:Int))=(A.drop j).find? (fun y=>y.1 == (c:Int)))∧Hid (Bw w3 wr)) (fun kv _=>T - (intOf kv).toNat)
   case atStart=>exact ⟨0,rfl,Nat.zero_le _,rfl,hBo⟩
   case round =>
    obtain ⟨j,rfl,hj,hFJ,hB⟩:=hrel
    by_cases hlj:j<T
    ·have hjI:(j:Int)<(T:Int):=by omega
     obtain ⟨y,hy⟩:∃ y,A[j]?=some y:=⟨_,List.getElem?_eq_getElem (by rw [HT.out];exact hlj)⟩
     obtain ⟨ga,c3,hform2⟩:=Go.Joins.ownsRow_form OA3.out (by omega)
     injection hform2 with hca2 _ hcc2
     subst hca2 hcc2
     obtain ⟨d0,d1,hgl⟩:=Yc (l:=A) (i:=j) (x:=y) (by rw [HT.out];exact OA3.out) hy
     have e0:=(hB.out.drew.cell (p:=⟨ga,j * 2,none⟩) hgl).trans d0
     have e1:=(hB.out.drew.cell (p:=⟨ga,j * 2+1,none⟩) hgl).trans d1
     have HD0:Hid (w3.cell? ⟨ga,j * 2,none⟩=some (.int .i64 y.1)):=d0
     have HD1:Hid (w3.cell? ⟨ga,j * 2+1,none⟩=some (.int .i64 y.2)):=d1
     replace d0:=fun s0=>((V1.out s0).cell (p:=⟨ga,j * 2,none⟩) hgl).trans d0
     have hfj:=find_at (p:=fun y=>y.1 == (c:Int)) hy
     rw [← hFJ.out] at hfj
     have HFJ:Hid _:=hfj
     obtain ⟨y1,y2⟩:=y
     simp only at d0 d1 HFJ HD0 HD1
     clear hfj hFJ hy e0 e1 d1
     by_cases hyc:y1=(c:Int)
     ·subst hyc
      have eR:R=(((c:Int),y2),0):=by
       have h1:=HFJ.out
       rw [if_pos (by simp)] at h1
       have h2:=HST.out
       rw [h1] at h2
       exact h2
      subst eR
      clear HFJ HST HF0
      go_wp2
      refine Ze (C:=fun w'=>∃ s,w'=V s) (by kernel_rfl) (by kernel_rfl) (V2.out _ (hB.out.drew)) ?_
      repeat (go_big_quiet_step (fail))
      refine wpQuiet_nil ?_
      intro w9 hw9
      obtain ⟨s9,hw9⟩:=hw9
      have B9:Bw w3 w9:=by rw [hw9];exact V1.out s9
      have g0:=(B9.cell (p:=⟨ga,j * 2,none⟩) hgl).trans HD0.out
      have g1:=(B9.cell (p:=⟨ga,j * 2+1,none⟩) hgl).trans HD1.out
      obtain ⟨z0,z1,zf,zL⟩:=rw2 ((B9.block (W.heap.size+1) HZL.out).trans ZB.out)
      have BW:Hid (Bw W w9):=B3.out.trans (B9.mono B3.out.size)
      clear hw9 B9
      go_wp2
      exact bodyPost_ret (v:=idE (((c:Int),y2),0)) (by simp [results,Tryz.results70,go_sem,idE, *]) rfl ⟨rfl,(sqE BW)⟩
     ·have hyb:(y1 == (c:Int))=false:=by simp [hyc]
      have HN2:Hid (A.find? (fun y=>y.1 == (c:Int))=(A.drop (j+1)).find? (fun y=>y.1 == (c:Int))):=by
       have h1:=HFJ.out
       rw [if_neg (by simp [hyc])] at h1
       exact h1
      clear HFJ
      go_wp2
      refine Ze (C:=fun w'=>∃ s,w'=V s) (by kernel_rfl) (by kernel_rfl) (V2.out _ (hB.out.drew)) ?_
      repeat (go_big_quiet_step (fail))
      refine wpQuiet_nil ?_
      intro w9 hw9
      obtain ⟨s9,hw9⟩:=hw9
      have B9:Hid (Bw w3 w9):=by rw [hw9];exact V1.out s9
      clear hw9
      go_wp2
      go_roundw
      case rel=>exact ⟨j+1,by go_num,by omega,HN2,B9⟩
      case measure=>simp [intOf];omega
    ·have e:j=T:=by omega
     subst e
     have HNX:Hid (firA A (l.drop (i+1))=R):=by
      have h1:=hFJ.out
      rw [List.drop_of_length_le (by rw [HT.out];exact Nat.le_refl _),List.find?_nil] at h1
      have h2:=HST.out
      rw [h1] at h2
      exact h2.symm
     clear hFJ HST HF0
     go_wp2
     go_roundw
     case rel=>exact ⟨i+1,by go_num,by omega,HNX,hB⟩
     case measure=>simp [intOf];omega
  ·have e:i=K:=by omega
   subst e
   have eR:R=((0,0),6):=by
    have h1:=hF.out
    rw [List.drop_of_length_le (by rw [HLK.out];exact Nat.le_refl _)] at h1
    exact h1.symm
   subst eR
   have BW:Hid (Bw W wr):=B3.out.trans (hBo.out.mono B3.out.size)
   obtain ⟨z0,z1,zf,zL⟩:=rw2 ((hBo.out.block (W.heap.size+1) HZL.out).trans ZB.out)
   clear hF HF0
   go_wp2
   exact bodyPost_ret (v:=idE ((0,0),6)) (by simp [results,Tryz.results70,go_sem,idE, *]) rfl ⟨rfl,(sqE BW)⟩
theorem r9Fno (W:World) (b:Nat) (r a1 a2:Int) (ia ir:Bool) (hno:(ia&&ir)=false)
 (HI:Hid (∀ w,Bw W w→Calls Tryz.prog 63 #[.pointer (some ⟨b,0,none⟩),.agg #[.int .i64 a1,.int .i64 a2]] w fun e w'=>e=.returned (.bool ia)∧Bw w w'))
 (HN:Hid (∀ w,Bw W w→Calls Tryz.prog 68 #[.pointer (some ⟨b,0,none⟩),.int .i64 r] w fun e w'=>e=.returned (.bool ir)∧w'=w)) :
 Calls Tryz.prog 70 #[.pointer (some ⟨b,0,none⟩),.int .i64 r,.agg #[.int .i64 a1,.int .i64 a2]] W fun e w'=>e=.returned (idE ((0,0),3))∧Bw W w':=by
 cases ia
 case false =>
  clear HN hno
  go_enter Tryz.func70,Tryz.ntmps70
  go_wp2_with (go_at_call 63;refine (HI.out _ sqR).mono ?_;rintro e w1 ⟨rfl,hb⟩;have zbd:=kp2 (n:=W.heap.size+1) hb (by simp;try omega) (Zd _ _ (by simp));obtain ⟨zbB,zb0,zb1,zbf,zbL,zbN⟩:=zbd;have B1:Hid (Bw W w1):=Za sqR hb;clear hb HI)
  exact bodyPost_ret (v:=idE ((0,0),3)) (by simp [results,Tryz.results70,go_sem,idE, *]) rfl ⟨rfl,(sqE B1)⟩
 case true =>
  obtain rfl:ir=false:=by simpa using hno
  clear hno
  go_enter Tryz.func70,Tryz.ntmps70
  go_wp2_with (first
   | (go_at_call 63;refine (HI.out _ sqR).mono ?_;rintro e w1 ⟨rfl,hb⟩;have zbd:=kp2 (n:=W.heap.size+1) hb (by simp;try omega) (Zd _ _ (by simp));obtain ⟨zbB,zb0,zb1,zbf,zbL,zbN⟩:=zbd;have B1:Hid (Bw W w1):=Za sqR hb;clear hb HI)
   | (go_at_call 68;refine (HN.out _ B1.out).mono ?_;rintro e w9 ⟨rfl,hw9⟩;rw [hw9];clear hw9 w9 HN))
  exact bodyPost_ret (v:=idE ((0,0),3)) (by simp [results,Tryz.results70,go_sem,idE, *]) rfl ⟨rfl,(sqE B1)⟩
theorem Zly {ps:List Plc} {nm ds:ByteArray} {a:Int×Int} {c:Nat} {r:List Nat}:firD ps nm ds a (c::r)=if ovC ps nm ds a c then (gK ps nm ds c,0) else firD ps nm ds a r:=by
 rw [firD,firD,List.find?_cons]
 cases ovC ps nm ds a c <;> rfl
theorem findA {ps:List Plc} (hW:WI ps) (hU:UnqM ps) {a:Int×Int} {ma:HM} (ha:Zo ps a.1 a.2=some ma) {A:List (Int×Int)} (hA:∀ y,y∈A↔Ov ps a y) (c:Nat):A.find? (fun y=>y.1 == (c:Int))=if ovC ps ma.nm ma.ds a c then some (gK ps ma.nm ma.ds c) else none:=by
 cases hf:A.find? (fun y=>y.1 == (c:Int)) with
 | some y =>
   have h1:=List.find?_some hf
   have h2:=List.mem_of_find?_eq_some hf
   obtain ⟨k,_,e,ho,_⟩:=ov_gK hW hU ha ((hA y).1 h2)
   have hk:y.1=(k:Int):=by rw [e];rfl
   rw [beq_iff_eq] at h1
   obtain rfl:c=k:=by omega
   rw [ho,if_pos rfl,e]
 | none =>
   cases ho:ovC ps ma.nm ma.ds a c with
   | false=>rfl
   | true =>
     have:=List.find?_eq_none.1 hf _ ((hA _).2 ((Zam hW hU ha).1 ho))
     exact absurd (beq_iff_eq.2 (rfl:(gK ps ma.nm ma.ds c).1=(c:Int))) this
theorem Zdb {ps:List Plc} (hW:WI ps) (hU:UnqM ps) {a:Int×Int} {ma:HM} (ha:Zo ps a.1 a.2=some ma) {A:List (Int×Int)} (hA:∀ y,y∈A↔Ov ps a y):∀ l:List Nat,firA A l=firD ps ma.nm ma.ds a l
 | []=>rfl
 | c::r=>by
   rw [firA,findA hW hU ha hA c,Zly,Zdb hW hU ha hA r]
   cases ovC ps ma.nm ma.ds a c <;> rfl
theorem Zky {b:Nat} {cs:List Cls} {ps:List Plc} {W:World} (h:RAt b cs W) (ht:TwW cs ps) (hJ:WJ ps) (hS:SndI ps) (hU:UnqM ps) (hz:∀ c∈cs,c.nm.size≤maxLen) (r a1 a2:Int):Calls Tryz.prog 70 #[.pointer (some ⟨b,0,none⟩),.int .i64 r,.agg #[.int .i64 a1,.int .i64 a2]] W fun e w'=>e=.returned (idE (firI ps r (a1,a2)))∧Bw W w':=by
 cases ha:Zo ps a1 a2 with
 | none =>
   have e:firI ps r (a1,a2)=((0,0),3):=by simp [firI,ha]
   rw [e]
   refine r9Fno W b r a1 a2 (Zo ps a1 a2).isSome (plcI ps r).isSome (by rw [ha];rfl) (fun w hb=>Zfh (h.below hb) ht a1 a2) (fun w hb=>Zbs (h.below hb) ht r)
 | some ma =>
   rcases Zl ps r with ⟨e,_⟩|⟨k,q,rfl,hq,e⟩
   ·have e2:firI ps r (a1,a2)=((0,0),3):=by simp [firI,ha,e]
    rw [e2]
    refine r9Fno W b r a1 a2 (Zo ps a1 a2).isSome (plcI ps r).isSome (by rw [e];simp) (fun w hb=>Zfh (h.below hb) ht a1 a2) (fun w hb=>Zbs (h.below hb) ht r)
   ·have hk:=(List.getElem?_eq_some_iff.1 hq).1
    refine r9Fw W b (k:Int) a1 a2 (chL (ps.map nd) k) (chL (ps.map nd) k).length (Zew ht.wi hk) rfl (fun A=>(∀ y,y∈A↔Ov ps (a1,a2) y)∧A.Nodup) (firI ps (k:Int) (a1,a2)) (fun A hA=>?_) (fun w hb=>?_) (fun w hb=>?_) (fun w hb=>Zkz (h.below hb) ht hJ hS hU hz a1 a2 ma ha) (fun w hb=>Zak (h.below hb) ht k hk)
    ·rw [Zgh ht.wi hU (a:=(a1,a2)) ha hq]
     exact Zdb ht.wi hU (a:=(a1,a2)) ha hA.1 _
    ·have:=Zfh (h.below hb) ht a1 a2
     rw [ha] at this
     exact this
    ·have:=Zbs (h.below hb) ht (k:Int)
     rw [e] at this
     exact this
theorem Zbw {b:Nat} {cs:List Cls} {ps:List Plc} {W:World} (h:RAt b cs W) (ht:TwW cs ps) (c i:Int) (x:HM) (hx:Zo ps c i=some x):Calls Tryz.prog 69 #[.pointer (some ⟨b,0,none⟩),.agg #[.int .i64 c,.int .i64 i]] W fun e w'=>e=.returned (.int .i64 x.fl)∧Bw W w':=by
 obtain ⟨k,q,rfl,hq,_,_⟩:=Yo hx
 obtain ⟨g,cap,bk,n,cm,j,ac,cc,rfl,b0,hlt,hgl,hkI,c5,hbk,hjn,_,_,e2,_,_,_,_,_,_⟩:=h.meth ht hx
 clear h ht hx hq
 have hB:Bw W (W.alloc (.cells #[.int .i64 (k:Int),.int .i64 (j:Int)] 38)):=(Below.refl _ W).alloc (Nat.le_refl _) _
 have hA:(W.alloc (.cells #[.int .i64 (k:Int),.int .i64 (j:Int)] 38)).heap[W.heap.size]?=some (.cells #[.int .i64 (k:Int),.int .i64 (j:Int)] 38 (0,0)):=Zm _ _
 replace b0:=(hB.cell (p:=⟨b,0,none⟩) hlt).trans b0
 replace c5:=(hB.cell (p:=⟨g,k * 6+5,none⟩) hgl).trans c5
 replace e2:=(hB.cell (p:=⟨bk,j * 6+2,none⟩) hbk).trans e2
 obtain ⟨a0,a1,af,aL⟩:=rw2 hA
 have HBH:Hid _:=hB
 clear hA hB
 go_enter Tryz.func69,Tryz.ntmps69
 go_wp2
 generalize (W.alloc (.cells #[.int .i64 (k:Int),.int .i64 (j:Int)] 38))=U at *
 go_region
 go_wp2
 refine bodyPost_ret (results_tmp rfl _ _ _) rfl ⟨rfl,?_⟩
 repeat (first|refine Below.setCell ?_ (by simp;try omega) _|refine Below.drew ?_|exact HBH.out)
theorem Zlk {ps:List Plc} {c i:Int} {x:HM} (hx:Zo ps c i=some x) (k:Int):hasS ps c i k=hasI x.fl k:=by
 rw [hasS,hx]
theorem Zk1 {b:Nat} {cs:List Cls} {ps:List Plc} {W:World} (h:RAt b cs W) (ht:TwW cs ps) (c i:Int) (x:HM) (hx:Zo ps c i=some x):Calls Tryz.prog 71 #[.pointer (some ⟨b,0,none⟩),.agg #[.int .i64 c,.int .i64 i]] W fun e w'=>e=.returned (idE (unaI ps (c,i)))∧Bw W w':=by
 have HF:Hid (∀ w,Bw W w→Calls Tryz.prog 69 #[.pointer (some ⟨b,0,none⟩),.agg #[.int .i64 c,.int .i64 i]] w fun e w'=>e=.returned (.int .i64 x.fl)∧Bw w w'):=fun w hb=>Zbw (h.below hb) ht c i x hx
 have HS:Hid (∀ w:World,Calls Tryz.prog 62 #[.int .i64 x.fl,.int .i64 1024] w fun e w'=>e=.returned (.bool (hasI x.fl 1024))∧w'=w):=Zw x.fl 1024
 unfold unaI
 simp only [Zlk hx]
 generalize hasI x.fl 1024=S at *
 clear h ht hx
 cases S
 case false =>
  rw [if_neg (by simp)]
  go_enter Tryz.func71,Tryz.ntmps71
  go_wp2_with (first
   | (go_at_call 69;refine (HF.out _ sqR).mono ?_;rintro e w1 ⟨rfl,hb⟩;have yd:w1.heap[W.heap.size]?=some (.cells #[.int .i64 c,.int .i64 i] 38 (0,0)):=(hb.block (W.heap.size) (by first|omega|(simp;try omega))).trans (Zg (Zm _ _));(try clear yB y0 y1 yf yL yN);have yB:Hid _:=yd;obtain ⟨y0,y1,yf,yL⟩:=rw2 yd;have yN:¬ W.heap.size=w1.heap.size:=(by omega);clear yd;have zd:w1.heap[W.heap.size+1]?=some (.cells #[.int .i64 0,.int .i64 0] 38 (0,0)):=(hb.block (W.heap.size+1) (by first|omega|(simp;try omega))).trans (Zd _ _ (by simp));(try clear zB z0 z1 zf zL zN);have zB:Hid _:=zd;obtain ⟨z0,z1,zf,zL⟩:=rw2 zd;have zN:¬ W.heap.size+1=w1.heap.size:=(by omega);clear zd;have B1:Hid (Bw W w1):=Za sqR hb;clear hb HF)
   | (go_at_call 62;refine (HS.out _).mono ?_;rintro e w9 ⟨rfl,hw9⟩;rw [hw9];clear hw9 w9 HS))
  exact bodyPost_ret (v:=idE ((c,i),0)) (by simp [results,Tryz.results71,go_sem,idE, *]) rfl ⟨rfl,(sqE B1)⟩
 case true =>
  rw [if_pos rfl]
  go_enter Tryz.func71,Tryz.ntmps71
  go_wp2_with (first
   | (go_at_call 69;refine (HF.out _ sqR).mono ?_;rintro e w1 ⟨rfl,hb⟩;have yd:w1.heap[W.heap.size]?=some (.cells #[.int .i64 c,.int .i64 i] 38 (0,0)):=(hb.block (W.heap.size) (by first|omega|(simp;try omega))).trans (Zg (Zm _ _));(try clear yB y0 y1 yf yL yN);have yB:Hid _:=yd;obtain ⟨y0,y1,yf,yL⟩:=rw2 yd;have yN:¬ W.heap.size=w1.heap.size:=(by omega);clear yd;have zd:w1.heap[W.heap.size+1]?=some (.cells #[.int .i64 0,.int .i64 0] 38 (0,0)):=(hb.block (W.heap.size+1) (by first|omega|(simp;try omega))).trans (Zd _ _ (by simp));(try clear zB z0 z1 zf zL zN);have zB:Hid _:=zd;obtain ⟨z0,z1,zf,zL⟩:=rw2 zd;have zN:¬ W.heap.size+1=w1.heap.size:=(by omega);clear zd;have B1:Hid (Bw W w1):=Za sqR hb;clear hb HF)
   | (go_at_call 62;refine (HS.out _).mono ?_;rintro e w9 ⟨rfl,hw9⟩;rw [hw9];clear hw9 w9 HS))
  exact bodyPost_ret (v:=idE ((0,0),24)) (by simp [results,Tryz.results71,go_sem,idE, *]) rfl ⟨rfl,(sqE B1)⟩
end Go.Proofs.YtmafkabjjibcbaaGreat
