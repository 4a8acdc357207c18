import Derived.Test.YtjbmmmcjegjelaaGreatRnF
import Derived.Test.YtjbmmmcjegjelaaGreatRfB
import Derived.Maps.AppendAt
import Derived.Test.YtjbmmmcjegjelaaGreatSq
set_option maxHeartbeats 16000000
set_option maxRecDepth 100000
namespace Go.Proofs.YtjbmmmcjegjelaaGreat
open Go.RowKit Go.Maps
theorem any_gK {ps:List Plc} {nm ds:ByteArray} (Ks:List Nat) (s:Nat):((Ks.map (gK ps nm ds)).any fun x=>(x.1 == (gK ps nm ds s).1)&&(x.2 == (gK ps nm ds s).2))=Ks.contains s:=by
  rw [Bool.eq_iff_iff,List.any_eq_true,List.contains_iff_mem]
  constructor
  · rintro ⟨x,hx,h⟩
    obtain ⟨k,hk,rfl⟩:=List.mem_map.1 hx
    simp only [gK,Bool.and_eq_true,beq_iff_eq] at h
    have:k=s:=by omega
    rw [← this];exact hk
  · intro h
    exact ⟨_,List.mem_map.2 ⟨s,h,rfl⟩,by simp⟩
theorem AllS.len {ps:List Plc} {a:Int×Int} {nm ds:ByteArray} {Ks:List Nat} (h:AllS ps a nm ds Ks):Ks.length≤ps.length:=Yi _ _ h.nd h.lt
theorem r9all_w {b:Nat} {ps:List Plc} {W:World} (c i:Int) (x:HM) (hps:ps.length≤300) (RR:World→Prop) (HRB:Hid (∀ w w',RR w→Below w.heap.size w w'→RR w')) (HRG:Hid (∀ w,Below W.heap.size W w→RR w))
    (HST:Hid (hasI x.fl 8=false)) (kA:Nat) (HKA:Hid (kA<ps.length∧gK ps x.nm x.ds kA=(c,i)∧stI ps (c,i)=false))
    (HM:Hid (∀ w,RR w→Calls Tryz.prog 87 #[.pointer (some ⟨b,0,none⟩),.agg #[.int .i64 c,.int .i64 i]] w fun e w'=>(∃ a n s,e=.returned (.agg #[.string x.nm,.string x.ds,.int .i64 x.fl,.int .i64 x.lo,.int .i64 x.st,.slice a n s]))∧Below w.heap.size w w'))
    (HN:Hid (∀ w,RR w→Calls Tryz.prog 88 #[.pointer (some ⟨b,0,none⟩),.agg #[.int .i64 c,.int .i64 i]] w fun e w'=>(∃ v,e=.returned v∧w'.ownsRow w.heap.size 39 2 v (namK ps x.nm x.ds ps.length).length (Zm ((namK ps x.nm x.ds ps.length).map (gK ps x.nm x.ds))))∧Below w.heap.size w w'))
    (HP:Hid (∀ (s y:Nat) w,s∈namK ps x.nm x.ds ps.length→Ov ps (c,i) (gK ps x.nm x.ds y)→RR w→Calls Tryz.prog 89 #[.pointer (some ⟨b,0,none⟩),.agg #[.int .i64 (gK ps x.nm x.ds s).1,.int .i64 (gK ps x.nm x.ds s).2],.agg #[.int .i64 (gK ps x.nm x.ds y).1,.int .i64 (gK ps x.nm x.ds y).2]] w fun e w'=>e=.returned (.bool (plI ps (gK ps x.nm x.ds s) (gK ps x.nm x.ds y)))∧Below w.heap.size w w')) :
    Calls Tryz.prog 55 #[.pointer (some ⟨b,0,none⟩),.agg #[.int .i64 c,.int .i64 i]] W fun e w'=>(∃ v Ks,e=.returned v∧w'.ownsRow W.heap.size 39 2 v (Ks.map (gK ps x.nm x.ds)).length (Zm (Ks.map (gK ps x.nm x.ds)))∧AllS ps (c,i) x.nm x.ds Ks∧DoneI ps x.nm x.ds Ks.length Ks)∧Below W.heap.size W w':=by
  obtain ⟨i0,hi0,hz0,hz1,hz2⟩:=info_parts Tryz.hinfoD
  have HH:Hid (∀ w:World,Calls Tryz.prog 46 #[.int .i64 x.fl,.int .i64 8] w fun e w'=>e=.returned (.bool false)∧w'=w):=fun w=>by
    have:=Z3 x.fl 8 w
    rw [HST.out] at this
    exact this
  obtain ⟨G,hG⟩:∃ G:Nat→Int×Int,G=gK ps x.nm x.ds:=⟨_,rfl⟩
  have HGA:Hid (∀ (Ks:List Nat) (s:Nat),((Ks.map G).any fun y=>(y.1 == (G s).1)&&(y.2 == (G s).2))=Ks.contains s):=fun Ks s=>by rw [hG];exact any_gK Ks s
  have HGE:Hid (G=gK ps x.nm x.ds):=hG
  rw [← hG] at HN HP HKA ⊢
  obtain ⟨S,hS⟩:∃ S,S=namK ps x.nm x.ds ps.length:=⟨_,rfl⟩
  have HSE:Hid (S=namK ps x.nm x.ds ps.length):=hS
  rw [← hS] at HN HP
  have hSl:S.length≤300:=by
    have:=Zdr ps x.nm x.ds ps.length
    rw [Zdq,List.length_map,← hS] at this
    omega
  obtain ⟨T,hT⟩:∃ T,S.length=T:=⟨_,rfl⟩
  have HTL:Hid (S.length=T):=hT
  rw [hT] at HN hSl
  clear hG hS hT
  have FLD:∀ (a:Option Addr) (n m:Nat) (w:World),(Instr.field 64 (.agg #[.string x.nm,.string x.ds,.int .i64 x.fl,.int .i64 x.lo,.int .i64 x.st,.slice a n m]) 2).run Tryz.prog w=.ok (.int .i64 x.fl) w:=fun a n m w=>by
    simp [Instr.field,run_underlying Tryz.underlying64,go_sem,part,asAgg]
  go_enter Tryz.func55,Tryz.ntmps55
  go_wp2_with (first
    | (go_at_call 87;refine (HM.out _ (HRG.out _ ((Below.refl _ _).alloc (Nat.le_refl _) _))).mono ?_;rintro e w1 ⟨⟨xa,xk,xo,rfl⟩,hb⟩;have cbd:=kp2 (n:=W.heap.size) hb (by simp) (Zl _ _);obtain ⟨cbB,cb0,cb1,cbf,cbL,cbN⟩:=cbd;have B1:Hid (Below W.heap.size W w1):=Zc ((Below.refl _ _).alloc (Nat.le_refl _) _) hb;clear hb HM)
    | (go_at_call 46;refine (HH.out _).mono ?_;rintro e w9 ⟨rfl,hw9⟩;rw [hw9];clear hw9 w9 HH)
    | (go_at_call 88;refine (HN.out _ (HRG.out _ (B1.out.alloc B1.out.size _))).mono ?_;rintro e w2 ⟨⟨v,rfl,ho⟩,hb⟩;obtain ⟨sa,sc,rfl⟩:=ownv ho;have OS:Hid (w2.ownsRow (w1.heap.size+1) 39 2 (.slice sa T sc) T (Zm (S.map G))):=Go.Joins.ownsRow_le ho (by simp);have LB:Hid (w2.heap[w1.heap.size]?=some (.cells #[.int .i64 c,.int .i64 i] 39 (0,0))):=(hb.block w1.heap.size (by simp)).trans (Zl _ _);have B2:Hid (Below w1.heap.size w1 w2):=Zc ((Below.refl _ _).alloc (Nat.le_refl _) _) hb;clear ho hb HN))
  have hLB:=LB.out
  clear LB
  go_loopw [5,7] (fun sv kv wr=>∃ (Ks:List Nat) (ii:Nat) (la:Option Addr) (lc:Nat),sv=.slice la Ks.length lc∧kv=.int .i64 ii∧ii≤Ks.length∧Ks.length≤300∧Hid (AllS ps (c,i) x.nm x.ds Ks)∧Hid (DoneI ps x.nm x.ds ii Ks)∧Hid (wr.ownsRow w1.heap.size 39 2 (.slice la Ks.length lc) Ks.length (Zm (Ks.map G)))∧Hid (Value.ownBlock (.slice sa T sc)=none∨Value.ownBlock (.slice sa T sc)≠Value.ownBlock (.slice la Ks.length lc))∧Hid (wr.ownsRow (w1.heap.size+1) 39 2 (.slice sa T sc) T (Zm (S.map G)))∧Hid (Below w1.heap.size w1 wr)) (fun _ kv _=>300 - (intOf kv).toNat)
  case atStart =>
    refine ⟨[kA],0,some ⟨w1.heap.size,0,none⟩,1,rfl,rfl,by simp,by simp,?_,?_,?_,?_,OS,B2⟩
    · have:=HKA.out;exact AllS.start this.1 (by rw [← HGE.out];exact this.2.1) this.2.2
    · intro p y hp;omega
    · refine ⟨rfl,.inr ⟨w1.heap.size,1,_,rfl,Nat.le_refl _,hLB,Nat.le_refl _,by unfold maxLen;omega,rfl,?_⟩⟩
      simp [Zm,HKA.out.2.1]
    · rcases OS.out.2 with hn|⟨g,cap,cur,hv,hg,_⟩
      · exact .inl (by rw [hn.1];rfl)
      · refine .inr ?_
        rw [hv]
        simp [Value.ownBlock]
        omega
  case round =>
    obtain ⟨Ks0,ii,la0,lc0,rfl,rfl,hii,hK30,hA0,hD0,hO0,hNE0,hOS0,hB0⟩:=hrel
    by_cases hlt:ii<Ks0.length
    · have hiiI:(ii:Int)<(Ks0.length:Int):=by omega
      obtain ⟨kx,hkx0⟩:∃ kx,Ks0[ii]?=some kx:=⟨_,List.getElem?_eq_getElem hlt⟩
      obtain ⟨wo,hwo⟩:∃ w,w=wr:=⟨_,rfl⟩
      subst hwo
      go_wp2
      go_loopw [5,8] (fun sv jv wr=>∃ (Ks:List Nat) (j:Nat) (la:Option Addr) (lc:Nat),sv=.slice la Ks.length lc∧jv=.int .i64 j∧j≤T∧Ks.length≤300∧Hid (AllS ps (c,i) x.nm x.ds Ks)∧Hid (DoneI ps x.nm x.ds ii Ks)∧Hid (Ks[ii]?=some kx)∧Hid (∀ s∈S.take j,plI ps (G s) (G kx)=true→s∈Ks)∧Hid (wr.ownsRow w1.heap.size 39 2 (.slice la Ks.length lc) Ks.length (Zm (Ks.map G)))∧Hid (Value.ownBlock (.slice sa T sc)=none∨Value.ownBlock (.slice sa T sc)≠Value.ownBlock (.slice la Ks.length lc))∧Hid (wr.ownsRow (w1.heap.size+1) 39 2 (.slice sa T sc) T (Zm (S.map G)))∧Hid (Below w1.heap.size w1 wr)) (fun _ jv _=>T - (intOf jv).toNat)
      case atStart=>exact ⟨Ks0,0,la0,lc0,rfl,rfl,Nat.zero_le _,hK30,hA0,hD0,hkx0,(fun s hs=>by cases hs),hO0,hNE0,hOS0,hB0⟩
      case round =>
        obtain ⟨Ks,j,la,lc,rfl,rfl,hj,hK3,hA,hD,hkx,hNJ,hO,hNE,hOS,hB⟩:=hrel
        have hiK:ii<Ks.length:=(List.getElem?_eq_some_iff.1 hkx.out).1
        by_cases hlj:j<T
        · have hjS:j<S.length:=by rw [HTL.out];exact hlj
          have hjI:(j:Int)<(T:Int):=by omega
          have hiiK:(ii:Int)<(Ks.length:Int):=by omega
          obtain ⟨s,hs⟩:∃ s,S[j]?=some s:=⟨_,List.getElem?_eq_getElem hjS⟩
          have hsm:s∈S:=List.mem_of_getElem? hs
          obtain ⟨gs,c2,hform⟩:=Go.Joins.ownsRow_form hOS.out (by omega)
          injection hform with hca _ hcc
          subst hca hcc
          obtain ⟨d0,d1,hgs⟩:=Yx (l:=S.map G) (i:=j) (x:=G s) (by rw [List.length_map,HTL.out];exact hOS.out) (by rw [List.getElem?_map,hs];rfl)
          obtain ⟨gl,c3,hform2⟩:=Go.Joins.ownsRow_form hO.out (by omega)
          injection hform2 with hca2 _ hcc2
          subst hca2 hcc2
          obtain ⟨l0,l1,hgl⟩:=Yx (l:=Ks.map G) (i:=ii) (x:=G kx) (by rw [List.length_map];exact hO.out) (by rw [List.getElem?_map,hkx.out];rfl)
          obtain ⟨σ,V,hne,V1,V2⟩:=class_of' (fun w'=>Below wr.heap.size wr w') ⟨_,Below.refl _ _⟩
          replace d0:=fun s0=>((V1.out s0).cell (p:=⟨gs,j * 2,none⟩) hgs).trans d0
          replace d1:=fun s0=>((V1.out s0).cell (p:=⟨gs,j * 2+1,none⟩) hgs).trans d1
          replace l0:=fun s0=>((V1.out s0).cell (p:=⟨gl,ii * 2,none⟩) hgl).trans l0
          replace l1:=fun s0=>((V1.out s0).cell (p:=⟨gl,ii * 2+1,none⟩) hgl).trans l1
          have HQ:Hid (∀ s0,Calls Tryz.prog 86 #[.slice (some ⟨gl,0,none⟩) Ks.length lc,.agg #[.int .i64 (G s).1,.int .i64 (G s).2]] (V s0) fun e w''=>e=.returned (.bool (Ks.contains s))∧∃ s',w''=V s'):=fun s0=>by
            have:=r9in_c (W:=V s0) (N:=w1.heap.size) (Ks.map G) (by rw [List.length_map];omega) (.slice (some ⟨gl,0,none⟩) Ks.length lc) (by rw [List.length_map];exact Za hO.out (V1.out s0)) (G s).1 (G s).2
            rw [HGA.out] at this
            exact this.mono fun e w'' zz=>⟨zz.1,V2.out _ (Zc (V1.out s0) zz.2)⟩
          have hRwr:RR wr:=HRG.out _ (B1.out.trans (hB.out.mono B1.out.size))
          have HPL:Hid (∀ s0,Calls Tryz.prog 89 #[.pointer (some ⟨b,0,none⟩),.agg #[.int .i64 (G s).1,.int .i64 (G s).2],.agg #[.int .i64 (G kx).1,.int .i64 (G kx).2]] (V s0) fun e w''=>e=.returned (.bool (plI ps (G s) (G kx)))∧∃ s',w''=V s'):=fun s0=>(HP.out s kx (V s0) hsm (by rw [HGE.out];exact hA.out.ov kx (List.mem_of_getElem? hkx.out)) (HRB.out _ _ hRwr (V1.out s0))).mono fun e w'' zz=>⟨zz.1,V2.out _ (Zc (V1.out s0) zz.2)⟩
          have NXT:Hid (∀ Ks':List Nat,(∀ t∈Ks,t∈Ks')→(plI ps (G s) (G kx)=true→s∈Ks')→∀ t∈S.take (j+1),plI ps (G t) (G kx)=true→t∈Ks'):=fun Ks' h1 h2 t ht hp=>by
            rw [List.take_add_one,hs,Option.toList_some,List.mem_append] at ht
            rcases ht with ht|ht
            · exact h1 t (hNJ.out t ht hp)
            · rw [List.mem_singleton] at ht
              subst ht
              exact h2 hp
          have HIN:Hid (Ks.contains s=true→s∈Ks):=fun h=>List.contains_iff_mem.1 h
          have HNI:Hid (Ks.contains s=false→¬ s∈Ks):=fun h hm=>by
            rw [List.contains_iff_mem.2 hm] at h;cases h
          have HSN:Hid (∀ hp:plI ps (G s) (G kx)=true,¬ s∈Ks→AllS ps (c,i) x.nm x.ds (Ks++[s])∧DoneI ps x.nm x.ds ii (Ks++[s])):=fun hp hn=>by
            rw [HGE.out] at hp
            exact ⟨hA.out.snoc (by rw [← HSE.out];exact hsm) hn (List.mem_of_getElem? hkx.out) hp,hD.out.snoc (by omega) s⟩
          have HLE:Hid (Ks.length≤ps.length):=hA.out.len
          have HGS:Hid ((Ks++[s]).map G=Ks.map G++[G s]):=by rw [Hid,List.map_append];rfl
          generalize hct:Ks.contains s=ct at *
          generalize hpl:plI ps (G s) (G kx)=pl at *
          generalize hgS:G s=Gs at *
          generalize hgX:G kx=Gx at *
          obtain ⟨s1,s2⟩:=Gs
          obtain ⟨x1,x2⟩:=Gx
          simp only at d0 d1 l0 l1 HQ HPL
          clear hct hs hjS hsm hgS hgX HP hRwr
          cases ct
          case true =>
            have NX:=NXT.out Ks (fun t h=>h) (fun _=>HIN.out rfl)
            go_wp2
            refine Zd (C:=fun w'=>∃ s,w'=V s) (by kernel_rfl) (by kernel_rfl) (V2.out _ ((Below.refl _ _).drew)) ?_
            repeat (go_big_quiet_step (first|(go_at_call 86;exact HQ.out _)|(go_at_call 89;exact HPL.out _)))
            refine wpQuiet_nil ?_
            intro w9 hw9
            obtain ⟨s9,hw9⟩:=hw9
            have hb9:Below wr.heap.size wr w9:=by rw [hw9];exact V1.out s9
            have q0:w9.cell? ⟨gs,j * 2,none⟩=some (.int .i64 s1):=by rw [hw9];exact d0 s9
            have q1:w9.cell? ⟨gs,j * 2+1,none⟩=some (.int .i64 s2):=by rw [hw9];exact d1 s9
            have B9:Hid (Below w1.heap.size w1 w9):=Zc hB.out hb9
            have O9:Hid (w9.ownsRow w1.heap.size 39 2 (.slice (some ⟨gl,0,none⟩) Ks.length lc) Ks.length (Zm (Ks.map G))):=Za hO.out hb9
            have S9:Hid (w9.ownsRow (w1.heap.size+1) 39 2 (.slice (some ⟨gs,0,none⟩) T sc) T (Zm (S.map G))):=Za hOS.out hb9
            clear hw9 hb9
            go_wp2
            go_roundw
            case rel=>exact ⟨Ks,j+1,some ⟨gl,0,none⟩,lc,rfl,by go_num,by omega,hK3,hA,hD,hkx,NX,O9,hNE,S9,B9⟩
            case measure=>simp [intOf];omega
          case false =>
            cases pl
            case false =>
              have NX:=NXT.out Ks (fun t h=>h) (fun h=>by cases h)
              go_wp2
              refine Zd (C:=fun w'=>∃ s,w'=V s) (by kernel_rfl) (by kernel_rfl) (V2.out _ ((Below.refl _ _).drew)) ?_
              repeat (go_big_quiet_step (first|(go_at_call 86;exact HQ.out _)|(go_at_call 89;exact HPL.out _)))
              refine wpQuiet_nil ?_
              intro w9 hw9
              obtain ⟨s9,hw9⟩:=hw9
              have hb9:Below wr.heap.size wr w9:=by rw [hw9];exact V1.out s9
              have q0:w9.cell? ⟨gs,j * 2,none⟩=some (.int .i64 s1):=by rw [hw9];exact d0 s9
              have q1:w9.cell? ⟨gs,j * 2+1,none⟩=some (.int .i64 s2):=by rw [hw9];exact d1 s9
              have B9:Hid (Below w1.heap.size w1 w9):=Zc hB.out hb9
              have O9:Hid (w9.ownsRow w1.heap.size 39 2 (.slice (some ⟨gl,0,none⟩) Ks.length lc) Ks.length (Zm (Ks.map G))):=Za hO.out hb9
              have S9:Hid (w9.ownsRow (w1.heap.size+1) 39 2 (.slice (some ⟨gs,0,none⟩) T sc) T (Zm (S.map G))):=Za hOS.out hb9
              clear hw9 hb9
              go_wp2
              go_roundw
              case rel=>exact ⟨Ks,j+1,some ⟨gl,0,none⟩,lc,rfl,by go_num,by omega,hK3,hA,hD,hkx,NX,O9,hNE,S9,B9⟩
              case measure=>simp [intOf];omega
            case true =>
              obtain ⟨hA2,hD2⟩:=HSN.out rfl (HNI.out rfl)
              have NX:=NXT.out (Ks++[s]) (fun t h=>List.mem_append_left _ h) (fun _=>List.mem_append_right _ (List.mem_singleton.2 rfl))
              have hK4:Ks.length+1≤300:=by have:=hA2.len;rw [List.length_append,List.length_singleton] at this;omega
              have hkx2:(Ks++[s])[ii]?=some kx:=by rw [List.getElem?_append_left hiK];exact hkx.out
              go_wp2
              refine Zd (C:=fun w'=>∃ s,w'=V s) (by kernel_rfl) (by kernel_rfl) (V2.out _ ((Below.refl _ _).drew)) ?_
              repeat (go_big_quiet_step (first|(go_at_call 86;exact HQ.out _)|(go_at_call 89;exact HPL.out _)))
              refine wpQuiet_nil ?_
              intro w9 hw9
              obtain ⟨s9,hw9⟩:=hw9
              have hb9:Below wr.heap.size wr w9:=by rw [hw9];exact V1.out s9
              have q0:w9.cell? ⟨gs,j * 2,none⟩=some (.int .i64 s1):=by rw [hw9];exact d0 s9
              have q1:w9.cell? ⟨gs,j * 2+1,none⟩=some (.int .i64 s2):=by rw [hw9];exact d1 s9
              have B9:Hid (Below w1.heap.size w1 w9):=Zc hB.out hb9
              have O9:Hid (w9.ownsRow w1.heap.size 39 2 (.slice (some ⟨gl,0,none⟩) Ks.length lc) Ks.length (Zm (Ks.map G))):=Za hO.out hb9
              have S9:Hid (w9.ownsRow (w1.heap.size+1) 39 2 (.slice (some ⟨gs,0,none⟩) T sc) T (Zm (S.map G))):=Za hOS.out hb9
              clear hw9 hb9
              have gsN:¬ gs=w9.heap.size:=by have:=World.block_lt_of_cell? w9 _ q0;simp only at this;omega
              go_wp2_with (first
                | (at_builtin;refine wpList_append_own_at _ rfl _ _ 60 rfl w1.heap.size 39 i0 (.agg #[.int .i64 0,.int .i64 0]) 2 16 Tryz.underlying60 hi0 hz0 hz1 hz2 rfl (by decide) (.slice (some ⟨gl,0,none⟩) Ks.length lc) Ks.length (Zm (Ks.map G)) rfl (O9.out.alloc _) ⟨w9.heap.size,0,none⟩ 1 1 [.int .i64 s1,.int .i64 s2] rfl rfl ?c1 ?c2 ?c3 ?c4 ?c5 ?_))
              case c1=>intro jj u hj;rw [addr_add];match jj,hj with
                | 0,hj=>simp at hj;subst hj;simp [go_sem]
                | 1,hj=>simp at hj;subst hj;simp [go_sem]
                | (jj+2),hj=>simp at hj
              case c2=>intro u hu;simp at hu;rcases hu with rfl|rfl <;> rfl
              case c3=>unfold maxLen;omega
              case c4=>omega
              case c5=>have:=B9.out.size;simp;omega
              intro v' w4 hown hgrow _ hblk
              obtain ⟨va2,vn2,rfl⟩:=ownv hown
              have B4:Hid (Below w1.heap.size w1 w4):=by
                have hb1:Below w1.heap.size w1 (w9.alloc (.cells #[.int .i64 s1,.int .i64 s2] 39)):=B9.out.alloc B9.out.size _
                refine hb1.grown hgrow hb1.size (fun x hx=>?_)
                have:=(O9.out.lt x hx).1
                omega
              have O4:Hid (w4.ownsRow w1.heap.size 39 2 (.slice va2 (Ks.length+1) vn2) (Ks++[s]).length (Zm ((Ks++[s]).map G))):=by
                rw [Hid,List.length_append,HGS.out,Xe];exact hown
              have S4:Hid (w4.ownsRow (w1.heap.size+1) 39 2 (.slice (some ⟨gs,0,none⟩) T sc) T (Zm (S.map G))):=(S9.out.alloc _).kept hgrow hNE.out
              have NE4:Hid (Value.ownBlock (.slice (some ⟨gs,0,none⟩) T sc)=none∨Value.ownBlock (.slice (some ⟨gs,0,none⟩) T sc)≠Value.ownBlock (.slice va2 (Ks.length+1) vn2)):=by
                rcases hblk with hblk|hblk
                · rw [Hid,hblk];exact hNE.out
                · rw [Hid,hblk]
                  cases hz:Value.ownBlock (.slice (some ⟨gs,0,none⟩) T sc) with
                  | none=>exact .inl rfl
                  | some z =>
                    refine .inr (fun e=>?_)
                    have:=(S9.out.lt z hz).2
                    simp at e
                    omega
              clear hown hgrow hblk
              go_wp2
              go_roundw
              case rel=>exact ⟨Ks++[s],j+1,va2,vn2,by simp,by go_num,by omega,by simpa using hK4,hA2,hD2,hkx2,NX,by simpa using O4,by simpa using NE4,S4,B4⟩
              case measure=>simp [intOf];omega
        · have e:j=T:=by omega
          subst e
          have hD3:DoneI ps x.nm x.ds (ii+1) Ks:=by
            intro p y hp hy t ht hpl
            by_cases e:p=ii
            · subst e
              rw [hkx.out] at hy
              cases hy
              have h1:=hNJ.out t (by rw [← HTL.out,List.take_length,HSE.out];exact ht)
              rw [HGE.out] at h1
              exact h1 hpl
            · exact hD.out p y (by omega) hy t ht hpl
          clear hNJ hD
          go_wp2
          go_roundw
          case rel=>exact ⟨Ks,ii+1,la,lc,rfl,by go_num,hiK,hK3,hA,hD3,hO,hNE,hOS,hB⟩
          case measure=>simp [intOf];omega
    · have e:ii=Ks0.length:=by omega
      subst e
      go_wp2
      exact bodyPost_ret (results_tmp rfl _ _ _) rfl ⟨⟨_,Ks0,rfl,by rw [List.length_map];exact Go.Joins.ownsRow_le hO0.out B1.out.size,hA0.out,hD0.out⟩,B1.out.trans (hB0.out.mono B1.out.size)⟩
theorem r9all_c {b:Nat} {cs:List Cls} {ps:List Plc} {W:World} (h:RAt b cs W) (ht:TwW cs ps) (hJ:WJ ps) (hS:SndI ps) (hU:UnqM ps) (hz:∀ c∈cs,c.nm.size≤maxLen) (c i:Int) (x:HM) (hx:Zp ps c i=some x) (hst:hasI x.fl 8=false):Calls Tryz.prog 55 #[.pointer (some ⟨b,0,none⟩),.agg #[.int .i64 c,.int .i64 i]] W fun e w'=>(∃ v A,e=.returned v∧w'.ownsRow W.heap.size 39 2 v A.length (Zm A)∧A.length≤300∧(∀ y,y∈A↔Ov ps (c,i) y)∧A.Nodup)∧Below W.heap.size W w':=by
  obtain ⟨kA,hk,hg,_⟩:=Zg5 hU (a:=(c,i)) hx (nm:=x.nm) (ds:=x.ds) rfl rfl
  have hs0:stI ps (c,i)=false:=by rw [stI];simp only [hx];exact hst
  refine (r9all_w (b:=b) (ps:=ps) (W:=W) c i x ht.wi.hi (RAt b cs) (fun w w' hw hb=>hw.below hb) (fun w hb=>h.below hb) hst kA ⟨hk,hg,hs0⟩ (fun w hw=>Jh hw ht c i x hx) (fun w hw=>?_) (fun s y w hs ho hw=>?_)).mono fun e w' zz=>?_
  · have:=Zkl hw ht c i x hx
    rw [Zdq,List.length_map] at this
    exact this
  · obtain ⟨_,h2,_⟩:=Za1.1 hs
    obtain ⟨⟨m1,hm1,_⟩,_⟩:=Zfu h2
    obtain ⟨n,hn⟩:=ho
    obtain ⟨m2,hm2,_⟩:=Yt ht.wi (a:=(c,i)) hx n _ hn
    exact Zkk hw ht hJ hS hz _ _ _ _ m1 m2 hm1 hm2
  · obtain ⟨⟨v,Ks,e1,e2,e3,e4⟩,e5⟩:=zz
    refine ⟨⟨v,Ks.map (gK ps x.nm x.ds),e1,e2,?_,fun y=>AllS.all ht.wi hU (a:=(c,i)) hx e3 e4 y,?_⟩,e5⟩
    · rw [List.length_map]
      exact Nat.le_trans e3.len ht.wi.hi
    · refine List.Pairwise.map _ (fun a b hab he=>hab ?_) e3.nd
      have:=congrArg Prod.fst he
      simp only [gK] at this
      omega
def ovC (ps:List Plc) (nm ds:ByteArray) (a:Int×Int) (k:Nat):Bool:=decide ((fndI ps (k:Int) nm ds).2=0)&&(ovrI ps (gK ps nm ds k) a).1
theorem ov_st {ps:List Plc} {a x:Int×Int} (h:Ov ps a x):stI ps a=false:=by
  obtain ⟨n,hn⟩:=h
  induction n generalizing x with
  | zero=>exact hn.2
  | succ n ih=>obtain ⟨y,hy,_⟩:=hn;exact ih hy
theorem Q6 {ps:List Plc} (hW:WI ps) (hU:UnqM ps) {a:Int×Int} {ma:HM} (ha:Zp ps a.1 a.2=some ma) {k:Nat}:ovC ps ma.nm ma.ds a k=true↔Ov ps a (gK ps ma.nm ma.ds k):=by
  constructor
  · intro h
    rw [ovC,Bool.and_eq_true] at h
    cases hx:Zp ps (gK ps ma.nm ma.ds k).1 (gK ps ma.nm ma.ds k).2 with
    | none=>have:=h.2;simp [ovrI,hx] at this
    | some mx=>exact (Zbf hW hU ha hx).2.1 h.2
  · intro h
    obtain ⟨n,hn⟩:=h
    obtain ⟨mx,hmx,e1,e2,_⟩:=Yt hW ha n _ hn
    have hf:=hU.fnd hmx e1 e2
    rw [ovC,Bool.and_eq_true,decide_eq_true_iff]
    refine ⟨?_,(Zbf hW hU ha hmx).2.2 ⟨n,hn⟩⟩
    have:(gK ps ma.nm ma.ds k).1=(k:Int):=rfl
    rw [this] at hf
    rw [hf]
theorem Zi4 {ps:List Plc} (hW:WI ps) (hU:UnqM ps) {a:Int×Int} {ma:HM} (ha:Zp ps a.1 a.2=some ma) {x:Int×Int} (h:Ov ps a x):∃ k,k<ps.length∧x=gK ps ma.nm ma.ds k∧ovC ps ma.nm ma.ds a k=true∧a.1≤(k:Int):=by
  obtain ⟨n,hn⟩:=h
  obtain ⟨mx,hmx,e1,e2,_,e4,_⟩:=Yt hW ha n _ hn
  obtain ⟨k,hk,e,_⟩:=Zg5 hU hmx e1 e2
  refine ⟨k,hk,e.symm,(Q6 hW hU ha).2 (e ▸ ⟨n,hn⟩),?_⟩
  have h1:=Zbv hW e4
  have h2:(k:Int)=x.1:=by rw [← e];rfl
  omega
theorem ovC_le {ps:List Plc} (hW:WI ps) (hU:UnqM ps) {a:Int×Int} {ma:HM} (ha:Zp ps a.1 a.2=some ma) {k:Nat} (h:ovC ps ma.nm ma.ds a k=true):a.1≤(k:Int)∧k<ps.length:=by
  obtain ⟨j,hj,e,_,h4⟩:=Zi4 hW hU ha ((Q6 hW hU ha).1 h)
  have:(k:Int)=(j:Int):=congrArg Prod.fst e
  omega
theorem Zfn {ps:List Plc} (hW:WI ps) (hU:UnqM ps) {a:Int×Int} {ma:HM} (ha:Zp ps a.1 a.2=some ma) {l:List Nat} (hasc:l.Pairwise (· < ·)) (hcl:∀ d∈l,∀ j:Nat,extI ps (d:Int) (j:Int)=true→ifcI ps (j:Int)=false→a.1<(j:Int)→j∈l):∀ n,gthL ps a (askL ps ma a (l.take n))=(if stI ps a then [] else [a])++((l.take n).filter fun k=>ovC ps ma.nm ma.ds a k&&((k:Int) != a.1)).map (gK ps ma.nm ma.ds):=by
  intro n
  induction n with
  | zero =>
    rw [List.take_zero,askL,nskL,gthL,List.foldl_cons,List.foldl_nil,gth1,Zag.2 rfl]
    cases stI ps a <;> simp
  | succ n ih =>
    by_cases hn:n<l.length
    · obtain ⟨d,hd⟩:∃ d,l[n]?=some d:=⟨_,List.getElem?_eq_getElem hn⟩
      have hst:=Zbg (ps:=ps) (nm:=ma.nm) (ds:=ma.ds) (a:=a.1) hd
      have hask:askL ps ma a (l.take (n+1))=askL ps ma a (l.take n)++(if (fndI ps (d:Int) ma.nm ma.ds).2=0∧(d:Int)≠a.1 then [gK ps ma.nm ma.ds d] else []):=by rw [askL,hst,askL,List.cons_append];rfl
      rw [hask,List.take_add_one,hd,Option.toList_some,List.filter_append,List.map_append]
      by_cases hc:(fndI ps (d:Int) ma.nm ma.ds).2=0∧(d:Int)≠a.1
      · rw [if_pos hc,Zbm,gth1]
        have he:eqI (gK ps ma.nm ma.ds d) a=false:=by
          cases e:eqI (gK ps ma.nm ma.ds d) a with
          | false=>rfl
          | true=>rw [Zag] at e;exact absurd (congrArg Prod.fst e) hc.2
        have hk:(gthL ps a (askL ps ma a (l.take n))).any (plI ps (gK ps ma.nm ma.ds d))=ovC ps ma.nm ma.ds a d:=by
          rw [Bool.eq_iff_iff,Q6 hW hU ha]
          constructor
          · intro h
            obtain ⟨y,hy,hp⟩:=List.any_eq_true.1 h
            exact (Zla _ [] (fun y hy=>by cases hy) y hy:Ov ps a y).step hp
          · intro h
            have hs:=ov_st h
            obtain ⟨m,hm⟩:=h
            cases m with
            | zero=>exact absurd (congrArg Prod.fst hm.1) hc.2
            | succ m =>
              obtain ⟨y,hy,hp⟩:=hm
              refine List.any_eq_true.2 ⟨y,?_,hp⟩
              obtain ⟨my,hmy,e1,e2,_,_,e5⟩:=Yt hW ha m y hy
              rw [ih,hs]
              rcases e5 with rfl|⟨hif,hlt⟩
              · exact List.mem_append_left _ (List.mem_singleton.2 rfl)
              · obtain ⟨j,hj,ej,hoj,_⟩:=Zi4 hW hU ha ⟨m,hy⟩
                obtain ⟨_,_,_,_,_,_,_,_,hne,_,hex⟩:=Zax hp
                have hy1:y.1=(j:Int):=by rw [ej];rfl
                have hd1:(gK ps ma.nm ma.ds d).1=(d:Int):=rfl
                rw [hy1] at hif hlt hne hex
                rw [hd1] at hne hex
                have hle:=Zbv hW hex
                have hjl:=hcl d (List.mem_of_getElem? hd) j hex hif hlt
                refine List.mem_append_right _ (List.mem_map.2 ⟨j,List.mem_filter.2 ⟨Zjs hasc hd hjl (by omega),?_⟩,ej.symm⟩)
                rw [hoj,Bool.true_and,bne_iff_ne]
                omega
        rw [he,hk,Bool.false_and,Bool.false_or,ih]
        have hb:((d:Int) != a.1)=true:=by rw [bne_iff_ne];exact hc.2
        cases ho:ovC ps ma.nm ma.ds a d with
        | true=>simp [ho,hb,List.append_assoc]
        | false=>simp [ho]
      · rw [if_neg hc,List.append_nil,ih]
        have:(ovC ps ma.nm ma.ds a d&&((d:Int) != a.1))=false:=by
          rw [ovC]
          by_cases h1:(fndI ps (d:Int) ma.nm ma.ds).2=0
          · have h2:(d:Int)=a.1:=Decidable.not_not.1 fun h=>hc ⟨h1,h⟩
            rw [h2];simp
          · simp [h1]
        simp [this]
    · rw [List.take_of_length_le (by omega)] at ih ⊢
      exact ih
theorem last_max {F:List Nat} (h:F.Pairwise (· < ·)) {j:Nat} (hj:F.getLast?=some j):j∈F∧∀ x∈F,x≤j:=by
  rcases List.eq_nil_or_concat F with rfl|⟨F0,y,rfl⟩
  · cases hj
  · rw [List.concat_eq_append] at h hj ⊢
    rw [List.getLast?_append] at hj
    simp at hj
    subst hj
    refine ⟨by simp,fun x hx=>?_⟩
    rcases List.mem_append.1 hx with hx|hx
    · exact Nat.le_of_lt ((List.pairwise_append.1 h).2.2 x hx y (by simp))
    · rw [List.mem_singleton] at hx;omega
theorem Zbs {p:Nat→Bool}:∀ {l:List Nat},l.Pairwise (· > ·)→∀ {j:Nat},j∈l→p j=true→(∀ x∈l,p x=true→x≤j)→l.find? p=some j
  | [],_,_,h,_,_=>by cases h
  | y::r,hp,j,hj,hpj,hm=>by
    rw [List.find?_cons]
    rw [List.pairwise_cons] at hp
    cases hy:p y with
    | true =>
      rcases List.mem_cons.1 hj with rfl|hj
      · rfl
      · have h1:=hm y (by simp) hy
        have h2:=hp.1 j hj
        omega
    | false =>
      rcases List.mem_cons.1 hj with rfl|hj
      · rw [hy] at hpj;cases hpj
      · exact Zbs hp.2 hj hpj fun x hx h=>hm x (List.mem_cons_of_mem _ hx) h
def firD (ps:List Plc) (nm ds:ByteArray) (a:Int×Int) (l:List Nat):(Int×Int)×Int:=match l.find? (ovC ps nm ds a) with
  | some j=>(gK ps nm ds j,0)
  | none=>((0,0),6)
theorem Zga {ps:List Plc} {nm ds:ByteArray} {a:Int×Int} {l:List Nat} {j:Nat} (h:l.find? (ovC ps nm ds a)=some j):firD ps nm ds a l=(gK ps nm ds j,0):=by rw [firD,h]
theorem Zgb {ps:List Plc} {nm ds:ByteArray} {a:Int×Int} {l:List Nat} (h:∀ x∈l,ovC ps nm ds a x=false):firD ps nm ds a l=((0,0),6):=by
  have:l.find? (ovC ps nm ds a)=none:=by rw [List.find?_eq_none];intro x hx;rw [h x hx];simp
  rw [firD,this]
theorem Zlz {ps:List Plc} (hW:WI ps) {k:Nat} (hk:k<ps.length) {d:Nat} (hd:d∈chL (ps.map nd) k) {j:Nat} (hex:extI ps (d:Int) (j:Int)=true) (hif:ifcI ps (j:Int)=false):j∈chL (ps.map nd) k:=by
  have hkl:k<(ps.map nd).length:=by simpa using hk
  obtain ⟨i,j2,hi,hj,hil,hjl,he⟩:=Xv hex
  obtain rfl:d=i:=by omega
  obtain rfl:j=j2:=by omega
  refine Zef hW.wo k hkl d hd j ?_
  rcases (Zbu _ _ _).1 he with h|h
  · exact h
  · exfalso
    obtain ⟨_,_,p,hp1,hp2,_⟩:=Yv hW.wo h
    rw [ifcI,Z8] at hif
    rw [List.getElem?_map] at hp1
    obtain ⟨q,hq,rfl⟩:=Option.map_eq_some_iff.1 hp1
    rw [hq] at hif
    have:(nd q).i=false:=hif
    rw [this] at hp2
    cases hp2
theorem Zf9 {ps:List Plc} (hW:WI ps) (hU:UnqM ps) {a:Int×Int} {ma:HM} (ha:Zp ps a.1 a.2=some ma) {k:Nat} {q:Plc} (hq:ps[k]?=some q):firI ps (k:Int) a=firD ps ma.nm ma.ds a (chL (ps.map nd) k):=by
  have hk:=(List.getElem?_eq_some_iff.1 hq).1
  have hkl:k<(ps.map nd).length:=by simpa using hk
  have hdesc:=Zly hW.wo k hkl
  have hasc:(chL (ps.map nd) k).reverse.Pairwise (· < ·):=by rw [List.pairwise_reverse];exact hdesc
  have hg:=Zfn hW hU ha hasc (fun d hd j h1 h2 _=>List.mem_reverse.2 (Zlz hW hk (List.mem_reverse.1 hd) h1 h2)) (chL (ps.map nd) k).reverse.length
  rw [List.take_length] at hg
  have e0:firI ps (k:Int) a=lstI (chL (ps.map nd) k) (gthL ps a (askL ps ma a (chL (ps.map nd) k).reverse)):=by
    rw [firI,ha,Z8,hq];rfl
  rw [e0,hg]
  obtain ⟨F,hF⟩:∃ F,((chL (ps.map nd) k).reverse.filter fun k=>ovC ps ma.nm ma.ds a k&&((k:Int) != a.1))=F:=⟨_,rfl⟩
  rw [hF]
  have hFasc:F.Pairwise (· < ·):=by rw [← hF];exact hasc.filter _
  have hFm:∀ x,x∈F↔x∈chL (ps.map nd) k∧ovC ps ma.nm ma.ds a x=true∧(x:Int)≠a.1:=fun x=>by
    rw [← hF,List.mem_filter,List.mem_reverse,Bool.and_eq_true,bne_iff_ne]
  cases hl:F.getLast? with
  | some j =>
    obtain ⟨hj1,hj2⟩:=last_max hFasc hl
    obtain ⟨h1,h2,h3⟩:=(hFm j).1 hj1
    have hle:=(ovC_le hW hU ha h2).1
    rw [Zga (Zbs hdesc h1 h2 fun x hx hp=>?_)]
    · have hlast:((if stI ps a then [] else [a])++F.map (gK ps ma.nm ma.ds)).getLast?=some (gK ps ma.nm ma.ds j):=by
        rw [List.getLast?_append,List.getLast?_map,hl];rfl
      rw [Zfe hlast,if_pos]
      exact List.contains_iff_mem.2 (List.mem_map.2 ⟨j,h1,rfl⟩)
    · by_cases hxa:(x:Int)=a.1
      · omega
      · exact hj2 x ((hFm x).2 ⟨hx,hp,hxa⟩)
  | none =>
    have hF0:F=[]:=List.getLast?_eq_none_iff.1 hl
    rw [hF0,List.map_nil,List.append_nil]
    cases hs:stI ps a with
    | true =>
      rw [Zgb fun x hx=>?_]
      · rfl
      · cases ho:ovC ps ma.nm ma.ds a x with
        | false=>rfl
        | true=>rw [ov_st ((Q6 hW hU ha).1 ho)] at hs;cases hs
    | false =>
      simp only [Bool.false_eq_true,if_false]
      rw [Zfe (x:=a) rfl]
      by_cases hin:((chL (ps.map nd) k).map (fun k:Nat=>(k:Int))).contains a.1=true
      · rw [if_pos hin]
        obtain ⟨j,hj,ej⟩:=List.mem_map.1 (List.contains_iff_mem.1 hin)
        obtain ⟨j2,hj2,e2,hoj,_⟩:=Zi4 hW hU ha ⟨0,rfl,hs⟩
        have:(j2:Int)=a.1:=by rw [e2];rfl
        obtain rfl:j=j2:=by omega
        rw [Zga (Zbs hdesc hj hoj fun x hx hp=>?_),← e2]
        by_cases hxa:(x:Int)=a.1
        · omega
        · have:=(hFm x).2 ⟨hx,hp,hxa⟩
          rw [hF0] at this;cases this
      · rw [if_neg hin,Zgb fun x hx=>?_]
        cases ho:ovC ps ma.nm ma.ds a x with
        | false=>rfl
        | true =>
          by_cases hxa:(x:Int)=a.1
          · exact absurd (List.contains_iff_mem.2 (List.mem_map.2 ⟨x,hx,hxa⟩)) hin
          · have:=(hFm x).2 ⟨hx,ho,hxa⟩
            rw [hF0] at this;cases this
def allK (ps:List Plc) (nm ds:ByteArray) (a:Int×Int):List Nat:=(List.range ps.length).filter (ovC ps nm ds a)
theorem Zl9 {ps:List Plc} (hW:WI ps) (hU:UnqM ps) {a:Int×Int} {ma:HM} (ha:Zp ps a.1 a.2=some ma) {k:Nat} (hk:a.1=(k:Int)):gthL ps a (askL ps ma a (List.range' (k+1) (ps.length - (k+1))))=(allK ps ma.nm ma.ds a).map (gK ps ma.nm ma.ds):=by
  have hkl:k<ps.length:=by
    obtain ⟨j,q,hj,hq,_,_⟩:=Y0 ha
    have:=(List.getElem?_eq_some_iff.1 hq).1
    omega
  have hasc:(List.range' (k+1) (ps.length - (k+1))).Pairwise (· < ·):=List.pairwise_lt_range'
  have hg:=Zfn hW hU ha hasc (fun d hd j h1 h2 h3=>by
    have hle:=Zbv hW h1
    have hd2:=List.mem_range'_1.1 hd
    exact List.mem_range'_1.2 (by omega)) (List.range' (k+1) (ps.length - (k+1))).length
  rw [List.take_length] at hg
  rw [hg,allK]
  have hsplit:List.range ps.length=List.range k++([k]++List.range' (k+1) (ps.length - (k+1))):=by
    have e1:ps.length=k+(ps.length - (k+1)+1):=by omega
    have e2:=List.range'_append_1 (s:=0) (m:=k) (n:=ps.length - (k+1)+1)
    rw [Nat.zero_add,← e1] at e2
    rw [List.singleton_append,← List.range'_succ,List.range_eq_range',List.range_eq_range',e2]
  rw [hsplit,List.filter_append,List.filter_append,List.map_append,List.map_append]
  have h0:(List.range k).filter (ovC ps ma.nm ma.ds a)=[]:=by
    rw [List.filter_eq_nil_iff]
    intro x hx ho
    have:=(ovC_le hW hU ha ho).1
    have:=List.mem_range.1 hx
    omega
  have h1:(List.range' (k+1) (ps.length - (k+1))).filter (fun k=>ovC ps ma.nm ma.ds a k&&((k:Int) != a.1))=(List.range' (k+1) (ps.length - (k+1))).filter (ovC ps ma.nm ma.ds a):=by
    refine List.filter_congr fun x hx=>?_
    have:=(List.mem_range'_1.1 hx).1
    have:((x:Int) != a.1)=true:=by rw [bne_iff_ne];omega
    rw [this,Bool.and_true]
  rw [h0,h1,List.map_nil,List.nil_append]
  congr 1
  cases hs:stI ps a with
  | true =>
    have:ovC ps ma.nm ma.ds a k=false:=by
      cases ho:ovC ps ma.nm ma.ds a k with
      | false=>rfl
      | true=>rw [ov_st ((Q6 hW hU ha).1 ho)] at hs;cases hs
    simp [this]
  | false =>
    obtain ⟨j,hj,e2,hoj,_⟩:=Zi4 hW hU ha ⟨0,rfl,hs⟩
    have:(j:Int)=a.1:=by rw [e2];rfl
    obtain rfl:k=j:=by omega
    simp [hoj,← e2]
theorem Zcf {P:Program} {ops:Array Oper} {o:Oper} {a:Act} {w:World} {K:Act→World→Prop} {Q:Exit→Act→World→Prop} {E:Prop} (hg:o.guard=none) (f:Nat) (hf:∀ (vs:Array Value) (w:World),(callFunc f vs).run P w=.ok (.enter f vs) w) (x y:Operand) (t1 t2:TypeId)
    (hop:o.op=Op.call { callee:=Callee.value (Operand.func f),args:=#[x,y],argTypes:=#[t1,t2] }) {R:Ending→World→Prop} (v1 v2:Value) (hv1:a.eval x=v1) (hv2:a.eval y=v2) (h:Calls P f #[v1,v2] w R) (hR:∀ e w',R e w'→∃ u,e=.returned u∧K (a.put o.dst u) w') :
    if Region.wanted o (yielded ops a.tmps)=true then Oper.wp P o a w K Q else E:=by
  have hw:Region.wanted o (yielded ops a.tmps)=true:=by simp [Region.wanted,hg]
  rw [if_pos hw]
  unfold Oper.wp
  have e:(execOp a.eval o).run P w=.ok (.enter f #[v1,v2]) w:=by
    simp [execOp,hop,resolve,invoke,hv1,hv2]
    simp [go_sem,hf]
  rw [e,Oper.upon_enter]
  exact h.mono (fun e w' hr=>by obtain ⟨u,rfl,hk⟩:=hR e w' hr;exact hk)
theorem Zl0 (vs:Array Value) (w:World):(callFunc 55 vs).run Tryz.prog w=.ok (.enter 55 vs) w:=by simp [go_sem]
theorem callR9in (vs:Array Value) (w:World):(callFunc 86 vs).run Tryz.prog w=.ok (.enter 86 vs) w:=by simp [go_sem]
theorem r9all_no {b:Nat} {cs:List Cls} {ps:List Plc} {W:World} (h:RAt b cs W) (ht:TwW cs ps) (c i:Int) (x:HM) (hx:Zp ps c i=some x) (hst:hasI x.fl 8=true):Calls Tryz.prog 55 #[.pointer (some ⟨b,0,none⟩),.agg #[.int .i64 c,.int .i64 i]] W fun e w'=>e=.returned (.slice none 0 0)∧Below W.heap.size W w':=by
  have HM:Hid (∀ w,Below W.heap.size W w→Calls Tryz.prog 87 #[.pointer (some ⟨b,0,none⟩),.agg #[.int .i64 c,.int .i64 i]] w fun e w'=>(∃ a n s,e=.returned (.agg #[.string x.nm,.string x.ds,.int .i64 x.fl,.int .i64 x.lo,.int .i64 x.st,.slice a n s]))∧Below w.heap.size w w'):=fun w hb=>Jh (h.below hb) ht c i x hx
  have HH:Hid (∀ w:World,Calls Tryz.prog 46 #[.int .i64 x.fl,.int .i64 8] w fun e w'=>e=.returned (.bool true)∧w'=w):=fun w=>by
    have:=Z3 x.fl 8 w
    rw [hst] at this
    exact this
  have FLD:∀ (a:Option Addr) (n m:Nat) (w:World),(Instr.field 64 (.agg #[.string x.nm,.string x.ds,.int .i64 x.fl,.int .i64 x.lo,.int .i64 x.st,.slice a n m]) 2).run Tryz.prog w=.ok (.int .i64 x.fl) w:=fun a n m w=>by
    simp [Instr.field,run_underlying Tryz.underlying64,go_sem,part,asAgg]
  clear h ht hx hst
  go_enter Tryz.func55,Tryz.ntmps55
  go_wp2_with (first
    | (go_at_call 87;refine (HM.out _ ((Below.refl _ _).alloc (Nat.le_refl _) _)).mono ?_;rintro e w1 ⟨⟨xa,xk,xo,rfl⟩,hb⟩;have B1:Hid (Below W.heap.size W w1):=Zc ((Below.refl _ _).alloc (Nat.le_refl _) _) hb;clear hb HM)
    | (go_at_call 46;refine (HH.out _).mono ?_;rintro e w9 ⟨rfl,hw9⟩;rw [hw9];clear hw9 w9 HH))
  all_goals exact bodyPost_ret (results_tmp rfl _ _ _) rfl ⟨rfl,B1.out⟩
theorem r9Ow (W:World) (b:Nat) (c1 c2 a1 a2:Int) (ic ia p:Bool) (HI:Hid (∀ w,Below W.heap.size W w→Calls Tryz.prog 35 #[.pointer (some ⟨b,0,none⟩),.agg #[.int .i64 c1,.int .i64 c2]] w fun e w'=>(e=.returned (.bool ic))∧Below w.heap.size w w')) (HJ:Hid (∀ w,Below W.heap.size W w→Calls Tryz.prog 35 #[.pointer (some ⟨b,0,none⟩),.agg #[.int .i64 a1,.int .i64 a2]] w fun e w'=>(e=.returned (.bool ia))∧Below w.heap.size w w')) (HL0:Hid (ic=true→ia=true→∀ w,Below W.heap.size W w→Calls Tryz.prog 55 #[.pointer (some ⟨b,0,none⟩),.agg #[.int .i64 a1,.int .i64 a2]] w fun e w'=>(∃ v,e=.returned v∧Calls Tryz.prog 86 #[v,.agg #[.int .i64 c1,.int .i64 c2]] w' fun e2 w2=>e2=.returned (.bool p)∧Below w'.heap.size w' w2)∧Below w.heap.size w w')):Calls Tryz.prog 54 #[.pointer (some ⟨b,0,none⟩),.agg #[.int .i64 c1,.int .i64 c2],.agg #[.int .i64 a1,.int .i64 a2]] W fun e w'=>e=.returned (.tuple #[.bool (ic&&ia&&p),.int .i64 (if ic&&ia then 0 else 3)])∧Below W.heap.size W w':=by
  have BB:Hid (Below W.heap.size W W):=Below.refl _ _
  cases ic
  case false =>
    clear HL0
    show Calls Tryz.prog 54 #[.pointer (some ⟨b,0,none⟩),.agg #[.int .i64 c1,.int .i64 c2],.agg #[.int .i64 a1,.int .i64 a2]] W fun e w'=>e=.returned (.tuple #[.bool false,.int .i64 3])∧Below W.heap.size W w'
    go_enter Tryz.func54,Tryz.ntmps54
    go_wp2_with (first
      | (go_at_call 35;refine (HI.out _ (sqE BB)).mono ?_;rintro e w1 ⟨rfl,hb⟩;have cbd:=kp2 (n:=W.heap.size) hb (by first|omega|(simp;try omega)) (Zj (Zl _ _));(try clear cbB cb0 cb1 cbf cbL cbN);obtain ⟨cbB,cb0,cb1,cbf,cbL,cbN⟩:=cbd;have abd:=kp2 (n:=W.heap.size+1) hb (by first|omega|(simp;try omega)) (Ze _ _ (by simp));(try clear abB ab0 ab1 abf abL abN);obtain ⟨abB,ab0,ab1,abf,abL,abN⟩:=abd;have BB2:Below W.heap.size W w1:=Zc (sqE BB) hb;clear BB;have BB:Hid (Below W.heap.size W w1):=BB2;clear HI;clear BB2 hb)
      | (go_at_call 35;refine (HJ.out _ (sqE BB)).mono ?_;rintro e w2 ⟨rfl,hb⟩;have cbd:=kp2 (n:=W.heap.size) hb (by first|omega|(simp;try omega)) (cbB.out);(try clear cbB cb0 cb1 cbf cbL cbN);obtain ⟨cbB,cb0,cb1,cbf,cbL,cbN⟩:=cbd;have abd:=kp2 (n:=W.heap.size+1) hb (by first|omega|(simp;try omega)) (abB.out);(try clear abB ab0 ab1 abf abL abN);obtain ⟨abB,ab0,ab1,abf,abL,abN⟩:=abd;have BB2:Below W.heap.size W w2:=Zc (sqE BB) hb;clear BB;have BB:Hid (Below W.heap.size W w2):=BB2;clear HJ;clear BB2 hb)
      | (go_at_call 55;refine (HL.out _ (sqE BB)).mono ?_;rintro e w3 ⟨⟨vv,rfl,HQ0⟩,hb⟩;have cbd:=kp2 (n:=W.heap.size) hb (by first|omega|(simp;try omega)) (cbB.out);(try clear cbB cb0 cb1 cbf cbL cbN);obtain ⟨cbB,cb0,cb1,cbf,cbL,cbN⟩:=cbd;have abd:=kp2 (n:=W.heap.size+1) hb (by first|omega|(simp;try omega)) (abB.out);(try clear abB ab0 ab1 abf abL abN);obtain ⟨abB,ab0,ab1,abf,abL,abN⟩:=abd;have BB2:Below W.heap.size W w3:=Zc (sqE BB) hb;clear BB;have BB:Hid (Below W.heap.size W w3):=BB2;have HQ:Hid _:=HQ0;clear HL HQ0;clear BB2 hb)
      | (go_at_call 86;refine (HQ.out).mono ?_;rintro e w4 ⟨rfl,hb⟩;have BB2:Below W.heap.size W w4:=Zc (sqE BB) hb;clear BB;have BB:Hid (Below W.heap.size W w4):=BB2;clear HQ;clear BB2 hb))
    all_goals exact bodyPost_ret (results_tmp2 rfl _ _ _) rfl ⟨rfl,(sqE BB)⟩
  case true =>
    cases ia
    case false =>
      clear HL0
      show Calls Tryz.prog 54 #[.pointer (some ⟨b,0,none⟩),.agg #[.int .i64 c1,.int .i64 c2],.agg #[.int .i64 a1,.int .i64 a2]] W fun e w'=>e=.returned (.tuple #[.bool false,.int .i64 3])∧Below W.heap.size W w'
      go_enter Tryz.func54,Tryz.ntmps54
      go_wp2_with (first
        | (go_at_call 35;refine (HI.out _ (sqE BB)).mono ?_;rintro e w1 ⟨rfl,hb⟩;have cbd:=kp2 (n:=W.heap.size) hb (by first|omega|(simp;try omega)) (Zj (Zl _ _));(try clear cbB cb0 cb1 cbf cbL cbN);obtain ⟨cbB,cb0,cb1,cbf,cbL,cbN⟩:=cbd;have abd:=kp2 (n:=W.heap.size+1) hb (by first|omega|(simp;try omega)) (Ze _ _ (by simp));(try clear abB ab0 ab1 abf abL abN);obtain ⟨abB,ab0,ab1,abf,abL,abN⟩:=abd;have BB2:Below W.heap.size W w1:=Zc (sqE BB) hb;clear BB;have BB:Hid (Below W.heap.size W w1):=BB2;clear HI;clear BB2 hb)
        | (go_at_call 35;refine (HJ.out _ (sqE BB)).mono ?_;rintro e w2 ⟨rfl,hb⟩;have cbd:=kp2 (n:=W.heap.size) hb (by first|omega|(simp;try omega)) (cbB.out);(try clear cbB cb0 cb1 cbf cbL cbN);obtain ⟨cbB,cb0,cb1,cbf,cbL,cbN⟩:=cbd;have abd:=kp2 (n:=W.heap.size+1) hb (by first|omega|(simp;try omega)) (abB.out);(try clear abB ab0 ab1 abf abL abN);obtain ⟨abB,ab0,ab1,abf,abL,abN⟩:=abd;have BB2:Below W.heap.size W w2:=Zc (sqE BB) hb;clear BB;have BB:Hid (Below W.heap.size W w2):=BB2;clear HJ;clear BB2 hb)
        | (go_at_call 55;refine (HL.out _ (sqE BB)).mono ?_;rintro e w3 ⟨⟨vv,rfl,HQ0⟩,hb⟩;have cbd:=kp2 (n:=W.heap.size) hb (by first|omega|(simp;try omega)) (cbB.out);(try clear cbB cb0 cb1 cbf cbL cbN);obtain ⟨cbB,cb0,cb1,cbf,cbL,cbN⟩:=cbd;have abd:=kp2 (n:=W.heap.size+1) hb (by first|omega|(simp;try omega)) (abB.out);(try clear abB ab0 ab1 abf abL abN);obtain ⟨abB,ab0,ab1,abf,abL,abN⟩:=abd;have BB2:Below W.heap.size W w3:=Zc (sqE BB) hb;clear BB;have BB:Hid (Below W.heap.size W w3):=BB2;have HQ:Hid _:=HQ0;clear HL HQ0;clear BB2 hb)
        | (go_at_call 86;refine (HQ.out).mono ?_;rintro e w4 ⟨rfl,hb⟩;have BB2:Below W.heap.size W w4:=Zc (sqE BB) hb;clear BB;have BB:Hid (Below W.heap.size W w4):=BB2;clear HQ;clear BB2 hb))
      all_goals exact bodyPost_ret (results_tmp2 rfl _ _ _) rfl ⟨rfl,(sqE BB)⟩
    case true =>
      have HL:=HL0.out rfl rfl
      have HLH:Hid _:=HL
      clear HL HL0
      show Calls Tryz.prog 54 #[.pointer (some ⟨b,0,none⟩),.agg #[.int .i64 c1,.int .i64 c2],.agg #[.int .i64 a1,.int .i64 a2]] W fun e w'=>e=.returned (.tuple #[.bool p,.int .i64 0])∧Below W.heap.size W w'
      go_enter Tryz.func54,Tryz.ntmps54
      go_upto_region 3 with (first
        | (go_at_call 35;refine (HI.out _ (sqE BB)).mono ?_;rintro e w1 ⟨rfl,hb⟩;have cbd:=kp2 (n:=W.heap.size) hb (by first|omega|(simp;try omega)) (Zj (Zl _ _));(try clear cbB cb0 cb1 cbf cbL cbN);obtain ⟨cbB,cb0,cb1,cbf,cbL,cbN⟩:=cbd;have abd:=kp2 (n:=W.heap.size+1) hb (by first|omega|(simp;try omega)) (Ze _ _ (by simp));(try clear abB ab0 ab1 abf abL abN);obtain ⟨abB,ab0,ab1,abf,abL,abN⟩:=abd;have BB2:Below W.heap.size W w1:=Zc (sqE BB) hb;clear BB;have BB:Hid (Below W.heap.size W w1):=BB2;clear HI;clear BB2 hb)
        | (go_at_call 35;refine (HJ.out _ (sqE BB)).mono ?_;rintro e w2 ⟨rfl,hb⟩;have cbd:=kp2 (n:=W.heap.size) hb (by first|omega|(simp;try omega)) (cbB.out);(try clear cbB cb0 cb1 cbf cbL cbN);obtain ⟨cbB,cb0,cb1,cbf,cbL,cbN⟩:=cbd;have abd:=kp2 (n:=W.heap.size+1) hb (by first|omega|(simp;try omega)) (abB.out);(try clear abB ab0 ab1 abf abL abN);obtain ⟨abB,ab0,ab1,abf,abL,abN⟩:=abd;have BB2:Below W.heap.size W w2:=Zc (sqE BB) hb;clear BB;have BB:Hid (Below W.heap.size W w2):=BB2;clear HJ;clear BB2 hb))
      go_region_law (first
        | (refine Zcf rfl 55 Zl0 (.tmp 18) (.tmp 19) 26 39 rfl (.pointer (some ⟨b,0,none⟩)) (.agg #[.int .i64 a1,.int .i64 a2]) (by simp [Act.eval]) (by simp [Act.eval]) (HLH.out _ BB.out.drew) ?_;rintro e w3 ⟨⟨vv,rfl,HQ0⟩,hb⟩;refine ⟨_,rfl,?_⟩;have HQ:Hid (Calls Tryz.prog 86 #[vv,.agg #[.int .i64 c1,.int .i64 c2]] w3 fun e2 w2=>e2=.returned (.bool p)∧Below w3.heap.size w3 w2):=HQ0;have cb0x:=(hb.cell (p:=⟨W.heap.size,0,none⟩) cbL).trans cb0;have cb1x:=(hb.cell (p:=⟨W.heap.size,1,none⟩) cbL).trans cb1;clear cb0 cb1;have cb0:=cb0x;have cb1:=cb1x;clear cb0x cb1x;have cbLx:W.heap.size<w3.heap.size:=Nat.lt_of_lt_of_le cbL hb.size;clear cbL;have cbL:=cbLx;clear cbLx;have B3:Hid (Below W.heap.size W w3):=Zc BB.out.drew hb;clear hb HQ0)
        | (refine Zcf rfl 86 callR9in (.tmp 20) (.tmp 21) 60 39 rfl vv (.agg #[.int .i64 c1,.int .i64 c2]) (by simp [Act.eval]) (by simp [Act.eval]) HQ.out ?_;rintro e w4 ⟨rfl,hb⟩;refine ⟨_,rfl,?_⟩;have B4:Hid (Below W.heap.size W w4):=Zc B3.out hb;clear hb))
      all_goals go_wp2
      all_goals exact bodyPost_ret (results_tmp2 rfl _ _ _) rfl ⟨rfl,B4.out⟩
theorem Ze3 {b:Nat} {cs:List Cls} {ps:List Plc} {W:World} (h:RAt b cs W) (ht:TwW cs ps) (hJ:WJ ps) (hS:SndI ps) (hU:UnqM ps) (hz:∀ c∈cs,c.nm.size≤maxLen) (c i:Int) (x:HM) (hx:Zp ps c i=some x):Calls Tryz.prog 55 #[.pointer (some ⟨b,0,none⟩),.agg #[.int .i64 c,.int .i64 i]] W fun e w'=>(∃ v A,e=.returned v∧w'.ownsRow W.heap.size 39 2 v A.length (Zm A)∧A.length≤300∧(∀ y,y∈A↔Ov ps (c,i) y)∧A.Nodup)∧Below W.heap.size W w':=by
  cases hst:hasI x.fl 8 with
  | false=>exact r9all_c h ht hJ hS hU hz c i x hx hst
  | true =>
    refine (r9all_no h ht c i x hx hst).mono fun e w' zz=>⟨⟨_,[],zz.1,World.ownsRow_nil _ _ _ _,by simp,fun y=>⟨fun hy=>(by cases hy),fun hy=>?_⟩,List.nodup_nil⟩,zz.2⟩
    have h0:=ov_st hy
    rw [stI] at h0
    simp only [hx] at h0
    exact absurd (show hasI x.fl 8=false from h0) (by rw [hst];decide)
theorem r9Over_c {b:Nat} {cs:List Cls} {ps:List Plc} {W:World} (h:RAt b cs W) (ht:TwW cs ps) (hJ:WJ ps) (hS:SndI ps) (hU:UnqM ps) (hz:∀ c∈cs,c.nm.size≤maxLen) (c1 c2 a1 a2:Int):Calls Tryz.prog 54 #[.pointer (some ⟨b,0,none⟩),.agg #[.int .i64 c1,.int .i64 c2],.agg #[.int .i64 a1,.int .i64 a2]] W fun e w'=>e=.returned (.tuple #[.bool (ovrI ps (c1,c2) (a1,a2)).1,.int .i64 (ovrI ps (c1,c2) (a1,a2)).2])∧Below W.heap.size W w':=by
  refine (r9Ow W b c1 c2 a1 a2 (Zp ps c1 c2).isSome (Zp ps a1 a2).isSome (ovrI ps (c1,c2) (a1,a2)).1 (fun w hb=>Ze2 (h.below hb) ht c1 c2) (fun w hb=>Ze2 (h.below hb) ht a1 a2) (fun h1 h2 w hb=>?_)).mono fun e w' zz=>⟨?_,zz.2⟩
  · obtain ⟨mc,hc⟩:=Option.isSome_iff_exists.1 h1
    obtain ⟨ma,ha⟩:=Option.isSome_iff_exists.1 h2
    obtain ⟨_,hov⟩:=Zbf ht.wi hU (a:=(a1,a2)) (c:=(c1,c2)) ha hc
    refine (Ze3 (h.below hb) ht hJ hS hU hz a1 a2 ma ha).mono fun e w' zz=>?_
    obtain ⟨⟨v,A,e1,e2,e3,e4,_⟩,e5⟩:=zz
    refine ⟨⟨v,e1,?_⟩,e5⟩
    have:=r9in_c A (by omega) v e2 c1 c2
    have eq:(A.any fun x=>(x.1 == c1)&&(x.2 == c2))=(ovrI ps (c1,c2) (a1,a2)).1:=by
      rw [Bool.eq_iff_iff,hov,← e4,List.any_eq_true]
      constructor
      · rintro ⟨y,hy,h3⟩
        simp only [Bool.and_eq_true,beq_iff_eq] at h3
        have:y=(c1,c2):=Prod.ext h3.1 h3.2
        rw [← this];exact hy
      · intro h3
        exact ⟨_,h3,by simp⟩
    rw [eq] at this
    exact this
  · rw [zz.1]
    cases hc:Zp ps c1 c2 with
    | none=>simp [ovrI,hc]
    | some mc =>
      cases ha:Zp ps a1 a2 with
      | none=>simp [ovrI,hc,ha]
      | some ma=>simp [ovrI,hc,ha]
end Go.Proofs.YtjbmmmcjegjelaaGreat
