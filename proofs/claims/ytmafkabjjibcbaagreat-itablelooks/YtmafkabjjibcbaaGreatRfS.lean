import Derived.Test.YtmafkabjjibcbaaGreatRnI
set_option maxHeartbeats 8000000
set_option maxRecDepth 100000
namespace Go.Proofs.YtmafkabjjibcbaaGreat
open Go.RowKit Go.Maps
def firA (A:List (Int×Int)):List Nat→(Int×Int)×Int
 | []=>((0,0),6)
 | c::r=>match A.find? (fun y=>y.1 == (c:Int)) with
   | some y=>(y,0)
   | none=>firA A r
theorem firA_at {A:List (Int×Int)} {l:List Nat} {i c:Nat} (h:l[i]?=some c):firA A (l.drop i)=match A.find? (fun y=>y.1 == (c:Int)) with
 | some y=>(y,0)
 | none=>firA A (l.drop (i+1)):=by
 obtain ⟨hi,rfl⟩:=List.getElem?_eq_some_iff.1 h
 rw [List.drop_eq_getElem_cons hi,firA]
theorem find_at {A:List (Int×Int)} {p:Int×Int→Bool} {j:Nat} {y:Int×Int} (h:A[j]?=some y):(A.drop j).find? p=if p y then some y else (A.drop (j+1)).find? p:=by
 obtain ⟨hi,rfl⟩:=List.getElem?_eq_some_iff.1 h
 rw [List.drop_eq_getElem_cons hi,List.find?_cons]
 split <;> simp_all
theorem Zfa {w:World} {N g cap K:Nat} {l:List Nat} (h:w.ownsRow N 3 1 (.slice (some ⟨g,0,none⟩) K cap) K (l.map numV)) {i c:Nat} (hi:l[i]?=some c):w.cell? ⟨g,i,none⟩=some (.int .i64 (c:Int))∧g<w.heap.size:=by
 rcases h with ⟨hl,⟨hn,_⟩|⟨g2,cap2,cur,hv,_,hb,_,_,hcs,ht⟩⟩
 ·cases hn
 ·injection hv with h1 _ _
  injection h1 with h1
  injection h1 with h1 _ _
  subst h1
  refine ⟨?_,(Array.getElem?_eq_some_iff.1 hb).1⟩
  rw [cell_of_row w g i _ _ _ hb]
  have hi2:=(List.getElem?_eq_some_iff.1 hi).1
  have hlk:(l.map numV).length=l.length:=List.length_map ..
  have e:(cur.toList.take (K * 1))[i]?=some (numV c):=by rw [ht,List.getElem?_map,hi];rfl
  rw [List.getElem?_take_of_lt (by omega)] at e
  rw [← Array.getElem?_toList,e]
  rfl
theorem r9Fw (W:World) (b:Nat) (r a1 a2:Int) (l:List Nat) (K:Nat) (hK:K≤1000000) (HLK:Hid (l.length=K)) (PA:List (Int×Int)→Prop) (R:(Int×Int)×Int) (HPR:Hid (∀ A,PA A→firA A l=R))
 (HI:Hid (∀ w,Bw W w→Calls Tryz.prog 63 #[.pointer (some ⟨b,0,none⟩),.agg #[.int .i64 a1,.int .i64 a2]] w fun e w'=>e=.returned (.bool true)∧Bw w w'))
 (HN:Hid (∀ w,Bw W w→Calls Tryz.prog 68 #[.pointer (some ⟨b,0,none⟩),.int .i64 r] w fun e w'=>e=.returned (.bool true)∧w'=w))
 (HL:Hid (∀ w,Bw W w→Calls Tryz.prog 126 #[.pointer (some ⟨b,0,none⟩),.agg #[.int .i64 a1,.int .i64 a2]] w fun e w'=>(∃ v A,e=.returned v∧w'.ownsRow w.heap.size 38 2 v A.length (Zf A)∧A.length≤300∧PA A)∧Bw w w'))
 (HC:Hid (∀ w,Bw W w→Calls Tryz.prog 50 #[.pointer (some ⟨b,0,none⟩),.int .i64 r] w fun e w'=>(∃ v,e=.returned (.tuple #[v,.int .i64 0])∧w'.ownsRow w.heap.size 3 1 v K (l.map numV))∧Bw w w')) :
 Calls Tryz.prog 70 #[.pointer (some ⟨b,0,none⟩),.int .i64 r,.agg #[.int .i64 a1,.int .i64 a2]] W fun e w'=>e=.returned (idE R)∧Bw W w':=by
 have BB:Hid (Bw W W):=Below.refl _ _
 go_enter Tryz.func70,Tryz.ntmps70
 go_wp2_with (first
  | (go_at_call 63;refine (HI.out _ sqR).mono ?_;rintro e w1 ⟨rfl,hb⟩;have abd:=kp2 (n:=W.heap.size) hb (by simp;try omega) (Zg (Zo _ _));obtain ⟨abB,ab0,ab1,abf,abL,abN⟩:=abd;have zbd:=kp2 (n:=W.heap.size+1) hb (by simp;try omega) (Za _ _ (by simp));obtain ⟨zbB,zb0,zb1,zbf,zbL,zbN⟩:=zbd;have B1:Hid (Bw W w1):=Zb sqR hb;clear hb HI)
  | (go_at_call 68;refine (HN.out _ B1.out).mono ?_;rintro e w9 ⟨rfl,hw9⟩;rw [hw9];clear hw9 w9 HN)
  | (go_at_call 126;refine (HL.out _ B1.out).mono ?_;rintro e w2 ⟨⟨v,A,rfl,ho,hA3,hPA⟩,hb⟩;obtain ⟨va,vc,rfl⟩:=ownv ho;have OA2:Hid (w2.ownsRow w1.heap.size 38 2 (.slice va A.length vc) A.length (Zf A)):=ho;have HPA:Hid (PA A):=hPA;have zbd:=kp2 (n:=W.heap.size+1) hb (by first|omega|(simp;try omega)) zbB.out;clear zbB zb0 zb1 zbf zbL zbN;obtain ⟨zbB,zb0,zb1,zbf,zbL,zbN⟩:=zbd;have B2:Hid (Bw W w2):=Zb B1.out hb;clear hb ho hPA HL)
  | (go_at_call 50;refine (HC.out _ B2.out).mono ?_;rintro e w3 ⟨⟨v,rfl,ho⟩,hb⟩;obtain ⟨ca,cc,rfl⟩:=ownv ho;have OC3:Hid (w3.ownsRow w2.heap.size 3 1 (.slice ca K cc) K (l.map numV)):=ho;have OA3:Hid (w3.ownsRow w1.heap.size 38 2 (.slice va A.length vc) A.length (Zf A)):=Zd OA2.out hb;have zbd:=kp2 (n:=W.heap.size+1) hb (by first|omega|(simp;try omega)) zbB.out;clear zbB zb0 zb1 zbf zbL zbN;obtain ⟨zbB,zb0,zb1,zbf,zbL,zbN⟩:=zbd;have B3:Hid (Bw W w3):=Zb B2.out hb;clear hb ho HC OA2))
 have HF0:Hid (firA A l=R):=HPR.out A HPA.out
 have ZB:Hid (w3.heap[W.heap.size+1]?=some (.cells #[.int .i64 0,.int .i64 0] 38 (0,0))):=zbB.out
 have HZL:Hid (W.heap.size+1<w3.heap.size):=zbL
 clear zbB zb0 zb1 zbf zbL zbN HPR HPA abB ab0 ab1 abf abL abN
 obtain ⟨T,hT⟩:∃ T,A.length=T:=⟨_,rfl⟩
 have HT:Hid (A.length=T):=hT
 rw [hT] at hA3 OA3 ⊢
 clear hT
 obtain ⟨σ,V,hne,V1,V2⟩:=class_of' (fun w'=>Bw w3 w') ⟨_,Below.refl _ _⟩
 go_loopw [11] (fun kv wr=>∃ (i:Nat),kv=.int .i64 i∧i≤K∧Hid (firA A (l.drop i)=R)∧Hid (Bw w3 wr)) (fun kv _=>K - (intOf kv).toNat)
 case atStart=>exact ⟨0,rfl,Nat.zero_le _,HF0,Below.refl _ _⟩
 case round =>
  obtain ⟨i,rfl,hi,hF,hBo⟩:=hrel
  by_cases hlt:i<K
  ·have hiI:(i:Int)<(K:Int):=by omega
   obtain ⟨c,hc⟩:∃ c,l[i]?=some c:=⟨_,List.getElem?_eq_getElem (by rw [HLK.out];exact hlt)⟩
   obtain ⟨gc,c2,hform⟩:=Go.Joins.ownsRow_form OC3.out (by omega)
   injection hform with hca _ hcc
   subst hca hcc
   obtain ⟨k0,kL⟩:=Zfa OC3.out hc
   replace k0:=fun s0=>((V1.out s0).cell (p:=⟨gc,i,none⟩) kL).trans k0
   have hst:=firA_at (A:=A) hc
   rw [hF.out] at hst
   have HST:Hid _:=hst
   obtain ⟨wo,hwo⟩:∃ w,w=wr:=⟨_,rfl⟩
   subst hwo
   clear hst hF hc
   go_wp2
   go_loopw [12] (fun kv wr=>∃ (j:Nat),kv=.int .i64 j∧j≤T∧Hid (A.find? (fun y=>y.1 == (c:Int))=(A.drop j).find? (fun y=>y.1 == (c:Int)))∧Hid (Bw w3 wr)) (fun kv _=>T - (intOf kv).toNat)
   case atStart=>exact ⟨0,rfl,Nat.zero_le _,rfl,hBo⟩
   case round =>
    obtain ⟨j,rfl,hj,hFJ,hB⟩:=hrel
    by_cases hlj:j<T
    ·have hjI:(j:Int)<(T:Int):=by omega
     obtain ⟨y,hy⟩:∃ y,A[j]?=some y:=⟨_,List.getElem?_eq_getElem (by rw [HT.out];exact hlj)⟩
     obtain ⟨ga,c3,hform2⟩:=Go.Joins.ownsRow_form OA3.out (by omega)
     injection hform2 with hca2 _ hcc2
     subst hca2 hcc2
     obtain ⟨d0,d1,hgl⟩:=Z9 (l:=A) (i:=j) (x:=y) (by rw [HT.out];exact OA3.out) hy
     have e0:=(hB.out.drew.cell (p:=⟨ga,j * 2,none⟩) hgl).trans d0
     have e1:=(hB.out.drew.cell (p:=⟨ga,j * 2+1,none⟩) hgl).trans d1
     have HD0:Hid (w3.cell? ⟨ga,j * 2,none⟩=some (.int .i64 y.1)):=d0
     have HD1:Hid (w3.cell? ⟨ga,j * 2+1,none⟩=some (.int .i64 y.2)):=d1
     replace d0:=fun s0=>((V1.out s0).cell (p:=⟨ga,j * 2,none⟩) hgl).trans d0
     have hfj:=find_at (p:=fun y=>y.1 == (c:Int)) hy
     rw [← hFJ.out] at hfj
     have HFJ:Hid _:=hfj
     obtain ⟨y1,y2⟩:=y
     simp only at d0 d1 HFJ HD0 HD1
     clear hfj hFJ hy e0 e1 d1
     by_cases hyc:y1=(c:Int)
     ·subst hyc
      have eR:R=(((c:Int),y2),0):=by
       have h1:=HFJ.out
       rw [if_pos (by simp)] at h1
       have h2:=HST.out
       rw [h1] at h2
       exact h2
      subst eR
      clear HFJ HST HF0
      go_wp2
      refine Ze (C:=fun w'=>∃ s,w'=V s) (by kernel_rfl) (by kernel_rfl) (V2.out _ (hB.out.drew)) ?_
      repeat (go_big_quiet_step (fail))
      refine wpQuiet_nil ?_
      intro w9 hw9
      obtain ⟨s9,hw9⟩:=hw9
      have B9:Bw w3 w9:=by rw [hw9];exact V1.out s9
      have g0:=(B9.cell (p:=⟨ga,j * 2,none⟩) hgl).trans HD0.out
      have g1:=(B9.cell (p:=⟨ga,j * 2+1,none⟩) hgl).trans HD1.out
      obtain ⟨z0,z1,zf,zL⟩:=rw2 ((B9.block (W.heap.size+1) HZL.out).trans ZB.out)
      have BW:Hid (Bw W w9):=B3.out.trans (B9.mono B3.out.size)
      clear hw9 B9
      go_wp2
      exact bodyPost_ret (v:=idE (((c:Int),y2),0)) (by simp [results,Tryz.results70,go_sem,idE, *]) rfl ⟨rfl,(sqE BW)⟩
     ·have hyb:(y1 == (c:Int))=false:=by simp [hyc]
      have HN2:Hid (A.find? (fun y=>y.1 == (c:Int))=(A.drop (j+1)).find? (fun y=>y.1 == (c:Int))):=by
       have h1:=HFJ.out
       rw [if_neg (by simp [hyc])] at h1
       exact h1
      clear HFJ
      go_wp2
      refine Ze (C:=fun w'=>∃ s,w'=V s) (by kernel_rfl) (by kernel_rfl) (V2.out _ (hB.out.drew)) ?_
      repeat (go_big_quiet_step (fail))
      refine wpQuiet_nil ?_
      intro w9 hw9
      obtain ⟨s9,hw9⟩:=hw9
      have B9:Hid (Bw w3 w9):=by rw [hw9];exact V1.out s9
      clear hw9
      go_wp2
      go_roundw
      case rel=>exact ⟨j+1,by go_num,by omega,HN2,B9⟩
      case measure=>simp [intOf];omega
    ·have e:j=T:=by omega
     subst e
     have HNX:Hid (firA A (l.drop (i+1))=R):=by
      have h1:=hFJ.out
      rw [List.drop_of_length_le (by rw [HT.out];exact Nat.le_refl _),List.find?_nil] at h1
      have h2:=HST.out
      rw [h1] at h2
      exact h2.symm
     clear hFJ HST HF0
     go_wp2
     go_roundw
     case rel=>exact ⟨i+1,by go_num,by omega,HNX,hB⟩
     case measure=>simp [intOf];omega
  ·have e:i=K:=by omega
   subst e
   have eR:R=((0,0),6):=by
    have h1:=hF.out
    rw [List.drop_of_length_le (by rw [HLK.out];exact Nat.le_refl _)] at h1
    exact h1.symm
   subst eR
   have BW:Hid (Bw W wr):=B3.out.trans (hBo.out.mono B3.out.size)
   obtain ⟨z0,z1,zf,zL⟩:=rw2 ((hBo.out.block (W.heap.size+1) HZL.out).trans ZB.out)
   clear hF HF0
   go_wp2
   exact bodyPost_ret (v:=idE ((0,0),6)) (by simp [results,Tryz.results70,go_sem,idE, *]) rfl ⟨rfl,(sqE BW)⟩
theorem r9Fno (W:World) (b:Nat) (r a1 a2:Int) (ia ir:Bool) (hno:(ia&&ir)=false)
 (HI:Hid (∀ w,Bw W w→Calls Tryz.prog 63 #[.pointer (some ⟨b,0,none⟩),.agg #[.int .i64 a1,.int .i64 a2]] w fun e w'=>e=.returned (.bool ia)∧Bw w w'))
 (HN:Hid (∀ w,Bw W w→Calls Tryz.prog 68 #[.pointer (some ⟨b,0,none⟩),.int .i64 r] w fun e w'=>e=.returned (.bool ir)∧w'=w)) :
 Calls Tryz.prog 70 #[.pointer (some ⟨b,0,none⟩),.int .i64 r,.agg #[.int .i64 a1,.int .i64 a2]] W fun e w'=>e=.returned (idE ((0,0),3))∧Bw W w':=by
 cases ia
 case false =>
  clear HN hno
  go_enter Tryz.func70,Tryz.ntmps70
  go_wp2_with (go_at_call 63;refine (HI.out _ sqR).mono ?_;rintro e w1 ⟨rfl,hb⟩;have zbd:=kp2 (n:=W.heap.size+1) hb (by simp;try omega) (Za _ _ (by simp));obtain ⟨zbB,zb0,zb1,zbf,zbL,zbN⟩:=zbd;have B1:Hid (Bw W w1):=Zb sqR hb;clear hb HI)
  exact bodyPost_ret (v:=idE ((0,0),3)) (by simp [results,Tryz.results70,go_sem,idE, *]) rfl ⟨rfl,(sqE B1)⟩
 case true =>
  obtain rfl:ir=false:=by simpa using hno
  clear hno
  go_enter Tryz.func70,Tryz.ntmps70
  go_wp2_with (first
   | (go_at_call 63;refine (HI.out _ sqR).mono ?_;rintro e w1 ⟨rfl,hb⟩;have zbd:=kp2 (n:=W.heap.size+1) hb (by simp;try omega) (Za _ _ (by simp));obtain ⟨zbB,zb0,zb1,zbf,zbL,zbN⟩:=zbd;have B1:Hid (Bw W w1):=Zb sqR hb;clear hb HI)
   | (go_at_call 68;refine (HN.out _ B1.out).mono ?_;rintro e w9 ⟨rfl,hw9⟩;rw [hw9];clear hw9 w9 HN))
  exact bodyPost_ret (v:=idE ((0,0),3)) (by simp [results,Tryz.results70,go_sem,idE, *]) rfl ⟨rfl,(sqE B1)⟩
theorem Zlx {ps:List Plc} {nm ds:ByteArray} {a:Int×Int} {c:Nat} {r:List Nat}:firD ps nm ds a (c::r)=if ovC ps nm ds a c then (gK ps nm ds c,0) else firD ps nm ds a r:=by
 rw [firD,firD,List.find?_cons]
 cases ovC ps nm ds a c <;> rfl
theorem findA {ps:List Plc} (hW:WI ps) (hU:UnqM ps) {a:Int×Int} {ma:HM} (ha:Zm ps a.1 a.2=some ma) {A:List (Int×Int)} (hA:∀ y,y∈A↔Ov ps a y) (c:Nat):A.find? (fun y=>y.1 == (c:Int))=if ovC ps ma.nm ma.ds a c then some (gK ps ma.nm ma.ds c) else none:=by
 cases hf:A.find? (fun y=>y.1 == (c:Int)) with
 | some y =>
   have h1:=List.find?_some hf
   have h2:=List.mem_of_find?_eq_some hf
   obtain ⟨k,_,e,ho,_⟩:=ov_gK hW hU ha ((hA y).1 h2)
   have hk:y.1=(k:Int):=by rw [e];rfl
   rw [beq_iff_eq] at h1
   obtain rfl:c=k:=by omega
   rw [ho,if_pos rfl,e]
 | none =>
   cases ho:ovC ps ma.nm ma.ds a c with
   | false=>rfl
   | true =>
     have:=List.find?_eq_none.1 hf _ ((hA _).2 ((Zan hW hU ha).1 ho))
     exact absurd (beq_iff_eq.2 (rfl:(gK ps ma.nm ma.ds c).1=(c:Int))) this
theorem Zdd {ps:List Plc} (hW:WI ps) (hU:UnqM ps) {a:Int×Int} {ma:HM} (ha:Zm ps a.1 a.2=some ma) {A:List (Int×Int)} (hA:∀ y,y∈A↔Ov ps a y):∀ l:List Nat,firA A l=firD ps ma.nm ma.ds a l
 | []=>rfl
 | c::r=>by
   rw [firA,findA hW hU ha hA c,Zlx,Zdd hW hU ha hA r]
   cases ovC ps ma.nm ma.ds a c <;> rfl
theorem Zkw {b:Nat} {cs:List Cls} {ps:List Plc} {W:World} (h:RAt b cs W) (ht:TwW cs ps) (hJ:WJ ps) (hS:SndI ps) (hU:UnqM ps) (hz:∀ c∈cs,c.nm.size≤maxLen) (r a1 a2:Int):Calls Tryz.prog 70 #[.pointer (some ⟨b,0,none⟩),.int .i64 r,.agg #[.int .i64 a1,.int .i64 a2]] W fun e w'=>e=.returned (idE (firI ps r (a1,a2)))∧Bw W w':=by
 cases ha:Zm ps a1 a2 with
 | none =>
   have e:firI ps r (a1,a2)=((0,0),3):=by simp [firI,ha]
   rw [e]
   refine r9Fno W b r a1 a2 (Zm ps a1 a2).isSome (plcI ps r).isSome (by rw [ha];rfl) (fun w hb=>Zcz (h.below hb) ht a1 a2) (fun w hb=>Zbt (h.below hb) ht r)
 | some ma =>
   rcases Zl ps r with ⟨e,_⟩|⟨k,q,rfl,hq,e⟩
   ·have e2:firI ps r (a1,a2)=((0,0),3):=by simp [firI,ha,e]
    rw [e2]
    refine r9Fno W b r a1 a2 (Zm ps a1 a2).isSome (plcI ps r).isSome (by rw [e];simp) (fun w hb=>Zcz (h.below hb) ht a1 a2) (fun w hb=>Zbt (h.below hb) ht r)
   ·have hk:=(List.getElem?_eq_some_iff.1 hq).1
    refine r9Fw W b (k:Int) a1 a2 (chL (ps.map nd) k) (chL (ps.map nd) k).length (Zez ht.wi hk) rfl (fun A=>(∀ y,y∈A↔Ov ps (a1,a2) y)∧A.Nodup) (firI ps (k:Int) (a1,a2)) (fun A hA=>?_) (fun w hb=>?_) (fun w hb=>?_) (fun w hb=>Zkx (h.below hb) ht hJ hS hU hz a1 a2 ma ha) (fun w hb=>Zam (h.below hb) ht k hk)
    ·rw [Zgh ht.wi hU (a:=(a1,a2)) ha hq]
     exact Zdd ht.wi hU (a:=(a1,a2)) ha hA.1 _
    ·have:=Zcz (h.below hb) ht a1 a2
     rw [ha] at this
     exact this
    ·have:=Zbt (h.below hb) ht (k:Int)
     rw [e] at this
     exact this
theorem Zbx {b:Nat} {cs:List Cls} {ps:List Plc} {W:World} (h:RAt b cs W) (ht:TwW cs ps) (c i:Int) (x:HM) (hx:Zm ps c i=some x):Calls Tryz.prog 69 #[.pointer (some ⟨b,0,none⟩),.agg #[.int .i64 c,.int .i64 i]] W fun e w'=>e=.returned (.int .i64 x.fl)∧Bw W w':=by
 obtain ⟨k,q,rfl,hq,_,_⟩:=Yl hx
 obtain ⟨g,cap,bk,n,cm,j,ac,cc,rfl,b0,hlt,hgl,hkI,c5,hbk,hjn,_,_,e2,_,_,_,_,_,_⟩:=h.meth ht hx
 clear h ht hx hq
 have hB:Bw W (W.alloc (.cells #[.int .i64 (k:Int),.int .i64 (j:Int)] 38)):=(Below.refl _ W).alloc (Nat.le_refl _) _
 have hA:(W.alloc (.cells #[.int .i64 (k:Int),.int .i64 (j:Int)] 38)).heap[W.heap.size]?=some (.cells #[.int .i64 (k:Int),.int .i64 (j:Int)] 38 (0,0)):=Zo _ _
 replace b0:=(hB.cell (p:=⟨b,0,none⟩) hlt).trans b0
 replace c5:=(hB.cell (p:=⟨g,k * 6+5,none⟩) hgl).trans c5
 replace e2:=(hB.cell (p:=⟨bk,j * 6+2,none⟩) hbk).trans e2
 obtain ⟨a0,a1,af,aL⟩:=rw2 hA
 have HBH:Hid _:=hB
 clear hA hB
 go_enter Tryz.func69,Tryz.ntmps69
 go_wp2
 generalize (W.alloc (.cells #[.int .i64 (k:Int),.int .i64 (j:Int)] 38))=U at *
 go_region
 go_wp2
 refine bodyPost_ret (results_tmp rfl _ _ _) rfl ⟨rfl,?_⟩
 repeat (first|refine Below.setCell ?_ (by simp;try omega) _|refine Below.drew ?_|exact HBH.out)
theorem Zlj {ps:List Plc} {c i:Int} {x:HM} (hx:Zm ps c i=some x) (k:Int):hasS ps c i k=hasI x.fl k:=by
 rw [hasS,hx]
theorem Zkz {b:Nat} {cs:List Cls} {ps:List Plc} {W:World} (h:RAt b cs W) (ht:TwW cs ps) (c i:Int) (x:HM) (hx:Zm ps c i=some x):Calls Tryz.prog 71 #[.pointer (some ⟨b,0,none⟩),.agg #[.int .i64 c,.int .i64 i]] W fun e w'=>e=.returned (idE (unaI ps (c,i)))∧Bw W w':=by
 have HF:Hid (∀ w,Bw W w→Calls Tryz.prog 69 #[.pointer (some ⟨b,0,none⟩),.agg #[.int .i64 c,.int .i64 i]] w fun e w'=>e=.returned (.int .i64 x.fl)∧Bw w w'):=fun w hb=>Zbx (h.below hb) ht c i x hx
 have HS:Hid (∀ w:World,Calls Tryz.prog 62 #[.int .i64 x.fl,.int .i64 1024] w fun e w'=>e=.returned (.bool (hasI x.fl 1024))∧w'=w):=Zv x.fl 1024
 unfold unaI
 simp only [Zlj hx]
 generalize hasI x.fl 1024=S at *
 clear h ht hx
 cases S
 case false =>
  rw [if_neg (by simp)]
  go_enter Tryz.func71,Tryz.ntmps71
  go_wp2_with (first
   | (go_at_call 69;refine (HF.out _ sqR).mono ?_;rintro e w1 ⟨rfl,hb⟩;have yd:w1.heap[W.heap.size]?=some (.cells #[.int .i64 c,.int .i64 i] 38 (0,0)):=(hb.block (W.heap.size) (by first|omega|(simp;try omega))).trans (Zg (Zo _ _));(try clear yB y0 y1 yf yL yN);have yB:Hid _:=yd;obtain ⟨y0,y1,yf,yL⟩:=rw2 yd;have yN:¬ W.heap.size=w1.heap.size:=(by omega);clear yd;have zd:w1.heap[W.heap.size+1]?=some (.cells #[.int .i64 0,.int .i64 0] 38 (0,0)):=(hb.block (W.heap.size+1) (by first|omega|(simp;try omega))).trans (Za _ _ (by simp));(try clear zB z0 z1 zf zL zN);have zB:Hid _:=zd;obtain ⟨z0,z1,zf,zL⟩:=rw2 zd;have zN:¬ W.heap.size+1=w1.heap.size:=(by omega);clear zd;have B1:Hid (Bw W w1):=Zb sqR hb;clear hb HF)
   | (go_at_call 62;refine (HS.out _).mono ?_;rintro e w9 ⟨rfl,hw9⟩;rw [hw9];clear hw9 w9 HS))
  exact bodyPost_ret (v:=idE ((c,i),0)) (by simp [results,Tryz.results71,go_sem,idE, *]) rfl ⟨rfl,(sqE B1)⟩
 case true =>
  rw [if_pos rfl]
  go_enter Tryz.func71,Tryz.ntmps71
  go_wp2_with (first
   | (go_at_call 69;refine (HF.out _ sqR).mono ?_;rintro e w1 ⟨rfl,hb⟩;have yd:w1.heap[W.heap.size]?=some (.cells #[.int .i64 c,.int .i64 i] 38 (0,0)):=(hb.block (W.heap.size) (by first|omega|(simp;try omega))).trans (Zg (Zo _ _));(try clear yB y0 y1 yf yL yN);have yB:Hid _:=yd;obtain ⟨y0,y1,yf,yL⟩:=rw2 yd;have yN:¬ W.heap.size=w1.heap.size:=(by omega);clear yd;have zd:w1.heap[W.heap.size+1]?=some (.cells #[.int .i64 0,.int .i64 0] 38 (0,0)):=(hb.block (W.heap.size+1) (by first|omega|(simp;try omega))).trans (Za _ _ (by simp));(try clear zB z0 z1 zf zL zN);have zB:Hid _:=zd;obtain ⟨z0,z1,zf,zL⟩:=rw2 zd;have zN:¬ W.heap.size+1=w1.heap.size:=(by omega);clear zd;have B1:Hid (Bw W w1):=Zb sqR hb;clear hb HF)
   | (go_at_call 62;refine (HS.out _).mono ?_;rintro e w9 ⟨rfl,hw9⟩;rw [hw9];clear hw9 w9 HS))
  exact bodyPost_ret (v:=idE ((0,0),24)) (by simp [results,Tryz.results71,go_sem,idE, *]) rfl ⟨rfl,(sqE B1)⟩
theorem r12up_w (W:World) (b:Nat) (c:Int) (nm ds:ByteArray) (fl lo st:Int) (sa:Option Addr) (sk so:Nat) (l:List Nat) (K:Nat) (hK:K≤1000000) (HLK:Hid (l.length=K)) (ps:List Plc) (R:(Int×Int)×Bool) (HR0:Hid (uppI ps nm ds l=R))
 (HC:Hid (∀ w,Bw W w→Calls Tryz.prog 50 #[.pointer (some ⟨b,0,none⟩),.int .i64 c] w fun e w'=>(∃ v,e=.returned (.tuple #[v,.int .i64 0])∧w'.ownsRow w.heap.size 3 1 v K (l.map numV))∧Bw w w'))
 (HFA:Hid (∀ (k:Nat) w,Bw W w→Calls Tryz.prog 86 #[.pointer (some ⟨b,0,none⟩),.int .i64 (k:Int),.string nm,.string ds] w fun e w'=>e=.returned (.tuple #[.int .i64 (fndI ps k nm ds).1,.int .i64 (fndI ps k nm ds).2])∧Bw w w'))
 (HLA:Hid (∀ (k:Nat) (i:Int) (x:HM) w,Zm ps (k:Int) i=some x→Bw W w→Calls Tryz.prog 69 #[.pointer (some ⟨b,0,none⟩),.agg #[.int .i64 (k:Int),.int .i64 i]] w fun e w'=>e=.returned (.int .i64 x.fl)∧Bw w w')) :
 Calls Tryz.prog 75 #[.pointer (some ⟨b,0,none⟩),.int .i64 c,.agg #[.string nm,.string ds,.int .i64 fl,.int .i64 lo,.int .i64 st,.slice sa sk so]] W fun e w'=>e=.returned (idB R)∧Bw W w':=by
 go_enter Tryz.func75,Tryz.ntmps75
 go_wp2_with (first
  | (go_at_call 50;refine (HC.out _ sqR).mono ?_;rintro e w1 ⟨⟨v,rfl,ho⟩,hb⟩;obtain ⟨ca,cc,rfl⟩:=ownv ho;have O1:Hid (w1.ownsRow W.heap.size 3 1 (.slice ca K cc) K (l.map numV)):=Go.Joins.ownsRow_le ho (by simp;try omega);have yd:w1.heap[W.heap.size]?=some (.cells #[.string nm,.string ds,.int .i64 fl,.int .i64 lo,.int .i64 st,.slice sa sk so] 87 (0,0)):=(hb.block (W.heap.size) (by first|omega|(simp;try omega))).trans (Zg (Zo _ _));(try clear yB y0 y1 y2 y3 y4 y5 yf yL yN);have yB:Hid _:=yd;obtain ⟨y0,y1,y2,y3,y4,y5,yf,yL⟩:=rw6 yd;have yN:¬ W.heap.size=w1.heap.size:=(by omega);clear yd;have zd:w1.heap[W.heap.size+1]?=some (.cells #[.int .i64 0,.int .i64 0] 38 (0,0)):=(hb.block (W.heap.size+1) (by first|omega|(simp;try omega))).trans (Za _ _ (by simp));(try clear zB z0 z1 zf zL zN);have zB:Hid _:=zd;obtain ⟨z0,z1,zf,zL⟩:=rw2 zd;have zN:¬ W.heap.size+1=w1.heap.size:=(by omega);clear zd;have B1:Hid (Bw W w1):=Zb sqR hb;clear ho hb HC))
 have YB:Hid (w1.heap[W.heap.size]?=some (.cells #[.string nm,.string ds,.int .i64 fl,.int .i64 lo,.int .i64 st,.slice sa sk so] 87 (0,0))):=yB.out
 have ZB:Hid (w1.heap[W.heap.size+1]?=some (.cells #[.int .i64 0,.int .i64 0] 38 (0,0))):=zB.out
 have HZL:Hid (W.heap.size+1<w1.heap.size):=zL
 obtain ⟨σ,V,hne,V1,V2⟩:=class_of' (fun w'=>Bw w1 w') ⟨_,Below.refl _ _⟩
 have HV:Hid (∀ s0,Bw W (V s0)):=fun s0=>B1.out.trans ((V1.out s0).mono B1.out.size)
 have q0:∀ s0,(V s0).cell? ⟨W.heap.size,0,none⟩=some (.string nm):=fun s0=>((V1.out s0).cell (p:=⟨W.heap.size,0,none⟩) yL).trans y0
 have q1:∀ s0,(V s0).cell? ⟨W.heap.size,1,none⟩=some (.string ds):=fun s0=>((V1.out s0).cell (p:=⟨W.heap.size,1,none⟩) yL).trans y1
 clear yB y0 y1 y2 y3 y4 y5 yf yL yN zB z0 z1 zf zL zN
 go_loopw [10] (fun kv wr=>∃ (j:Nat),kv=.int .i64 j∧j≤K∧Hid (uppI ps nm ds (l.drop j)=R)∧Hid (Bw w1 wr)) (fun kv _=>K - (intOf kv).toNat)
 case atStart=>exact ⟨0,rfl,Nat.zero_le _,HR0,Below.refl _ _⟩
 case round =>
  obtain ⟨j,rfl,hj,hU,hB⟩:=hrel
  by_cases hlt:j<K
  ·have hjI:(j:Int)<(K:Int):=by omega
   obtain ⟨k,hk⟩:∃ k,l[j]?=some k:=⟨_,List.getElem?_eq_getElem (by rw [HLK.out];exact hlt)⟩
   obtain ⟨gc,c2,hform⟩:=Go.Joins.ownsRow_form O1.out (by omega)
   injection hform with hca _ hcc
   subst hca hcc
   obtain ⟨k0,kL⟩:=Zfa O1.out hk
   have HK0:Hid (w1.cell? ⟨gc,j,none⟩=some (.int .i64 (k:Int))):=k0
   replace k0:=fun s0=>((V1.out s0).cell (p:=⟨gc,j,none⟩) kL).trans k0
   have hst:=Zj3 (ps:=ps) (nm:=nm) (ds:=ds) hk
   rw [hU.out] at hst
   have HQ:Hid (∀ s0,Calls Tryz.prog 86 #[.pointer (some ⟨b,0,none⟩),.int .i64 (k:Int),.string nm,.string ds] (V s0) fun e w''=>e=.returned (.tuple #[.int .i64 (fndI ps k nm ds).1,.int .i64 (fndI ps k nm ds).2])∧∃ s',w''=V s'):=fun s0=>(HFA.out k (V s0) (HV.out s0)).mono fun e w'' zz=>⟨zz.1,V2.out _ (Zb (V1.out s0) zz.2)⟩
   have hmx:(fndI ps (k:Int) nm ds).2=0→∃ x,Zm ps (k:Int) (fndI ps (k:Int) nm ds).1=some x:=fun h0=>by
    obtain ⟨⟨x,hx,_⟩,_⟩:=J5 h0
    exact ⟨x,hx⟩
   have hsm:∀ x,Zm ps (k:Int) (fndI ps (k:Int) nm ds).1=some x→hasS ps (k:Int) (fndI ps (k:Int) nm ds).1 8=hasI x.fl 8:=fun x hx=>Zlj hx 8
   have HLX:Hid (∀ (x:HM) w,Zm ps (k:Int) (fndI ps (k:Int) nm ds).1=some x→Bw W w→Calls Tryz.prog 69 #[.pointer (some ⟨b,0,none⟩),.agg #[.int .i64 (k:Int),.int .i64 (fndI ps (k:Int) nm ds).1]] w fun e w'=>e=.returned (.int .i64 x.fl)∧Bw w w'):=fun x w hx hb=>HLA.out k _ x w hx hb
   have HST:Hid _:=hst
   have HMX:Hid _:=hmx
   have HSM:Hid _:=hsm
   generalize fndI ps (k:Int) nm ds=F at *
   obtain ⟨F1,F2⟩:=F
   simp only at HQ HST HMX HSM HLX
   clear hst hU hk hmx hsm HFA HLA
   by_cases hF:F2=0
   ·subst hF
    obtain ⟨x,hx⟩:=HMX.out rfl
    have HS:Hid (∀ w:World,Calls Tryz.prog 62 #[.int .i64 x.fl,.int .i64 8] w fun e w'=>e=.returned (.bool (hasI x.fl 8))∧w'=w):=Zv x.fl 8
    have HL:Hid (∀ w,Bw W w→Calls Tryz.prog 69 #[.pointer (some ⟨b,0,none⟩),.agg #[.int .i64 (k:Int),.int .i64 F1]] w fun e w'=>e=.returned (.int .i64 x.fl)∧Bw w w'):=fun w hb=>HLX.out x w hx hb
    have HST2:Hid (R=if hasI x.fl 8=false then (((k:Int),F1),true) else uppI ps nm ds (l.drop (j+1))):=by
     have h1:=HST.out
     rw [HSM.out x hx] at h1
     rw [Hid,h1]
     simp
    clear HST HMX HSM HLX hx
    generalize hasI x.fl 8=S at *
    cases S
    case false =>
     have eR:R=(((k:Int),F1),true):=by rw [HST2.out,if_pos rfl]
     subst eR
     clear HST2 HR0
     go_wp2
     refine Ze (C:=fun w'=>∃ s,w'=V s) (by kernel_rfl) (by kernel_rfl) (V2.out _ (hB.out.drew)) ?_
     repeat (go_big_quiet_step ((go_at_call 86;exact HQ.out _)))
     refine wpQuiet_nil ?_
     intro w2 hw2
     obtain ⟨s2,hw2⟩:=hw2
     have B2:Hid (Bw w1 w2):=by rw [hw2];exact V1.out s2
     have BW2:Hid (Bw W w2):=B1.out.trans (B2.out.mono B1.out.size)
     have k2:=(B2.out.cell (p:=⟨gc,j,none⟩) kL).trans HK0.out
     clear hw2
     go_wp2_with (first
      | (go_at_call 69;refine (HL.out _ (sqE BW2)).mono ?_;rintro e w3 ⟨rfl,hb⟩;have idd:=kp2 (n:=w2.heap.size) hb (by simp) (Zo _ _);obtain ⟨idB0,id0,id1,idf,idL,idN⟩:=idd;have zbd:=kp2 (n:=W.heap.size+1) hb (by have:=B2.out.size;have:=HZL.out;simp;omega) (Zg ((B2.out.block (W.heap.size+1) HZL.out).trans ZB.out));obtain ⟨zbB,zb0,zb1,zbf,zbL,zbN⟩:=zbd;have BW3:Hid (Bw W w3):=Zb (sqE BW2) hb;clear hb HL)
      | (go_at_call 62;refine (HS.out _).mono ?_;rintro e w9 ⟨rfl,hw9⟩;rw [hw9];clear hw9 w9 HS))
     exact bodyPost_ret (v:=idB (((k:Int),F1),true)) (by simp [results,Tryz.results75,go_sem,idB, *]) rfl ⟨rfl,(sqE BW3)⟩
    case true =>
     have HNX:Hid (uppI ps nm ds (l.drop (j+1))=R):=by rw [Hid,HST2.out,if_neg (by simp)]
     clear HST2
     go_wp2
     refine Ze (C:=fun w'=>∃ s,w'=V s) (by kernel_rfl) (by kernel_rfl) (V2.out _ (hB.out.drew)) ?_
     repeat (go_big_quiet_step ((go_at_call 86;exact HQ.out _)))
     refine wpQuiet_nil ?_
     intro w2 hw2
     obtain ⟨s2,hw2⟩:=hw2
     have B2:Hid (Bw w1 w2):=by rw [hw2];exact V1.out s2
     have BW2:Hid (Bw W w2):=B1.out.trans (B2.out.mono B1.out.size)
     have k2:=(B2.out.cell (p:=⟨gc,j,none⟩) kL).trans HK0.out
     clear hw2
     go_wp2_with (first
      | (go_at_call 69;refine (HL.out _ (sqE BW2)).mono ?_;rintro e w3 ⟨rfl,hb⟩;have B3:Hid (Bw w1 w3):=(B2.out.alloc B2.out.size _).trans (hb.mono (by have:=B2.out.size;simp;omega));clear hb HL)
      | (go_at_call 62;refine (HS.out _).mono ?_;rintro e w9 ⟨rfl,hw9⟩;rw [hw9];clear hw9 w9 HS))
     go_roundw
     case rel=>exact ⟨j+1,by go_num,by omega,HNX,B3⟩
     case measure=>simp [intOf];omega
   ·have HNX:Hid (uppI ps nm ds (l.drop (j+1))=R):=by rw [Hid,HST.out,if_neg (fun h=>hF h.1)]
    clear HST HMX HSM HLX
    go_wp2
    refine Ze (C:=fun w'=>∃ s,w'=V s) (by kernel_rfl) (by kernel_rfl) (V2.out _ (hB.out.drew)) ?_
    repeat (go_big_quiet_step ((go_at_call 86;exact HQ.out _)))
    refine wpQuiet_nil ?_
    intro w2 hw2
    obtain ⟨s2,hw2⟩:=hw2
    have B2:Hid (Bw w1 w2):=by rw [hw2];exact V1.out s2
    have k2:=(B2.out.cell (p:=⟨gc,j,none⟩) kL).trans HK0.out
    clear hw2
    go_wp2
    go_roundw
    case rel=>exact ⟨j+1,by go_num,by omega,HNX,B2.out.alloc B2.out.size _⟩
    case measure=>simp [intOf];omega
  ·have e:j=K:=by omega
   subst e
   have eR:R=((0,0),false):=by
    have h1:=hU.out
    rw [List.drop_of_length_le (by rw [HLK.out];exact Nat.le_refl _)] at h1
    exact h1.symm
   subst eR
   have BW:Hid (Bw W wr):=B1.out.trans (hB.out.mono B1.out.size)
   obtain ⟨z0,z1,zf,zL⟩:=rw2 ((hB.out.block (W.heap.size+1) HZL.out).trans ZB.out)
   clear hU HR0
   go_wp2
   exact bodyPost_ret (v:=idB ((0,0),false)) (by simp [results,Tryz.results75,go_sem,idB, *]) rfl ⟨rfl,(sqE BW)⟩
theorem r12up_c {b:Nat} {cs:List Cls} {ps:List Plc} {W:World} (h:RAt b cs W) (ht:TwW cs ps) (k:Nat) (hk:k<ps.length) (nm ds:ByteArray) (fl lo st:Int) (sa:Option Addr) (sk so:Nat):Calls Tryz.prog 75 #[.pointer (some ⟨b,0,none⟩),.int .i64 (k:Int),.agg #[.string nm,.string ds,.int .i64 fl,.int .i64 lo,.int .i64 st,.slice sa sk so]] W fun e w'=>e=.returned (idB (uppI ps nm ds (chL (ps.map nd) k)))∧Bw W w' :=
 r12up_w W b (k:Int) nm ds fl lo st sa sk so (chL (ps.map nd) k) (chL (ps.map nd) k).length (Zez ht.wi hk) rfl ps _ rfl (fun _ hb=>Zam (h.below hb) ht k hk) (fun j _ hb=>Zgy (h.below hb) ht j nm ds) (fun j i x _ hx hb=>Zbx (h.below hb) ht j i x hx)
def lst0 (l:List (Int×Int)):Int×Int:=l.getLast?.getD (0,0)
theorem Zld (l:List (Int×Int)) (x:Int×Int):lst0 (l++[x])=x:=by simp [lst0]
theorem Ze9 {W w:World} {c d:Value} {i:Nat} {T:TypeId} (h:w.heap[i]?=some (.cells #[c,d] T (0,0))):w.cell? ⟨i,0,none⟩=some c∧w.cell? ⟨i,1,none⟩=some d∧w.frozen? ⟨i,0,none⟩=false∧w.frozen? ⟨i,1,none⟩=false∧i<w.heap.size∧W=W :=
 ⟨(cell_of_row w i 0 _ _ _ h).trans rfl,(cell_of_row w i 1 _ _ _ h).trans rfl,frozen_of_row w i 0 _ _ h,frozen_of_row w i 1 _ _ h,(Array.getElem?_eq_some_iff.1 h).1,rfl⟩
theorem rOne_yes {b:Nat} {cs:List Cls} {ps:List Plc} {W:World} (h:RAt b cs W) (ht:TwW cs ps) (hJ:WJ ps) (k:Nat) (q:Plc) (hq:ps[k]?=some q) (nm ds:ByteArray):Calls Tryz.prog 72 #[.pointer (some ⟨b,0,none⟩),.int .i64 (k:Int),.string nm,.string ds] W fun e w'=>e=.returned (idE (oneV ps (Zu ps nm ds q.cl)))∧Bw W w':=by
 have hcb:(Zu ps nm ds q.cl).length≤300:=Nat.le_trans (Qt ps nm ds q.cl) (Nat.le_trans (wi_cl ht.wi hq) ht.wi.hi)
 have HW0:Hid (RAt b cs W):=h
 have HTW:Hid (TwW cs ps):=ht
 have HQ:Hid (∀ w,Bw W w→Calls Tryz.prog 127 #[.pointer (some ⟨b,0,none⟩),.int .i64 (k:Int),.string nm,.string ds] w fun e w'=>(∃ v,e=.returned (.tuple #[v,.int .i64 0])∧w'.ownsRow w.heap.size 38 2 v (maxL ps (Zu ps nm ds q.cl)).length (Zf (maxL ps (Zu ps nm ds q.cl))))∧Bw w w'):=fun w hb=>Zhz (h.below hb) ht hJ k 0 nm ds _ hcb fun w' hb'=>Zks ((h.below hb).below hb') ht hJ k q hq nm ds
 have HCF:Hid (∀ m∈maxL ps (Zu ps nm ds q.cl),∃ (i:Nat) (x:HM),m.1=(i:Int)∧Zm ps (i:Int) m.2=some x):=fun m hm=>by
  obtain ⟨⟨i,h1,_⟩,_,_,x,h2,_⟩:=Zjr ht.wi hq (max_mem hm)
  exact ⟨i,x,h1,by rw [← h1];exact h2⟩
 have HOV:Hid (oneV ps (Zu ps nm ds q.cl)=match (maxL ps (Zu ps nm ds q.cl)).filter (fun m=>!hasS ps m.1 m.2 1024) with | []=>((0,0),24) | [m]=>(m,0)|_=>((0,0),23)):=rfl
 have hmb:(maxL ps (Zu ps nm ds q.cl)).length≤300:=Nat.le_trans (List.length_filter_le _ _) hcb
 generalize oneV ps (Zu ps nm ds q.cl)=R at *
 generalize maxL ps (Zu ps nm ds q.cl)=M at *
 obtain ⟨K,hK⟩:∃ K,M.length=K:=⟨_,rfl⟩
 have HK:Hid (M.length=K):=hK
 rw [hK] at hmb
 clear h ht hJ hq hcb hK
 go_enter Tryz.func72,Tryz.ntmps72
 go_wp2_with (first
  | (go_at_call 127;refine (HQ.out _ sqR).mono ?_;rintro e w1 ⟨⟨v,rfl,ho⟩,hb⟩;rw [HK.out] at ho;obtain ⟨ca,cc,rfl⟩:=ownv ho;have O1:Hid (w1.ownsRow W.heap.size 38 2 (.slice ca K cc) K (Zf M)):=Go.Joins.ownsRow_le ho (by simp);have zd:w1.heap[W.heap.size]?=some (.cells #[.int .i64 0,.int .i64 0] 38 (0,0)):=(hb.block (W.heap.size) (by first|omega|(simp;try omega))).trans (by first|exact zB.out|exact Zg zB.out|exact Zg (Zg zB.out)|exact Za _ _ rfl|exact heap_alloc2_old _ _ _|exact heap_alloc2_new _ _ _|exact Zg (Za _ _ rfl)|exact Zg (Zg (Za _ _ rfl))|exact Za _ _ (by simp;done));(try clear zB zL zN z0 z1 zf0 zf1);have zB:Hid (w1.heap[W.heap.size]?=some (.cells #[.int .i64 0,.int .i64 0] 38 (0,0))):=zd;have z0:w1.cell? ⟨W.heap.size,0,none⟩=some (.int .i64 0):=(cell_of_row w1 (W.heap.size) 0 _ _ _ zd).trans rfl;have zf0:=frozen_of_row w1 (W.heap.size) 0 _ _ zd;have z1:w1.cell? ⟨W.heap.size,1,none⟩=some (.int .i64 0):=(cell_of_row w1 (W.heap.size) 1 _ _ _ zd).trans rfl;have zf1:=frozen_of_row w1 (W.heap.size) 1 _ _ zd;have zL:W.heap.size<w1.heap.size:=(Array.getElem?_eq_some_iff.1 zd).1;have zN:¬ W.heap.size=w1.heap.size:=(by omega);clear zd;have hWw:W.heap.size<w1.heap.size:=zL;have hWn:¬ W.heap.size=w1.heap.size:=(by omega);have hWm:¬ w1.heap.size=W.heap.size:=(by omega);have B1:Hid (Bw W w1):=Zb sqR hb;have HW1:Hid (RAt b cs w1):=HW0.out.below B1.out;clear ho hb HQ))
 go_loopw [12,14] (fun nv iv wr=>∃ (i:Nat),iv=.int .i64 i∧i≤K∧nv=.int .i64 (((M.take i).filter fun m=>!hasS ps m.1 m.2 1024).length:Int)∧Hid (wr.heap[w1.heap.size]?=some (.cells #[.int .i64 (lst0 ((M.take i).filter fun m=>!hasS ps m.1 m.2 1024)).1,.int .i64 (lst0 ((M.take i).filter fun m=>!hasS ps m.1 m.2 1024)).2] 38 (0,0)))∧Hid (Bw w1 wr)) (fun _ iv _=>K - (intOf iv).toNat)
 case atStart=>exact ⟨0,rfl,Nat.zero_le _,rfl,Za _ _ rfl,(Below.refl _ _).alloc (Nat.le_refl _) _⟩
 case round =>
  obtain ⟨i,rfl,hi,rfl,hR,hB⟩:=hrel
  have hb:=hB.out
  have zd:wr.heap[W.heap.size]?=some (.cells #[.int .i64 0,.int .i64 0] 38 (0,0)):=(hb.block (W.heap.size) (by first|omega|(simp;try omega))).trans (by first|exact zB.out|exact Zg zB.out|exact Zg (Zg zB.out)|exact Za _ _ rfl|exact heap_alloc2_old _ _ _|exact heap_alloc2_new _ _ _|exact Zg (Za _ _ rfl)|exact Zg (Zg (Za _ _ rfl))|exact Za _ _ (by simp;done));(try clear zB zL zN z0 z1 zf0 zf1);have zB:Hid (wr.heap[W.heap.size]?=some (.cells #[.int .i64 0,.int .i64 0] 38 (0,0))):=zd;have z0:wr.cell? ⟨W.heap.size,0,none⟩=some (.int .i64 0):=(cell_of_row wr (W.heap.size) 0 _ _ _ zd).trans rfl;have zf0:=frozen_of_row wr (W.heap.size) 0 _ _ zd;have z1:wr.cell? ⟨W.heap.size,1,none⟩=some (.int .i64 0):=(cell_of_row wr (W.heap.size) 1 _ _ _ zd).trans rfl;have zf1:=frozen_of_row wr (W.heap.size) 1 _ _ zd;have zL:W.heap.size<wr.heap.size:=(Array.getElem?_eq_some_iff.1 zd).1;have zN:¬ W.heap.size=wr.heap.size:=(by omega);clear zd
  clear hb
  by_cases hlt:i<K
  ·have hiM:i<M.length:=by rw [HK.out];exact hlt
   obtain ⟨x,hx⟩:∃ x,M[i]?=some x:=⟨_,List.getElem?_eq_getElem hiM⟩
   have hst:=Zgk (p:=fun m=>!hasS ps m.1 m.2 1024) hx
   obtain ⟨g,c2,hform⟩:=Go.Joins.ownsRow_form O1.out (by omega)
   have HROW:Hid (w1.ownsRow W.heap.size 38 2 (.slice (some ⟨g,0,none⟩) M.length cc) M.length (Zf M)):=by
    have hrow:=O1.out
    injection hform with hca _ _
    rw [Hid,HK.out,← hca];exact hrow
   injection hform with hca _ hcc
   subst hca
   obtain ⟨e0,e1,hgl⟩:=Z9 HROW.out hx
   have hgr:g<wr.heap.size:=Nat.lt_of_lt_of_le hgl hB.out.size
   replace e0:=(hB.out.cell (p:=⟨g,i * 2,none⟩) hgl).trans e0
   replace e1:=(hB.out.cell (p:=⟨g,i * 2+1,none⟩) hgl).trans e1
   obtain ⟨ix,X,hx1,hxm⟩:=HCF.out x (List.mem_of_getElem? hx)
   have hhs:hasS ps x.1 x.2 1024=hasI X.fl 1024:=by rw [hasS,hx1,hxm]
   obtain ⟨x1,x2⟩:=x
   simp only at e0 e1 hx1 hxm hhs hst
   subst hx1
   rw [hhs] at hst
   have HRr:Hid (RAt b cs wr):=HW1.out.below hB.out
   obtain ⟨g9,cap9,bk9,o9,n9,cm9,j9,rfl,c91,c92,c93,c94,c95,c96,c97,c98⟩:=HRr.out.flag HTW.out hxm
   have H4:Hid (∀ w:World,Calls Tryz.prog 62 #[.int .i64 X.fl,.int .i64 1024] w fun e w'=>e=.returned (.bool (hasI X.fl 1024))∧w'=w):=Zv X.fl 1024
   generalize hasI X.fl 1024=ab at *
   generalize X.fl=fl at *
   obtain ⟨P,hP⟩:∃ P,((M.take i).filter fun m=>!hasS ps m.1 m.2 1024)=P:=⟨_,rfl⟩
   rw [hP] at hst hR
   rw [hP]
   have hPb:P.length≤300:=by rw [← hP];exact Nat.le_trans (Zii i) (by rw [HK.out];exact hmb)
   have HST:Hid (List.filter (fun m=>!hasS ps m.1 m.2 1024) (List.take (i+1) M)=P++if !ab then [((ix:Int),(j9:Int))] else []):=hst
   obtain ⟨r0,r1,rf0,rf1,rL,_⟩:=Ze9 (W:=W) hR.out
   have hgn:¬ g=w1.heap.size:=by omega
   clear hst hP hx hiM hcc hxm hhs HROW
   cases ab with
   | true =>
     have hst2:List.filter (fun m=>!hasS ps m.1 m.2 1024) (List.take (i+1) M)=P:=by rw [HST.out];simp
     clear HST
     go_wp2
     go_quiet ((go_at_call 62;refine Calls.quiet_of_same (H4.out _)))
     go_wp2
     refine ⟨⟨i+1,by simp,by omega,by rw [hst2],?_,below_drewN hB.out _⟩,by simp [intOf];omega⟩
     rw [hst2];exact ((below_drewN (Below.refl wr.heap.size wr) nq).block w1.heap.size rL).trans hR.out
   | false =>
     have hst2:List.filter (fun m=>!hasS ps m.1 m.2 1024) (List.take (i+1) M)=P++[((ix:Int),(j9:Int))]:=by rw [HST.out];simp
     clear HST
     go_wp2
     go_quiet ((go_at_call 62;refine Calls.quiet_of_same (H4.out _)))
     go_wp2
     have hD:(wr.drewN nq).heap[w1.heap.size]?=some (.cells #[.int .i64 (lst0 P).1,.int .i64 (lst0 P).2] 38 (0,0)):=((below_drewN (Below.refl wr.heap.size wr) nq).block w1.heap.size rL).trans hR.out
     refine ⟨⟨i+1,by simp,by omega,by rw [hst2];simp,?_,((below_drewN hB.out _).setCell (by simp) _).setCell (by simp) _⟩,by simp [intOf];omega⟩
     rw [hst2,Zld,Hid,heap_setCell_same _ _ _ #[.int .i64 (ix:Int),.int .i64 (lst0 P).2] 38 _ (by rw [heap_setCell_same _ _ _ _ _ _ hD];rfl)]
     rfl
  ·have e:i=K:=by omega
   subst e
   have HE:Hid (((M.take i).filter fun m=>!hasS ps m.1 m.2 1024)=M.filter fun m=>!hasS ps m.1 m.2 1024):=by rw [Hid,List.take_of_length_le (by rw [HK.out];exact Nat.le_refl _)]
   rw [HE.out] at hR ⊢
   have BB:Hid (Bw W wr):=B1.out.trans (hB.out.mono B1.out.size)
   obtain ⟨r0,r1,rf0,rf1,rL,_⟩:=Ze9 (W:=W) hR.out
   have HF:Hid (R=match (M.filter fun m=>!hasS ps m.1 m.2 1024) with | []=>((0,0),24) | [m]=>(m,0)|_=>((0,0),23)):=HOV
   clear HE HOV hR HCF
   generalize (M.filter fun m=>!hasS ps m.1 m.2 1024)=F at *
   match F with
   | [] =>
     have eR:R=((0,0),24):=HF.out
     subst eR
     clear HF
     go_wp2
     exact bodyPost_ret (v:=idE ((0,0),24)) (by simp [results,Tryz.results72,go_sem,idE, *]) rfl ⟨rfl,(by repeat (first|exact BB.out|exact Below.refl _ _|refine Below.setCell ?_ (by simp;try omega) _|refine Below.alloc ?_ (by have:=BB.out.size;simp;try omega) _|refine Below.drew ?_))⟩
   | [m] =>
     have eR:R=(m,0):=HF.out
     subst eR
     clear HF
     obtain ⟨m1,m2⟩:=m
     have hl:lst0 [(m1,m2)]=(m1,m2):=rfl
     rw [hl] at r0 r1
     go_wp2
     exact bodyPost_ret (v:=idE ((m1,m2),0)) (by simp [results,Tryz.results72,go_sem,idE, *]) rfl ⟨rfl,(by repeat (first|exact BB.out|exact Below.refl _ _|refine Below.setCell ?_ (by simp;try omega) _|refine Below.alloc ?_ (by have:=BB.out.size;simp;try omega) _|refine Below.drew ?_))⟩
   | m::m'::r =>
     have eR:R=((0,0),23):=HF.out
     subst eR
     have hl2:(m::m'::r).length=r.length+2:=rfl
     clear HF r0 r1
     generalize (m::m'::r)=ol at *
     have n1:¬ (ol.length:Int)=0:=by omega
     have n2:(1:Int)<(ol.length:Int):=by omega
     clear hl2
     go_wp2
     exact bodyPost_ret (v:=idE ((0,0),23)) (by simp [results,Tryz.results72,go_sem,idE, *]) rfl ⟨rfl,(by repeat (first|exact BB.out|exact Below.refl _ _|refine Below.setCell ?_ (by simp;try omega) _|refine Below.alloc ?_ (by have:=BB.out.size;simp;try omega) _|refine Below.drew ?_))⟩
theorem rOne_no {b:Nat} {cs:List Cls} {ps:List Plc} {W:World} (h:RAt b cs W) (ht:TwW cs ps) (hJ:WJ ps) (c:Int) (hc:plcI ps c=none) (nm ds:ByteArray):Calls Tryz.prog 72 #[.pointer (some ⟨b,0,none⟩),.int .i64 c,.string nm,.string ds] W fun e w'=>e=.returned (idE ((0,0),3))∧Bw W w':=by
 have HQ:Hid (∀ w,Bw W w→Calls Tryz.prog 127 #[.pointer (some ⟨b,0,none⟩),.int .i64 c,.string nm,.string ds] w fun e w'=>(∃ v,e=.returned (.tuple #[v,.int .i64 3])∧w'.ownsRow w.heap.size 38 2 v 0 [])∧Bw w w'):=fun w hb=>Zhz (h.below hb) ht hJ c 3 nm ds [] (by simp) fun w' hb'=>(rCand_no ((h.below hb).below hb') ht c hc nm ds).mono fun e w'' zz=>⟨⟨_,zz.1,World.ownsRow_nil _ _ _ _⟩,zz.2⟩
 clear h ht hJ hc
 go_enter Tryz.func72,Tryz.ntmps72
 go_wp2_with (first
  | (go_at_call 127;refine (HQ.out _ sqR).mono ?_;rintro e w1 ⟨⟨v,rfl,ho⟩,hb⟩;obtain ⟨ca,cc,rfl⟩:=ownv ho;have zd:w1.heap[W.heap.size]?=some (.cells #[.int .i64 0,.int .i64 0] 38 (0,0)):=(hb.block (W.heap.size) (by first|omega|(simp;try omega))).trans (by first|exact zB.out|exact Zg zB.out|exact Zg (Zg zB.out)|exact Za _ _ rfl|exact heap_alloc2_old _ _ _|exact heap_alloc2_new _ _ _|exact Zg (Za _ _ rfl)|exact Zg (Zg (Za _ _ rfl))|exact Za _ _ (by simp;done));(try clear zB zL zN z0 z1 zf0 zf1);have zB:Hid (w1.heap[W.heap.size]?=some (.cells #[.int .i64 0,.int .i64 0] 38 (0,0))):=zd;have z0:w1.cell? ⟨W.heap.size,0,none⟩=some (.int .i64 0):=(cell_of_row w1 (W.heap.size) 0 _ _ _ zd).trans rfl;have zf0:=frozen_of_row w1 (W.heap.size) 0 _ _ zd;have z1:w1.cell? ⟨W.heap.size,1,none⟩=some (.int .i64 0):=(cell_of_row w1 (W.heap.size) 1 _ _ _ zd).trans rfl;have zf1:=frozen_of_row w1 (W.heap.size) 1 _ _ zd;have zL:W.heap.size<w1.heap.size:=(Array.getElem?_eq_some_iff.1 zd).1;have zN:¬ W.heap.size=w1.heap.size:=(by omega);clear zd;have B1:Hid (Bw W w1):=Zb sqR hb;clear ho hb HQ))
 exact bodyPost_ret (v:=idE ((0,0),3)) (by simp [results,Tryz.results72,go_sem,idE, *]) rfl ⟨rfl,(by repeat (first|exact B1.out|refine Below.setCell ?_ (by simp;try omega) _|refine Below.alloc ?_ (by have:=B1.out.size;simp;try omega) _|refine Below.drew ?_))⟩
end Go.Proofs.YtmafkabjjibcbaaGreat
