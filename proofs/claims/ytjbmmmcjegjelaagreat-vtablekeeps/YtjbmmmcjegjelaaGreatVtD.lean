import Derived.Test.YtjbmmmcjegjelaaGreatRnI
import Derived.Test.YtjbmmmcjegjelaaGreatLcQ
import Derived.Test.YtjbmmmcjegjelaaGreatRfB
import Derived.Test.YtjbmmmcjegjelaaGreatRnF
import Derived.Lib.SmallJoins
import Derived.Deep.RegionHeld3
import Derived.Test.YtjbmmmcjegjelaaGreatSq
set_option maxHeartbeats 8000000
set_option maxRecDepth 100000
namespace Go.Proofs.YtjbmmmcjegjelaaGreat
open Go.RowKit Go.Maps
def firA (A:List (Int×Int)):List Nat→(Int×Int)×Int
  | []=>((0,0),6)
  | c::r=>match A.find? (fun y=>y.1 == (c:Int)) with
    | some y=>(y,0)
    | none=>firA A r
theorem firA_at {A:List (Int×Int)} {l:List Nat} {i c:Nat} (h:l[i]?=some c):firA A (l.drop i)=match A.find? (fun y=>y.1 == (c:Int)) with
    | some y=>(y,0)
    | none=>firA A (l.drop (i+1)):=by
  obtain ⟨hi,rfl⟩:=List.getElem?_eq_some_iff.1 h
  rw [List.drop_eq_getElem_cons hi,firA]
theorem find_at {A:List (Int×Int)} {p:Int×Int→Bool} {j:Nat} {y:Int×Int} (h:A[j]?=some y):(A.drop j).find? p=if p y then some y else (A.drop (j+1)).find? p:=by
  obtain ⟨hi,rfl⟩:=List.getElem?_eq_some_iff.1 h
  rw [List.drop_eq_getElem_cons hi,List.find?_cons]
  split <;> simp_all
theorem Zj4 {w:World} {N g cap K:Nat} {l:List Nat} (h:w.ownsRow N 3 1 (.slice (some ⟨g,0,none⟩) K cap) K (l.map numV)) {i c:Nat} (hi:l[i]?=some c):w.cell? ⟨g,i,none⟩=some (.int .i64 (c:Int))∧g<w.heap.size:=by
  rcases h with ⟨hl,⟨hn,_⟩|⟨g2,cap2,cur,hv,_,hb,_,_,hcs,ht⟩⟩
  · cases hn
  · injection hv with h1 _ _
    injection h1 with h1
    injection h1 with h1 _ _
    subst h1
    refine ⟨?_,(Array.getElem?_eq_some_iff.1 hb).1⟩
    rw [cell_of_row w g i _ _ _ hb]
    have hi2:=(List.getElem?_eq_some_iff.1 hi).1
    have hlk:(l.map numV).length=l.length:=List.length_map ..
    have e:(cur.toList.take (K * 1))[i]?=some (numV c):=by rw [ht,List.getElem?_map,hi];rfl
    rw [List.getElem?_take_of_lt (by omega)] at e
    rw [← Array.getElem?_toList,e]
    rfl
theorem r9Fw (W:World) (b:Nat) (r a1 a2:Int) (l:List Nat) (K:Nat) (hK:K≤1000000) (HLK:Hid (l.length=K)) (PA:List (Int×Int)→Prop) (R:(Int×Int)×Int) (HPR:Hid (∀ A,PA A→firA A l=R))
    (HI:Hid (∀ w,Below W.heap.size W w→Calls Tryz.prog 35 #[.pointer (some ⟨b,0,none⟩),.agg #[.int .i64 a1,.int .i64 a2]] w fun e w'=>e=.returned (.bool true)∧Below w.heap.size w w'))
    (HN:Hid (∀ w,Below W.heap.size W w→Calls Tryz.prog 25 #[.pointer (some ⟨b,0,none⟩),.int .i64 r] w fun e w'=>e=.returned (.bool true)∧w'=w))
    (HL:Hid (∀ w,Below W.heap.size W w→Calls Tryz.prog 55 #[.pointer (some ⟨b,0,none⟩),.agg #[.int .i64 a1,.int .i64 a2]] w fun e w'=>(∃ v A,e=.returned v∧w'.ownsRow w.heap.size 39 2 v A.length (Zm A)∧A.length≤300∧PA A)∧Below w.heap.size w w'))
    (HC:Hid (∀ w,Below W.heap.size W w→Calls Tryz.prog 56 #[.pointer (some ⟨b,0,none⟩),.int .i64 r] w fun e w'=>(∃ v,e=.returned (.tuple #[v,.int .i64 0])∧w'.ownsRow w.heap.size 3 1 v K (l.map numV))∧Below w.heap.size w w')) :
    Calls Tryz.prog 28 #[.pointer (some ⟨b,0,none⟩),.int .i64 r,.agg #[.int .i64 a1,.int .i64 a2]] W fun e w'=>e=.returned (idE R)∧Below W.heap.size W w':=by
  have BB:Hid (Below W.heap.size W W):=Below.refl _ _
  go_enter Tryz.func28,Tryz.ntmps28
  go_wp2_with (first
    | (go_at_call 35;refine (HI.out _ sqR).mono ?_;rintro e w1 ⟨rfl,hb⟩;have abd:=kp2 (n:=W.heap.size) hb (by simp;try omega) (Zj (Zl _ _));obtain ⟨abB,ab0,ab1,abf,abL,abN⟩:=abd;have zbd:=kp2 (n:=W.heap.size+1) hb (by simp;try omega) (Ze _ _ (by simp));obtain ⟨zbB,zb0,zb1,zbf,zbL,zbN⟩:=zbd;have B1:Hid (Below W.heap.size W w1):=Zc sqR hb;clear hb HI)
    | (go_at_call 25;refine (HN.out _ B1.out).mono ?_;rintro e w9 ⟨rfl,hw9⟩;rw [hw9];clear hw9 w9 HN)
    | (go_at_call 55;refine (HL.out _ B1.out).mono ?_;rintro e w2 ⟨⟨v,A,rfl,ho,hA3,hPA⟩,hb⟩;obtain ⟨va,vc,rfl⟩:=ownv ho;have OA2:Hid (w2.ownsRow w1.heap.size 39 2 (.slice va A.length vc) A.length (Zm A)):=ho;have HPA:Hid (PA A):=hPA;have zbd:=kp2 (n:=W.heap.size+1) hb (by first|omega|(simp;try omega)) zbB.out;clear zbB zb0 zb1 zbf zbL zbN;obtain ⟨zbB,zb0,zb1,zbf,zbL,zbN⟩:=zbd;have B2:Hid (Below W.heap.size W w2):=Zc B1.out hb;clear hb ho hPA HL)
    | (go_at_call 56;refine (HC.out _ B2.out).mono ?_;rintro e w3 ⟨⟨v,rfl,ho⟩,hb⟩;obtain ⟨ca,cc,rfl⟩:=ownv ho;have OC3:Hid (w3.ownsRow w2.heap.size 3 1 (.slice ca K cc) K (l.map numV)):=ho;have OA3:Hid (w3.ownsRow w1.heap.size 39 2 (.slice va A.length vc) A.length (Zm A)):=Za OA2.out hb;have zbd:=kp2 (n:=W.heap.size+1) hb (by first|omega|(simp;try omega)) zbB.out;clear zbB zb0 zb1 zbf zbL zbN;obtain ⟨zbB,zb0,zb1,zbf,zbL,zbN⟩:=zbd;have B3:Hid (Below W.heap.size W w3):=Zc B2.out hb;clear hb ho HC OA2))
  have HF0:Hid (firA A l=R):=HPR.out A HPA.out
  have ZB:Hid (w3.heap[W.heap.size+1]?=some (.cells #[.int .i64 0,.int .i64 0] 39 (0,0))):=zbB.out
  have HZL:Hid (W.heap.size+1<w3.heap.size):=zbL
  clear zbB zb0 zb1 zbf zbL zbN HPR HPA abB ab0 ab1 abf abL abN
  obtain ⟨T,hT⟩:∃ T,A.length=T:=⟨_,rfl⟩
  have HT:Hid (A.length=T):=hT
  rw [hT] at hA3 OA3 ⊢
  clear hT
  obtain ⟨σ,V,hne,V1,V2⟩:=class_of' (fun w'=>Below w3.heap.size w3 w') ⟨_,Below.refl _ _⟩
  go_loopw [11] (fun kv wr=>∃ (i:Nat),kv=.int .i64 i∧i≤K∧Hid (firA A (l.drop i)=R)∧Hid (Below w3.heap.size w3 wr)) (fun kv _=>K - (intOf kv).toNat)
  case atStart=>exact ⟨0,rfl,Nat.zero_le _,HF0,Below.refl _ _⟩
  case round =>
    obtain ⟨i,rfl,hi,hF,hBo⟩:=hrel
    by_cases hlt:i<K
    · have hiI:(i:Int)<(K:Int):=by omega
      obtain ⟨c,hc⟩:∃ c,l[i]?=some c:=⟨_,List.getElem?_eq_getElem (by rw [HLK.out];exact hlt)⟩
      obtain ⟨gc,c2,hform⟩:=Go.Joins.ownsRow_form OC3.out (by omega)
      injection hform with hca _ hcc
      subst hca hcc
      obtain ⟨k0,kL⟩:=Zj4 OC3.out hc
      replace k0:=fun s0=>((V1.out s0).cell (p:=⟨gc,i,none⟩) kL).trans k0
      have hst:=firA_at (A:=A) hc
      rw [hF.out] at hst
      have HST:Hid _:=hst
      obtain ⟨wo,hwo⟩:∃ w,w=wr:=⟨_,rfl⟩
      subst hwo
      clear hst hF hc
      go_wp2
      go_loopw [12] (fun kv wr=>∃ (j:Nat),kv=.int .i64 j∧j≤T∧Hid (A.find? (fun y=>y.1 == (c:Int))=(A.drop j).find? (fun y=>y.1 == (c:Int)))∧Hid (Below w3.heap.size w3 wr)) (fun kv _=>T - (intOf kv).toNat)
      case atStart=>exact ⟨0,rfl,Nat.zero_le _,rfl,hBo⟩
      case round =>
        obtain ⟨j,rfl,hj,hFJ,hB⟩:=hrel
        by_cases hlj:j<T
        · have hjI:(j:Int)<(T:Int):=by omega
          obtain ⟨y,hy⟩:∃ y,A[j]?=some y:=⟨_,List.getElem?_eq_getElem (by rw [HT.out];exact hlj)⟩
          obtain ⟨ga,c3,hform2⟩:=Go.Joins.ownsRow_form OA3.out (by omega)
          injection hform2 with hca2 _ hcc2
          subst hca2 hcc2
          obtain ⟨d0,d1,hgl⟩:=Yx (l:=A) (i:=j) (x:=y) (by rw [HT.out];exact OA3.out) hy
          have e0:=(hB.out.drew.cell (p:=⟨ga,j * 2,none⟩) hgl).trans d0
          have e1:=(hB.out.drew.cell (p:=⟨ga,j * 2+1,none⟩) hgl).trans d1
          have HD0:Hid (w3.cell? ⟨ga,j * 2,none⟩=some (.int .i64 y.1)):=d0
          have HD1:Hid (w3.cell? ⟨ga,j * 2+1,none⟩=some (.int .i64 y.2)):=d1
          replace d0:=fun s0=>((V1.out s0).cell (p:=⟨ga,j * 2,none⟩) hgl).trans d0
          have hfj:=find_at (p:=fun y=>y.1 == (c:Int)) hy
          rw [← hFJ.out] at hfj
          have HFJ:Hid _:=hfj
          obtain ⟨y1,y2⟩:=y
          simp only at d0 d1 HFJ HD0 HD1
          clear hfj hFJ hy e0 e1 d1
          by_cases hyc:y1=(c:Int)
          · subst hyc
            have eR:R=(((c:Int),y2),0):=by
              have h1:=HFJ.out
              rw [if_pos (by simp)] at h1
              have h2:=HST.out
              rw [h1] at h2
              exact h2
            subst eR
            clear HFJ HST HF0
            go_wp2
            refine Zd (C:=fun w'=>∃ s,w'=V s) (by kernel_rfl) (by kernel_rfl) (V2.out _ (hB.out.drew)) ?_
            repeat (go_big_quiet_step (fail))
            refine wpQuiet_nil ?_
            intro w9 hw9
            obtain ⟨s9,hw9⟩:=hw9
            have B9:Below w3.heap.size w3 w9:=by rw [hw9];exact V1.out s9
            have g0:=(B9.cell (p:=⟨ga,j * 2,none⟩) hgl).trans HD0.out
            have g1:=(B9.cell (p:=⟨ga,j * 2+1,none⟩) hgl).trans HD1.out
            obtain ⟨z0,z1,zf,zL⟩:=rw2 ((B9.block (W.heap.size+1) HZL.out).trans ZB.out)
            have BW:Hid (Below W.heap.size W w9):=B3.out.trans (B9.mono B3.out.size)
            clear hw9 B9
            go_wp2
            exact bodyPost_ret (v:=idE (((c:Int),y2),0)) (by simp [results,Tryz.results28,go_sem,idE, *]) rfl ⟨rfl,(sqE BW)⟩
          · have hyb:(y1 == (c:Int))=false:=by simp [hyc]
            have HN2:Hid (A.find? (fun y=>y.1 == (c:Int))=(A.drop (j+1)).find? (fun y=>y.1 == (c:Int))):=by
              have h1:=HFJ.out
              rw [if_neg (by simp [hyc])] at h1
              exact h1
            clear HFJ
            go_wp2
            refine Zd (C:=fun w'=>∃ s,w'=V s) (by kernel_rfl) (by kernel_rfl) (V2.out _ (hB.out.drew)) ?_
            repeat (go_big_quiet_step (fail))
            refine wpQuiet_nil ?_
            intro w9 hw9
            obtain ⟨s9,hw9⟩:=hw9
            have B9:Hid (Below w3.heap.size w3 w9):=by rw [hw9];exact V1.out s9
            clear hw9
            go_wp2
            go_roundw
            case rel=>exact ⟨j+1,by go_num,by omega,HN2,B9⟩
            case measure=>simp [intOf];omega
        · have e:j=T:=by omega
          subst e
          have HNX:Hid (firA A (l.drop (i+1))=R):=by
            have h1:=hFJ.out
            rw [List.drop_of_length_le (by rw [HT.out];exact Nat.le_refl _),List.find?_nil] at h1
            have h2:=HST.out
            rw [h1] at h2
            exact h2.symm
          clear hFJ HST HF0
          go_wp2
          go_roundw
          case rel=>exact ⟨i+1,by go_num,by omega,HNX,hB⟩
          case measure=>simp [intOf];omega
    · have e:i=K:=by omega
      subst e
      have eR:R=((0,0),6):=by
        have h1:=hF.out
        rw [List.drop_of_length_le (by rw [HLK.out];exact Nat.le_refl _)] at h1
        exact h1.symm
      subst eR
      have BW:Hid (Below W.heap.size W wr):=B3.out.trans (hBo.out.mono B3.out.size)
      obtain ⟨z0,z1,zf,zL⟩:=rw2 ((hBo.out.block (W.heap.size+1) HZL.out).trans ZB.out)
      clear hF HF0
      go_wp2
      exact bodyPost_ret (v:=idE ((0,0),6)) (by simp [results,Tryz.results28,go_sem,idE, *]) rfl ⟨rfl,(sqE BW)⟩
theorem r9Fno (W:World) (b:Nat) (r a1 a2:Int) (ia ir:Bool) (hno:(ia&&ir)=false)
    (HI:Hid (∀ w,Below W.heap.size W w→Calls Tryz.prog 35 #[.pointer (some ⟨b,0,none⟩),.agg #[.int .i64 a1,.int .i64 a2]] w fun e w'=>e=.returned (.bool ia)∧Below w.heap.size w w'))
    (HN:Hid (∀ w,Below W.heap.size W w→Calls Tryz.prog 25 #[.pointer (some ⟨b,0,none⟩),.int .i64 r] w fun e w'=>e=.returned (.bool ir)∧w'=w)) :
    Calls Tryz.prog 28 #[.pointer (some ⟨b,0,none⟩),.int .i64 r,.agg #[.int .i64 a1,.int .i64 a2]] W fun e w'=>e=.returned (idE ((0,0),3))∧Below W.heap.size W w':=by
  cases ia
  case false =>
    clear HN hno
    go_enter Tryz.func28,Tryz.ntmps28
    go_wp2_with (go_at_call 35;refine (HI.out _ sqR).mono ?_;rintro e w1 ⟨rfl,hb⟩;have zbd:=kp2 (n:=W.heap.size+1) hb (by simp;try omega) (Ze _ _ (by simp));obtain ⟨zbB,zb0,zb1,zbf,zbL,zbN⟩:=zbd;have B1:Hid (Below W.heap.size W w1):=Zc sqR hb;clear hb HI)
    exact bodyPost_ret (v:=idE ((0,0),3)) (by simp [results,Tryz.results28,go_sem,idE, *]) rfl ⟨rfl,(sqE B1)⟩
  case true =>
    obtain rfl:ir=false:=by simpa using hno
    clear hno
    go_enter Tryz.func28,Tryz.ntmps28
    go_wp2_with (first
      | (go_at_call 35;refine (HI.out _ sqR).mono ?_;rintro e w1 ⟨rfl,hb⟩;have zbd:=kp2 (n:=W.heap.size+1) hb (by simp;try omega) (Ze _ _ (by simp));obtain ⟨zbB,zb0,zb1,zbf,zbL,zbN⟩:=zbd;have B1:Hid (Below W.heap.size W w1):=Zc sqR hb;clear hb HI)
      | (go_at_call 25;refine (HN.out _ B1.out).mono ?_;rintro e w9 ⟨rfl,hw9⟩;rw [hw9];clear hw9 w9 HN))
    exact bodyPost_ret (v:=idE ((0,0),3)) (by simp [results,Tryz.results28,go_sem,idE, *]) rfl ⟨rfl,(sqE B1)⟩
theorem Zlj {ps:List Plc} {nm ds:ByteArray} {a:Int×Int} {c:Nat} {r:List Nat}:firD ps nm ds a (c::r)=if ovC ps nm ds a c then (gK ps nm ds c,0) else firD ps nm ds a r:=by
  rw [firD,firD,List.find?_cons]
  cases ovC ps nm ds a c <;> rfl
theorem findA {ps:List Plc} (hW:WI ps) (hU:UnqM ps) {a:Int×Int} {ma:HM} (ha:Zp ps a.1 a.2=some ma) {A:List (Int×Int)} (hA:∀ y,y∈A↔Ov ps a y) (c:Nat):A.find? (fun y=>y.1 == (c:Int))=if ovC ps ma.nm ma.ds a c then some (gK ps ma.nm ma.ds c) else none:=by
  cases hf:A.find? (fun y=>y.1 == (c:Int)) with
  | some y =>
    have h1:=List.find?_some hf
    have h2:=List.mem_of_find?_eq_some hf
    obtain ⟨k,_,e,ho,_⟩:=Zi4 hW hU ha ((hA y).1 h2)
    have hk:y.1=(k:Int):=by rw [e];rfl
    rw [beq_iff_eq] at h1
    obtain rfl:c=k:=by omega
    rw [ho,if_pos rfl,e]
  | none =>
    cases ho:ovC ps ma.nm ma.ds a c with
    | false=>rfl
    | true =>
      have:=List.find?_eq_none.1 hf _ ((hA _).2 ((Q6 hW hU ha).1 ho))
      exact absurd (beq_iff_eq.2 (rfl:(gK ps ma.nm ma.ds c).1=(c:Int))) this
theorem Zcy {ps:List Plc} (hW:WI ps) (hU:UnqM ps) {a:Int×Int} {ma:HM} (ha:Zp ps a.1 a.2=some ma) {A:List (Int×Int)} (hA:∀ y,y∈A↔Ov ps a y):∀ l:List Nat,firA A l=firD ps ma.nm ma.ds a l
  | []=>rfl
  | c::r=>by
    rw [firA,findA hW hU ha hA c,Zlj,Zcy hW hU ha hA r]
    cases ovC ps ma.nm ma.ds a c <;> rfl
theorem Zkm {b:Nat} {cs:List Cls} {ps:List Plc} {W:World} (h:RAt b cs W) (ht:TwW cs ps) (hJ:WJ ps) (hS:SndI ps) (hU:UnqM ps) (hz:∀ c∈cs,c.nm.size≤maxLen) (r a1 a2:Int):Calls Tryz.prog 28 #[.pointer (some ⟨b,0,none⟩),.int .i64 r,.agg #[.int .i64 a1,.int .i64 a2]] W fun e w'=>e=.returned (idE (firI ps r (a1,a2)))∧Below W.heap.size W w':=by
  cases ha:Zp ps a1 a2 with
  | none =>
    have e:firI ps r (a1,a2)=((0,0),3):=by simp [firI,ha]
    rw [e]
    refine r9Fno W b r a1 a2 (Zp ps a1 a2).isSome (plcI ps r).isSome (by rw [ha];rfl) (fun w hb=>Ze2 (h.below hb) ht a1 a2) (fun w hb=>Zbb (h.below hb) ht r)
  | some ma =>
    rcases Zn ps r with ⟨e,_⟩|⟨k,q,rfl,hq,e⟩
    · have e2:firI ps r (a1,a2)=((0,0),3):=by simp [firI,ha,e]
      rw [e2]
      refine r9Fno W b r a1 a2 (Zp ps a1 a2).isSome (plcI ps r).isSome (by rw [e];simp) (fun w hb=>Ze2 (h.below hb) ht a1 a2) (fun w hb=>Zbb (h.below hb) ht r)
    · have hk:=(List.getElem?_eq_some_iff.1 hq).1
      refine r9Fw W b (k:Int) a1 a2 (chL (ps.map nd) k) (chL (ps.map nd) k).length (chL_len ht.wi hk) rfl (fun A=>(∀ y,y∈A↔Ov ps (a1,a2) y)∧A.Nodup) (firI ps (k:Int) (a1,a2)) (fun A hA=>?_) (fun w hb=>?_) (fun w hb=>?_) (fun w hb=>Ze3 (h.below hb) ht hJ hS hU hz a1 a2 ma ha) (fun w hb=>Zcl (h.below hb) ht k hk)
      · rw [Zf9 ht.wi hU (a:=(a1,a2)) ha hq]
        exact Zcy ht.wi hU (a:=(a1,a2)) ha hA.1 _
      · have:=Ze2 (h.below hb) ht a1 a2
        rw [ha] at this
        exact this
      · have:=Zbb (h.below hb) ht (k:Int)
        rw [e] at this
        exact this
def alvE (ps:List Plc) (a:Int×Int):List (Int×Int)×Int:=match Zp ps a.1 a.2 with
  | some m=>((allK ps m.nm m.ds a).map (gK ps m.nm m.ds),0)
  | none=>([],3)
theorem alvE_len {ps:List Plc} (hW:WI ps) (a:Int×Int):(alvE ps a).1.length≤300:=by
  rw [alvE]
  split
  · simp only [List.length_map,allK]
    refine Nat.le_trans (List.length_filter_le _ _) ?_
    rw [List.length_range];exact hW.hi
  · simp
theorem all_no {b:Nat} {ps:List Plc} {W:World} (h:WAt b ps W) (hi:WI ps) (c i:Int) (hm:Zp ps c i=none):Calls Tryz.prog 120 #[.pointer (some ⟨b,0,none⟩),.agg #[.int .i64 c,.int .i64 i]] W fun e w'=>e=.returned (.tuple #[.slice none 0 0,.int .i64 3])∧Below W.heap.size W w':=by
  have HR:Hid (∀ w,Below W.heap.size W w→Calls Tryz.prog 146 #[.pointer (some ⟨b,0,none⟩),.agg #[.int .i64 c,.int .i64 i]] w fun e w'=>e=.returned (.tuple #[.agg #[.string ⟨#[]⟩,.string ⟨#[]⟩,.int .i64 0,.int .i64 0,.int .i64 0,.slice none 0 0,.int .i64 0,.int .i64 0,.pointer none],.int .i64 3])∧Below w.heap.size w w'):=fun w hb=>by
    have:=Zka (h.below hb) hi c i
    rw [hm] at this
    exact this
  clear h hi hm
  go_enter Tryz.func120,Tryz.ntmps120
  go_wp2_with (go_at_call 146;refine (HR.out _ sqR).mono ?_;rintro e w1 ⟨rfl,hb⟩;have B1:Hid (Below W.heap.size W w1):=Zc sqR hb;clear hb HR)
  exact bodyPost_ret (results_tmp2 rfl _ _ _) rfl ⟨rfl,(sqE B1)⟩
theorem all_yes {b:Nat} {ps:List Plc} {W:World} (h:WAt b ps W) (hi:WI ps) (k:Nat) (hk:k<ps.length) (i:Int) (m:HM) (hm:Zp ps (k:Int) i=some m) (G:List (Int×Int)) (hG:gthL ps ((k:Int),i) (askL ps m ((k:Int),i) (List.range' (k+1) (ps.length - (k+1))))=G):Calls Tryz.prog 120 #[.pointer (some ⟨b,0,none⟩),.agg #[.int .i64 (k:Int),.int .i64 i]] W fun e w'=>(∃ v,e=.returned (.tuple #[v,.int .i64 0])∧w'.ownsRow W.heap.size 39 2 v G.length (Zm G))∧Below W.heap.size W w':=by
  obtain ⟨i0,hi0,hz0,hz1,hz2⟩:=info_parts Tryz.hinfo3
  obtain ⟨j0,hj0,hy0,hy1,hy2⟩:=info_parts Tryz.hinfoD
  have hP3:=hi.hi
  have hGb:G.length≤301:=by
    rw [← hG]
    refine Nat.le_trans (gthL_len _ _ _) ?_
    have:=Za0 ps m.nm m.ds ((k:Int),i).1 (List.range' (k+1) (ps.length - (k+1)))
    rw [List.length_range'] at this
    rw [askL,List.length_cons]
    omega
  have HR:Hid (∀ w,Below W.heap.size W w→Calls Tryz.prog 146 #[.pointer (some ⟨b,0,none⟩),.agg #[.int .i64 (k:Int),.int .i64 i]] w fun e w'=>(∃ ma mk mo,e=.returned (.tuple #[.agg #[.string m.nm,.string m.ds,.int .i64 m.fl,.int .i64 m.lo,.int .i64 m.st,.slice ma mk mo,.int .i64 (k:Int),.int .i64 i,.pointer (some ⟨b,0,none⟩)],.int .i64 0]))∧Below w.heap.size w w'):=fun w hb=>by
    have:=Zka (h.below hb) hi (k:Int) i
    rw [hm] at this
    exact this
  have HLn:Hid (∀ w,Below W.heap.size W w→Calls Tryz.prog 49 #[.pointer (some ⟨b,0,none⟩)] w fun e w'=>e=.returned (.int .i64 (ps.length:Int))∧w'=w):=fun w hb=>len_c (h.below hb)
  have HG:Hid (∀ w (x:P9) (v:Value),Below W.heap.size W w→OkP ps x→x.id=((k:Int),i)→(x.nm,x.ds,x.c)=(m.nm,m.ds,(k:Int))→Rds w v (ps.length - (k+1)) 1 ((List.range' (k+1) (ps.length - (k+1))).map numV)→Calls Tryz.prog 147 #[x.agg b,v] w fun e w'=>∃ (L:List P9) (g cap:Nat),e=.returned (.slice (some ⟨g,0,none⟩) L.length cap)∧(∀ y∈L,OkP ps y)∧L.map P9.id=G∧w'.ownsRow w.heap.size 181 9 (.slice (some ⟨g,0,none⟩) L.length cap) L.length (Zu b L)∧Below w.heap.size w w'):=fun w x v hb ho hid hnd hv=>by
    have:=gth_c (h.below hb) hi x ho v (List.range' (k+1) (ps.length - (k+1))) (by rw [List.length_range'];exact hv) (by rw [List.length_range'];omega)
    simp only [Prod.mk.injEq] at hnd
    rw [hid,hnd.1,hnd.2.1,hnd.2.2] at this
    rw [askL] at hG
    rw [hG] at this
    exact this
  have HM:Hid (Zp ps (k:Int) i=some m):=hm
  generalize ps.length=P at *
  clear h hi hm hG
  simp only [P9.agg] at HG
  go_enter Tryz.func120,Tryz.ntmps120
  go_wp2_with (go_at_call 146;refine (HR.out _ sqR).mono ?_;rintro e w1 ⟨⟨ma,mk,mo,rfl⟩,hb⟩;have abd:=kp2 (n:=W.heap.size) hb (by simp) (Zl _ _);obtain ⟨abB,ab0,ab1,abf,abL,abN⟩:=abd;have B1:Hid (Below W.heap.size W w1):=Zc sqR hb;clear hb HR)
  obtain ⟨U,hU⟩:∃ U,U=w1.alloc (.cells #[.string m.nm,.string m.ds,.int .i64 m.fl,.int .i64 m.lo,.int .i64 m.st,.slice ma mk mo,.int .i64 (k:Int),.int .i64 i,.pointer (some ⟨b,0,none⟩)] 181):=⟨_,rfl⟩
  have BU:Hid (Below W.heap.size W U):=by rw [hU];exact B1.out.alloc B1.out.size _
  have HX:Hid (U.heap[w1.heap.size]?=some (.cells #[.string m.nm,.string m.ds,.int .i64 m.fl,.int .i64 m.lo,.int .i64 m.st,.slice ma mk mo,.int .i64 (k:Int),.int .i64 i,.pointer (some ⟨b,0,none⟩)] 181 (0,0))):=by rw [hU];exact Zl _ _
  have hxl:w1.heap.size<U.heap.size:=by rw [hU];simp
  rw [← hU]
  clear hU abB ab0 ab1 abf abL abN
  go_loopw [8,9] (fun sv kv wr=>∃ n:Nat,kv=.int .i64 ((k+1+n:Nat):Int)∧k+1+n≤P∧Hid (wr.ownsRow U.heap.size 3 1 sv n ((List.range' (k+1) n).map numV))∧Hid (Below U.heap.size U wr)) (fun _ kv _=>P - (intOf kv).toNat)
  case atStart=>exact ⟨0,by go_num,by omega,World.ownsRow_nil _ _ _ _,Below.refl _ _⟩
  case round =>
    obtain ⟨n,rfl,hn,hO,hB⟩:=hrel
    have BWr:Hid (Below W.heap.size W wr):=BU.out.trans (hB.out.mono BU.out.size)
    obtain ⟨va,vn,rfl⟩:=ownv hO.out
    have HL1:Hid (Calls Tryz.prog 49 #[.pointer (some ⟨b,0,none⟩)] wr fun e w'=>e=.returned (.int .i64 (P:Int))∧w'=wr):=HLn.out wr BWr.out
    by_cases hlt:k+1+n<P
    · have hltI:((k+1+n:Nat):Int)<(P:Int):=by omega
      have hst:(List.range' (k+1) (n+1)).map numV=(List.range' (k+1) n).map numV++[numV (k+1+n)]:=by rw [List.range'_1_concat,List.map_append];rfl
      have HST:Hid _:=hst
      obtain ⟨c,hc⟩:∃ c,c=k+1+n:=⟨_,rfl⟩
      rw [← hc] at hltI HST ⊢
      have HC:Hid (c=k+1+n):=hc
      have hc3:c≤300:=by omega
      have hn3:n≤300:=by omega
      generalize (List.range' (k+1) n).map numV=X at *
      clear hst hc
      go_wp2_with (first
        | (go_at_call 49;refine HL1.out.mono ?_;rintro e w9 ⟨rfl,hw9⟩;rw [hw9];clear hw9 w9 HL1)
        | (at_builtin;refine wpList_append_own _ rfl _ _ 82 rfl U.heap.size 3 i0 (.int .i64 0) 1 8 Tryz.underlying82 hi0 hz0 hz1 hz2 rfl (by decide) (.slice va n vn) n X rfl (hO.out.alloc _) ⟨wr.heap.size,0,none⟩ 1 1 [.int .i64 (c:Int)] rfl rfl ?c1 ?c2 ?c3 ?c4 ?c5 ?_))
      case c1=>intro jj u hj;rw [addr_add];cases jj with
        | zero=>simp at hj;subst hj;simp [go_sem]
        | succ jj=>simp at hj
      case c2=>intro u hu;simp at hu;subst hu;rfl
      case c3=>unfold maxLen;omega
      case c4=>omega
      case c5=>have:=hB.out.size;simp;omega
      intro v' w2 hown hgrow _
      obtain ⟨va2,vn2,rfl⟩:=ownv hown
      have B2:Hid (Below U.heap.size U w2):=by
        have hb1:Below U.heap.size U (wr.alloc (.cells #[.int .i64 (c:Int)] 3)):=hB.out.alloc hB.out.size _
        refine hb1.grown hgrow hb1.size (fun x hx=>?_)
        have:=(hO.out.lt x hx).1
        omega
      have O2:Hid (w2.ownsRow U.heap.size 3 1 (.slice va2 (n+1) vn2) (n+1) ((List.range' (k+1) (n+1)).map numV)):=by
        rw [Hid,HST.out];exact hown
      clear hown hgrow
      go_wp2
      go_roundw
      case rel=>exact ⟨n+1,by rw [HC.out];go_num,by have:=HC.out;omega,O2,B2⟩
      case measure=>have:=HC.out;simp [intOf];omega
    · have en:n=P - (k+1):=by omega
      have hltI:¬ ((k+1+n:Nat):Int)<(P:Int):=by omega
      have D1:Hid (Rds wr (.slice va n vn) (P - (k+1)) 1 ((List.range' (k+1) (P - (k+1))).map numV)):=by rw [Hid,← en];exact Z2 hO.out
      obtain ⟨p0,p1,p2,p3,p4,p5,p6,p7,p8,pL⟩:=row9 ((hB.out.block w1.heap.size hxl).trans HX.out)
      have EN:Hid (n=P - (k+1)):=en
      clear en
      go_wp2_with (first
        | (go_at_call 49;refine HL1.out.mono ?_;rintro e w9 ⟨rfl,hw9⟩;rw [hw9];clear hw9 w9 HL1)
        | (go_at_call 147;refine (HG.out wr ⟨m.nm,m.ds,m.fl,m.lo,m.st,ma,mk,mo,(k:Int),i⟩ (.slice va n vn) BWr.out ⟨m,HM.out,rfl,rfl,rfl⟩ rfl rfl D1.out).mono ?_;rintro e w4 ⟨L,g,cap,rfl,hok,hid,ho,hb⟩;have ID4:Hid (L.map P9.id=G):=hid;have O4:Hid (w4.ownsRow wr.heap.size 181 9 (.slice (some ⟨g,0,none⟩) L.length cap) L.length (Zu b L)):=ho;have B4:Hid (Below W.heap.size W w4):=Zc BWr.out hb;clear hb ho hok hid HG))
      clear p0 p1 p2 p3 p4 p5 p6 p7 p8 pL
      obtain ⟨T,hT⟩:∃ T,L.length=T:=⟨_,rfl⟩
      have HT:Hid (L.length=T):=hT
      have HGT:Hid (G.length=T):=by rw [Hid,← ID4.out,List.length_map];exact hT
      have hT3:T≤301:=by rw [← HGT.out];exact hGb
      rw [hT] at O4 ⊢
      clear hT
      go_loopw [10,39] (fun sv kv wr=>∃ j:Nat,kv=.int .i64 j∧j≤T∧Hid (wr.ownsRow w4.heap.size 39 2 sv j (Zm (G.take j)))∧Hid (Below w4.heap.size w4 wr)) (fun _ kv _=>T - (intOf kv).toNat)
      case atStart=>exact ⟨0,rfl,Nat.zero_le _,World.ownsRow_nil _ _ _ _,Below.refl _ _⟩
      case round =>
        obtain ⟨j,rfl,hj,hOj,hBj⟩:=hrel
        obtain ⟨xa,xc,rfl⟩:=ownv hOj.out
        by_cases hlj:j<T
        · have hjI:(j:Int)<(T:Int):=by omega
          obtain ⟨y,hy⟩:∃ y,L[j]?=some y:=⟨_,List.getElem?_eq_getElem (by rw [HT.out];exact hlj)⟩
          have hgy:G[j]?=some y.id:=by rw [← ID4.out,List.getElem?_map,hy];rfl
          have HTK:Hid (Zm (G.take (j+1))=Zm (G.take j)++[.int .i64 y.c,.int .i64 y.i]):=by
            rw [Hid,List.take_add_one,hgy,Option.toList_some,Xe];rfl
          obtain ⟨e0,e1,e2,e3,e4,e5,e6,e7,e8,gL⟩:=J6 (Za O4.out hBj.out) hy
          obtain ⟨yn,yd,yf,yl,ys,ya,yk,yo,yc,yi⟩:=y
          simp only at e0 e1 e2 e3 e4 e5 e6 e7 e8 HTK
          generalize Zm (G.take j)=X at hOj HTK
          clear hy hgy
          go_wp2_with (at_builtin;refine wpList_append_own _ rfl _ _ 60 rfl w4.heap.size 39 j0 (.agg #[.int .i64 0,.int .i64 0]) 2 16 Tryz.underlying60 hj0 hy0 hy1 hy2 rfl (by decide) (.slice xa j xc) j X rfl ((hOj.out.alloc _).alloc _) ⟨wr.heap.size+1,0,none⟩ 1 1 [.int .i64 yc,.int .i64 yi] rfl rfl ?c1 ?c2 ?c3 ?c4 ?c5 ?_)
          case c1=>intro jj u hj;rw [addr_add];match jj,hj with
            | 0,hj=>simp at hj;subst hj;simp [go_sem]
            | 1,hj=>simp at hj;subst hj;simp [go_sem]
            | (jj+2),hj=>simp at hj
          case c2=>intro u hu;simp at hu;rcases hu with rfl|rfl <;> rfl
          case c3=>unfold maxLen;omega
          case c4=>omega
          case c5=>have:=hBj.out.size;simp;omega
          intro v' w6 hown hgrow _
          obtain ⟨va2,vn2,rfl⟩:=ownv hown
          have B6:Hid (Below w4.heap.size w4 w6):=by
            refine Below.grown (w:=(wr.alloc (.cells #[.string yn,.string yd,.int .i64 yf,.int .i64 yl,.int .i64 ys,.slice ya yk yo,.int .i64 yc,.int .i64 yi,.pointer (some ⟨b,0,none⟩)] 181)).alloc (.cells #[.int .i64 yc,.int .i64 yi] 39)) ?_ hgrow ?_ (fun x hx=>?_)
            · exact (hBj.out.alloc hBj.out.size _).alloc (by have:=hBj.out.size;simp;omega) _
            · have:=hBj.out.size;simp;omega
            · have:=(hOj.out.lt x hx).1
              omega
          have O6:Hid (w6.ownsRow w4.heap.size 39 2 (.slice va2 (j+1) vn2) (j+1) (Zm (G.take (j+1)))):=by
            rw [Hid,HTK.out];exact hown
          clear hown hgrow
          go_wp2
          go_roundw
          case rel=>exact ⟨j+1,by go_num,by omega,O6,B6⟩
          case measure=>simp [intOf];omega
        · have e:j=T:=by omega
          subst e
          have O9:Hid (wr.ownsRow W.heap.size 39 2 (.slice xa j xc) G.length (Zm G)):=by
            have:=hOj.out
            rw [List.take_of_length_le (by rw [HGT.out];exact Nat.le_refl _)] at this
            rw [Hid,HGT.out]
            exact Go.Joins.ownsRow_le this B4.out.size
          go_wp2
          exact bodyPost_ret (results_tmp2 rfl _ _ _) rfl ⟨⟨_,rfl,O9.out⟩,B4.out.trans (hBj.out.mono B4.out.size)⟩
theorem Zgf {w w':World} {v:Value} {l:List Cls} (h:Zao w v l) (hb:Below w.heap.size w w'):Zao w' v l:=by
  obtain ⟨ao,cap,rfl,h1,h2,h3⟩:=h
  refine ⟨ao,cap,rfl,h1,h2,fun hne=>?_⟩
  obtain ⟨bk,o,e,hlt,hc⟩:=h3 hne
  refine ⟨bk,o,e,Nat.lt_of_lt_of_le hlt hb.size,fun k c hk=>?_⟩
  obtain ⟨vi,vm,h4,h5⟩:=hc k c hk
  exact ⟨vi,vm,fun j u hj=>(hb.cell hlt).trans (h4 j u hj),h5.keep hb⟩
theorem oall_c {b:Nat} {ps:List Plc} {W:World} (h:WAt b ps W) (hi:WI ps) (hU:UnqM ps) (a1 a2:Int):Calls Tryz.prog 120 #[.pointer (some ⟨b,0,none⟩),.agg #[.int .i64 a1,.int .i64 a2]] W fun e w'=>(∃ v,e=.returned (.tuple #[v,.int .i64 (alvE ps (a1,a2)).2])∧w'.ownsRow W.heap.size 39 2 v (alvE ps (a1,a2)).1.length (Zm (alvE ps (a1,a2)).1))∧Below W.heap.size W w':=by
  cases ha:Zp ps a1 a2 with
  | none =>
    have e:alvE ps (a1,a2)=([],3):=by simp [alvE,ha]
    rw [e]
    exact (all_no h hi a1 a2 ha).mono fun e w' zz=>⟨⟨_,zz.1,World.ownsRow_nil _ _ _ _⟩,zz.2⟩
  | some ma =>
    have e:alvE ps (a1,a2)=((allK ps ma.nm ma.ds (a1,a2)).map (gK ps ma.nm ma.ds),0):=by simp [alvE,ha]
    rw [e]
    obtain ⟨k,q,rfl,hq,_,_⟩:=Y0 ha
    exact all_yes h hi k (List.getElem?_eq_some_iff.1 hq).1 a2 ma ha _ (Zl9 hi hU (a:=((k:Int),a2)) ha rfl)
theorem Zeu {w:World} {B e s:Nat} {v:Value} {n:Nat} {xs:List Value} (h:w.ownsRow B e s v n xs) {k j:Nat} (hk:k<B) (u:Value):(w.setCell ⟨k,j,none⟩ u).ownsRow B e s v n xs:=by
  refine ⟨h.1,?_⟩
  rcases h.2 with h1|⟨g,cap,cur,h1,h2,h3,h4⟩
  · exact .inl h1
  · exact .inr ⟨g,cap,cur,h1,h2,(heap_setCell_other _ _ _ _ (by simp;omega)).trans h3,h4⟩
def vrtB (nm:ByteArray) (fl:Int):Bool:=(bits .and .i64 fl 10 == 0)&&!(nm.toList == [60,105,110,105,116,62])
def opnB (fl:Int):Bool:=bits .and .i64 fl 5 != 0
theorem isVrt_c (nm ds:ByteArray) (fl lo st:Int) (a:Option Addr) (n s:Nat) (W:World):Calls Tryz.prog 31 #[.agg #[.string nm,.string ds,.int .i64 fl,.int .i64 lo,.int .i64 st,.slice a n s]] W fun e w'=>e=.returned (.bool (vrtB nm fl))∧Below W.heap.size W w':=by
  unfold vrtB
  cases h:(bits .and .i64 fl 10 == 0)
  all_goals
    go_enter Tryz.func31,Tryz.ntmps31
    go_wp2
  all_goals go_ret
  all_goals exact ⟨retB (by simp),sqR⟩
theorem isOpn_c (nm ds:ByteArray) (fl lo st:Int) (a:Option Addr) (n s:Nat) (W:World):Calls Tryz.prog 83 #[.agg #[.string nm,.string ds,.int .i64 fl,.int .i64 lo,.int .i64 st,.slice a n s]] W fun e w'=>e=.returned (.bool (opnB fl))∧Below W.heap.size W w':=by
  unfold opnB
  go_enter Tryz.func83,Tryz.ntmps83
  go_wp2
  all_goals go_ret
  all_goals exact ⟨retB (by simp),sqR⟩
theorem Zky (W:World) (b:Nat) (a1 a2 e3:Int) (G:List (Int×Int)) (HA:Hid (∀ w,Below W.heap.size W w→Calls Tryz.prog 120 #[.pointer (some ⟨b,0,none⟩),.agg #[.int .i64 a1,.int .i64 a2]] w fun e w'=>(∃ v,e=.returned (.tuple #[v,.int .i64 e3])∧w'.ownsRow w.heap.size 39 2 v G.length (Zm G))∧Below w.heap.size w w')):Calls Tryz.prog 85 #[.pointer (some ⟨b,0,none⟩),.agg #[.int .i64 a1,.int .i64 a2]] W fun e w'=>(∃ oa oc,e=.returned (.agg #[.int .i64 a1,.int .i64 a2,.int .i64 a1,.int .i64 a2,.slice oa G.length oc])∧w'.ownsRow W.heap.size 39 2 (.slice oa G.length oc) G.length (Zm G))∧Below W.heap.size W w':=by
  go_enter Tryz.func85,Tryz.ntmps85
  go_wp2_with (go_at_call 120;refine (HA.out _ sqR).mono ?_;rintro e w1 ⟨⟨v,rfl,ho⟩,hb⟩;obtain ⟨va,vc,rfl⟩:=ownv ho;have O1:Hid (w1.ownsRow W.heap.size 39 2 (.slice va G.length vc) G.length (Zm G)):=Go.Joins.ownsRow_le ho (by simp;try omega);have HLO:Hid (w1.ownsRow (W.heap.size+2) 39 2 (.slice va G.length vc) G.length (Zm G)):=Go.Joins.ownsRow_le ho (by simp);have abd:=kp2 (n:=W.heap.size) hb (by simp;try omega) (Zj (Zl _ _));obtain ⟨abB,ab0,ab1,abf,abL,abN⟩:=abd;have zbd:=kp5 (n:=W.heap.size+1) hb (by simp;try omega) (Ze _ _ (by simp));obtain ⟨zbB,zb0,zb1,zb2,zb3,zb4,zbf,zbL,zbN⟩:=zbd;have B1:Hid (Below W.heap.size W w1):=Zc sqR hb;clear hb ho HA)
  refine bodyPost_ret (v:=.agg #[.int .i64 a1,.int .i64 a2,.int .i64 a1,.int .i64 a2,.slice va G.length vc]) (by simp [results,Tryz.results85,go_sem, *]) rfl ⟨⟨va,vc,rfl,?_⟩,(sqE B1)⟩
  exact Go.Joins.ownsRow_le (Zeu (Zeu (Zeu (Zeu (Zeu HLO.out (by omega) _) (by omega) _) (by omega) _) (by omega) _) (by omega) _) (by omega)
def idxS (p:S5→Bool):List S5→Nat→Int
  | [],_=>-1
  | m::r,k=>if p m then (k:Int) else idxS p r (k+1)
theorem idxS_at {p:S5→Bool} {l:List S5} (k:Nat) (x:S5) (h:l[k]?=some x):idxS p (l.drop k) k=if p x then (k:Int) else idxS p (l.drop (k+1)) (k+1):=by
  obtain ⟨h1,h2⟩:=List.getElem?_eq_some_iff.1 h
  rw [List.drop_eq_getElem_cons h1,h2,idxS]
theorem Zh1 (p:S5→Bool):∀ (l:List S5) (k:Nat),(idxS p l k=-1∧l.any p=false)∨∃ j:Nat,idxS p l k=(j:Int)∧l.any p=true
  | [],_=>.inl ⟨rfl,rfl⟩
  | m::r,k=>by
    rw [idxS]
    cases e:p m with
    | true=>exact .inr ⟨k,by simp,by simp [e]⟩
    | false =>
      rcases Zh1 p r (k+1) with ⟨h,h2⟩|⟨j,h,h2⟩
      · exact .inl ⟨by simpa using h,by simp [e,h2]⟩
      · exact .inr ⟨j,by simpa using h,by simp [h2]⟩
theorem idx5_any (g:Nat) (eg:∀ args w,(callFunc g args).run Tryz.prog w=.ok (.enter g args) w) (cb:Array Value) (p:S5→Bool) (N:Nat) (l:List S5) (v:Value) (W:World) (h:W.ownsRow N 102 5 v l.length (flat5 l)) (hn:l.length≤1000000000) (hp:∀ m∈l,∀ w,Below W.heap.size W w→Calls Tryz.prog g (#[m.agg]++cb) w fun e w'=>e=.returned (.bool (p m))∧Below w.heap.size w w') :
    Calls Tryz.prog 145 #[v,.func (.func g) #[] cb] W fun e w'=>e=.returned (.int .i64 (idxS p l 0))∧Below W.heap.size W w':=by
  obtain ⟨ao,cap,rfl⟩:=ownv h
  obtain ⟨K,hK⟩:∃ K,l.length=K:=⟨_,rfl⟩
  have HA:Hid (W.ownsRow N 102 5 (.slice ao l.length cap) l.length (flat5 l)):=h
  have HK:Hid (l.length=K):=hK
  have HP:Hid (∀ m∈l,∀ w,Below W.heap.size W w→Calls Tryz.prog g (#[m.agg]++cb) w fun e w'=>e=.returned (.bool (p m))∧Below w.heap.size w w'):=hp
  rw [hK] at hn ⊢
  clear hK h hp
  go_enter Tryz.func145,Tryz.ntmps145
  go_wp2
  go_loopw [8] (fun iv wr=>∃ i:Nat,iv=.int .i64 i∧i≤K∧Hid (Below W.heap.size W wr)∧Hid (idxS p (l.drop i) i=idxS p l 0)) (fun iv _=>K - (intOf iv).toNat)
  case atStart=>exact ⟨0,rfl,Nat.zero_le _,Below.refl _ _,rfl⟩
  case round =>
    obtain ⟨i,rfl,hi,hb,hs⟩:=hrel
    by_cases hlt:i<K
    · have hlq:i<l.length:=by rw [HK.out];exact hlt
      obtain ⟨x,hx⟩:∃ x,l[i]?=some x:=⟨_,List.getElem?_eq_getElem hlq⟩
      obtain ⟨gm,cm,hform⟩:=Go.Joins.ownsRow_form HA.out (by omega)
      have hrow:=HA.out
      rw [hform] at hrow
      obtain ⟨e0,e1,e2,e3,e4,hgl⟩:=J7 hrow hx
      replace e0:=(hb.out.cell (p:=⟨gm,i * 5,none⟩) hgl).trans e0
      replace e1:=(hb.out.cell (p:=⟨gm,i * 5+1,none⟩) hgl).trans e1
      replace e2:=(hb.out.cell (p:=⟨gm,i * 5+2,none⟩) hgl).trans e2
      replace e3:=(hb.out.cell (p:=⟨gm,i * 5+3,none⟩) hgl).trans e3
      replace e4:=(hb.out.cell (p:=⟨gm,i * 5+4,none⟩) hgl).trans e4
      injection hform with hao _ hcap
      subst hao hcap
      have hst:=idxS_at (p:=p) i x hx
      rw [hs.out] at hst
      have HC:Hid (Calls Tryz.prog g (#[x.agg]++cb) wr fun e w'=>e=.returned (.bool (p x))∧Below wr.heap.size wr w'):=HP.out x (List.mem_of_getElem? hx) wr hb.out
      generalize p x=q at *
      obtain ⟨⟨r1,r2⟩,⟨m1,m2⟩,oa,on,oc⟩:=x
      simp only [S5.agg] at e0 e1 e2 e3 e4 HC
      clear hs HA hx hrow hlq HP
      cases q with
      | true =>
        have HZ:Hid (idxS p l 0=(i:Int)):=by rw [Hid,hst];rfl
        clear hst
        go_wp2_with (go_at_fn g;refine (HC.out).mono ?_;rintro e w1 ⟨rfl,hb1⟩)
        go_ret
        exact ⟨Zg HZ.out.symm,Below.step hb.out hb1⟩
      | false =>
        have HZ:Hid (idxS p (l.drop (i+1)) (i+1)=idxS p l 0):=by rw [Hid,hst];rfl
        clear hst
        go_wp2_with (go_at_fn g;refine (HC.out).mono ?_;rintro e w1 ⟨rfl,hb1⟩;have hb2:Hid (Below W.heap.size W w1):=Below.step hb.out hb1;clear hb1)
        go_roundw
        case rel=>exact ⟨i+1,by go_num,by omega,hb2,HZ⟩
        case measure=>simp [intOf];omega
    · have e:i=K:=by omega
      subst e
      have HZ:Hid (idxS p l 0=-1):=by rw [Hid,← hs.out,List.drop_of_length_le (by rw [HK.out];exact Nat.le_refl _)];rfl
      clear hs HA HP
      go_wp2
      go_ret
      exact ⟨Zg HZ.out.symm,hb.out⟩
theorem con5_any (g:Nat) (eg:∀ args w,(callFunc g args).run Tryz.prog w=.ok (.enter g args) w) (cb:Array Value) (p:S5→Bool) (N:Nat) (l:List S5) (v:Value) (W:World) (h:W.ownsRow N 102 5 v l.length (flat5 l)) (hn:l.length≤1000000000) (hp:∀ m∈l,∀ w,Below W.heap.size W w→Calls Tryz.prog g (#[m.agg]++cb) w fun e w'=>e=.returned (.bool (p m))∧Below w.heap.size w w') :
    Calls Tryz.prog 118 #[v,.func (.func g) #[] cb] W fun e w'=>e=.returned (.bool (l.any p))∧Below W.heap.size W w':=by
  have HI:Hid (Calls Tryz.prog 145 #[v,.func (.func g) #[] cb] W fun e w'=>e=.returned (.int .i64 (idxS p l 0))∧Below W.heap.size W w'):=idx5_any g eg cb p N l v W h hn hp
  rcases Zh1 p l 0 with ⟨e,e2⟩|⟨j,e,e2⟩
  · rw [e] at HI
    rw [e2]
    obtain ⟨ao,cap,rfl⟩:=ownv h
    clear h hp e e2
    go_enter Tryz.func118,Tryz.ntmps118
    go_wp2_with (go_at_call 145;refine HI.out.mono ?_;rintro e w1 ⟨rfl,hb⟩;have B1:Hid (Below W.heap.size W w1):=hb;clear hb HI)
    exact bodyPost_ret (results_tmp rfl _ _ _) rfl ⟨rfl,B1.out⟩
  · rw [e] at HI
    rw [e2]
    obtain ⟨ao,cap,rfl⟩:=ownv h
    clear h hp e e2
    go_enter Tryz.func118,Tryz.ntmps118
    go_wp2_with (go_at_call 145;refine HI.out.mono ?_;rintro e w1 ⟨rfl,hb⟩;have B1:Hid (Below W.heap.size W w1):=hb;clear hb HI)
    exact bodyPost_ret (results_tmp rfl _ _ _) rfl ⟨rfl,B1.out⟩
theorem callSI (vs:Array Value) (w:World):(callFunc 119 vs).run Tryz.prog w=.ok (.enter 119 vs) w:=by simp [go_sem]
theorem isHeld_c (W:World) (B:Nat) (hB:B<W.heap.size) (o1 o2:Int) (h0:W.cell? ⟨B,0,none⟩=some (.int .i64 o1)) (h1:W.cell? ⟨B,1,none⟩=some (.int .i64 o2)) (x:S5):Calls Tryz.prog 119 #[x.agg,.pointer (some ⟨B,0,none⟩)] W fun e w'=>e=.returned (.bool ((x.m.1 == o1)&&(x.m.2 == o2)))∧Below W.heap.size W w':=by
  obtain ⟨⟨r1,r2⟩,⟨m1,m2⟩,oa,on,oc⟩:=x
  simp only [S5.agg]
  have hN:¬ B=W.heap.size:=by omega
  go_enter Tryz.func119,Tryz.ntmps119
  go_wp2
  all_goals go_ret
  all_goals exact ⟨retB (by simp [*]),sqR⟩
theorem stIn_c (N:Nat) (l:List S5) (v:Value) (o1 o2:Int) (W:World) (h:W.ownsRow N 102 5 v l.length (flat5 l)) (hn:l.length≤1000000000):Calls Tryz.prog 84 #[v,.agg #[.int .i64 o1,.int .i64 o2]] W fun e w'=>e=.returned (.bool (l.any fun x=>(x.m.1 == o1)&&(x.m.2 == o2)))∧Below W.heap.size W w':=by
  have HC:Hid (Calls Tryz.prog 118 #[v,.func (.func 119) #[] #[.pointer (some ⟨W.heap.size,0,none⟩)]] (W.alloc (.cells #[.int .i64 o1,.int .i64 o2] 39)) fun e w'=>e=.returned (.bool (l.any fun x=>(x.m.1 == o1)&&(x.m.2 == o2)))∧Below (W.alloc (.cells #[.int .i64 o1,.int .i64 o2] 39)).heap.size (W.alloc (.cells #[.int .i64 o1,.int .i64 o2] 39)) w'):=by
    refine con5_any 119 callSI _ _ N l v _ (h.alloc _) hn (fun m _ w hb=>?_)
    obtain ⟨_,c0,c1,_,cL,_⟩:=kp2 (n:=W.heap.size) hb (by simp) (Zl _ _)
    exact isHeld_c w W.heap.size cL o1 o2 c0 c1 m
  obtain ⟨va,vc,rfl⟩:=ownv h
  generalize (l.any fun x=>(x.m.1 == o1)&&(x.m.2 == o2))=R at *
  clear h
  go_enter Tryz.func84,Tryz.ntmps84
  go_wp2_with (go_at_call 118;refine HC.out.mono ?_;rintro e w1 ⟨rfl,hb⟩;have B1:Hid (Below W.heap.size W w1):=((Below.refl _ W).alloc (Nat.le_refl _) _).trans (hb.mono (by simp));clear hb HC)
  exact bodyPost_ret (results_tmp rfl _ _ _) rfl ⟨rfl,B1.out⟩
end Go.Proofs.YtjbmmmcjegjelaaGreat
