import Derived.Test.YtfjekhmnjfcbeaaGreatRnI
set_option maxRecDepth 100000
namespace Go.Proofs.YtfjekhmnjfcbeaaGreat
open Go.RowKit Go.Maps
def srtA (A:List (Int×Int)) (c:Nat):List (Int×Int):=(List.range c).flatMap (fun k:Nat=>A.filter (fun y=>y.1 == (k:Int)))
theorem srtA_succ (A:List (Int×Int)) (c:Nat):srtA A (c+1)=srtA A c++A.filter (fun y=>y.1 == (c:Int)):=by
  rw [srtA,List.range_succ,List.flatMap_append,srtA];simp
theorem srtA_len (A:List (Int×Int)):∀ c,(srtA A c).length≤c * A.length
  | 0=>by simp [srtA]
  | c+1=>by
    rw [srtA_succ,List.length_append,Nat.add_mul,Nat.one_mul]
    have:=srtA_len A c
    have:=List.length_filter_le (fun y:Int×Int=>y.1 == (c:Int)) A
    omega
theorem fil_at {A:List (Int×Int)} {p:Int×Int→Bool} {j:Nat} {y:Int×Int} (h:A[j]?=some y):(A.take (j+1)).filter p=(A.take j).filter p++(if p y then [y] else []):=by
  rw [List.take_add_one,h,Option.toList_some,List.filter_append]
  congr 1
  by_cases hp:p y <;> simp [hp]
set_option maxHeartbeats 8000000 in
theorem r9Aw (W:World) (b:Nat) (a1 a2:Int) (K:Nat) (hK:K≤300) (PA:List (Int×Int)→Prop) (R:List (Int×Int)) (HPR:Hid (∀ A,PA A→srtA A K=R))
    (HI:Hid (∀ w,Below W.heap.size W w→Calls Tryz.prog 80 #[.pointer (some ⟨b,0,none⟩),.agg #[.int .i64 a1,.int .i64 a2]] w fun e w'=>e=.returned (.bool true)∧Below w.heap.size w w'))
    (HHD:Hid (∀ w,Below W.heap.size W w→∃ a cap,w.cell? ⟨b,0,none⟩=some (.slice a K cap)))
    (HL:Hid (∀ w,Below W.heap.size W w→Calls Tryz.prog 81 #[.pointer (some ⟨b,0,none⟩),.agg #[.int .i64 a1,.int .i64 a2]] w fun e w'=>(∃ v A,e=.returned v∧w'.ownsRow w.heap.size 60 2 v A.length (flatD A)∧A.length≤300∧PA A)∧Below w.heap.size w w')) :
    Calls Tryz.prog 34 #[.pointer (some ⟨b,0,none⟩),.agg #[.int .i64 a1,.int .i64 a2]] W fun e w'=>(∃ v,e=.returned (.tuple #[v,.int .i64 0])∧w'.ownsRow W.heap.size 60 2 v R.length (flatD R))∧Below W.heap.size W w':=by
  obtain ⟨j0,hj0,hy0,hy1,hy2⟩:=info_parts Tryz.hinfoD
  go_enter Tryz.func34,Tryz.ntmps34
  go_wp2_with (first
    | (go_at_call 80;refine (HI.out _ (by repeat (first|exact Below.refl _ _|refine Below.setCell ?_ (by simp;try omega) _|refine Below.alloc ?_ (by simp;try omega) _|refine Below.drew ?_))).mono ?_;rintro e w1 ⟨rfl,hb⟩;have abd:=kp2 (n:=W.heap.size) hb (by simp) (halloc1 _ _);obtain ⟨abB,ab0,ab1,abf,abL,abN⟩:=abd;have B1:Hid (Below W.heap.size W w1):=bstep (by repeat (first|exact Below.refl _ _|refine Below.setCell ?_ (by simp;try omega) _|refine Below.alloc ?_ (by simp;try omega) _|refine Below.drew ?_)) hb;clear hb HI)
    | (go_at_call 81;refine (HL.out _ B1.out).mono ?_;rintro e w2 ⟨⟨v,A,rfl,ho,hA3,hPA⟩,hb⟩;obtain ⟨va,vc,rfl⟩:=ownv ho;have OA2:Hid (w2.ownsRow w1.heap.size 60 2 (.slice va A.length vc) A.length (flatD A)):=ho;have HPA:Hid (PA A):=hPA;have B2:Hid (Below W.heap.size W w2):=bstep B1.out hb;clear hb ho hPA HL))
  have HF0:Hid (srtA A K=R):=HPR.out A HPA.out
  clear HPR HPA abB ab0 ab1 abf abL abN
  obtain ⟨T,hT⟩:∃ T,A.length=T:=⟨_,rfl⟩
  have HT:Hid (A.length=T):=hT
  have HSL:Hid (∀ c,(srtA A c).length≤c * 300):=fun c=>Nat.le_trans (srtA_len A c) (Nat.mul_le_mul_left _ hA3)
  rw [hT] at hA3 OA2 ⊢
  clear hT
  go_loopw [7,8] (fun sv kv wr=>∃ (c:Nat),kv=.int .i64 c∧c≤K∧Hid (wr.ownsRow w2.heap.size 60 2 sv (srtA A c).length (flatD (srtA A c)))∧Hid (Below w2.heap.size w2 wr)) (fun _ kv _=>K - (intOf kv).toNat)
  case atStart=>exact ⟨0,rfl,Nat.zero_le _,World.ownsRow_nil _ _ _ _,Below.refl _ _⟩
  case round =>
    obtain ⟨c,rfl,hc,hO,hBo⟩:=hrel
    obtain ⟨sa,sc,rfl⟩:=ownv hO.out
    obtain ⟨ha,hcap,hd⟩:=HHD.out wr (B2.out.trans (hBo.out.mono B2.out.size))
    by_cases hlt:c<K
    · have hcI:(c:Int)<(K:Int):=by omega
      have HNX:Hid (srtA A (c+1)=srtA A c++A.filter (fun y=>y.1 == (c:Int))):=srtA_succ A c
      have hSb:(srtA A c).length≤90000:=Nat.le_trans (HSL.out c) (by omega)
      obtain ⟨S0,hS0⟩:∃ S0,srtA A c=S0:=⟨_,rfl⟩
      rw [hS0] at hO HNX hSb ⊢
      obtain ⟨wo,hwo⟩:∃ w,w=wr:=⟨_,rfl⟩
      subst hwo
      clear hS0
      go_wp2
      go_loopw [7,9] (fun sv jv wr=>∃ (j:Nat),jv=.int .i64 j∧j≤T∧Hid (wr.ownsRow w2.heap.size 60 2 sv (S0++(A.take j).filter (fun y=>y.1 == (c:Int))).length (flatD (S0++(A.take j).filter (fun y=>y.1 == (c:Int)))))∧Hid (Below w2.heap.size w2 wr)) (fun _ jv _=>T - (intOf jv).toNat)
      case atStart=>exact ⟨0,rfl,Nat.zero_le _,by rw [List.take_zero,List.filter_nil,List.append_nil];exact hO,hBo⟩
      case round =>
        obtain ⟨j,rfl,hj,hOj,hBj⟩:=hrel
        obtain ⟨xa,xc,rfl⟩:=ownv hOj.out
        by_cases hlj:j<T
        · have hjI:(j:Int)<(T:Int):=by omega
          obtain ⟨y,hy⟩:∃ y,A[j]?=some y:=⟨_,List.getElem?_eq_getElem (by rw [HT.out];exact hlj)⟩
          obtain ⟨ga,c3,hform2⟩:=Go.Joins.ownsRow_form OA2.out (by omega)
          injection hform2 with hca2 _ hcc2
          subst hca2 hcc2
          obtain ⟨d0,d1,hgl⟩:=rowD_cells (l:=A) (i:=j) (x:=y) (by rw [HT.out];exact OA2.out) hy
          replace d0:=(hBj.out.cell (p:=⟨ga,j * 2,none⟩) hgl).trans d0
          replace d1:=(hBj.out.cell (p:=⟨ga,j * 2+1,none⟩) hgl).trans d1
          have HFA:Hid _:=fil_at (p:=fun y=>y.1 == (c:Int)) hy
          have hXb:(S0++(A.take j).filter (fun y=>y.1 == (c:Int))).length≤90300:=by
            rw [List.length_append]
            have h1:=List.length_filter_le (fun y:Int×Int=>y.1 == (c:Int)) (A.take j)
            rw [List.length_take] at h1
            omega
          obtain ⟨y1,y2⟩:=y
          simp only at d0 d1 HFA
          clear hy
          by_cases hyc:y1=(c:Int)
          · subst hyc
            have HN2:Hid (S0++(A.take (j+1)).filter (fun y=>y.1 == (c:Int))=(S0++(A.take j).filter (fun y=>y.1 == (c:Int)))++[((c:Int),y2)]):=by
              rw [Hid,HFA.out,if_pos (by simp),List.append_assoc]
            generalize S0++(A.take j).filter (fun y=>y.1 == (c:Int))=X at *
            clear HFA
            go_wp2_with (at_builtin;refine wpList_append_own _ rfl _ _ 70 rfl w2.heap.size 60 j0 (.agg #[.int .i64 0,.int .i64 0]) 2 16 Tryz.underlying70 hj0 hy0 hy1 hy2 rfl (by decide) (.slice xa X.length xc) X.length (flatD X) rfl (hOj.out.alloc _) ⟨wr.heap.size,0,none⟩ 1 1 [.int .i64 (c:Int),.int .i64 y2] rfl rfl ?c1 ?c2 ?c3 ?c4 ?c5 ?_)
            case c2=>exact ⟨rfl,rfl⟩
            case c3=>unfold maxLen;omega
            case c4=>omega
            case c5=>have:=hBj.out.size;simp;omega
            intro v' w4 hown hgrow _
            obtain ⟨va2,vn2,rfl⟩:=ownv hown
            have B4:Hid (Below w2.heap.size w2 w4):=by
              have hb1:Below w2.heap.size w2 (wr.alloc (.cells #[.int .i64 (c:Int),.int .i64 y2] 60)):=hBj.out.alloc hBj.out.size _
              refine hb1.grown hgrow hb1.size (fun x hx=>?_)
              have:=(hOj.out.lt x hx).1
              omega
            have O4:Hid (w4.ownsRow w2.heap.size 60 2 (.slice va2 (X.length+1) vn2) (X++[((c:Int),y2)]).length (flatD (X++[((c:Int),y2)]))):=by
              rw [Hid,List.length_append,flatD_app];exact hown
            clear hown hgrow
            go_wp2
            go_roundw
            case rel=>exact ⟨j+1,by go_num,by omega,by rw [HN2.out];exact O4,B4⟩
            case measure=>simp [intOf];omega
          · have hyb:(y1 == (c:Int))=false:=by simp [hyc]
            have HN2:Hid (S0++(A.take (j+1)).filter (fun y=>y.1 == (c:Int))=S0++(A.take j).filter (fun y=>y.1 == (c:Int))):=by
              rw [Hid,HFA.out,if_neg (by simp [hyc]),List.append_nil]
            clear HFA
            generalize S0++(A.take j).filter (fun y=>y.1 == (c:Int))=X at *
            go_wp2
            go_roundw
            case rel=>exact ⟨j+1,by go_num,by omega,by rw [HN2.out];exact hOj,hBj⟩
            case measure=>simp [intOf];omega
        · have e:j=T:=by omega
          subst e
          have O5:Hid (wr.ownsRow w2.heap.size 60 2 (.slice xa (S0++(A.take j).filter (fun y=>y.1 == (c:Int))).length xc) (srtA A (c+1)).length (flatD (srtA A (c+1)))):=by
            have:=hOj.out
            rw [List.take_of_length_le (by rw [HT.out];exact Nat.le_refl _),← HNX.out] at this
            rw [List.take_of_length_le (by rw [HT.out];exact Nat.le_refl _),← HNX.out]
            exact this
          generalize (S0++(A.take j).filter (fun y=>y.1 == (c:Int))).length=LL at *
          clear HNX hOj
          go_wp2
          go_roundw
          case rel=>exact ⟨c+1,by go_num,by omega,O5,hBj⟩
          case measure=>simp [intOf];omega
    · have e:c=K:=by omega
      subst e
      have O9:Hid (wr.ownsRow W.heap.size 60 2 (.slice sa (srtA A c).length sc) R.length (flatD R)):=by
        have:=hO.out
        rw [HF0.out] at this
        rw [HF0.out]
        exact Go.Joins.ownsRow_le this B2.out.size
      generalize (srtA A c).length=LL at *
      go_wp2
      exact bodyPost_ret (results_tmp2 rfl _ _ _) rfl ⟨⟨_,rfl,O9.out⟩,B2.out.trans (hBo.out.mono B2.out.size)⟩
theorem r9Ano (W:World) (b:Nat) (a1 a2:Int)
    (HI:Hid (∀ w,Below W.heap.size W w→Calls Tryz.prog 80 #[.pointer (some ⟨b,0,none⟩),.agg #[.int .i64 a1,.int .i64 a2]] w fun e w'=>e=.returned (.bool false)∧Below w.heap.size w w')) :
    Calls Tryz.prog 34 #[.pointer (some ⟨b,0,none⟩),.agg #[.int .i64 a1,.int .i64 a2]] W fun e w'=>e=.returned (.tuple #[.slice none 0 0,.int .i64 3])∧Below W.heap.size W w':=by
  go_enter Tryz.func34,Tryz.ntmps34
  go_wp2_with (go_at_call 80;refine (HI.out _ (by repeat (first|exact Below.refl _ _|refine Below.setCell ?_ (by simp;try omega) _|refine Below.alloc ?_ (by simp;try omega) _|refine Below.drew ?_))).mono ?_;rintro e w1 ⟨rfl,hb⟩;have B1:Hid (Below W.heap.size W w1):=bstep (by repeat (first|exact Below.refl _ _|refine Below.setCell ?_ (by simp;try omega) _|refine Below.alloc ?_ (by simp;try omega) _|refine Below.drew ?_)) hb;clear hb HI)
  exact bodyPost_ret (results_tmp2 rfl _ _ _) rfl ⟨rfl,B1.out⟩
theorem filA {ps:List Plc} (hW:WI ps) (hU:UnqM ps) {a:Int×Int} {ma:HM} (ha:methI ps a.1 a.2=some ma) {A:List (Int×Int)} (hA:∀ y,y∈A↔Ov ps a y) (hN:A.Nodup) (c:Nat):A.filter (fun y=>y.1 == (c:Int))=if ovC ps ma.nm ma.ds a c then [gK ps ma.nm ma.ds c] else []:=by
  have hone:∀ y∈A,y.1=(c:Int)→y=gK ps ma.nm ma.ds c∧ovC ps ma.nm ma.ds a c=true:=fun y hy h1=>by
    obtain ⟨k,_,e,ho,_⟩:=ov_gK hW hU ha ((hA y).1 hy)
    have hk:y.1=(k:Int):=by rw [e];rfl
    obtain rfl:c=k:=by omega
    exact ⟨e,ho⟩
  have hnd:=hN.filter (fun y=>y.1 == (c:Int))
  cases ho:ovC ps ma.nm ma.ds a c with
  | false =>
    rw [if_neg (by simp),List.filter_eq_nil_iff]
    intro y hy h1
    rw [beq_iff_eq] at h1
    rw [(hone y hy h1).2] at ho
    cases ho
  | true =>
    rw [if_pos rfl]
    have hm:gK ps ma.nm ma.ds c∈A.filter (fun y=>y.1 == (c:Int)):=List.mem_filter.2 ⟨(hA _).2 ((ovC_iff hW hU ha).1 ho),by simp [gK]⟩
    have hall:∀ y∈A.filter (fun y=>y.1 == (c:Int)),y=gK ps ma.nm ma.ds c:=fun y hy=>by
      obtain ⟨h1,h2⟩:=List.mem_filter.1 hy
      exact (hone y h1 (beq_iff_eq.1 h2)).1
    generalize A.filter (fun y=>y.1 == (c:Int))=F at *
    match F,hm,hall,hnd with
    | [x],_,hall,_=>rw [hall x (by simp)]
    | x::y::r,_,hall,hnd =>
      have h1:=hall x (by simp)
      have h2:=hall y (by simp)
      exact absurd (h1.trans h2.symm) ((List.pairwise_cons.1 hnd).1 y (by simp))
theorem srt_canon {ps:List Plc} (hW:WI ps) (hU:UnqM ps) {a:Int×Int} {ma:HM} (ha:methI ps a.1 a.2=some ma) {A:List (Int×Int)} (hA:∀ y,y∈A↔Ov ps a y) (hN:A.Nodup):∀ c,srtA A c=((List.range c).filter (ovC ps ma.nm ma.ds a)).map (gK ps ma.nm ma.ds)
  | 0=>rfl
  | c+1=>by
    rw [srtA_succ,srt_canon hW hU ha hA hN c,filA hW hU ha hA hN c,List.range_succ,List.filter_append,List.map_append]
    congr 1
    cases ho:ovC ps ma.nm ma.ds a c <;> simp [ho]
def alvE (ps:List Plc) (a:Int×Int):List (Int×Int)×Int:=match methI ps a.1 a.2 with
  | some m=>((allK ps m.nm m.ds a).map (gK ps m.nm m.ds),0)
  | none=>([],3)
theorem alvE_len {ps:List Plc} (hW:WI ps) (a:Int×Int):(alvE ps a).1.length≤300:=by
  rw [alvE]
  split
  · simp only [List.length_map,allK]
    refine Nat.le_trans (List.length_filter_le _ _) ?_
    rw [List.length_range];exact hW.hi
  · simp
theorem r9All_c {b:Nat} {cs:List Cls} {ps:List Plc} {W:World} (h:RAt b cs W) (ht:TwW cs ps) (hJ:WJ ps) (hS:SndI ps) (hU:UnqM ps) (hz:∀ c∈cs,c.nm.size≤maxLen) (a1 a2:Int):Calls Tryz.prog 34 #[.pointer (some ⟨b,0,none⟩),.agg #[.int .i64 a1,.int .i64 a2]] W fun e w'=>(∃ v,e=.returned (.tuple #[v,.int .i64 (alvE ps (a1,a2)).2])∧w'.ownsRow W.heap.size 60 2 v (alvE ps (a1,a2)).1.length (flatD (alvE ps (a1,a2)).1))∧Below W.heap.size W w':=by
  cases ha:methI ps a1 a2 with
  | none =>
    have e:alvE ps (a1,a2)=([],3):=by simp [alvE,ha]
    rw [e]
    refine (r9Ano W b a1 a2 fun w hb=>?_).mono fun e w' zz=>⟨⟨_,zz.1,World.ownsRow_nil _ _ _ _⟩,zz.2⟩
    have:=r9is_c (h.below hb) ht a1 a2
    rw [ha] at this
    exact this
  | some ma =>
    have e:alvE ps (a1,a2)=((allK ps ma.nm ma.ds (a1,a2)).map (gK ps ma.nm ma.ds),0):=by simp [alvE,ha]
    rw [e]
    have hlen:cs.length=ps.length:=ht.tw.len
    refine r9Aw W b a1 a2 ps.length ht.wi.hi (fun A=>(∀ y,y∈A↔Ov ps (a1,a2) y)∧A.Nodup) _ (fun A hA=>?_) (fun w hb=>?_) (fun w hb=>?_) (fun w hb=>r9all_any (h.below hb) ht hJ hS hU hz a1 a2 ma ha)
    · exact srt_canon ht.wi hU (a:=(a1,a2)) ha hA.1 hA.2 ps.length
    · have:=r9is_c (h.below hb) ht a1 a2
      rw [ha] at this
      exact this
    · rw [← hlen];exact (h.below hb).head
end Go.Proofs.YtfjekhmnjfcbeaaGreat
