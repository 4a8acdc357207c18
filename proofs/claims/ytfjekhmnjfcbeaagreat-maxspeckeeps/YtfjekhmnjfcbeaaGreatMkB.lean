import Derived.Test.YtfjekhmnjfcbeaaGreatRfQ
import Derived.Test.YtfjekhmnjfcbeaaGreatRfB
import Derived.Test.YtfjekhmnjfcbeaaGreatHrX
import Derived.Test.YtfjekhmnjfcbeaaGreatRfA
import Derived.Deep.DeepCutAuto
import Derived.Deep.RegionLaw
set_option maxRecDepth 100000
namespace Go.Proofs.YtfjekhmnjfcbeaaGreat
open Go.RowKit Go.Maps
theorem filt_take {p:Int×Int→Bool} {A:List (Int×Int)} {i:Nat} {x:Int×Int} (h:A[i]?=some x):(A.take (i+1)).filter p=(A.take i).filter p++if p x then [x] else []:=by
  rw [List.take_add_one,h,List.filter_append]
  congr 1
  simp [List.filter]
  cases p x <;> rfl
theorem any_take {p:Int×Int→Bool} {A:List (Int×Int)} {i:Nat} {x:Int×Int} (h:A[i]?=some x):(A.take (i+1)).any p=((A.take i).any p||p x):=by
  rw [List.take_add_one,h,List.any_append]
  simp
theorem filt_len {p:Int×Int→Bool} {A:List (Int×Int)} (i:Nat):((A.take i).filter p).length≤A.length:=Nat.le_trans (List.length_filter_le _ _) (by rw [List.length_take];omega)
set_option maxHeartbeats 4000000 in
theorem rMax_any {b:Nat} {cs:List Cls} {ps:List Plc} {W:World} (h:RAt b cs W) (ht:TwW cs ps) (hJ:WJ ps) (c E:Int) (nm ds:ByteArray) (A:List (Int×Int)) (hA:A.length≤300)
    (hC:∀ w,Below W.heap.size W w→Calls Tryz.prog 95 #[.pointer (some ⟨b,0,none⟩),.int .i64 c,.string nm,.string ds] w fun e w'=>(∃ v,e=.returned (.tuple #[v,.int .i64 E])∧w'.ownsRow w.heap.size 60 2 v A.length (flatD A))∧Below w.heap.size w w') :
    Calls Tryz.prog 44 #[.pointer (some ⟨b,0,none⟩),.int .i64 c,.string nm,.string ds] W fun e w'=>(∃ v,e=.returned (.tuple #[v,.int .i64 E])∧w'.ownsRow W.heap.size 60 2 v (maxL ps A).length (flatD (maxL ps A)))∧Below W.heap.size W w':=by
  obtain ⟨i0,hi0,hz0,hz1,hz2⟩:=info_parts Tryz.hinfoD
  have HW0:Hid (RAt b cs W):=h
  have HTW:Hid (TwW cs ps):=ht
  have HWJ:Hid (WJ ps):=hJ
  obtain ⟨K,hK⟩:∃ K,A.length=K:=⟨_,rfl⟩
  have HK:Hid (A.length=K):=hK
  have HC:Hid (∀ w,Below W.heap.size W w→Calls Tryz.prog 95 #[.pointer (some ⟨b,0,none⟩),.int .i64 c,.string nm,.string ds] w fun e w'=>(∃ v,e=.returned (.tuple #[v,.int .i64 E])∧w'.ownsRow w.heap.size 60 2 v A.length (flatD A))∧Below w.heap.size w w'):=hC
  have HML:Hid (maxL ps A=A.filter fun m=>!overB ps A m):=rfl
  rw [hK] at hA
  clear h ht hJ hK hC
  go_enter Tryz.func44,Tryz.ntmps44
  go_wp2_with (first
    | (go_at_call 95;refine (HC.out _ (Below.refl _ _)).mono ?_;rintro e w1 ⟨⟨v,rfl,ho⟩,hb⟩;rw [HK.out] at ho;obtain ⟨ca,cc,rfl⟩:=ownv ho;have O1:Hid (w1.ownsRow W.heap.size 60 2 (.slice ca K cc) K (flatD A)):=ho;have B1:Hid (Below W.heap.size W w1):=hb;have HW1:Hid (RAt b cs w1):=HW0.out.below hb;clear ho hb HC))
  go_loopw [12,13] (fun sv kv wr=>∃ (i:Nat),kv=.int .i64 i∧i≤K∧Hid (wr.ownsRow w1.heap.size 60 2 sv ((A.take i).filter fun m=>!overB ps A m).length (flatD ((A.take i).filter fun m=>!overB ps A m)))∧Hid (Below w1.heap.size w1 wr)) (fun _ kv _=>K - (intOf kv).toNat)
  case atStart=>exact ⟨0,rfl,Nat.zero_le _,World.ownsRow_nil _ _ _ _,Below.refl _ _⟩
  case round =>
    obtain ⟨i,rfl,hi,hO,hB⟩:=hrel
    by_cases hlt:i<K
    · have hiA:i<A.length:=by rw [HK.out];exact hlt
      obtain ⟨x,hx⟩:∃ x,A[i]?=some x:=⟨_,List.getElem?_eq_getElem hiA⟩
      have hst:=filt_take (p:=fun m=>!overB ps A m) hx
      have hal:((A.take i).filter fun m=>!overB ps A m).length≤300:=Nat.le_trans (filt_len i) (by rw [HK.out];exact hA)
      obtain ⟨g,c2,hform⟩:=Go.Joins.ownsRow_form O1.out (by omega)
      have HROW:Hid (w1.ownsRow W.heap.size 60 2 (.slice (some ⟨g,0,none⟩) A.length cc) A.length (flatD A)):=by
        have hrow:=O1.out
        injection hform with hca _ _
        rw [Hid,HK.out,← hca];exact hrow
      injection hform with hca _ hcc
      subst hca
      obtain ⟨e0,e1,hgl⟩:=rowD_cells HROW.out hx
      have hgr:g<wr.heap.size:=Nat.lt_of_lt_of_le hgl hB.out.size
      replace e0:=(hB.out.cell (p:=⟨g,i * 2,none⟩) hgl).trans e0
      replace e1:=(hB.out.cell (p:=⟨g,i * 2+1,none⟩) hgl).trans e1
      obtain ⟨L,hL⟩:∃ L,((A.take i).filter fun m=>!overB ps A m)=L:=⟨_,rfl⟩
      rw [hL] at hst hal hO
      obtain ⟨va,vn,rfl⟩:=ownv hO.out
      have HRr:Hid (RAt b cs wr):=HW1.out.below hB.out
      have HST:Hid (List.filter (fun m=>!overB ps A m) (List.take (i+1) A)=L++if !overB ps A x then [x] else []):=hst
      have HOV:Hid (overB ps A x=A.any (overP ps x)):=overB_eq ps A x
      obtain ⟨x1,x2⟩:=x
      have HXI:Hid (A[i]?=some (x1,x2)):=hx
      simp only at e0 e1
      clear hst hL hx hiA hcc
      obtain ⟨wo,hwo⟩:∃ x,x=wr:=⟨_,rfl⟩
      subst hwo
      go_wp2
      obtain ⟨σ,V,hne,V1,V2⟩:=class_of' (fun w'=>Below wo.heap.size wo w') ⟨_,Below.refl _ _⟩
      have kp:∀ (s:σ) (bb j:Nat) (v:Value),bb<wo.heap.size→wo.cell? ⟨bb,j,none⟩=some v→(V s).cell? ⟨bb,j,none⟩=some v:=fun s bb j v hl h=>((V1.out s).cell (p:=⟨bb,j,none⟩) hl).trans h
      have KP:Hid _:=kp
      have e0s:=fun s=>kp s _ _ _ hgr e0
      clear kp
      have hiI:(i:Int)<(K:Int):=by omega
      go_loopw [14,15] (fun lv jv wr=>∃ (j:Nat),jv=.int .i64 j∧j≤K∧lv=.bool (!((A.take j).any (overP ps (x1,x2))))∧Hid (Below wo.heap.size wo wr)) (fun _ jv _=>K - (intOf jv).toNat)
      case atStart=>exact ⟨0,rfl,Nat.zero_le _,rfl,Below.refl _ _⟩
      case round =>
        obtain ⟨j,rfl,hj,rfl,hB2⟩:=hrel
        by_cases hlj:j<K
        · have hjA:j<A.length:=by rw [HK.out];exact hlj
          obtain ⟨y,hy⟩:∃ y,A[j]?=some y:=⟨_,List.getElem?_eq_getElem hjA⟩
          obtain ⟨d0,_,_⟩:=rowD_cells HROW.out hy
          replace d0:=(hB.out.cell (p:=⟨g,j * 2,none⟩) hgl).trans d0
          have d0s:=fun s=>KP.out s _ _ _ hgr d0
          have hat:=any_take (p:=overP ps (x1,x2)) hy
          obtain ⟨y1,y2⟩:=y
          have HAT:Hid (List.any (List.take (j+1) A) (overP ps (x1,x2))=(List.any (List.take j A) (overP ps (x1,x2))||(!(y1 == x1)&&extI ps y1 x1))):=hat
          generalize List.any (List.take j A) (overP ps (x1,x2))=z at *
          have hjI:(j:Int)<(K:Int):=by omega
          simp only at d0s
          have HE:Hid (∀ s,Calls Tryz.prog 96 #[.pointer (some ⟨b,0,none⟩),.int .i64 y1,.int .i64 x1] (V s) fun e w''=>e=.returned (.bool (extI ps y1 x1))∧∃ s',w''=V s'):=fun s=>(rExtends_c (HRr.out.below (V1.out s)) HTW.out HWJ.out y1 x1).mono fun e w'' zz=>⟨zz.1,V2.out _ (bstep (V1.out s) zz.2)⟩
          generalize extI ps y1 x1=ex at *
          clear hy hjA hat d0 HST HOV HXI hO O1 e0 e1
          by_cases hxy:y1=x1
          · subst hxy
            have hnn:(y1 != y1)=false:=by simp
            have HNX:Hid (List.any (List.take (j+1) A) (overP ps (y1,x2))=z):=by rw [Hid,HAT.out];simp
            clear HAT
            go_wp2
            refine wp_region_class (C:=fun w'=>∃ s,w'=V s) (by kernel_rfl) (by kernel_rfl) (V2.out _ (hB2.out.drew)) ?_
            repeat (go_big_quiet_step ((go_at_call 0;skip)))
            refine wpQuiet_nil ?_
            intro w9 hw9
            obtain ⟨s9,rfl⟩:=hw9
            have B9:Hid (Below wo.heap.size wo (V s9)):=V1.out s9
            go_wp2
            go_roundw
            case rel=>exact ⟨j+1,by go_num,by omega,by rw [HNX.out],B9⟩
            case measure=>simp [intOf];omega
          · have hnn:(y1 != x1)=true:=by simpa using hxy
            have HNX:Hid (List.any (List.take (j+1) A) (overP ps (x1,x2))=(z||ex)):=by rw [Hid,HAT.out,beq_false_of_ne hxy];simp
            clear HAT hxy
            cases ex
            all_goals
              go_wp2
              refine wp_region_class (C:=fun w'=>∃ s,w'=V s) (by kernel_rfl) (by kernel_rfl) (V2.out _ (hB2.out.drew)) ?_
              repeat (go_big_quiet_step ((go_at_call 96;exact HE.out _)))
              refine wpQuiet_nil ?_
              intro w9 hw9
              obtain ⟨s9,rfl⟩:=hw9
              have B9:Hid (Below wo.heap.size wo (V s9)):=V1.out s9
              go_wp2
              go_roundw
              case rel=>exact ⟨j+1,by go_num,by omega,by rw [HNX.out];simp,B9⟩
              case measure=>simp [intOf];omega
        · have e:j=K:=by omega
          subst e
          have HAL:Hid (List.any (List.take j A) (overP ps (x1,x2))=overB ps A (x1,x2)):=by rw [Hid,HOV.out,List.take_of_length_le (by rw [HK.out];exact Nat.le_refl _)]
          rw [HAL.out]
          have f0:=(hB2.out.cell (p:=⟨g,i * 2,none⟩) hgr).trans e0
          have f1:=(hB2.out.cell (p:=⟨g,i * 2+1,none⟩) hgr).trans e1
          have O2:Hid (wr.ownsRow w1.heap.size 60 2 (.slice va L.length vn) L.length (flatD L)):=rowBelow hO.out hB2.out
          have B2:Hid (Below w1.heap.size w1 wr):=bstep hB.out hB2.out
          have hgw:g<wr.heap.size:=Nat.lt_of_lt_of_le hgr hB2.out.size
          have hgn:¬ g=wr.heap.size:=by omega
          clear HAL HOV e0 e1 e0s hO KP V1 V2 hB hB2
          generalize overB ps A (x1,x2)=ov at *
          cases ov with
          | true =>
            have hst2:List.filter (fun m=>!overB ps A m) (List.take (i+1) A)=L:=by rw [HST.out];simp
            clear HST
            go_wp2
            refine ⟨⟨i+1,by simp,by omega,?_,B2⟩,by simp [intOf];omega⟩
            rw [hst2];exact O2
          | false =>
            have hst2:List.filter (fun m=>!overB ps A m) (List.take (i+1) A)=L++[(x1,x2)]:=by rw [HST.out];simp
            clear HST
            go_wp2_with (first
              | (at_builtin;refine wpList_append_own _ rfl _ _ 70 rfl w1.heap.size 60 i0 (.agg #[.int .i64 0,.int .i64 0]) 2 16 Tryz.underlying70 hi0 hz0 hz1 hz2 rfl (by decide) (.slice va L.length vn) L.length (flatD L) rfl (O2.out.alloc _) ⟨wr.heap.size,0,none⟩ 1 1 [.int .i64 x1,.int .i64 x2] rfl rfl ?c1 ?c2 ?c3 ?c4 ?c5 ?_))
            case c1=>intro jj u hj;rw [addr_add];match jj,hj with
              | 0,hj=>simp at hj;subst hj;simp [go_sem]
              | 1,hj=>simp at hj;subst hj;simp [go_sem]
              | (jj+2),hj=>simp at hj
            case c2=>intro u hu;simp at hu;rcases hu with rfl|rfl <;> rfl
            case c3=>unfold maxLen;omega
            case c4=>omega
            case c5=>have:=B2.out.size;simp;omega
            intro v' w4 hown hgrow _
            obtain ⟨va2,vn2,rfl⟩:=ownv hown
            have B4:Hid (Below w1.heap.size w1 w4):=by
              have hb1:Below w1.heap.size w1 (wr.alloc (.cells #[.int .i64 x1,.int .i64 x2] 60)):=B2.out.alloc B2.out.size _
              refine hb1.grown hgrow hb1.size (fun x hx=>?_)
              have:=(O2.out.lt x hx).1
              omega
            have O4:Hid (w4.ownsRow w1.heap.size 60 2 (.slice va2 (L.length+1) vn2) (L++[(x1,x2)]).length (flatD (L++[(x1,x2)]))):=by
              rw [Hid,List.length_append,flatD_app];exact hown
            go_wp2
            refine ⟨⟨i+1,by simp,by omega,?_,B4⟩,by simp [intOf];omega⟩
            rw [hst2];exact O4
    · have e:i=K:=by omega
      subst e
      have HE:Hid (((A.take i).filter fun m=>!overB ps A m)=maxL ps A):=by rw [Hid,HML.out,List.take_of_length_le (by rw [HK.out];exact Nat.le_refl _)]
      rw [HE.out] at hO
      obtain ⟨va,vn,rfl⟩:=ownv hO.out
      go_wp2
      exact bodyPost_ret (results_tmp2 rfl _ _ _) rfl ⟨⟨_,rfl,Go.Joins.ownsRow_le hO.out B1.out.size⟩,B1.out.trans (hB.out.mono B1.out.size)⟩
theorem clss_kp {w w':World} {v:Value} {l:List Cls} (h:IsClss w v l) (hb:Below w.heap.size w w'):IsClss w' v l:=by
  obtain ⟨ao,cap,rfl,h1,h2,h3⟩:=h
  refine ⟨ao,cap,rfl,h1,h2,fun hne=>?_⟩
  obtain ⟨bk,o,e,hlt,hc⟩:=h3 hne
  refine ⟨bk,o,e,Nat.lt_of_lt_of_le hlt hb.size,fun k c hk=>?_⟩
  obtain ⟨vi,vm,h4,h5⟩:=hc k c hk
  exact ⟨vi,vm,fun j u hj=>(hb.cell hlt).trans (h4 j u hj),h5.keep hb⟩
theorem wi_cl {ps:List Plc} (hW:WI ps) {j:Nat} {r:Plc} (hr:ps[j]?=some r):r.cl.length≤ps.length:=by
  have hj:=(List.getElem?_eq_some_iff.1 hr).1
  have e:clO (ps.map nd) j=r.cl:=by rw [clO,nd_at' hr];rfl
  refine nodup_lt_len _ _ (by rw [← e];exact cl_nodup hW.wo j) (fun i hi=>?_)
  rw [← e] at hi
  have:=(cl_facts hW.wo hi).1
  omega
set_option maxHeartbeats 8000000 in
theorem mkeeps_w (ps:List Plc) (cs:List Cls) (W:World) (v:Value) (c E:Int) (nm ds:ByteArray) (K1 K2:Nat) (F1 F2:List Value) (hK1:K1≤1000000) (hK2:K2≤1000000) (HB:Hid (∀ w:World,Below W.heap.size W w→Calls Tryz.prog 41 #[v] w fun e w'=>(∃ b,e=.returned (.pointer (some ⟨b,0,none⟩))∧WAt b ps w')∧Below w.heap.size w w')) (HO:Hid (∀ w:World,Below W.heap.size W w→Calls Tryz.prog 35 #[v] w fun e w'=>(∃ b,e=.returned (.pointer (some ⟨b,0,none⟩))∧RAt b cs w')∧Below w.heap.size w w')) (C1:Hid (∀ b w,WAt b ps w→Calls Tryz.prog 42 #[.pointer (some ⟨b,0,none⟩),.int .i64 c,.string nm,.string ds] w fun e w'=>(∃ v,e=.returned (.tuple #[v,.int .i64 E])∧w'.ownsRow w.heap.size 60 2 v K1 F1)∧Below w.heap.size w w')) (M1:Hid (∀ b w,WAt b ps w→Calls Tryz.prog 43 #[.pointer (some ⟨b,0,none⟩),.int .i64 c,.string nm,.string ds] w fun e w'=>(∃ v,e=.returned (.tuple #[v,.int .i64 E])∧w'.ownsRow w.heap.size 60 2 v K2 F2)∧Below w.heap.size w w')) (M4:Hid (∀ b w,RAt b cs w→Calls Tryz.prog 44 #[.pointer (some ⟨b,0,none⟩),.int .i64 c,.string nm,.string ds] w fun e w'=>(∃ v,e=.returned (.tuple #[v,.int .i64 E])∧w'.ownsRow w.heap.size 60 2 v K2 F2)∧Below w.heap.size w w')) (HS1:Hid (∀ N1 N2 v1 v2 (w:World),w.ownsRow N1 60 2 v1 K2 F2→w.ownsRow N2 60 2 v2 K2 F2→Calls Tryz.prog 36 #[v1,v2] w fun e w'=>e=.returned (.bool true)∧Below w.heap.size w w')) :
    Calls Tryz.prog 6 #[v,.int .i64 c,.string nm,.string ds] W fun e w'=>e=.returned (.bool true)∧Below W.heap.size W w':=by
  have HA:Hid (∀ w:World,Calls Tryz.prog 40 #[] w fun e w'=>e=.returned (.bool true)∧Below w.heap.size w w'):=awake10_c
  have BB:Hid (Below W.heap.size W W):=Below.refl _ _
  have M2:=M1
  have M3:=M1
  have HS2:=HS1
  have HS3:=HS1
  have HN1:Hid (∀ w:World,Calls Tryz.prog 42 #[.pointer none,.int .i64 c,.string nm,.string ds] w fun e w'=>e=.returned (.tuple #[.slice none 0 0,.int .i64 2])∧Below w.heap.size w w'):=fun w=>candn_c w c nm ds
  have HN2:Hid (∀ w:World,Calls Tryz.prog 43 #[.pointer none,.int .i64 c,.string nm,.string ds] w fun e w'=>e=.returned (.tuple #[.slice none 0 0,.int .i64 2])∧Below w.heap.size w w'):=fun w=>maxn_c w c nm ds
  have HN3:Hid (∀ w:World,Calls Tryz.prog 45 #[.pointer none,.int .i64 c,.string nm,.string ds] w fun e w'=>e=.returned (.tuple #[.agg #[.int .i64 0,.int .i64 0],.int .i64 2])∧Below w.heap.size w w'):=fun w=>onen_c w c nm ds
  have HN4:Hid (∀ w:World,Calls Tryz.prog 46 #[.pointer none,.int .i64 c,.string nm,.string ds] w fun e w'=>e=.returned (.tuple #[.agg #[.int .i64 0,.int .i64 0],.int .i64 2])∧Below w.heap.size w w'):=fun w=>somen_c w c nm ds
  obtain ⟨i0,hi0,hz0,hz1,hz2⟩:=info_parts Tryz.hinfoD
  go_enter Tryz.func6,Tryz.ntmps6
  go_wp2_with (go_at_call 40;refine (HA.out _).mono ?_;rintro e w1 ⟨rfl,hb⟩;have BB2:Below W.heap.size W w1:=bstep (by repeat (first|refine Below.setCell ?_ (by simp;try omega) _|refine Below.alloc ?_ (by have:=BB.out.size;simp;try omega) _|refine Below.drew ?_|exact BB.out)) hb;clear BB;have BB:Hid (Below W.heap.size W w1):=BB2;clear BB2;clear hb HA)
  go_wp2_with (go_at_call 41;refine (HB.out _ BB.out).mono ?_;rintro e w2 ⟨⟨b,rfl,hw⟩,hb⟩;have HH:Hid (WAt b ps w2):=hw;have BB2:Below W.heap.size W w2:=bstep (by repeat (first|refine Below.setCell ?_ (by simp;try omega) _|refine Below.alloc ?_ (by have:=BB.out.size;simp;try omega) _|refine Below.drew ?_|exact BB.out)) hb;clear BB;have BB:Hid (Below W.heap.size W w2):=BB2;clear BB2;clear hb HB hw)
  go_wp2_with (go_at_call 35;refine (HO.out _ BB.out).mono ?_;rintro e w3 ⟨⟨bx,rfl,hw⟩,hb⟩;have hh:=HH.out.below hb;have HW:Hid (∀ w,Below w3.heap.size w3 w→WAt b ps w):=fun w hx=>hh.below hx;have HR:Hid (∀ w,Below w3.heap.size w3 w→RAt bx cs w):=fun w hx=>hw.below hx;have BB2:Below W.heap.size W w3:=bstep (by repeat (first|refine Below.setCell ?_ (by simp;try omega) _|refine Below.alloc ?_ (by have:=BB.out.size;simp;try omega) _|refine Below.drew ?_|exact BB.out)) hb;clear BB;have BB:Hid (Below W.heap.size W w3):=BB2;clear BB2;have D:Hid (Below w3.heap.size w3 w3):=Below.refl _ _;clear hb HO hw HH hh)
  go_wp2_with (go_at_call 42;refine (C1.out _ _ (HW.out _ D.out)).mono ?_;rintro e w4 ⟨⟨v9,rfl,ho⟩,hb⟩;obtain ⟨la,lc,rfl⟩:=ownv ho;have RL:Hid (w4.ownsRow w3.heap.size 60 2 (.slice la K1 lc) K1 F1):=ho;have GL:Hid (∀ k,(Value.slice la K1 lc).ownBlock=some k→w3.heap.size≤k∧k<w4.heap.size):=ho.lt;have S4:w3.heap.size≤w4.heap.size:=hb.size;have D2:Below w3.heap.size w3 w4:=bstep (by repeat (first|refine Below.setCell ?_ (by simp;try omega) _|refine Below.alloc ?_ (by have:=D.out.size;simp;try omega) _|refine Below.drew ?_|exact D.out)) hb;clear D;have D:Hid (Below w3.heap.size w3 w4):=D2;clear D2;clear hb ho C1)
  go_wp2_with (go_at_call 43;refine (M1.out _ _ (HW.out _ D.out)).mono ?_;rintro e w5 ⟨⟨v9,rfl,ho⟩,hb⟩;obtain ⟨ma,mc,rfl⟩:=ownv ho;have RM:Hid (w5.ownsRow w4.heap.size 60 2 (.slice ma K2 mc) K2 F2):=ho;have GM:Hid (∀ k,(Value.slice ma K2 mc).ownBlock=some k→w4.heap.size≤k∧k<w5.heap.size):=ho.lt;have S5:w4.heap.size≤w5.heap.size:=hb.size;have Z9:=rowBelow RL.out hb;clear RL;have RL:Hid (w5.ownsRow w3.heap.size 60 2 (.slice la K1 lc) K1 F1):=Z9;clear Z9;have D2:Below w3.heap.size w3 w5:=bstep (by repeat (first|refine Below.setCell ?_ (by simp;try omega) _|refine Below.alloc ?_ (by have:=D.out.size;simp;try omega) _|refine Below.drew ?_|exact D.out)) hb;clear D;have D:Hid (Below w3.heap.size w3 w5):=D2;clear D2;clear hb ho M1)
  go_wp2_with (go_at_call 43;refine (M2.out _ _ (HW.out _ D.out)).mono ?_;rintro e w6 ⟨⟨v9,rfl,ho⟩,hb⟩;obtain ⟨na,nc,rfl⟩:=ownv ho;have RN:Hid (w6.ownsRow w5.heap.size 60 2 (.slice na K2 nc) K2 F2):=ho;have S6:w5.heap.size≤w6.heap.size:=hb.size;have Z9:=rowBelow RL.out hb;clear RL;have RL:Hid (w6.ownsRow w3.heap.size 60 2 (.slice la K1 lc) K1 F1):=Z9;clear Z9;have Z9:=rowBelow RM.out hb;clear RM;have RM:Hid (w6.ownsRow w4.heap.size 60 2 (.slice ma K2 mc) K2 F2):=Z9;clear Z9;have D2:Below w3.heap.size w3 w6:=bstep (by repeat (first|refine Below.setCell ?_ (by simp;try omega) _|refine Below.alloc ?_ (by have:=D.out.size;simp;try omega) _|refine Below.drew ?_|exact D.out)) hb;clear D;have D:Hid (Below w3.heap.size w3 w6):=D2;clear D2;clear hb ho M2)
  go_wp2_with (go_at_call 44;refine (M4.out _ _ (HR.out _ D.out)).mono ?_;rintro e w7 ⟨⟨v9,rfl,ho⟩,hb⟩;obtain ⟨ta,tc,rfl⟩:=ownv ho;have RT:Hid (w7.ownsRow w6.heap.size 60 2 (.slice ta K2 tc) K2 F2):=ho;have Z9:=rowBelow RL.out hb;clear RL;have RL:Hid (w7.ownsRow w3.heap.size 60 2 (.slice la K1 lc) K1 F1):=Z9;clear Z9;have Z9:=rowBelow RM.out hb;clear RM;have RM:Hid (w7.ownsRow w4.heap.size 60 2 (.slice ma K2 mc) K2 F2):=Z9;clear Z9;have Z9:=rowBelow RN.out hb;clear RN;have RN:Hid (w7.ownsRow w5.heap.size 60 2 (.slice na K2 nc) K2 F2):=Z9;clear Z9;have D2:Below w3.heap.size w3 w7:=bstep (by repeat (first|refine Below.setCell ?_ (by simp;try omega) _|refine Below.alloc ?_ (by have:=D.out.size;simp;try omega) _|refine Below.drew ?_|exact D.out)) hb;clear D;have D:Hid (Below w3.heap.size w3 w7):=D2;clear D2;clear hb ho M4)
  go_wp2_with (go_at_call 36;refine (HS1.out _ _ _ _ _ RN.out RT.out).mono ?_;rintro e w8 ⟨rfl,hb⟩;have Z9:=rowBelow RL.out hb;clear RL;have RL:Hid (w8.ownsRow w3.heap.size 60 2 (.slice la K1 lc) K1 F1):=Z9;clear Z9;have Z9:=rowBelow RM.out hb;clear RM;have RM:Hid (w8.ownsRow w4.heap.size 60 2 (.slice ma K2 mc) K2 F2):=Z9;clear Z9;have Z9:=rowBelow RN.out hb;clear RN;have RN:Hid (w8.ownsRow w5.heap.size 60 2 (.slice na K2 nc) K2 F2):=Z9;clear Z9;have Z9:=rowBelow RT.out hb;clear RT;have RT:Hid (w8.ownsRow w6.heap.size 60 2 (.slice ta K2 tc) K2 F2):=Z9;clear Z9;have D2:Below w3.heap.size w3 w8:=bstep (by repeat (first|refine Below.setCell ?_ (by simp;try omega) _|refine Below.alloc ?_ (by have:=D.out.size;simp;try omega) _|refine Below.drew ?_|exact D.out)) hb;clear D;have D:Hid (Below w3.heap.size w3 w8):=D2;clear D2;clear hb HS1)
  go_loopw [19] (fun iv wr=>∃ i:Nat,iv=.int .i64 i∧i≤K1∧Hid ((∃ xs,wr.ownsRow w3.heap.size 60 2 (.slice la K1 lc) K1 xs)∧wr.ownsRow w4.heap.size 60 2 (.slice ma K2 mc) K2 F2∧wr.ownsRow w5.heap.size 60 2 (.slice na K2 nc) K2 F2∧wr.ownsRow w6.heap.size 60 2 (.slice ta K2 tc) K2 F2∧Below w3.heap.size w3 wr)) (fun iv _=>K1 - (intOf iv).toNat)
  case atStart=>exact ⟨0,rfl,Nat.zero_le _,⟨_,RL.out⟩,RM.out,RN.out,RT.out,D.out⟩
  case round =>
    obtain ⟨i,rfl,hi,hI⟩:=hrel
    clear RL RM RN RT D
    obtain ⟨⟨xs,h1⟩,h2,h3,h4,h5⟩:=hI.out
    clear hI
    by_cases hlt:i<K1
    · skip
      have hiI:(i:Int)<(K1:Int):=by omega
      obtain ⟨g,cp,hf⟩:=Go.Joins.ownsRow_form h1 (by omega)
      injection hf with e1 _ e2
      subst e1 e2
      obtain ⟨g1,g2⟩:=GL.out g rfl
      have hlen:xs.length=K1 * 2:=h1.1
      have x0:=(h1.cellAt (i * 2) (by omega)).trans (List.getElem?_eq_getElem (by omega))
      have x1:=(h1.cellAt (i * 2+1) (by omega)).trans (List.getElem?_eq_getElem (by omega))
      generalize xs[i * 2]=y0 at x0
      generalize xs[i * 2+1]=y1 at x1
      have xf:∀ k,wr.frozen? ⟨g,k,none⟩=false:=fun k=>h1.frozenAt k
      have xL:g<wr.heap.size:=(h1.lt g rfl).2
      have NX:Hid ((∃ xs,((wr.setCell ⟨g,i * 2,none⟩ (.int .i64 (-9))).setCell ⟨g,i * 2+1,none⟩ (.int .i64 (-9))).ownsRow w3.heap.size 60 2 (.slice (some ⟨g,0,none⟩) K1 lc) K1 xs)∧((wr.setCell ⟨g,i * 2,none⟩ (.int .i64 (-9))).setCell ⟨g,i * 2+1,none⟩ (.int .i64 (-9))).ownsRow w4.heap.size 60 2 (.slice ma K2 mc) K2 F2∧((wr.setCell ⟨g,i * 2,none⟩ (.int .i64 (-9))).setCell ⟨g,i * 2+1,none⟩ (.int .i64 (-9))).ownsRow w5.heap.size 60 2 (.slice na K2 nc) K2 F2∧((wr.setCell ⟨g,i * 2,none⟩ (.int .i64 (-9))).setCell ⟨g,i * 2+1,none⟩ (.int .i64 (-9))).ownsRow w6.heap.size 60 2 (.slice ta K2 tc) K2 F2∧Below w3.heap.size w3 ((wr.setCell ⟨g,i * 2,none⟩ (.int .i64 (-9))).setCell ⟨g,i * 2+1,none⟩ (.int .i64 (-9)))):=by
        have s1:=h1.stored (i * 2) (.int .i64 (-9))
        have s2:=s1.1.stored (i * 2+1) (.int .i64 (-9))
        have gk:∀ k,(Value.slice (some ⟨g,0,none⟩) K1 lc).ownBlock=some k→w3.heap.size≤k∧k<w4.heap.size:=GL.out
        refine ⟨⟨_,s2.1⟩,?_,?_,?_,(h5.setCell (by simp;omega) _).setCell (by simp;omega) _⟩
        · have q:=own_far h2 (fun k a1 a2=>by have p1:=GM.out k a1;have p2:=gk k a2;omega) s1.2
          exact own_far q (fun k a1 a2=>by have p1:=GM.out k a1;have p2:=gk k a2;omega) s2.2
        · have q:=own_far h3 (fun k a1 a2=>by have p1:=(h3.lt k a1).1;have p2:=gk k a2;omega) s1.2
          exact own_far q (fun k a1 a2=>by have p1:=(h3.lt k a1).1;have p2:=gk k a2;omega) s2.2
        · have q:=own_far h4 (fun k a1 a2=>by have p1:=(h4.lt k a1).1;have p2:=gk k a2;omega) s1.2
          exact own_far q (fun k a1 a2=>by have p1:=(h4.lt k a1).1;have p2:=gk k a2;omega) s2.2
      clear h1 h2 h3 h4 h5 hlen
      go_wp2
      exact ⟨⟨i+1,by simp,by omega,NX.out⟩,by simp [intOf];omega⟩
    · have e:i=K1:=by omega
      subst e
      have RL:Hid (wr.ownsRow w3.heap.size 60 2 (.slice la i lc) i xs):=h1
      have RM:Hid (wr.ownsRow w4.heap.size 60 2 (.slice ma K2 mc) K2 F2):=h2
      have RN:Hid (wr.ownsRow w5.heap.size 60 2 (.slice na K2 nc) K2 F2):=h3
      have RT:Hid (wr.ownsRow w6.heap.size 60 2 (.slice ta K2 tc) K2 F2):=h4
      have D:Hid (Below w3.heap.size w3 wr):=h5
      clear h1 h2 h3 h4 h5 hlt hi
      obtain ⟨w9,rfl⟩:∃ w9,w9=wr:=⟨_,rfl⟩
      obtain ⟨K1,rfl⟩:∃ K1,K1=i:=⟨_,rfl⟩
      go_wp2
      go_loopw [20] (fun iv wr=>∃ i:Nat,iv=.int .i64 i∧i≤K2∧Hid (wr.ownsRow w3.heap.size 60 2 (.slice la K1 lc) K1 xs∧(∃ ys,wr.ownsRow w4.heap.size 60 2 (.slice ma K2 mc) K2 ys)∧wr.ownsRow w5.heap.size 60 2 (.slice na K2 nc) K2 F2∧wr.ownsRow w6.heap.size 60 2 (.slice ta K2 tc) K2 F2∧Below w3.heap.size w3 wr)) (fun iv _=>K2 - (intOf iv).toNat)
      case atStart=>exact ⟨0,rfl,Nat.zero_le _,RL.out,⟨_,RM.out⟩,RN.out,RT.out,D.out⟩
      case round =>
        obtain ⟨i,rfl,hi,hI⟩:=hrel
        clear RL RM RN RT D
        obtain ⟨h1,⟨ys,h2⟩,h3,h4,h5⟩:=hI.out
        clear hI
        by_cases hlt:i<K2
        · skip
          have hiI:(i:Int)<(K2:Int):=by omega
          obtain ⟨g,cp,hf⟩:=Go.Joins.ownsRow_form h2 (by omega)
          injection hf with e1 _ e2
          subst e1 e2
          obtain ⟨g1,g2⟩:=GM.out g rfl
          have hlen:ys.length=K2 * 2:=h2.1
          have x0:=(h2.cellAt (i * 2) (by omega)).trans (List.getElem?_eq_getElem (by omega))
          have x1:=(h2.cellAt (i * 2+1) (by omega)).trans (List.getElem?_eq_getElem (by omega))
          generalize ys[i * 2]=y0 at x0
          generalize ys[i * 2+1]=y1 at x1
          have xf:∀ k,wr.frozen? ⟨g,k,none⟩=false:=fun k=>h2.frozenAt k
          have xL:g<wr.heap.size:=(h2.lt g rfl).2
          have NX:Hid (((wr.setCell ⟨g,i * 2,none⟩ (.int .i64 (-8))).setCell ⟨g,i * 2+1,none⟩ (.int .i64 (-8))).ownsRow w3.heap.size 60 2 (.slice la K1 lc) K1 xs∧(∃ ys,((wr.setCell ⟨g,i * 2,none⟩ (.int .i64 (-8))).setCell ⟨g,i * 2+1,none⟩ (.int .i64 (-8))).ownsRow w4.heap.size 60 2 (.slice (some ⟨g,0,none⟩) K2 mc) K2 ys)∧((wr.setCell ⟨g,i * 2,none⟩ (.int .i64 (-8))).setCell ⟨g,i * 2+1,none⟩ (.int .i64 (-8))).ownsRow w5.heap.size 60 2 (.slice na K2 nc) K2 F2∧((wr.setCell ⟨g,i * 2,none⟩ (.int .i64 (-8))).setCell ⟨g,i * 2+1,none⟩ (.int .i64 (-8))).ownsRow w6.heap.size 60 2 (.slice ta K2 tc) K2 F2∧Below w3.heap.size w3 ((wr.setCell ⟨g,i * 2,none⟩ (.int .i64 (-8))).setCell ⟨g,i * 2+1,none⟩ (.int .i64 (-8)))):=by
            have s1:=h2.stored (i * 2) (.int .i64 (-8))
            have s2:=s1.1.stored (i * 2+1) (.int .i64 (-8))
            have gk:∀ k,(Value.slice (some ⟨g,0,none⟩) K2 mc).ownBlock=some k→w4.heap.size≤k∧k<w5.heap.size:=GM.out
            refine ⟨?_,⟨_,s2.1⟩,?_,?_,(h5.setCell (by simp;omega) _).setCell (by simp;omega) _⟩
            · have q:=own_far h1 (fun k a1 a2=>by have p1:=GL.out k a1;have p2:=gk k a2;omega) s1.2
              exact own_far q (fun k a1 a2=>by have p1:=GL.out k a1;have p2:=gk k a2;omega) s2.2
            · have q:=own_far h3 (fun k a1 a2=>by have p1:=(h3.lt k a1).1;have p2:=gk k a2;omega) s1.2
              exact own_far q (fun k a1 a2=>by have p1:=(h3.lt k a1).1;have p2:=gk k a2;omega) s2.2
            · have q:=own_far h4 (fun k a1 a2=>by have p1:=(h4.lt k a1).1;have p2:=gk k a2;omega) s1.2
              exact own_far q (fun k a1 a2=>by have p1:=(h4.lt k a1).1;have p2:=gk k a2;omega) s2.2
          clear h1 h2 h3 h4 h5 hlen
          go_wp2
          exact ⟨⟨i+1,by simp,by omega,NX.out⟩,by simp [intOf];omega⟩
        · have e:i=K2:=by omega
          subst e
          have RL:Hid (wr.ownsRow w3.heap.size 60 2 (.slice la K1 lc) K1 xs):=h1
          have RM:Hid (wr.ownsRow w4.heap.size 60 2 (.slice ma i mc) i ys):=h2
          have RN:Hid (wr.ownsRow w5.heap.size 60 2 (.slice na i nc) i F2):=h3
          have RT:Hid (wr.ownsRow w6.heap.size 60 2 (.slice ta i tc) i F2):=h4
          have D:Hid (Below w3.heap.size w3 wr):=h5
          clear h1 h2 h3 h4 h5 hlt hi
          obtain ⟨K2,rfl⟩:∃ K2,K2=i:=⟨_,rfl⟩
          go_wp2_with (at_builtin;refine wpList_append_own _ rfl _ _ 70 rfl w3.heap.size 60 i0 (.agg #[.int .i64 0,.int .i64 0]) 2 16 Tryz.underlying70 hi0 hz0 hz1 hz2 rfl (by decide) (.slice la K1 lc) K1 xs rfl (RL.out.alloc _) ⟨wr.heap.size,0,none⟩ 1 1 [.int .i64 7,.int .i64 0] rfl rfl ?c1 ?c2 ?c3 ?c4 ?c5 ?_)
          case c1=>exact World.news_of_block (cs:=#[.int .i64 7,.int .i64 0]) (halloc1 _ _)
          case c2=>intro u hu;simp at hu;rcases hu with rfl|rfl <;> rfl
          case c3=>unfold maxLen;omega
          case c4=>omega
          case c5=>have:=D.out.size;simp;omega
          intro v' w91 hown hgrow _
          obtain ⟨a9,c9,rfl⟩:=ownv hown
          have hD:Below w3.heap.size w3 w91:=by
            refine (D.out.alloc D.out.size _).grown hgrow (by have:=D.out.size;simp;omega) (fun z hz=>?_)
            exact (RL.out.lt z hz).1
          have hM:w91.ownsRow w4.heap.size 60 2 (.slice ma K2 mc) K2 ys:=own_far (RM.out.alloc _) (fun k a1 a2=>by have p1:=GM.out k a1;have p2:=GL.out k a2;omega) hgrow
          have hN:w91.ownsRow w5.heap.size 60 2 (.slice na K2 nc) K2 F2:=own_far (RN.out.alloc _) (fun k a1 a2=>by have p1:=(RN.out.lt k a1).1;have p2:=GL.out k a2;omega) hgrow
          have hT:w91.ownsRow w6.heap.size 60 2 (.slice ta K2 tc) K2 F2:=own_far (RT.out.alloc _) (fun k a1 a2=>by have p1:=(RT.out.lt k a1).1;have p2:=GL.out k a2;omega) hgrow
          clear RL RM RN RT D hown hgrow
          have RM:Hid (w91.ownsRow w4.heap.size 60 2 (.slice ma K2 mc) K2 ys):=hM
          have RN:Hid (w91.ownsRow w5.heap.size 60 2 (.slice na K2 nc) K2 F2):=hN
          have RT:Hid (w91.ownsRow w6.heap.size 60 2 (.slice ta K2 tc) K2 F2):=hT
          have D:Hid (Below w3.heap.size w3 w91):=hD
          clear hM hN hT hD
          go_wp2_with (at_builtin;refine wpList_append_own _ rfl _ _ 70 rfl w3.heap.size 60 i0 (.agg #[.int .i64 0,.int .i64 0]) 2 16 Tryz.underlying70 hi0 hz0 hz1 hz2 rfl (by decide) (.slice ma K2 mc) K2 ys rfl ((Go.Joins.ownsRow_le RM.out S4).alloc _) ⟨w91.heap.size,0,none⟩ 1 1 [.int .i64 7,.int .i64 0] rfl rfl ?c1 ?c2 ?c3 ?c4 ?c5 ?_)
          case c1=>exact World.news_of_block (cs:=#[.int .i64 7,.int .i64 0]) (halloc1 _ _)
          case c2=>intro u hu;simp at hu;rcases hu with rfl|rfl <;> rfl
          case c3=>unfold maxLen;omega
          case c4=>omega
          case c5=>have:=D.out.size;simp;omega
          intro v' w10 hown hgrow _
          obtain ⟨a10,c10,rfl⟩:=ownv hown
          have hD:Below w3.heap.size w3 w10:=by
            refine (D.out.alloc D.out.size _).grown hgrow (by have:=D.out.size;simp;omega) (fun z hz=>?_)
            have:=(RM.out.lt z hz).1
            omega
          have hN:w10.ownsRow w5.heap.size 60 2 (.slice na K2 nc) K2 F2:=own_far (RN.out.alloc _) (fun k a1 a2=>by have p1:=(RN.out.lt k a1).1;have p2:=GM.out k a2;omega) hgrow
          have hT:w10.ownsRow w6.heap.size 60 2 (.slice ta K2 tc) K2 F2:=own_far (RT.out.alloc _) (fun k a1 a2=>by have p1:=(RT.out.lt k a1).1;have p2:=GM.out k a2;omega) hgrow
          clear RM RN RT D hown hgrow
          have RN:Hid (w10.ownsRow w5.heap.size 60 2 (.slice na K2 nc) K2 F2):=hN
          have RT:Hid (w10.ownsRow w6.heap.size 60 2 (.slice ta K2 tc) K2 F2):=hT
          have D:Hid (Below w3.heap.size w3 w10):=hD
          clear hN hT hD
          have n1:¬ (K1:Int)+1=0:=by omega
          have n2:¬ (K2:Int)+1=0:=by omega
          have n3:((K1:Int)+1 == 0)=false:=by simp;omega
          have n4:((K2:Int)+1 == 0)=false:=by simp;omega
          go_wp2_with (go_at_call 43;refine (M3.out _ _ (HW.out _ D.out)).mono ?_;rintro e w11 ⟨⟨v9,rfl,ho⟩,hb⟩;obtain ⟨oa,oc,rfl⟩:=ownv ho;have RO:Hid (w11.ownsRow w10.heap.size 60 2 (.slice oa K2 oc) K2 F2):=ho;have Z9:=rowBelow RN.out hb;clear RN;have RN:Hid (w11.ownsRow w5.heap.size 60 2 (.slice na K2 nc) K2 F2):=Z9;clear Z9;have Z9:=rowBelow RT.out hb;clear RT;have RT:Hid (w11.ownsRow w6.heap.size 60 2 (.slice ta K2 tc) K2 F2):=Z9;clear Z9;have D2:Below w3.heap.size w3 w11:=bstep (by repeat (first|refine Below.setCell ?_ (by simp;try omega) _|refine Below.alloc ?_ (by have:=D.out.size;simp;try omega) _|refine Below.drew ?_|exact D.out)) hb;clear D;have D:Hid (Below w3.heap.size w3 w11):=D2;clear D2;clear hb ho M3)
          go_wp2_with (go_at_call 36;refine (HS2.out _ _ _ _ _ RN.out RT.out).mono ?_;rintro e w12 ⟨rfl,hb⟩;have Z9:=rowBelow RT.out hb;clear RT;have RT:Hid (w12.ownsRow w6.heap.size 60 2 (.slice ta K2 tc) K2 F2):=Z9;clear Z9;have Z9:=rowBelow RO.out hb;clear RO;have RO:Hid (w12.ownsRow w10.heap.size 60 2 (.slice oa K2 oc) K2 F2):=Z9;clear Z9;have D2:Below w3.heap.size w3 w12:=bstep (by repeat (first|refine Below.setCell ?_ (by simp;try omega) _|refine Below.alloc ?_ (by have:=D.out.size;simp;try omega) _|refine Below.drew ?_|exact D.out)) hb;clear D;have D:Hid (Below w3.heap.size w3 w12):=D2;clear D2;clear hb HS2)
          go_wp2_with (go_at_call 36;refine (HS3.out _ _ _ _ _ RO.out RT.out).mono ?_;rintro e w13 ⟨rfl,hb⟩;have D2:Below w3.heap.size w3 w13:=bstep (by repeat (first|refine Below.setCell ?_ (by simp;try omega) _|refine Below.alloc ?_ (by have:=D.out.size;simp;try omega) _|refine Below.drew ?_|exact D.out)) hb;clear D;have D:Hid (Below w3.heap.size w3 w13):=D2;clear D2;clear hb HS3)
          go_wp2_with (first|(go_at_call 42;refine (HN1.out _).mono ?_;rintro e w14 ⟨rfl,hb⟩;have D2:Below w3.heap.size w3 w14:=bstep (by repeat (first|refine Below.setCell ?_ (by simp;try omega) _|refine Below.alloc ?_ (by have:=D.out.size;simp;try omega) _|refine Below.drew ?_|exact D.out)) hb;clear D;have D:Hid (Below w3.heap.size w3 w14):=D2;clear D2;clear hb HN1)|(go_at_call 43;refine (HN2.out _).mono ?_;rintro e w15 ⟨rfl,hb⟩;have D2:Below w3.heap.size w3 w15:=bstep (by repeat (first|refine Below.setCell ?_ (by simp;try omega) _|refine Below.alloc ?_ (by have:=D.out.size;simp;try omega) _|refine Below.drew ?_|exact D.out)) hb;clear D;have D:Hid (Below w3.heap.size w3 w15):=D2;clear D2;clear hb HN2)|(go_at_call 45;refine (HN3.out _).mono ?_;rintro e w16 ⟨rfl,hb⟩;have D2:Below w3.heap.size w3 w16:=bstep (by repeat (first|refine Below.setCell ?_ (by simp;try omega) _|refine Below.alloc ?_ (by have:=D.out.size;simp;try omega) _|refine Below.drew ?_|exact D.out)) hb;clear D;have D:Hid (Below w3.heap.size w3 w16):=D2;clear D2;clear hb HN3)|(go_at_call 46;refine (HN4.out _).mono ?_;rintro e w17 ⟨rfl,hb⟩;have D2:Below w3.heap.size w3 w17:=bstep (by repeat (first|refine Below.setCell ?_ (by simp;try omega) _|refine Below.alloc ?_ (by have:=D.out.size;simp;try omega) _|refine Below.drew ?_|exact D.out)) hb;clear D;have D:Hid (Below w3.heap.size w3 w17):=D2;clear D2;clear hb HN4))
          go_ret
          exact ⟨rfl,bstep BB.out (by repeat (first|refine Below.setCell ?_ (by simp;try omega) _|refine Below.alloc ?_ (by have:=D.out.size;simp;try omega) _|refine Below.drew ?_|exact D.out))⟩
theorem MaxspecKeeps_any (v:Value) (l:List Cls) (c:Int) (nm ds:ByteArray) (W:World) (h:IsClss W v l) (_:nm.size≤maxLen) (_:ds.size≤maxLen):Calls Tryz.prog 6 #[v,.int .i64 c,.string nm,.string ds] W fun e w'=>e=.returned (.bool true)∧Below W.heap.size W w':=by
  have hCW:=clss_w h
  obtain ⟨hWI,hWJ⟩:=wld_wj l hCW
  have ht:=twW l hCW
  rcases plcI_cases (wld l) c with ⟨h1,_⟩|⟨k,q,rfl,h2,h1⟩
  · refine mkeeps_w _ _ W v c 3 nm ds 0 0 (flatD []) (flatD []) (by decide) (by decide) (fun w hb=>built10_c v l w (clss_kp h hb)) (fun w hb=>of_c v l w (clss_kp h hb)) ?_ ?_ ?_ (fun N1 N2 v1 v2 w r1 r2=>sameIDs_eq N1 N2 [] v1 v2 w r1 r2 (by decide))
    · exact fun b w hw=>(cand_no hw c h1 nm ds).mono fun e w' zz=>⟨⟨_,zz.1,World.ownsRow_nil _ _ _ _⟩,zz.2⟩
    · exact fun b w hw=>(max_no hw c h1 nm ds).mono fun e w' zz=>⟨⟨_,zz.1,World.ownsRow_nil _ _ _ _⟩,zz.2⟩
    · exact fun b w hw=>rMax_any hw ht hWJ c 3 nm ds [] (by decide) fun w' hb'=>(rCand_no (hw.below hb') ht c h1 nm ds).mono fun e w'' zz=>⟨⟨_,zz.1,World.ownsRow_nil _ _ _ _⟩,zz.2⟩
  · have hcb:(candL (wld l) nm ds q.cl).length≤300:=Nat.le_trans (candL_len (wld l) nm ds q.cl) (Nat.le_trans (wi_cl ht.wi h2) ht.wi.hi)
    have hmb:(maxL (wld l) (candL (wld l) nm ds q.cl)).length≤300:=Nat.le_trans (List.length_filter_le _ _) hcb
    refine mkeeps_w _ _ W v k 0 nm ds _ _ _ _ (by omega) (by omega) (fun w hb=>built10_c v l w (clss_kp h hb)) (fun w hb=>of_c v l w (clss_kp h hb)) (fun b w hw=>cand_yes hw hWI.pb hWI.hi k q h2 nm ds) (fun b w hw=>max_yes hw hWI k q h2 nm ds) (fun b w hw=>rMax_any hw ht hWJ k 0 nm ds _ hcb fun w' hb'=>rCand_yes (hw.below hb') ht hWJ k q h2 nm ds) (fun N1 N2 v1 v2 w r1 r2=>sameIDs_eq N1 N2 _ v1 v2 w r1 r2 (by omega))
end Go.Proofs.YtfjekhmnjfcbeaaGreat
