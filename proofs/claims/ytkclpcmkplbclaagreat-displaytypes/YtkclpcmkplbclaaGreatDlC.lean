import Derived.Test.YtkclpcmkplbclaaGreatRfF
import Derived.Test.YtkclpcmkplbclaaGreatRfH
import Derived.Test.YtkclpcmkplbclaaGreatRfT
import Derived.Test.YtkclpcmkplbclaaGreatArB
set_option maxRecDepth 100000
namespace Go.Proofs.YtkclpcmkplbclaaGreat
open Go.RowKit Go.Maps
set_option maxHeartbeats 4000000 in
theorem r15t_1 (W:World) (b:Nat) (s t:Int) (HI:Hid (∀ i w,Below W.heap.size W w→i=s→Calls Tryz.prog 84 #[.pointer (some ⟨b,0,none⟩),.int .i64 i] w fun e w'=>e=.returned (.bool false)∧w'=w)):Calls Tryz.prog 29 #[.pointer (some ⟨b,0,none⟩),.int .i64 s,.int .i64 t] W fun e w'=>e=.returned (.tuple #[.bool false,.int .i64 0,.int .i64 3])∧Below W.heap.size W w':=by
  go_enter Tryz.func29,Tryz.ntmps29
  go_wp2_with (first
    | (go_at_call 84;refine (HI.out _ _ (Below.refl _ _) (by rfl)).mono ?_;rintro e w9 ⟨rfl,hw9⟩;rw [hw9];clear hw9 w9 HI))
  exact bodyPost_ret (v:=.tuple #[.bool false,.int .i64 0,.int .i64 3]) (by simp [results,Tryz.results29,go_sem, *]) rfl ⟨rfl,Below.refl _ _⟩
set_option maxHeartbeats 4000000 in
theorem r15t_2 (W:World) (b:Nat) (s t:Int) (HI:Hid (∀ i w,Below W.heap.size W w→i=s→Calls Tryz.prog 84 #[.pointer (some ⟨b,0,none⟩),.int .i64 i] w fun e w'=>e=.returned (.bool true)∧w'=w)) (HJ:Hid (∀ i w,Below W.heap.size W w→i=t→Calls Tryz.prog 84 #[.pointer (some ⟨b,0,none⟩),.int .i64 i] w fun e w'=>e=.returned (.bool false)∧w'=w)):Calls Tryz.prog 29 #[.pointer (some ⟨b,0,none⟩),.int .i64 s,.int .i64 t] W fun e w'=>e=.returned (.tuple #[.bool false,.int .i64 0,.int .i64 3])∧Below W.heap.size W w':=by
  go_enter Tryz.func29,Tryz.ntmps29
  go_wp2_with (first
    | (go_at_call 84;refine (HI.out _ _ (Below.refl _ _) (by rfl)).mono ?_;rintro e w9 ⟨rfl,hw9⟩;rw [hw9];clear hw9 w9 HI)
    | (go_at_call 84;refine (HJ.out _ _ (Below.refl _ _) (by rfl)).mono ?_;rintro e w9 ⟨rfl,hw9⟩;rw [hw9];clear hw9 w9 HJ))
  exact bodyPost_ret (v:=.tuple #[.bool false,.int .i64 0,.int .i64 3]) (by simp [results,Tryz.results29,go_sem, *]) rfl ⟨rfl,Below.refl _ _⟩
set_option maxHeartbeats 4000000 in
theorem r15t_3 (W:World) (b:Nat) (s t:Int) (B:Bool) (HI:Hid (∀ i w,Below W.heap.size W w→i=s→Calls Tryz.prog 84 #[.pointer (some ⟨b,0,none⟩),.int .i64 i] w fun e w'=>e=.returned (.bool true)∧w'=w)) (HJ:Hid (∀ i w,Below W.heap.size W w→i=t→Calls Tryz.prog 84 #[.pointer (some ⟨b,0,none⟩),.int .i64 i] w fun e w'=>e=.returned (.bool true)∧w'=w)) (HX:Hid (∀ w,Below W.heap.size W w→Calls Tryz.prog 47 #[.pointer (some ⟨b,0,none⟩),.int .i64 s,.int .i64 t] w fun e w'=>(e=.returned (.bool B))∧Below w.heap.size w w')) (HF:Hid (∀ w,Below W.heap.size W w→Calls Tryz.prog 48 #[.pointer (some ⟨b,0,none⟩),.int .i64 t] w fun e w'=>(e=.returned (.bool false))∧Below w.heap.size w w')):Calls Tryz.prog 29 #[.pointer (some ⟨b,0,none⟩),.int .i64 s,.int .i64 t] W fun e w'=>e=.returned (.tuple #[.bool B,.int .i64 1,.int .i64 0])∧Below W.heap.size W w':=by
  go_enter Tryz.func29,Tryz.ntmps29
  go_wp2_with (first
    | (go_at_call 84;refine (HI.out _ _ (Below.refl _ _) (by rfl)).mono ?_;rintro e w9 ⟨rfl,hw9⟩;rw [hw9];clear hw9 w9 HI)
    | (go_at_call 84;refine (HJ.out _ _ (Below.refl _ _) (by rfl)).mono ?_;rintro e w9 ⟨rfl,hw9⟩;rw [hw9];clear hw9 w9 HJ)
    | (go_at_call 47;refine (HX.out _ (Below.refl _ _)).mono ?_;rintro e w1 ⟨rfl,hb⟩;have B1:Hid (Below W.heap.size W w1):=hb;clear hb HX)
    | (go_at_call 48;refine (HF.out _ B1.out).mono ?_;rintro e w2 ⟨rfl,hb⟩;have B2:Hid (Below W.heap.size W w2):=bstep B1.out hb;clear hb HF))
  exact bodyPost_ret (v:=.tuple #[.bool B,.int .i64 1,.int .i64 0]) (by simp [results,Tryz.results29,go_sem, *]) rfl ⟨rfl,B2.out⟩
set_option maxHeartbeats 4000000 in
theorem r15t_4 (W:World) (b:Nat) (s t:Int) (hst:s=t) (B:Bool) (HI:Hid (∀ i w,Below W.heap.size W w→i=s→Calls Tryz.prog 84 #[.pointer (some ⟨b,0,none⟩),.int .i64 i] w fun e w'=>e=.returned (.bool true)∧w'=w)) (HJ:Hid (∀ i w,Below W.heap.size W w→i=t→Calls Tryz.prog 84 #[.pointer (some ⟨b,0,none⟩),.int .i64 i] w fun e w'=>e=.returned (.bool true)∧w'=w)) (HX:Hid (∀ w,Below W.heap.size W w→Calls Tryz.prog 47 #[.pointer (some ⟨b,0,none⟩),.int .i64 s,.int .i64 t] w fun e w'=>(e=.returned (.bool B))∧Below w.heap.size w w')) (HF:Hid (∀ w,Below W.heap.size W w→Calls Tryz.prog 48 #[.pointer (some ⟨b,0,none⟩),.int .i64 t] w fun e w'=>(e=.returned (.bool true))∧Below w.heap.size w w')):Calls Tryz.prog 29 #[.pointer (some ⟨b,0,none⟩),.int .i64 s,.int .i64 t] W fun e w'=>e=.returned (.tuple #[.bool B,.int .i64 1,.int .i64 0])∧Below W.heap.size W w':=by
  subst hst
  go_enter Tryz.func29,Tryz.ntmps29
  go_wp2_with (first
    | (go_at_call 84;refine (HI.out _ _ (Below.refl _ _) (by rfl)).mono ?_;rintro e w9 ⟨rfl,hw9⟩;rw [hw9];clear hw9 w9 HI)
    | (go_at_call 84;refine (HJ.out _ _ (Below.refl _ _) (by rfl)).mono ?_;rintro e w9 ⟨rfl,hw9⟩;rw [hw9];clear hw9 w9 HJ)
    | (go_at_call 47;refine (HX.out _ (Below.refl _ _)).mono ?_;rintro e w1 ⟨rfl,hb⟩;have B1:Hid (Below W.heap.size W w1):=hb;clear hb HX)
    | (go_at_call 48;refine (HF.out _ B1.out).mono ?_;rintro e w2 ⟨rfl,hb⟩;have B2:Hid (Below W.heap.size W w2):=bstep B1.out hb;clear hb HF))
  exact bodyPost_ret (v:=.tuple #[.bool B,.int .i64 1,.int .i64 0]) (by simp [results,Tryz.results29,go_sem, *]) rfl ⟨rfl,B2.out⟩
set_option maxHeartbeats 4000000 in
theorem r15t_5 (W:World) (b:Nat) (s:Int) (t:Nat) (hst:¬ s=(t:Int)) (B:Bool) (C:List Nat) (K:Nat) (HN:Hid (C.length=K)) (hK:K≤1000000) (HI:Hid (∀ i w,Below W.heap.size W w→i=s→Calls Tryz.prog 84 #[.pointer (some ⟨b,0,none⟩),.int .i64 i] w fun e w'=>e=.returned (.bool true)∧w'=w)) (HJ:Hid (∀ i w,Below W.heap.size W w→i=(t:Int)→Calls Tryz.prog 84 #[.pointer (some ⟨b,0,none⟩),.int .i64 i] w fun e w'=>e=.returned (.bool true)∧w'=w)) (HX:Hid (∀ w,Below W.heap.size W w→Calls Tryz.prog 47 #[.pointer (some ⟨b,0,none⟩),.int .i64 s,.int .i64 (t:Int)] w fun e w'=>(e=.returned (.bool B))∧Below w.heap.size w w')) (HF:Hid (∀ w,Below W.heap.size W w→Calls Tryz.prog 48 #[.pointer (some ⟨b,0,none⟩),.int .i64 (t:Int)] w fun e w'=>(e=.returned (.bool true))∧Below w.heap.size w w')) (HC:Hid (∀ w,Below W.heap.size W w→Calls Tryz.prog 46 #[.pointer (some ⟨b,0,none⟩),.int .i64 s] w fun e w'=>(NumsA (C,0) e w')∧Below w.heap.size w w')):Calls Tryz.prog 29 #[.pointer (some ⟨b,0,none⟩),.int .i64 s,.int .i64 (t:Int)] W fun e w'=>e=.returned (.tuple #[.bool B,.int .i64 ((lookN C t+1:Nat):Int),.int .i64 0])∧Below W.heap.size W w':=by
  obtain ⟨L0,hL0⟩:∃ L0,lookN C t=L0:=⟨_,rfl⟩
  have HL0:Hid (lookN C t=L0):=hL0
  rw [hL0]
  clear hL0
  have hne:(s == (t:Int))=false:=by rw [← Bool.not_eq_true,beq_iff_eq];exact hst
  go_enter Tryz.func29,Tryz.ntmps29
  go_wp2_with (first
    | (go_at_call 84;refine (HI.out _ _ (Below.refl _ _) (by rfl)).mono ?_;rintro e w9 ⟨rfl,hw9⟩;rw [hw9];clear hw9 w9 HI)
    | (go_at_call 84;refine (HJ.out _ _ (Below.refl _ _) (by rfl)).mono ?_;rintro e w9 ⟨rfl,hw9⟩;rw [hw9];clear hw9 w9 HJ)
    | (go_at_call 47;refine (HX.out _ (Below.refl _ _)).mono ?_;rintro e w1 ⟨rfl,hb⟩;have B1:Hid (Below W.heap.size W w1):=hb;clear hb HX)
    | (go_at_call 48;refine (HF.out _ B1.out).mono ?_;rintro e w2 ⟨rfl,hb⟩;have B2:Hid (Below W.heap.size W w2):=bstep B1.out hb;clear hb HF)
    | (go_at_call 46;refine (HC.out _ B2.out).mono ?_;rintro e w3 ⟨⟨ca,cc,rfl,hr⟩,hb⟩;simp only [HN.out] at hr ⊢;have R3:Hid (Rds w3 (.slice ca K cc) K 1 (C.map numV)):=hr;have B3:Hid (Below W.heap.size W w3):=bstep B2.out hb;clear hb HC hr))
  go_loopw [6,7,11] (fun bv rv iv wr=>∃ (i:Nat),iv=.int .i64 i∧bv=.bool B∧rv=.int .i64 ((i:Int)+1)∧i≤K∧Hid (L0=i+lookN (C.drop i) t)∧Hid (Below w3.heap.size w3 wr)) (fun _ _ iv _=>K - (intOf iv).toNat)
  case atStart=>exact ⟨0,rfl,rfl,rfl,Nat.zero_le _,(by rw [Hid,Nat.zero_add,List.drop_zero];exact HL0.out.symm),Below.refl _ _⟩
  case round =>
    obtain ⟨i,rfl,rfl,rfl,hi,hL,hB⟩:=hrel
    by_cases hlt:i<K
    · have hiI:(i:Int)<(K:Int):=by omega
      obtain ⟨x,hx⟩:∃ x,C[i]?=some x:=⟨_,List.getElem?_eq_getElem (by rw [HN.out];exact hlt)⟩
      rcases R3.out.val with ⟨_,e⟩|⟨g,o,cap,e,_,_,hg,hcs⟩
      · exact absurd e (by omega)
      injection e with e1 _ e2
      subst e1 e2
      have hcell:=hcs i (.int .i64 (x:Int)) (by rw [List.getElem?_map,hx];rfl)
      have hcr:wr.cell? ⟨g,o+i,none⟩=some (.int .i64 (x:Int)):=(hB.out.cell (p:=⟨g,o+i,none⟩) hg).trans hcell
      have L1:Hid (lookN (C.drop i) t=if x=t then 1 else lookN (C.drop (i+1)) t+1):=lookN_at hx
      clear hcs hcell hx
      by_cases hxt:x=t
      · subst hxt
        have A2:L0=i+1:=by rw [hL.out,L1.out,if_pos rfl]
        subst A2
        go_wp2
        exact bodyPost_ret (v:=.tuple #[.bool B,.int .i64 ((i+1+1:Nat):Int),.int .i64 0]) (by simp [results,Tryz.results29,go_sem, *]) rfl ⟨rfl,B3.out.trans (hB.out.mono B3.out.size)⟩
      · have hne3:((x:Int) == (t:Int))=false:=by rw [← Bool.not_eq_true,beq_iff_eq];omega
        have hne2:¬ (x:Int)=(t:Int):=by omega
        go_wp2
        refine ⟨⟨i+1,by simp,rfl,by simp,by omega,?_,hB⟩,by simp [intOf];omega⟩
        rw [Hid,hL.out,L1.out,if_neg hxt];omega
    · have e:i=K:=by omega
      subst e
      have E0:Hid (C.drop i=[]):=List.drop_eq_nil_iff.2 (by rw [HN.out];exact Nat.le_refl _)
      have A2:L0=i:=by rw [hL.out,E0.out];rfl
      subst A2
      go_wp2
      exact bodyPost_ret (v:=.tuple #[.bool B,.int .i64 ((L0+1:Nat):Int),.int .i64 0]) (by simp [results,Tryz.results29,go_sem, *]) rfl ⟨rfl,B3.out.trans (hB.out.mono B3.out.size)⟩
theorem r15t_c {b:Nat} {cs:List Cls} {ps:List Plc} {W:World} (h:RAt b cs W) (ht:TwW cs ps) (hJ:WJ ps) (s t:Int):Calls Tryz.prog 29 #[.pointer (some ⟨b,0,none⟩),.int .i64 s,.int .i64 t] W fun e w'=>e=.returned (.tuple #[.bool (tstR ps s t).1.1,.int .i64 ((tstR ps s t).1.2:Int),.int .i64 (tstR ps s t).2])∧Below W.heap.size W w':=by
  have HI:∀ x z,(plcI ps x).isSome=z→∀ i w,Below W.heap.size W w→i=x→Calls Tryz.prog 84 #[.pointer (some ⟨b,0,none⟩),.int .i64 i] w fun e w'=>e=.returned (.bool z)∧w'=w:=fun x z hz i w hb hi=>by rw [hi,← hz];exact rIn_t (h.below hb) ht x
  have HX:∀ w,Below W.heap.size W w→Calls Tryz.prog 47 #[.pointer (some ⟨b,0,none⟩),.int .i64 s,.int .i64 t] w fun e w'=>(e=.returned (.bool (extI ps s t)))∧Below w.heap.size w w':=fun w hb=>rExtends_c (h.below hb) ht hJ s t
  have HF:∀ w,Below W.heap.size W w→Calls Tryz.prog 48 #[.pointer (some ⟨b,0,none⟩),.int .i64 t] w fun e w'=>(e=.returned (.bool (ifcI ps t)))∧Below w.heap.size w w':=fun w hb=>(rIsIface_c (h.below hb) t).mono fun e w' zz=>⟨by rw [zz.1,ifcC_eq6 ht],by rw [zz.2];exact Below.refl _ _⟩
  rcases plcI_cases ps s with ⟨h1,_⟩|⟨k,q,rfl,hk,h1⟩
  · have e0:tstR ps s t=((false,0),3):=by rw [tstR,ckI,h1];rfl
    rw [e0]
    exact r15t_1 W b s t (HI s false (by rw [h1];rfl))
  · have c1:=ck_nat hk
    rcases plcI_cases ps t with ⟨h2,_⟩|⟨j,r,rfl,hj,h2⟩
    · have e0:tstR ps (k:Int) t=((false,0),3):=by rw [tstR,if_pos c1,ckI,h2];rfl
      rw [e0]
      exact r15t_2 W b k t (HI k true (by rw [h1];rfl)) (HI t false (by rw [h2];rfl))
    · have c2:=ck_nat hj
      have e0:tstR ps (k:Int) (j:Int)=((extI ps (k:Int) (j:Int),rdN ps k j),0):=by rw [tstR,if_pos c1,if_pos c2];rfl
      rw [e0]
      cases hf:ifcI ps (j:Int) with
      | false =>
        rw [hf] at HF
        have e1:rdN ps k j=1:=by rw [rdN,hf];rfl
        rw [e1]
        exact r15t_3 W b k j _ (HI k true (by rw [h1];rfl)) (HI j true (by rw [h2];rfl)) HX HF
      | true =>
        rw [hf] at HF
        by_cases hst:k=j
        · have e1:rdN ps k j=1:=by rw [rdN,hf,if_pos rfl,if_pos hst]
          rw [e1]
          exact r15t_4 W b k j (by rw [hst]) _ (HI k true (by rw [h1];rfl)) (HI j true (by rw [h2];rfl)) HX HF
        · have e1:rdN ps k j=lookN q.cl j+1:=by rw [rdN,hf,if_pos rfl,if_neg hst,cl_at hk]
          rw [e1]
          have:=cl_len ht.wi hk
          refine r15t_5 W b k j (by omega) _ q.cl _ rfl (by omega) (HI k true (by rw [h1];rfl)) (HI j true (by rw [h2];rfl)) HX HF (fun w hb=>?_)
          have hc:=rClosure_r (h.below hb) ht hJ (k:Int)
          rw [clR,h1] at hc
          exact hc
set_option maxHeartbeats 4000000 in
theorem r15y_1 (W:World) (b:Nat) (x y:Int) (s t:ByteArray) (R:Bool) (E:Int) (hE:¬ E=0) (HS:Hid (∀ w,Below W.heap.size W w→Calls Tryz.prog 87 #[.pointer (some ⟨b,0,none⟩),.agg #[.int .i64 x,.string s],.agg #[.int .i64 y,.string t]] w fun e w'=>(e=.returned (.tuple #[.bool R,.int .i64 E]))∧Below w.heap.size w w')):Calls Tryz.prog 35 #[.pointer (some ⟨b,0,none⟩),.agg #[.int .i64 x,.string s],.agg #[.int .i64 y,.string t]] W fun e w'=>e=.returned (.tuple #[.bool false,.int .i64 0,.int .i64 E])∧Below W.heap.size W w':=by
  have hE2:(E == 0)=false:=by simp [hE]
  go_enter Tryz.func35,Tryz.ntmps35
  go_wp2_with (first
    | (go_at_call 87;refine (HS.out _ (by repeat (first|exact Below.refl _ _|refine Below.setCell ?_ (by simp;try omega) _|refine Below.alloc ?_ (by simp;try omega) _|refine Below.drew ?_))).mono ?_;rintro e w1 ⟨rfl,hb⟩;have uud:=kp2 (n:=W.heap.size) hb;(try clear uuB uu0 uu1 uuf uuL uuN);obtain ⟨uuB,uu0,uu1,uuf,uuL,uuN⟩:=uud;have vvd:=kp2 (n:=W.heap.size+1) hb;(try clear vvB vv0 vv1 vvf vvL vvN);obtain ⟨vvB,vv0,vv1,vvf,vvL,vvN⟩:=vvd;have B1:Hid (Below W.heap.size W w1):=bstep (by repeat (first|exact Below.refl _ _|refine Below.setCell ?_ (by simp;try omega) _|refine Below.alloc ?_ (by simp;try omega) _|refine Below.drew ?_)) hb;clear hb HS))
  exact bodyPost_ret (v:=.tuple #[.bool false,.int .i64 0,.int .i64 E]) (by simp [results,Tryz.results35,go_sem, *]) rfl ⟨rfl,B1.out⟩
set_option maxHeartbeats 4000000 in
theorem r15y_2 (W:World) (b:Nat) (x y:Int) (s t:ByteArray) (R:Bool) (n a d:Nat) (R2:Bool) (E2:Int) (hxy:x=y) (h1:s.toList.isEmpty=false) (h2:t.toList.isEmpty=false) (HS:Hid (∀ w,Below W.heap.size W w→Calls Tryz.prog 87 #[.pointer (some ⟨b,0,none⟩),.agg #[.int .i64 x,.string s],.agg #[.int .i64 y,.string t]] w fun e w'=>(e=.returned (.tuple #[.bool R,.int .i64 0]))∧Below w.heap.size w w')) (HN1:Hid (∀ z w,Below W.heap.size W w→z=s→Calls Tryz.prog 57 #[.pointer (some ⟨b,0,none⟩),.string z] w fun e w'=>e=.returned (.tuple #[.int .i64 (a:Int),.int .i64 0])∧w'=w)) (HN2:Hid (∀ z w,Below W.heap.size W w→z=t→Calls Tryz.prog 57 #[.pointer (some ⟨b,0,none⟩),.string z] w fun e w'=>e=.returned (.tuple #[.int .i64 (d:Int),.int .i64 0])∧w'=w)) (HT:Hid (∀ w,Below W.heap.size W w→Calls Tryz.prog 29 #[.pointer (some ⟨b,0,none⟩),.int .i64 (a:Int),.int .i64 (d:Int)] w fun e w'=>(e=.returned (.tuple #[.bool R2,.int .i64 (n:Int),.int .i64 E2]))∧Below w.heap.size w w')):Calls Tryz.prog 35 #[.pointer (some ⟨b,0,none⟩),.agg #[.int .i64 x,.string s],.agg #[.int .i64 y,.string t]] W fun e w'=>e=.returned (.tuple #[.bool R,.int .i64 (n:Int),.int .i64 0])∧Below W.heap.size W w':=by
  subst hxy
  go_enter Tryz.func35,Tryz.ntmps35
  go_wp2_with (first
    | (go_at_call 87;refine (HS.out _ (by repeat (first|exact Below.refl _ _|refine Below.setCell ?_ (by simp;try omega) _|refine Below.alloc ?_ (by simp;try omega) _|refine Below.drew ?_))).mono ?_;rintro e w1 ⟨rfl,hb⟩;have uud:=kp2 (n:=W.heap.size) hb;(try clear uuB uu0 uu1 uuf uuL uuN);obtain ⟨uuB,uu0,uu1,uuf,uuL,uuN⟩:=uud;have vvd:=kp2 (n:=W.heap.size+1) hb;(try clear vvB vv0 vv1 vvf vvL vvN);obtain ⟨vvB,vv0,vv1,vvf,vvL,vvN⟩:=vvd;have B1:Hid (Below W.heap.size W w1):=bstep (by repeat (first|exact Below.refl _ _|refine Below.setCell ?_ (by simp;try omega) _|refine Below.alloc ?_ (by simp;try omega) _|refine Below.drew ?_)) hb;clear hb HS)
    | (go_at_call 57;refine (HN1.out _ _ B1.out (by rfl)).mono ?_;rintro e w9 ⟨rfl,hw9⟩;rw [hw9];clear hw9 w9 HN1)
    | (go_at_call 57;refine (HN2.out _ _ B1.out (by rfl)).mono ?_;rintro e w9 ⟨rfl,hw9⟩;rw [hw9];clear hw9 w9 HN2)
    | (go_at_call 29;refine (HT.out _ B1.out).mono ?_;rintro e w3 ⟨rfl,hb⟩;have B3:Hid (Below W.heap.size W w3):=bstep B1.out hb;clear hb HT))
  exact bodyPost_ret (v:=.tuple #[.bool R,.int .i64 (n:Int),.int .i64 0]) (by simp [results,Tryz.results35,go_sem, *]) rfl ⟨rfl,B3.out⟩
set_option maxHeartbeats 4000000 in
theorem r15y_3 (W:World) (b:Nat) (x y:Int) (s t:ByteArray) (R:Bool) (hn:¬ (x=y∧s.toList.isEmpty=false∧t.toList.isEmpty=false)) (HS:Hid (∀ w,Below W.heap.size W w→Calls Tryz.prog 87 #[.pointer (some ⟨b,0,none⟩),.agg #[.int .i64 x,.string s],.agg #[.int .i64 y,.string t]] w fun e w'=>(e=.returned (.tuple #[.bool R,.int .i64 0]))∧Below w.heap.size w w')):Calls Tryz.prog 35 #[.pointer (some ⟨b,0,none⟩),.agg #[.int .i64 x,.string s],.agg #[.int .i64 y,.string t]] W fun e w'=>e=.returned (.tuple #[.bool R,.int .i64 1,.int .i64 0])∧Below W.heap.size W w':=by
  by_cases hxy:x=y
  · subst hxy
    cases h1:s.toList.isEmpty
    · cases h2:t.toList.isEmpty
      · exact absurd ⟨rfl,h1,h2⟩ hn
      · clear hn
        go_enter Tryz.func35,Tryz.ntmps35
        go_wp2_with (first
          | (go_at_call 87;refine (HS.out _ (by repeat (first|exact Below.refl _ _|refine Below.setCell ?_ (by simp;try omega) _|refine Below.alloc ?_ (by simp;try omega) _|refine Below.drew ?_))).mono ?_;rintro e w1 ⟨rfl,hb⟩;have uud:=kp2 (n:=W.heap.size) hb;(try clear uuB uu0 uu1 uuf uuL uuN);obtain ⟨uuB,uu0,uu1,uuf,uuL,uuN⟩:=uud;have vvd:=kp2 (n:=W.heap.size+1) hb;(try clear vvB vv0 vv1 vvf vvL vvN);obtain ⟨vvB,vv0,vv1,vvf,vvL,vvN⟩:=vvd;have B1:Hid (Below W.heap.size W w1):=bstep (by repeat (first|exact Below.refl _ _|refine Below.setCell ?_ (by simp;try omega) _|refine Below.alloc ?_ (by simp;try omega) _|refine Below.drew ?_)) hb;clear hb HS))
        exact bodyPost_ret (v:=.tuple #[.bool R,.int .i64 1,.int .i64 0]) (by simp [results,Tryz.results35,go_sem, *]) rfl ⟨rfl,B1.out⟩
    · clear hn
      go_enter Tryz.func35,Tryz.ntmps35
      go_wp2_with (first
        | (go_at_call 87;refine (HS.out _ (by repeat (first|exact Below.refl _ _|refine Below.setCell ?_ (by simp;try omega) _|refine Below.alloc ?_ (by simp;try omega) _|refine Below.drew ?_))).mono ?_;rintro e w1 ⟨rfl,hb⟩;have uud:=kp2 (n:=W.heap.size) hb;(try clear uuB uu0 uu1 uuf uuL uuN);obtain ⟨uuB,uu0,uu1,uuf,uuL,uuN⟩:=uud;have vvd:=kp2 (n:=W.heap.size+1) hb;(try clear vvB vv0 vv1 vvf vvL vvN);obtain ⟨vvB,vv0,vv1,vvf,vvL,vvN⟩:=vvd;have B1:Hid (Below W.heap.size W w1):=bstep (by repeat (first|exact Below.refl _ _|refine Below.setCell ?_ (by simp;try omega) _|refine Below.alloc ?_ (by simp;try omega) _|refine Below.drew ?_)) hb;clear hb HS))
      exact bodyPost_ret (v:=.tuple #[.bool R,.int .i64 1,.int .i64 0]) (by simp [results,Tryz.results35,go_sem, *]) rfl ⟨rfl,B1.out⟩
  · have hx2:(x == y)=false:=by simp [hxy]
    clear hn
    go_enter Tryz.func35,Tryz.ntmps35
    go_wp2_with (first
      | (go_at_call 87;refine (HS.out _ (by repeat (first|exact Below.refl _ _|refine Below.setCell ?_ (by simp;try omega) _|refine Below.alloc ?_ (by simp;try omega) _|refine Below.drew ?_))).mono ?_;rintro e w1 ⟨rfl,hb⟩;have uud:=kp2 (n:=W.heap.size) hb;(try clear uuB uu0 uu1 uuf uuL uuN);obtain ⟨uuB,uu0,uu1,uuf,uuL,uuN⟩:=uud;have vvd:=kp2 (n:=W.heap.size+1) hb;(try clear vvB vv0 vv1 vvf vvL vvN);obtain ⟨vvB,vv0,vv1,vvf,vvL,vvN⟩:=vvd;have B1:Hid (Below W.heap.size W w1):=bstep (by repeat (first|exact Below.refl _ _|refine Below.setCell ?_ (by simp;try omega) _|refine Below.alloc ?_ (by simp;try omega) _|refine Below.drew ?_)) hb;clear hb HS))
    exact bodyPost_ret (v:=.tuple #[.bool R,.int .i64 1,.int .i64 0]) (by simp [results,Tryz.results35,go_sem, *]) rfl ⟨rfl,B1.out⟩
theorem r15y_c {b:Nat} {cs:List Cls} {ps:List Plc} {W:World} (h:RAt b cs W) (hT:TwW cs ps) (hJ:WJ ps) (x:Int) (s:ByteArray) (y:Int) (t:ByteArray) (hs:s.size≤maxLen) (ht:t.size≤maxLen):Calls Tryz.prog 35 #[.pointer (some ⟨b,0,none⟩),.agg #[.int .i64 x,.string s],.agg #[.int .i64 y,.string t]] W fun e w'=>e=.returned (.tuple #[.bool (ttyR ps x s y t).1.1,.int .i64 ((ttyR ps x s y t).1.2:Int),.int .i64 (ttyR ps x s y t).2])∧Below W.heap.size W w':=by
  have HS:∀ w,Below W.heap.size W w→Calls Tryz.prog 87 #[.pointer (some ⟨b,0,none⟩),.agg #[.int .i64 x,.string s],.agg #[.int .i64 y,.string t]] w fun e w'=>(e=.returned (suI ps x s y t))∧Below w.heap.size w w':=fun w hb=>rSub_c (h.below hb) hT hJ x s y t hs ht
  by_cases h1:ldI ps x s=0
  · by_cases h2:ldI ps y t=0
    · have e0:ttyR ps x s y t=((subB ps x s y t,rdT ps x s y t),0):=by rw [ttyR,if_pos h1,if_pos h2]
      rw [suI,if_pos h1,if_pos h2] at HS
      rw [e0]
      by_cases hn:x=y∧s.toList.isEmpty=false∧t.toList.isEmpty=false
      · obtain ⟨a,ha⟩:=(ld_facts h1).2.2 hn.2.1
        obtain ⟨d,hd⟩:=(ld_facts h2).2.2 hn.2.2
        obtain ⟨qa,hqa,_⟩:=look_place ha
        obtain ⟨qd,hqd,_⟩:=look_place hd
        have e1:rdT ps x s y t=rdN ps a d:=by rw [rdT,if_pos hn,ha,hd]
        have e2:(tstR ps (a:Int) (d:Int)).1.2=rdN ps a d:=by rw [tstR,if_pos (ck_nat hqa),if_pos (ck_nat hqd)];rfl
        rw [e1]
        refine r15y_2 W b x y s t _ (rdN ps a d) a d (tstR ps (a:Int) (d:Int)).1.1 (tstR ps (a:Int) (d:Int)).2 hn.1 hn.2.1 hn.2.2 HS (fun z w hb hz=>?_) (fun z w hb hz=>?_) (fun w hb=>?_)
        · rw [hz];exact rByName_t (h.below hb) hT s a ha
        · rw [hz];exact rByName_t (h.below hb) hT t d hd
        · have:=r15t_c (h.below hb) hT hJ (a:Int) (d:Int)
          rw [e2] at this
          exact this
      · have e1:rdT ps x s y t=1:=by rw [rdT,if_neg hn]
        rw [e1]
        exact r15y_3 W b x y s t _ hn HS
    · have e0:ttyR ps x s y t=((false,0),ldI ps y t):=by rw [ttyR,if_pos h1,if_neg h2]
      rw [suI,if_pos h1,if_neg h2] at HS
      rw [e0]
      exact r15y_1 W b x y s t false _ h2 HS
  · have e0:ttyR ps x s y t=((false,0),ldI ps x s):=by rw [ttyR,if_neg h1]
    rw [suI,if_neg h1] at HS
    rw [e0]
    exact r15y_1 W b x y s t false _ h1 HS
theorem callB15 (vs:Array Value) (w:World):(callFunc 16 vs).run Tryz.prog w=.ok (.enter 16 vs) w:=by simp [go_sem]
theorem callOf15 (vs:Array Value) (w:World):(callFunc 30 vs).run Tryz.prog w=.ok (.enter 30 vs) w:=by simp [go_sem]
theorem callTty (vs:Array Value) (w:World):(callFunc 22 vs).run Tryz.prog w=.ok (.enter 22 vs) w:=by simp [go_sem]
theorem callRty (vs:Array Value) (w:World):(callFunc 35 vs).run Tryz.prog w=.ok (.enter 35 vs) w:=by simp [go_sem]
set_option maxHeartbeats 8000000 in
theorem types_w (ps:List Plc) (cs:List Cls) (W:World) (av:Option Addr) (nv cv:Nat) (x y n E:Int) (p r:ByteArray) (A:Bool) (HB:Hid (∀ w:World,Below W.heap.size W w→Calls Tryz.prog 16 #[.slice av nv cv] w fun e w'=>(∃ b,e=.returned (.pointer (some ⟨b,0,none⟩))∧WAt b ps w')∧Below w.heap.size w w')) (HO:Hid (∀ w:World,Below W.heap.size W w→Calls Tryz.prog 30 #[.slice av nv cv] w fun e w'=>(∃ b,e=.returned (.pointer (some ⟨b,0,none⟩))∧RAt b cs w')∧Below w.heap.size w w')) (HT:Hid (∀ b w,WAt b ps w→Calls Tryz.prog 22 #[.pointer (some ⟨b,0,none⟩),.agg #[.int .i64 x,.string p],.agg #[.int .i64 y,.string r]] w fun e w'=>(e=.returned (.tuple #[.bool A,.int .i64 n,.int .i64 E]))∧Below w.heap.size w w')) (HU:Hid (∀ b w,RAt b cs w→Calls Tryz.prog 35 #[.pointer (some ⟨b,0,none⟩),.agg #[.int .i64 x,.string p],.agg #[.int .i64 y,.string r]] w fun e w'=>(e=.returned (.tuple #[.bool A,.int .i64 n,.int .i64 E]))∧Below w.heap.size w w')) :
    Calls Tryz.prog 7 #[.slice av nv cv,.agg #[.int .i64 x,.string p],.agg #[.int .i64 y,.string r]] W fun e w'=>e=.returned (.bool true)∧Below W.heap.size W w':=by
  have HA:Hid (∀ w:World,Calls Tryz.prog 15 #[] w fun e w'=>e=.returned (.bool true)∧Below w.heap.size w w'):=awake15_c
  have BB:Hid (Below W.heap.size W W):=Below.refl _ _
  go_enter Tryz.func7,Tryz.ntmps7
  go_upto_region 3 with (first
    | (go_at_call 15;refine (HA.out _).mono ?_;rintro e w1 ⟨rfl,hb⟩;have uud:=kp2 (n:=W.heap.size) hb;(try clear uuB uu0 uu1 uuf uuL uuN);obtain ⟨uuB,uu0,uu1,uuf,uuL,uuN⟩:=uud;have vvd:=kp2 (n:=W.heap.size+1) hb;(try clear vvB vv0 vv1 vvf vvL vvN);obtain ⟨vvB,vv0,vv1,vvf,vvL,vvN⟩:=vvd;have BB2:Below W.heap.size W w1:=bstep (by repeat (first|refine Below.setCell ?_ (by simp;try omega) _|refine Below.alloc ?_ (by have:=BB.out.size;simp;try omega) _|refine Below.drew ?_|exact BB.out)) hb;clear BB;have BB:Hid (Below W.heap.size W w1):=BB2;clear BB2;clear hb HA))
  go_region_law (first
    | (refine step_call1 rfl 16 callB15 (.tmp 16) 22 rfl (.slice av nv cv) (by simp [Act.eval,Act.put]) (HB.out _ BB.out.drew) ?_;rintro e w2 ⟨⟨b,rfl,hw⟩,hb⟩;refine ⟨_,rfl,?_⟩;have HH:Hid (WAt b ps w2):=hw;have uud:=kp2 (n:=W.heap.size) hb (by first|omega|(simp;try omega)) uuB.out;(try clear uuB uu0 uu1 uuf uuL uuN);obtain ⟨uuB,uu0,uu1,uuf,uuL,uuN⟩:=uud;have vvd:=kp2 (n:=W.heap.size+1) hb (by first|omega|(simp;try omega)) vvB.out;(try clear vvB vv0 vv1 vvf vvL vvN);obtain ⟨vvB,vv0,vv1,vvf,vvL,vvN⟩:=vvd;have BB2:Below W.heap.size W w2:=bstep BB.out.drew hb;clear BB;have BB:Hid (Below W.heap.size W w2):=BB2;clear BB2;clear hb HB hw)
    | (refine step_call3 rfl 22 callTty (.tmp 17) (.tmp 18) (.tmp 19) 26 24 24 rfl (.pointer (some ⟨b,0,none⟩)) (.agg #[.int .i64 x,.string p]) (.agg #[.int .i64 y,.string r]) (by simp [Act.eval]) (by simp [Act.eval]) (by simp [Act.eval]) (HT.out _ _ HH.out) ?_;rintro e w3 ⟨rfl,hb⟩;refine ⟨_,rfl,?_⟩;have uud:=kp2 (n:=W.heap.size) hb (by first|omega|(simp;try omega)) uuB.out;(try clear uuB uu0 uu1 uuf uuL uuN);obtain ⟨uuB,uu0,uu1,uuf,uuL,uuN⟩:=uud;have vvd:=kp2 (n:=W.heap.size+1) hb (by first|omega|(simp;try omega)) vvB.out;(try clear vvB vv0 vv1 vvf vvL vvN);obtain ⟨vvB,vv0,vv1,vvf,vvL,vvN⟩:=vvd;have BB2:Below W.heap.size W w3:=bstep BB.out hb;clear BB;have BB:Hid (Below W.heap.size W w3):=BB2;clear BB2;clear hb HT))
  all_goals
    go_wp2
    simp [Act.put]
    go_region_law (first
      | (refine step_call1 rfl 30 callOf15 (.tmp 25) 22 rfl (.slice av nv cv) (by simp [Act.eval,Act.put]) (HO.out _ BB.out.drew) ?_;rintro e w4 ⟨⟨bx,rfl,hw⟩,hb⟩;refine ⟨_,rfl,?_⟩;have HR:Hid (RAt bx cs w4):=hw;have uud:=kp2 (n:=W.heap.size) hb (by first|omega|(simp;try omega)) uuB.out;(try clear uuB uu0 uu1 uuf uuL uuN);obtain ⟨uuB,uu0,uu1,uuf,uuL,uuN⟩:=uud;have vvd:=kp2 (n:=W.heap.size+1) hb (by first|omega|(simp;try omega)) vvB.out;(try clear vvB vv0 vv1 vvf vvL vvN);obtain ⟨vvB,vv0,vv1,vvf,vvL,vvN⟩:=vvd;have BB2:Below W.heap.size W w4:=bstep BB.out.drew hb;clear BB;have BB:Hid (Below W.heap.size W w4):=BB2;clear BB2;clear hb HO hw)
      | (refine step_call3 rfl 35 callRty (.tmp 26) (.tmp 27) (.tmp 28) 55 24 24 rfl (.pointer (some ⟨bx,0,none⟩)) (.agg #[.int .i64 x,.string p]) (.agg #[.int .i64 y,.string r]) (by simp [Act.eval]) (by simp [Act.eval]) (by simp [Act.eval]) (HU.out _ _ HR.out) ?_;rintro e w5 ⟨rfl,hb⟩;refine ⟨_,rfl,?_⟩;have BB2:Below W.heap.size W w5:=bstep BB.out hb;clear BB;have BB:Hid (Below W.heap.size W w5):=BB2;clear BB2;clear hb HU))
    all_goals go_wp2
    all_goals (try simp [Act.put])
    all_goals (try go_wp2)
    all_goals go_ret
    all_goals exact ⟨retB (by simp),BB.out⟩
theorem DisplayTypes_any (v:Value) (l:List Cls) (x:Int) (p:ByteArray) (y:Int) (r:ByteArray) (W:World) (h:IsClss W v l) (hp:p.size≤maxLen) (hr:r.size≤maxLen):Calls Tryz.prog 7 #[v,.agg #[.int .i64 x,.string p],.agg #[.int .i64 y,.string r]] W fun e w'=>e=.returned (.bool true)∧Below W.heap.size W w':=by
  have ht:TwW (wldC l) (wld l):=twW l (clss_w h)
  have hJ:WJ (wld l):=(wld_wj l (clss_w h)).2
  obtain ⟨av,nv,cv,rfl⟩:∃ a n c,v=.slice a n c:=by
    obtain ⟨ao,cap,e,_⟩:=h
    exact ⟨_,_,_,e⟩
  exact types_w (wld l) (wldC l) W av nv cv x y ((ttyR (wld l) x p y r).1.2:Int) (ttyR (wld l) x p y r).2 p r (ttyR (wld l) x p y r).1.1 (fun w hb=>built15_c _ l w (clss_kp h hb)) (fun w hb=>of_c _ l w (clss_kp h hb)) (fun b w hw=>tty_c hw ht.wi x p y r hp hr) (fun b w hw=>r15y_c hw ht hJ x p y r hp hr)
end Go.Proofs.YtkclpcmkplbclaaGreat
