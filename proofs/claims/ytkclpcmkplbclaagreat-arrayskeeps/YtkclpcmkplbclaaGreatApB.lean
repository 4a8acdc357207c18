import Derived.Test.YtkclpcmkplbclaaGreatLwA
import Derived.Test.YtkclpcmkplbclaaGreatWdB
import Derived.Test.YtkclpcmkplbclaaGreatSoA
import Derived.Test.YtkclpcmkplbclaaGreatRfX
import Derived.Test.YtkclpcmkplbclaaGreatWdT
import Derived.Test.YtkclpcmkplbclaaGreatHrX
import Derived.Test.YtkclpcmkplbclaaGreatWtA
import Derived.Test.YtkclpcmkplbclaaGreatOrdB
import Derived.Test.YtkclpcmkplbclaaGreatCurE
import Derived.Test.YtkclpcmkplbclaaGreatHrK
import Derived.Test.YtkclpcmkplbclaaGreatOwnRefs
import Derived.Test.YtkclpcmkplbclaaGreatOwnC
import Derived.Test.YtkclpcmkplbclaaGreatCodeL
import Derived.Test.YtkclpcmkplbclaaGreatTypesRef
import Derived.Test.YtkclpcmkplbclaaGreatRfF
import Derived.BigQuiet
import Derived.Lib.SliceRun
import Derived.Shelf.RegionOpen
import Derived.WalkSmall
import Derived.Deep.DeepCutAuto
import Derived.Laws.AppendOwn
import Derived.Lib.SmallJoins
import Derived.Deep.AppendLies
import Derived.Deep.RegionLaw
import Derived.Maps.AppendAt
set_option maxRecDepth 100000
namespace Go.Proofs.YtkclpcmkplbclaaGreat
open Go.RowKit Go.Maps
def SpW (ps:List Plc):Prop:=∀ k q,0<k→ps[k]?=some q→lookL ps q.c.su.data.toList=some q.sp
theorem spW (l:List Cls) (hl:∀ c∈l,ClsW c):SpW (wld l):=by
  have key:WI (wld l)∧SpW (wld l):=by
    refine wld_ind (P:=fun ps=>WI ps∧SpW ps) ⟨wi3,fun k q h0 hk=>?_⟩ (fun ps c h hc=>⟨h.1.define c hc,?_⟩) l hl
    · match k,hk with
      | 1,hk=>simp [P3] at hk;subst hk;decide
      | 2,hk=>simp [P3] at hk;subst hk;decide
      | (k+3),hk=>simp [P3] at hk
    · cases hd:defN ps c with
      | error e=>exact h.2
      | ok p =>
        obtain ⟨_,_,hn,s,l,hs,_,rfl⟩:=def_ok hd
        intro k q h0 hk
        have hk2:(ps++[(⟨hcOf c,s,gathL (ps.map Plc.cl) s l⟩:Plc)])[k]?=some q:=hk
        show lookL (ps++[_]) q.c.su.data.toList=some q.sp
        by_cases hlt:k<ps.length
        · rw [List.getElem?_append_left hlt] at hk2
          exact look_snoc (h.2 k q h0 hk2) hn
        · rw [List.getElem?_append_right (by omega)] at hk2
          have he:k - ps.length=0:=by
            have:=(List.getElem?_eq_some_iff.1 hk2).1
            simp at this;omega
          rw [he] at hk2
          simp at hk2
          subst hk2
          refine look_snoc ?_ hn
          show lookL ps c.su.data.toList=some s
          rw [aboveN] at hs
          cases hl2:lookL ps c.su.data.toList with
          | none=>rw [hl2] at hs;cases hs
          | some j =>
            rw [hl2] at hs
            simp only at hs
            cases hq:ps[j]? with
            | none=>rw [hq] at hs;cases hs
            | some q =>
              rw [hq] at hs
              simp only at hs
              split at hs
              · split at hs
                · cases hs;rfl
                · cases hs
              · cases hs
  exact key.2
structure TwW (cs:List Cls) (ps:List Plc):Prop where
  tw:Twin cs ps
  nm:NmW ps
  sp:SpW ps
  wi:WI ps
theorem twW (l:List Cls) (hl:∀ c∈l,ClsW c):TwW (wldC l) (wld l):=⟨twin_all l hl,nmW l hl,spW l hl,wld_wi l hl⟩
theorem halloc2 (w:World) {n:Nat} (o:Obj) (hn:w.heap.size=n):(w.alloc o).heap[n]?=some o:=by subst hn;exact halloc1 w o
theorem hkeep {w:World} {n:Nat} {x o:Obj} (h:w.heap[n]?=some x):(w.alloc o).heap[n]?=some x:=by
  have hb:Below w.heap.size w (w.alloc o):=(Below.refl _ w).alloc (Nat.le_refl _) _
  exact (hb.block n (Array.getElem?_eq_some_iff.1 h).1).trans h
theorem rw2 {w:World} {n:Nat} {t:TypeId} {a0 a1:Value} (h:w.heap[n]?=some (.cells #[a0,a1] t (0,0))):w.cell? ⟨n,0,none⟩=some a0∧w.cell? ⟨n,1,none⟩=some a1∧(∀ k,w.frozen? ⟨n,k,none⟩=false)∧n<w.heap.size :=
  ⟨(cell_of_row w n 0 _ _ _ h).trans rfl,(cell_of_row w n 1 _ _ _ h).trans rfl,fun k=>frozen_of_row w n k _ _ h,(Array.getElem?_eq_some_iff.1 h).1⟩
theorem rw6 {w:World} {n:Nat} {t:TypeId} {a0 a1 a2 a3 a4 a5:Value} (h:w.heap[n]?=some (.cells #[a0,a1,a2,a3,a4,a5] t (0,0))):w.cell? ⟨n,0,none⟩=some a0∧w.cell? ⟨n,1,none⟩=some a1∧w.cell? ⟨n,2,none⟩=some a2∧w.cell? ⟨n,3,none⟩=some a3∧w.cell? ⟨n,4,none⟩=some a4∧w.cell? ⟨n,5,none⟩=some a5∧(∀ k,w.frozen? ⟨n,k,none⟩=false)∧n<w.heap.size :=
  ⟨(cell_of_row w n 0 _ _ _ h).trans rfl,(cell_of_row w n 1 _ _ _ h).trans rfl,(cell_of_row w n 2 _ _ _ h).trans rfl,(cell_of_row w n 3 _ _ _ h).trans rfl,(cell_of_row w n 4 _ _ _ h).trans rfl,(cell_of_row w n 5 _ _ _ h).trans rfl,fun k=>frozen_of_row w n k _ _ h,(Array.getElem?_eq_some_iff.1 h).1⟩
theorem kp2 {V w:World} {N n:Nat} {t:TypeId} {a0 a1:Value} (hb:Below N V w) (hn:n<N:=by first|omega|(simp;try omega)) (h:V.heap[n]?=some (.cells #[a0,a1] t (0,0)):=by first|exact Hid.out (by assumption)|exact hkeep (Hid.out (by assumption))|exact hkeep (hkeep (Hid.out (by assumption)))|exact halloc2 _ _ rfl|exact hkeep (halloc2 _ _ rfl)|exact hkeep (hkeep (halloc2 _ _ rfl))|exact halloc2 _ _ (by simp;done)):Hid (w.heap[n]?=some (.cells #[a0,a1] t (0,0)))∧w.cell? ⟨n,0,none⟩=some a0∧w.cell? ⟨n,1,none⟩=some a1∧(∀ k,w.frozen? ⟨n,k,none⟩=false)∧n<w.heap.size∧¬ n=w.heap.size:=by
  have h2:=(hb.block n hn).trans h
  obtain ⟨c0,c1,f,l⟩:=rw2 h2
  exact ⟨h2,c0,c1,f,l,by omega⟩
set_option maxHeartbeats 16000000 in
theorem sameTys_eq (N1 N2:Nat) (l:List (Int×List UInt8)) (v1 v2:Value) (W:World) (h1:W.ownsRow N1 24 2 v1 l.length (flatU l)) (h2:W.ownsRow N2 24 2 v2 l.length (flatU l)) (hn:l.length≤1000000000):Calls Tryz.prog 70 #[v1,v2] W fun e w'=>e=.returned (.bool true)∧Below W.heap.size W w':=by
  obtain ⟨a1,c1,rfl⟩:=ownv h1
  obtain ⟨a2,c2,rfl⟩:=ownv h2
  have H1:Hid (W.ownsRow N1 24 2 (.slice a1 l.length c1) l.length (flatU l)):=h1
  have H2:Hid (W.ownsRow N2 24 2 (.slice a2 l.length c2) l.length (flatU l)):=h2
  obtain ⟨K,hK⟩:∃ K,l.length=K:=⟨_,rfl⟩
  have HK:Hid (l.length=K):=hK
  rw [hK] at hn H1 H2 ⊢
  clear h1 h2 hK
  go_enter Tryz.func70,Tryz.ntmps70
  go_wp2
  go_loopw [5] (fun iv wr=>∃ i:Nat,iv=.int .i64 i∧i≤K∧Hid (Below W.heap.size W wr)) (fun iv _=>K - (intOf iv).toNat)
  case atStart=>exact ⟨0,rfl,Nat.zero_le _,Below.refl _ _⟩
  case round =>
    obtain ⟨i,rfl,hi,hB⟩:=hrel
    by_cases hlt:i<K
    · have hiI:(i:Int)<(K:Int):=by omega
      obtain ⟨⟨d,q⟩,hu⟩:∃ u,l[i]?=some u:=⟨_,List.getElem?_eq_getElem (by rw [HK.out];exact hlt)⟩
      obtain ⟨g1,cp1,hf1⟩:=Go.Joins.ownsRow_form H1.out (by omega)
      injection hf1 with e1 _ e2
      subst e1 e2
      obtain ⟨g2,cp2,hf2⟩:=Go.Joins.ownsRow_form H2.out (by omega)
      injection hf2 with e3 _ e4
      subst e3 e4
      obtain ⟨p0,p1,pL⟩:=rowU_at H1.out hu
      obtain ⟨r0,r1,rL⟩:=rowU_at H2.out hu
      simp only at p0 p1 r0 r1
      generalize mkB q=qb at *
      have x0:=(hB.out.cell (p:=⟨g1,i * 2,none⟩) pL).trans p0
      have x1:=(hB.out.cell (p:=⟨g1,i * 2+1,none⟩) pL).trans p1
      have xL:g1<wr.heap.size:=Nat.lt_of_lt_of_le pL hB.out.size
      have y0:=(hB.out.cell (p:=⟨g2,i * 2,none⟩) rL).trans r0
      have y1:=(hB.out.cell (p:=⟨g2,i * 2+1,none⟩) rL).trans r1
      have yL:g2<wr.heap.size:=Nat.lt_of_lt_of_le rL hB.out.size
      clear hu p0 p1 r0 r1
      go_upto_region 6 with fail
      obtain ⟨σ,V,hne,V1,V2⟩:=class_of' (fun w'=>Below wr.heap.size wr w') ⟨_,Below.refl _ _⟩
      have cV0:∀ z9,(V z9).cell? ⟨g1,i * 2,none⟩=some (.int .i64 d):=fun z9=>((V1.out z9).cell (p:=⟨g1,i * 2,none⟩) xL).trans x0
      have cV1:∀ z9,(V z9).cell? ⟨g1,i * 2+1,none⟩=some (.string qb):=fun z9=>((V1.out z9).cell (p:=⟨g1,i * 2+1,none⟩) xL).trans x1
      have cV2:∀ z9,(V z9).cell? ⟨g2,i * 2,none⟩=some (.int .i64 d):=fun z9=>((V1.out z9).cell (p:=⟨g2,i * 2,none⟩) yL).trans y0
      have cV3:∀ z9,(V z9).cell? ⟨g2,i * 2+1,none⟩=some (.string qb):=fun z9=>((V1.out z9).cell (p:=⟨g2,i * 2+1,none⟩) yL).trans y1
      have HQ:Hid (∀ z9,Calls Tryz.prog 65 #[.agg #[.int .i64 d,.string qb],.agg #[.int .i64 d,.string qb]] (V z9) fun e w''=>e=.returned (.bool true)∧∃ z8,w''=V z8):=fun z9=>(((tySame_any d d qb qb (V z9)).mono fun e w'' zz=>(⟨by rw [zz.1];simp,zz.2⟩:_∧Below (V z9).heap.size (V z9) w''))).mono fun e w'' zz=>⟨zz.1,V2.out _ (bstep (V1.out z9) zz.2)⟩
      refine wp_region_class (C:=fun w'=>∃ z8,w'=V z8) (by kernel_rfl) (by kernel_rfl) (V2.out _ (Below.refl _ _).drew) ?_
      repeat (go_big_quiet_step (first|(go_at_call 65;exact HQ.out _)))
      refine wpQuiet_nil ?_
      intro w5 hw9
      obtain ⟨s9,hw9⟩:=hw9
      have hb:Below wr.heap.size wr w5:=by rw [hw9];exact V1.out s9
      clear hw9 cV0 cV1 cV2 cV3 HQ V1 V2 s9 hne V σ
      have B5:Hid (Below W.heap.size W w5):=bstep hB.out hb
      clear hb
      go_wp2
      exact ⟨⟨i+1,by simp,by omega,B5⟩,by simp [intOf];omega⟩
    · have e:i=K:=by omega
      subst e
      go_wp2
      exact bodyPost_ret (results_tmp rfl _ _ _) rfl ⟨rfl,hB.out⟩
def ldC (cs:List Cls) (d:Int) (s:ByteArray):Int:=if sndB d s.data.toList then (if s.toList.isEmpty then 0 else if nmdI s.toList cs 0<0 then 20 else 0) else 1
set_option maxHeartbeats 1000000 in
theorem rLoaded_c {b:Nat} {cs:List Cls} {W:World} (h:RAt b cs W) (hn:cs.length≤300) (d:Int) (s:ByteArray) (hs:s.size≤maxLen):Calls Tryz.prog 106 #[.pointer (some ⟨b,0,none⟩),.agg #[.int .i64 d,.string s]] W fun e w'=>e=.returned (.int .i64 (ldC cs d s))∧Below W.heap.size W w':=by
  have HC:Hid (∀ w:World,Calls Tryz.prog 145 #[.agg #[.int .i64 d,.string s]] w fun e w'=>e=.returned (.int .i64 (chkI (sndB d s.data.toList)))∧Below w.heap.size w w'):=tyRCheck_any d s hs
  have HN:Hid (∀ w,Below W.heap.size W w→Calls Tryz.prog 57 #[.pointer (some ⟨b,0,none⟩),.string s] w fun e w'=>e=.returned (bnC (nmdI s.toList cs 0))∧w'=w):=fun w hb=>rByName_c (h.below hb) s hn
  have HR:Hid (ldC cs d s=if sndB d s.data.toList then (if s.toList.isEmpty then 0 else if nmdI s.toList cs 0<0 then 20 else 0) else 1):=rfl
  generalize ldC cs d s=R at *
  generalize sndB d s.data.toList=z at *
  generalize nmdI s.toList cs 0=k at *
  clear h
  cases z with
  | false =>
    have hR:R=1:=HR.out
    subst hR
    clear HR
    go_enter Tryz.func106,Tryz.ntmps106
    go_wp2_with (first
      | (go_at_call 145;refine (HC.out _).mono ?_;rintro e w1 ⟨rfl,hb⟩;simp only [chkI];have B1:Hid (Below W.heap.size W w1):=bstep (by repeat (first|exact Below.refl _ _|refine Below.setCell ?_ (by simp;try omega) _|refine Below.alloc ?_ (by simp;try omega) _|refine Below.drew ?_)) hb;clear hb HC))
    exact bodyPost_ret (results_tmp rfl _ _ _) rfl ⟨rfl,B1.out⟩
  | true =>
    cases he:s.toList.isEmpty with
    | true =>
      have hR:R=0:=by rw [HR.out,he];rfl
      subst hR
      clear HR
      go_enter Tryz.func106,Tryz.ntmps106
      go_wp2_with (first
        | (go_at_call 145;refine (HC.out _).mono ?_;rintro e w1 ⟨rfl,hb⟩;simp only [chkI];have t1:w1.cell? ⟨W.heap.size,1,none⟩=some (.string s):=(hb.cell (p:=⟨W.heap.size,1,none⟩) (by simp)).trans (by simp [go_sem]);have B1:Hid (Below W.heap.size W w1):=bstep (by repeat (first|exact Below.refl _ _|refine Below.setCell ?_ (by simp;try omega) _|refine Below.alloc ?_ (by simp;try omega) _|refine Below.drew ?_)) hb;clear hb HC))
      exact bodyPost_ret (results_tmp rfl _ _ _) rfl ⟨rfl,B1.out⟩
    | false =>
      have hR:R=if k<0 then 20 else 0:=by rw [HR.out,he];rfl
      clear HR
      by_cases hk:k<0
      · rw [if_pos hk] at hR
        subst hR
        go_enter Tryz.func106,Tryz.ntmps106
        go_wp2_with (first
          | (go_at_call 145;refine (HC.out _).mono ?_;rintro e w1 ⟨rfl,hb⟩;simp only [chkI];have t1:w1.cell? ⟨W.heap.size,1,none⟩=some (.string s):=(hb.cell (p:=⟨W.heap.size,1,none⟩) (by simp)).trans (by simp [go_sem]);have B1:Hid (Below W.heap.size W w1):=bstep (by repeat (first|exact Below.refl _ _|refine Below.setCell ?_ (by simp;try omega) _|refine Below.alloc ?_ (by simp;try omega) _|refine Below.drew ?_)) hb;clear hb HC)
          | (go_at_call 57;refine (HN.out _ B1.out).mono ?_;rintro e w9 ⟨rfl,hw9⟩;rw [bnC,if_pos hk,hw9];clear hw9 w9))
        exact bodyPost_ret (results_tmp rfl _ _ _) rfl ⟨rfl,B1.out⟩
      · rw [if_neg hk] at hR
        subst hR
        go_enter Tryz.func106,Tryz.ntmps106
        go_wp2_with (first
          | (go_at_call 145;refine (HC.out _).mono ?_;rintro e w1 ⟨rfl,hb⟩;simp only [chkI];have t1:w1.cell? ⟨W.heap.size,1,none⟩=some (.string s):=(hb.cell (p:=⟨W.heap.size,1,none⟩) (by simp)).trans (by simp [go_sem]);have B1:Hid (Below W.heap.size W w1):=bstep (by repeat (first|exact Below.refl _ _|refine Below.setCell ?_ (by simp;try omega) _|refine Below.alloc ?_ (by simp;try omega) _|refine Below.drew ?_)) hb;clear hb HC)
          | (go_at_call 57;refine (HN.out _ B1.out).mono ?_;rintro e w9 ⟨rfl,hw9⟩;rw [bnC,if_neg hk,hw9];clear hw9 w9))
        exact bodyPost_ret (results_tmp rfl _ _ _) rfl ⟨rfl,B1.out⟩
theorem rIsInt_c (d:Int) (s:ByteArray) (W:World):Calls Tryz.prog 107 #[.agg #[.int .i64 d,.string s]] W fun e w'=>e=.returned (.bool (intB d s))∧Below W.heap.size W w':=by
  obtain ⟨R,hR⟩:∃ R,intB d s=R:=⟨_,rfl⟩
  have HR:Hid (((d == 0)&&s.toList.isEmpty)=R):=hR
  rw [hR]
  clear hR
  go_enter Tryz.func107,Tryz.ntmps107
  go_wp2
  all_goals go_ret
  all_goals exact ⟨retB (by rw [← HR.out];simp [*]),(by repeat (first|exact Below.refl _ _|refine Below.setCell ?_ (by simp;try omega) _|refine Below.alloc ?_ (by simp;try omega) _|refine Below.drew ?_))⟩
theorem rLower_c (d:Nat) (hd:d≤255) (s:ByteArray) (W:World):Calls Tryz.prog 146 #[.agg #[.int .i64 ((d+1:Nat):Int),.string s]] W fun e w'=>e=.returned (.agg #[.int .i64 (d:Int),.string s])∧Below W.heap.size W w':=by
  have e:((d+1:Nat):Int) - 1=(d:Int):=by omega
  go_enter Tryz.func146,Tryz.ntmps146
  go_wp2
  exact bodyPost_ret (v:=.agg #[.int .i64 (d:Int),.string s]) (by simp [results,Tryz.results146,go_sem]) rfl ⟨rfl,(by repeat (first|exact Below.refl _ _|refine Below.setCell ?_ (by simp;try omega) _|refine Below.alloc ?_ (by simp;try omega) _|refine Below.drew ?_))⟩
theorem rByName_t {b:Nat} {cs:List Cls} {ps:List Plc} {W:World} (h:RAt b cs W) (ht:TwW cs ps) (s:ByteArray) (x:Nat) (hx:lookL ps s.data.toList=some x):Calls Tryz.prog 57 #[.pointer (some ⟨b,0,none⟩),.string s] W fun e w'=>e=.returned (.tuple #[.int .i64 (x:Int),.int .i64 0])∧w'=W:=by
  have hn:cs.length≤300:=by rw [ht.tw.len];exact ht.wi.hi
  refine (rByName_c h s hn).mono fun e w' zz=>⟨?_,zz.2⟩
  rw [zz.1,Lib.toList_data,look_nmd ht.tw ht.nm,hx]
  show Ending.returned (bnC (x:Int))=_
  rw [bnC,if_neg (by omega)]
theorem ldC_eq {cs:List Cls} {ps:List Plc} (ht:TwW cs ps) (x:Int) (s:ByteArray):ldC cs x s=ldI ps x s:=by
  unfold ldC ldI
  rw [Lib.toList_data s,look_nmd ht.tw ht.nm]
  cases lookL ps s.data.toList with
  | none=>rfl
  | some k =>
    have:¬ lkI (some k)<0:=by show ¬ ((k:Nat):Int)<0;omega
    simp only [this,if_false]
    try (split <;> split <;> rfl)
theorem Tryz.hinfoTy:(Tryz.prog.info? 24).map (fun i=>(i.zero,i.size,i.bytes))=some (some (.agg #[.int .i64 0,.string ⟨#[]⟩]),2,24):=by kernel_rfl
def stp0 (ps:List Plc) (s:ByteArray):List (Int×List UInt8):=match lookL ps s.data.toList with
  | some k=>(match ps[k]? with
    | some q=>(if k=0 then [] else [(0,q.c.su.data.toList)])++(txtL q.c.xi).map fun p=>((0:Int),p)
    | none=>[])
  | none=>[]
def stpP (ps:List Plc):Nat→ByteArray→List (Int×List UInt8)
  | 0,s=>if s.toList.isEmpty then [] else stp0 ps s
  | d+1,s=>if d=0∧(s.toList.isEmpty=true∨s.toList=sObj) then abv3.map fun p=>((0:Int),p) else (stpP ps d s).map fun u=>(u.1+1,u.2)
set_option maxHeartbeats 8000000 in
theorem stp_1 (W:World) (b:Nat) (s:ByteArray) (HII:Hid (∀ w,Calls Tryz.prog 107 #[.agg #[.int .i64 0,.string s]] w fun e w'=>e=.returned (.bool true)∧Below w.heap.size w w')):Calls Tryz.prog 112 #[.pointer (some ⟨b,0,none⟩),.agg #[.int .i64 0,.string s]] W fun e w'=>(∃ v,e=.returned v∧w'.ownsRow W.heap.size 24 2 v 0 (flatU []))∧Below W.heap.size W w':=by
  go_enter Tryz.func112,Tryz.ntmps112
  go_wp2_with (go_at_call 107;refine (HII.out _).mono ?_;rintro e w1 ⟨rfl,hb⟩;have ssd:=kp2 (n:=W.heap.size) hb (by simp) (halloc1 _ _);obtain ⟨ssB,ss0,ss1,ssf,ssL,ssN⟩:=ssd;have B1:Hid (Below W.heap.size W w1):=bstep (by repeat (first|exact Below.refl _ _|refine Below.setCell ?_ (by simp;try omega) _|refine Below.alloc ?_ (by simp;try omega) _|refine Below.drew ?_)) hb;clear hb HII)
  exact bodyPost_ret (results_tmp rfl _ _ _) rfl ⟨⟨_,rfl,World.ownsRow_nil _ _ _ _⟩,B1.out⟩
set_option maxHeartbeats 8000000 in
theorem stp_2 (W:World) (b k m:Nat) (s:ByteArray) (c:Cls) (g cap:Nat) (ai:Option Addr) (n ci:Nat) (am:Option Addr) (nm cm:Nat) (hn:n≤1000000) (HN:Hid (c.ifs.length=n)) (hkm:k<m) (hbl:b<W.heap.size) (hgl:g<W.heap.size)
    (b0:W.cell? ⟨b,0,none⟩=some (.slice (some ⟨g,0,none⟩) m cap)) (c0:W.cell? ⟨g,k * 6,none⟩=some (.string c.nm)) (c1:W.cell? ⟨g,k * 6+1,none⟩=some (.string c.su)) (c2:W.cell? ⟨g,k * 6+2,none⟩=some (.slice ai n ci)) (c3:W.cell? ⟨g,k * 6+3,none⟩=some (.int .i64 c.fl)) (c4:W.cell? ⟨g,k * 6+4,none⟩=some (.int .i64 c.ld)) (c5:W.cell? ⟨g,k * 6+5,none⟩=some (.slice am nm cm))
    (HST0:Hid (c.ifs≠[]→∃ bk o,ai=some ⟨bk,o,none⟩∧bk<W.heap.size∧∀ (j:Nat) (p:List UInt8),c.ifs[j]?=some p→W.cell? ⟨bk,o+j,none⟩=some (.string (mkB p)))) (HII:Hid (∀ w,Calls Tryz.prog 107 #[.agg #[.int .i64 0,.string s]] w fun e w'=>e=.returned (.bool false)∧Below w.heap.size w w'))
    (HBN:Hid (∀ w,Below W.heap.size W w→Calls Tryz.prog 57 #[.pointer (some ⟨b,0,none⟩),.string s] w fun e w'=>e=.returned (.tuple #[.int .i64 (k:Int),.int .i64 0])∧w'=w)) (hk0:k=0) :
    Calls Tryz.prog 112 #[.pointer (some ⟨b,0,none⟩),.agg #[.int .i64 0,.string s]] W fun e w'=>(∃ v,e=.returned v∧w'.ownsRow W.heap.size 24 2 v (n) (flatU (([]:List (Int×List UInt8))++c.ifs.map fun p=>((0:Int),p))))∧Below W.heap.size W w':=by
  subst hk0
  obtain ⟨i0,hi0,hz0,hz1,hz2⟩:=info_parts Tryz.hinfoTy
  have hkI:(0:Int)<(m:Int):=by omega
  go_enter Tryz.func112,Tryz.ntmps112
  go_upto_region 7 with (first
    | (go_at_call 107;refine (HII.out _).mono ?_;rintro e w1 ⟨rfl,hb⟩;have ssd:=kp2 (n:=W.heap.size) hb (by simp) (halloc1 _ _);obtain ⟨ssB,ss0,ss1,ssf,ssL,ssN⟩:=ssd;have B1:Hid (Below W.heap.size W w1):=bstep (by repeat (first|exact Below.refl _ _|refine Below.setCell ?_ (by simp;try omega) _|refine Below.alloc ?_ (by simp;try omega) _|refine Below.drew ?_)) hb;have d0:=(B1.out.cell (p:=⟨b,0,none⟩) hbl).trans b0;have f0:=(B1.out.cell (p:=⟨g,0,none⟩) hgl).trans c0;have f1:=(B1.out.cell (p:=⟨g,1,none⟩) hgl).trans c1;have f2:=(B1.out.cell (p:=⟨g,2,none⟩) hgl).trans c2;have f3:=(B1.out.cell (p:=⟨g,3,none⟩) hgl).trans c3;have f4:=(B1.out.cell (p:=⟨g,4,none⟩) hgl).trans c4;have f5:=(B1.out.cell (p:=⟨g,5,none⟩) hgl).trans c5;have hbl1:b<w1.heap.size:=(by omega);have hgl1:g<w1.heap.size:=(by omega);clear hb HII)
    | (go_at_call 57;refine (HBN.out _ B1.out).mono ?_;rintro e w9 ⟨rfl,hw9⟩;rw [hw9];clear hw9 w9))
  have bw2:Below w1.heap.size w1 (w1.alloc (.cells #[.string c.nm,.string c.su,.slice ai n ci,.int .i64 c.fl,.int .i64 c.ld,.slice am nm cm] 37)):=(Below.refl _ _).alloc (Nat.le_refl _) _
  have cw2:(w1.alloc (.cells #[.string c.nm,.string c.su,.slice ai n ci,.int .i64 c.fl,.int .i64 c.ld,.slice am nm cm] 37)).heap[w1.heap.size]?=some (.cells #[.string c.nm,.string c.su,.slice ai n ci,.int .i64 c.fl,.int .i64 c.ld,.slice am nm cm] 37 (0,0)):=halloc1 _ _
  have sw2:(w1.alloc (.cells #[.string c.nm,.string c.su,.slice ai n ci,.int .i64 c.fl,.int .i64 c.ld,.slice am nm cm] 37)).heap.size=w1.heap.size+1:=by simp
  have B2:Hid (Below W.heap.size W (w1.alloc (.cells #[.string c.nm,.string c.su,.slice ai n ci,.int .i64 c.fl,.int .i64 c.ld,.slice am nm cm] 37))):=bstep B1.out bw2
  clear d0 f0 f1 f2 f3 f4 f5 b0 c0 c1 c2 c3 c4 c5 hbl1 hgl1 ss0 ss1 ssB ssf ssL ssN HBN
  generalize w1.alloc (.cells #[.string c.nm,.string c.su,.slice ai n ci,.int .i64 c.fl,.int .i64 c.ld,.slice am nm cm] 37)=w2 at *
  obtain ⟨cc0,cc1,cc2,cc3,cc4,cc5,ccf,ccL⟩:=rw6 cw2
  have HST:Hid (c.ifs≠[]→∃ bk o,ai=some ⟨bk,o,none⟩∧bk<w2.heap.size∧∀ (j:Nat) (p:List UInt8),c.ifs[j]?=some p→w2.cell? ⟨bk,o+j,none⟩=some (.string (mkB p))):=fun hne=>by
    obtain ⟨bk,o,e,h1,h2⟩:=HST0.out hne
    exact ⟨bk,o,e,Nat.lt_of_lt_of_le h1 B2.out.size,fun j p hj=>(B2.out.cell (p:=⟨bk,o+j,none⟩) h1).trans (h2 j p hj)⟩
  clear HST0 cw2 sw2 bw2
  go_wp2
  go_loopw [5,9] (fun lv iv wr=>∃ (i:Nat) (al:Option Addr) (cl:Nat),iv=.int .i64 i∧lv=.slice al (i) cl∧i≤n∧Hid (wr.ownsRow (w2.heap.size) 24 2 (.slice al (i) cl) (i) (flatU (([]:List (Int×List UInt8))++(c.ifs.take i).map fun p=>((0:Int),p))))∧Hid (Below w2.heap.size w2 wr)) (fun _ iv _=>n - (intOf iv).toNat)
  case atStart=>exact ⟨0,none,0,rfl,rfl,Nat.zero_le _,(by rw [Hid,List.take_zero];exact World.ownsRow_nil _ _ _ _),Below.refl _ _⟩
  case round =>
    obtain ⟨i,al,cl,rfl,rfl,hi,hO,hB⟩:=hrel
    have k2:=(hB.out.cell (p:=⟨w1.heap.size,2,none⟩) ccL).trans cc2
    have kL:w1.heap.size<wr.heap.size:=Nat.lt_of_lt_of_le ccL hB.out.size
    by_cases hlt:i<n
    · have hiI:(i:Int)<(n:Int):=by omega
      obtain ⟨p,hp⟩:∃ p,c.ifs[i]?=some p:=⟨_,List.getElem?_eq_getElem (by rw [HN.out];exact hlt)⟩
      obtain ⟨bk,oo,rfl,hbk,hcs⟩:=HST.out (fun e=>by rw [e] at hp;simp at hp)
      have q0:wr.cell? ⟨bk,oo+i,none⟩=some (.string (mkB p)):=(hB.out.cell (p:=⟨bk,oo+i,none⟩) hbk).trans (hcs i p hp)
      have qL:bk<wr.heap.size:=Nat.lt_of_lt_of_le hbk hB.out.size
      have FL:Hid (flatU (([]:List (Int×List UInt8))++(c.ifs.take (i+1)).map fun p=>((0:Int),p))=flatU (([]:List (Int×List UInt8))++(c.ifs.take i).map fun p=>((0:Int),p))++[.int .i64 0,.string (mkB p)]):=by
        rw [Hid,List.take_add_one,hp,Option.toList_some,List.map_append,← List.append_assoc,flatU_app]
        rfl
      generalize ([]:List (Int×List UInt8))++(c.ifs.take i).map (fun p=>((0:Int),p))=xs at *
      clear hcs hp
      go_wp2_with (at_builtin;refine wpList_append_own _ rfl _ _ 66 rfl w2.heap.size 24 i0 (.agg #[.int .i64 0,.string ⟨#[]⟩]) 2 24 Tryz.underlying66 hi0 hz0 hz1 hz2 rfl (by decide) (.slice al (i) cl) (i) (flatU xs) rfl (hO.out.alloc _) ⟨wr.heap.size,0,none⟩ 1 1 [.int .i64 0,.string (mkB p)] rfl rfl ?c1 ?c2 ?c3 ?c4 ?c5 ?_)
      case c1=>exact World.news_of_block (cs:=#[.int .i64 0,.string (mkB p)]) (halloc1 _ _)
      case c2=>intro u hu;simp at hu;rcases hu with rfl|rfl <;> rfl
      case c3=>unfold maxLen;omega
      case c4=>omega
      case c5=>have:=hB.out.size;simp;omega
      intro v' w4 hown hgrow _
      obtain ⟨a4,c4,rfl⟩:=ownv hown
      have B4:Hid (Below w2.heap.size w2 w4):=by
        refine (hB.out.alloc hB.out.size _).grown hgrow (by have:=hB.out.size;simp;omega) (fun z hz=>?_)
        exact (hO.out.lt z hz).1
      have O4:Hid (w4.ownsRow w2.heap.size 24 2 (.slice a4 (i+1) c4) (i+1) (flatU xs++[.int .i64 0,.string (mkB p)])):=hown
      clear hown hgrow
      go_wp2
      exact ⟨⟨i+1,a4,c4,by simp,rfl,by omega,(by rw [FL.out];exact O4),B4⟩,by simp [intOf];omega⟩
    · have e:i=n:=by omega
      subst e
      have E0:Hid (c.ifs.take i=c.ifs):=List.take_of_length_le (by rw [HN.out];exact Nat.le_refl _)
      rw [E0.out] at hO
      go_wp2
      exact bodyPost_ret (results_tmp rfl _ _ _) rfl ⟨⟨_,rfl,Go.Joins.ownsRow_le hO.out B2.out.size⟩,B2.out.trans (hB.out.mono B2.out.size)⟩
set_option maxHeartbeats 8000000 in
theorem stp_3 (W:World) (b k m:Nat) (s:ByteArray) (c:Cls) (g cap:Nat) (ai:Option Addr) (n ci:Nat) (am:Option Addr) (nm cm:Nat) (hn:n≤1000000) (HN:Hid (c.ifs.length=n)) (hkm:k<m) (hbl:b<W.heap.size) (hgl:g<W.heap.size)
    (b0:W.cell? ⟨b,0,none⟩=some (.slice (some ⟨g,0,none⟩) m cap)) (c0:W.cell? ⟨g,k * 6,none⟩=some (.string c.nm)) (c1:W.cell? ⟨g,k * 6+1,none⟩=some (.string c.su)) (c2:W.cell? ⟨g,k * 6+2,none⟩=some (.slice ai n ci)) (c3:W.cell? ⟨g,k * 6+3,none⟩=some (.int .i64 c.fl)) (c4:W.cell? ⟨g,k * 6+4,none⟩=some (.int .i64 c.ld)) (c5:W.cell? ⟨g,k * 6+5,none⟩=some (.slice am nm cm))
    (HST0:Hid (c.ifs≠[]→∃ bk o,ai=some ⟨bk,o,none⟩∧bk<W.heap.size∧∀ (j:Nat) (p:List UInt8),c.ifs[j]?=some p→W.cell? ⟨bk,o+j,none⟩=some (.string (mkB p)))) (HII:Hid (∀ w,Calls Tryz.prog 107 #[.agg #[.int .i64 0,.string s]] w fun e w'=>e=.returned (.bool false)∧Below w.heap.size w w'))
    (HBN:Hid (∀ w,Below W.heap.size W w→Calls Tryz.prog 57 #[.pointer (some ⟨b,0,none⟩),.string s] w fun e w'=>e=.returned (.tuple #[.int .i64 (k:Int),.int .i64 0])∧w'=w)) (hk0:¬ k=0) :
    Calls Tryz.prog 112 #[.pointer (some ⟨b,0,none⟩),.agg #[.int .i64 0,.string s]] W fun e w'=>(∃ v,e=.returned v∧w'.ownsRow W.heap.size 24 2 v (n+1) (flatU ([((0:Int),c.su.data.toList)]++c.ifs.map fun p=>((0:Int),p))))∧Below W.heap.size W w':=by
  obtain ⟨i0,hi0,hz0,hz1,hz2⟩:=info_parts Tryz.hinfoTy
  have hkI:(k:Int)<(m:Int):=by omega
  have hk1:((k:Int) == 0)=false:=by rw [← Bool.not_eq_true,beq_iff_eq];omega
  have hk2:¬ (k:Int)=0:=by omega
  go_enter Tryz.func112,Tryz.ntmps112
  go_upto_region 7 with (first
    | (go_at_call 107;refine (HII.out _).mono ?_;rintro e w1 ⟨rfl,hb⟩;have ssd:=kp2 (n:=W.heap.size) hb (by simp) (halloc1 _ _);obtain ⟨ssB,ss0,ss1,ssf,ssL,ssN⟩:=ssd;have B1:Hid (Below W.heap.size W w1):=bstep (by repeat (first|exact Below.refl _ _|refine Below.setCell ?_ (by simp;try omega) _|refine Below.alloc ?_ (by simp;try omega) _|refine Below.drew ?_)) hb;have d0:=(B1.out.cell (p:=⟨b,0,none⟩) hbl).trans b0;have f0:=(B1.out.cell (p:=⟨g,k * 6,none⟩) hgl).trans c0;have f1:=(B1.out.cell (p:=⟨g,k * 6+1,none⟩) hgl).trans c1;have f2:=(B1.out.cell (p:=⟨g,k * 6+2,none⟩) hgl).trans c2;have f3:=(B1.out.cell (p:=⟨g,k * 6+3,none⟩) hgl).trans c3;have f4:=(B1.out.cell (p:=⟨g,k * 6+4,none⟩) hgl).trans c4;have f5:=(B1.out.cell (p:=⟨g,k * 6+5,none⟩) hgl).trans c5;have hbl1:b<w1.heap.size:=(by omega);have hgl1:g<w1.heap.size:=(by omega);clear hb HII)
    | (go_at_call 57;refine (HBN.out _ B1.out).mono ?_;rintro e w9 ⟨rfl,hw9⟩;rw [hw9];clear hw9 w9))
  have bw2:Below w1.heap.size w1 (w1.alloc (.cells #[.string c.nm,.string c.su,.slice ai n ci,.int .i64 c.fl,.int .i64 c.ld,.slice am nm cm] 37)):=(Below.refl _ _).alloc (Nat.le_refl _) _
  have cw2:(w1.alloc (.cells #[.string c.nm,.string c.su,.slice ai n ci,.int .i64 c.fl,.int .i64 c.ld,.slice am nm cm] 37)).heap[w1.heap.size]?=some (.cells #[.string c.nm,.string c.su,.slice ai n ci,.int .i64 c.fl,.int .i64 c.ld,.slice am nm cm] 37 (0,0)):=halloc1 _ _
  have sw2:(w1.alloc (.cells #[.string c.nm,.string c.su,.slice ai n ci,.int .i64 c.fl,.int .i64 c.ld,.slice am nm cm] 37)).heap.size=w1.heap.size+1:=by simp
  have B2:Hid (Below W.heap.size W (w1.alloc (.cells #[.string c.nm,.string c.su,.slice ai n ci,.int .i64 c.fl,.int .i64 c.ld,.slice am nm cm] 37))):=bstep B1.out bw2
  clear d0 f0 f1 f2 f3 f4 f5 b0 c0 c1 c2 c3 c4 c5 hbl1 hgl1 ss0 ss1 ssB ssf ssL ssN HBN
  generalize w1.alloc (.cells #[.string c.nm,.string c.su,.slice ai n ci,.int .i64 c.fl,.int .i64 c.ld,.slice am nm cm] 37)=w2 at *
  obtain ⟨cc0,cc1,cc2,cc3,cc4,cc5,ccf,ccL⟩:=rw6 cw2
  have HST:Hid (c.ifs≠[]→∃ bk o,ai=some ⟨bk,o,none⟩∧bk<w2.heap.size∧∀ (j:Nat) (p:List UInt8),c.ifs[j]?=some p→w2.cell? ⟨bk,o+j,none⟩=some (.string (mkB p))):=fun hne=>by
    obtain ⟨bk,o,e,h1,h2⟩:=HST0.out hne
    exact ⟨bk,o,e,Nat.lt_of_lt_of_le h1 B2.out.size,fun j p hj=>(B2.out.cell (p:=⟨bk,o+j,none⟩) h1).trans (h2 j p hj)⟩
  clear HST0 cw2 sw2 bw2
  go_wp2_with (at_builtin;refine wpList_append_own _ rfl _ _ 66 rfl w2.heap.size 24 i0 (.agg #[.int .i64 0,.string ⟨#[]⟩]) 2 24 Tryz.underlying66 hi0 hz0 hz1 hz2 rfl (by decide) (.slice none 0 0) 0 [] rfl (World.ownsRow_nil _ _ _ _) ⟨w2.heap.size,0,none⟩ 1 1 [.int .i64 0,.string c.su] rfl rfl ?c1 ?c2 ?c3 ?c4 ?c5 ?_)
  case c1=>exact World.news_of_block (cs:=#[.int .i64 0,.string c.su]) (halloc1 _ _)
  case c2=>intro u hu;simp at hu;rcases hu with rfl|rfl <;> rfl
  case c3=>unfold maxLen;omega
  case c4=>omega
  case c5=>simp
  intro v3 w3 hown hgrow _
  obtain ⟨a3,d3,rfl⟩:=ownv hown
  have B3:Hid (Below w2.heap.size w2 w3):=((Below.refl _ w2).alloc (Nat.le_refl _) _).grown hgrow (by simp) (fun z hz=>by simp [Value.ownBlock] at hz)
  have O3:Hid (w3.ownsRow w2.heap.size 24 2 (.slice a3 (0+1) d3) (0+1) (flatU ([((0:Int),c.su.data.toList)]++[]))):=by
    have e:flatU ([((0:Int),c.su.data.toList)]++[])=[.int .i64 0,.string c.su]:=by
      show [Value.int .i64 0,Value.string (mkB c.su.data.toList)]=_
      rw [mkB_eq]
    rw [Hid,e];exact hown
  clear hown hgrow
  go_wp2
  go_loopw [5,9] (fun lv iv wr=>∃ (i:Nat) (al:Option Addr) (cl:Nat),iv=.int .i64 i∧lv=.slice al (i+1) cl∧i≤n∧Hid (wr.ownsRow (w2.heap.size) 24 2 (.slice al (i+1) cl) (i+1) (flatU ([((0:Int),c.su.data.toList)]++(c.ifs.take i).map fun p=>((0:Int),p))))∧Hid (Below w2.heap.size w2 wr)) (fun _ iv _=>n - (intOf iv).toNat)
  case atStart=>exact ⟨0,a3,d3,rfl,rfl,Nat.zero_le _,(by rw [Hid,List.take_zero];exact O3),B3⟩
  case round =>
    obtain ⟨i,al,cl,rfl,rfl,hi,hO,hB⟩:=hrel
    have k2:=(hB.out.cell (p:=⟨w1.heap.size,2,none⟩) ccL).trans cc2
    have kL:w1.heap.size<wr.heap.size:=Nat.lt_of_lt_of_le ccL hB.out.size
    by_cases hlt:i<n
    · have hiI:(i:Int)<(n:Int):=by omega
      obtain ⟨p,hp⟩:∃ p,c.ifs[i]?=some p:=⟨_,List.getElem?_eq_getElem (by rw [HN.out];exact hlt)⟩
      obtain ⟨bk,oo,rfl,hbk,hcs⟩:=HST.out (fun e=>by rw [e] at hp;simp at hp)
      have q0:wr.cell? ⟨bk,oo+i,none⟩=some (.string (mkB p)):=(hB.out.cell (p:=⟨bk,oo+i,none⟩) hbk).trans (hcs i p hp)
      have qL:bk<wr.heap.size:=Nat.lt_of_lt_of_le hbk hB.out.size
      have FL:Hid (flatU ([((0:Int),c.su.data.toList)]++(c.ifs.take (i+1)).map fun p=>((0:Int),p))=flatU ([((0:Int),c.su.data.toList)]++(c.ifs.take i).map fun p=>((0:Int),p))++[.int .i64 0,.string (mkB p)]):=by
        rw [Hid,List.take_add_one,hp,Option.toList_some,List.map_append,← List.append_assoc,flatU_app]
        rfl
      generalize [((0:Int),c.su.data.toList)]++(c.ifs.take i).map (fun p=>((0:Int),p))=xs at *
      clear hcs hp
      go_wp2_with (at_builtin;refine wpList_append_own _ rfl _ _ 66 rfl w2.heap.size 24 i0 (.agg #[.int .i64 0,.string ⟨#[]⟩]) 2 24 Tryz.underlying66 hi0 hz0 hz1 hz2 rfl (by decide) (.slice al (i+1) cl) (i+1) (flatU xs) rfl (hO.out.alloc _) ⟨wr.heap.size,0,none⟩ 1 1 [.int .i64 0,.string (mkB p)] rfl rfl ?c1 ?c2 ?c3 ?c4 ?c5 ?_)
      case c1=>exact World.news_of_block (cs:=#[.int .i64 0,.string (mkB p)]) (halloc1 _ _)
      case c2=>intro u hu;simp at hu;rcases hu with rfl|rfl <;> rfl
      case c3=>unfold maxLen;omega
      case c4=>omega
      case c5=>have:=hB.out.size;simp;omega
      intro v' w4 hown hgrow _
      obtain ⟨a4,c4,rfl⟩:=ownv hown
      have B4:Hid (Below w2.heap.size w2 w4):=by
        refine (hB.out.alloc hB.out.size _).grown hgrow (by have:=hB.out.size;simp;omega) (fun z hz=>?_)
        exact (hO.out.lt z hz).1
      have O4:Hid (w4.ownsRow w2.heap.size 24 2 (.slice a4 (i+1+1) c4) (i+1+1) (flatU xs++[.int .i64 0,.string (mkB p)])):=hown
      clear hown hgrow
      go_wp2
      exact ⟨⟨i+1,a4,c4,by simp,rfl,by omega,(by rw [FL.out];exact O4),B4⟩,by simp [intOf];omega⟩
    · have e:i=n:=by omega
      subst e
      have E0:Hid (c.ifs.take i=c.ifs):=List.take_of_length_le (by rw [HN.out];exact Nat.le_refl _)
      rw [E0.out] at hO
      go_wp2
      exact bodyPost_ret (results_tmp rfl _ _ _) rfl ⟨⟨_,rfl,Go.Joins.ownsRow_le hO.out B2.out.size⟩,B2.out.trans (hB.out.mono B2.out.size)⟩
set_option maxHeartbeats 8000000 in
theorem stp_4 (W:World) (b d:Nat) (s:ByteArray) (HI1:Hid (∀ z w,z=((d:Int)+1)→Calls Tryz.prog 107 #[.agg #[.int .i64 z,.string s]] w fun e w'=>e=.returned (.bool false)∧Below w.heap.size w w')) (HLO:Hid (∀ w,Calls Tryz.prog 146 #[.agg #[.int .i64 ((d:Int)+1),.string s]] w fun e w'=>e=.returned (.agg #[.int .i64 (d:Int),.string s])∧Below w.heap.size w w')) (HI2:Hid (∀ z w,z=(d:Int)→Calls Tryz.prog 107 #[.agg #[.int .i64 z,.string s]] w fun e w'=>e=.returned (.bool true)∧Below w.heap.size w w')) :
    Calls Tryz.prog 112 #[.pointer (some ⟨b,0,none⟩),.agg #[.int .i64 ((d:Int)+1),.string s]] W fun e w'=>(∃ v,e=.returned v∧w'.ownsRow W.heap.size 24 2 v 3 (flatU (abv3.map fun p=>((0:Int),p))))∧Below W.heap.size W w':=by
  have hd1:(((d:Int)+1) == 0)=false:=by rw [← Bool.not_eq_true,beq_iff_eq];omega
  have hd2:¬ ((d:Int)+1)=0:=by omega
  go_enter Tryz.func112,Tryz.ntmps112
  go_wp2_with (first
    | (go_at_call 107;refine (HI1.out _ _ (by rfl)).mono ?_;rintro e w1 ⟨rfl,hb⟩;have ssd:=kp2 (n:=W.heap.size) hb (by first|omega|(simp;try omega)) (halloc1 _ _);(try clear ssB ss0 ss1 ssf ssL ssN);obtain ⟨ssB,ss0,ss1,ssf,ssL,ssN⟩:=ssd;have B1:Hid (Below W.heap.size W w1):=bstep (by repeat (first|exact Below.refl _ _|refine Below.setCell ?_ (by simp;try omega) _|refine Below.alloc ?_ (by simp;try omega) _|refine Below.drew ?_)) hb;clear hb HI1)
    | (go_at_call 146;refine (HLO.out _).mono ?_;rintro e w2 ⟨rfl,hb⟩;have ssd:=kp2 (n:=W.heap.size) hb (by first|omega|(simp;try omega)) (ssB.out);(try clear ssB ss0 ss1 ssf ssL ssN);obtain ⟨ssB,ss0,ss1,ssf,ssL,ssN⟩:=ssd;have B2:Hid (Below W.heap.size W w2):=bstep B1.out hb;clear hb HLO)
    | (go_at_call 107;refine (HI2.out _ _ (by rfl)).mono ?_;rintro e w3 ⟨rfl,hb⟩;have lld:=kp2 (n:=w2.heap.size) hb (by simp) (halloc1 _ _);obtain ⟨llB,ll0,ll1,llf,llL,llN⟩:=lld;have B3:Hid (Below W.heap.size W w3):=bstep (B2.out.alloc B2.out.size _) hb;clear hb HI2))
  refine bodyPost_ret (results_tmp rfl _ _ _) rfl ⟨⟨_,rfl,?_⟩,B3.out.alloc B3.out.size _⟩
  exact ⟨rfl,.inr ⟨w3.heap.size,3,_,rfl,B3.out.size,halloc1 _ _,Nat.le_refl _,by unfold maxLen;omega,rfl,rfl⟩⟩
set_option maxHeartbeats 8000000 in
theorem stp_4o (W:World) (b d:Nat) (s:ByteArray) (hd:d=0) (hs:s=⟨#[79,98,106,101,99,116]⟩) (HI1:Hid (∀ z w,z=((d:Int)+1)→Calls Tryz.prog 107 #[.agg #[.int .i64 z,.string s]] w fun e w'=>e=.returned (.bool false)∧Below w.heap.size w w')) (HLO:Hid (∀ w,Calls Tryz.prog 146 #[.agg #[.int .i64 ((d:Int)+1),.string s]] w fun e w'=>e=.returned (.agg #[.int .i64 (d:Int),.string s])∧Below w.heap.size w w')) (HI2:Hid (∀ z w,z=(d:Int)→Calls Tryz.prog 107 #[.agg #[.int .i64 z,.string s]] w fun e w'=>e=.returned (.bool false)∧Below w.heap.size w w')) :
    Calls Tryz.prog 112 #[.pointer (some ⟨b,0,none⟩),.agg #[.int .i64 ((d:Int)+1),.string s]] W fun e w'=>(∃ v,e=.returned v∧w'.ownsRow W.heap.size 24 2 v 3 (flatU (abv3.map fun p=>((0:Int),p))))∧Below W.heap.size W w':=by
  subst hd hs
  go_enter Tryz.func112,Tryz.ntmps112
  go_wp2_with (first
    | (go_at_call 107;refine (HI1.out _ _ (by rfl)).mono ?_;rintro e w1 ⟨rfl,hb⟩;have ssd:=kp2 (n:=W.heap.size) hb (by first|omega|(simp;try omega)) (halloc1 _ _);(try clear ssB ss0 ss1 ssf ssL ssN);obtain ⟨ssB,ss0,ss1,ssf,ssL,ssN⟩:=ssd;have B1:Hid (Below W.heap.size W w1):=bstep (by repeat (first|exact Below.refl _ _|refine Below.setCell ?_ (by simp;try omega) _|refine Below.alloc ?_ (by simp;try omega) _|refine Below.drew ?_)) hb;clear hb HI1)
    | (go_at_call 146;refine (HLO.out _).mono ?_;rintro e w2 ⟨rfl,hb⟩;have ssd:=kp2 (n:=W.heap.size) hb (by first|omega|(simp;try omega)) (ssB.out);(try clear ssB ss0 ss1 ssf ssL ssN);obtain ⟨ssB,ss0,ss1,ssf,ssL,ssN⟩:=ssd;have B2:Hid (Below W.heap.size W w2):=bstep B1.out hb;clear hb HLO)
    | (go_at_call 107;refine (HI2.out _ _ (by rfl)).mono ?_;rintro e w3 ⟨rfl,hb⟩;have lld:=kp2 (n:=w2.heap.size) hb (by simp) (halloc1 _ _);obtain ⟨llB,ll0,ll1,llf,llL,llN⟩:=lld;have B3:Hid (Below W.heap.size W w3):=bstep (B2.out.alloc B2.out.size _) hb;clear hb HI2))
  refine bodyPost_ret (results_tmp rfl _ _ _) rfl ⟨⟨_,rfl,?_⟩,B3.out.alloc B3.out.size _⟩
  exact ⟨rfl,.inr ⟨w3.heap.size,3,_,rfl,B3.out.size,halloc1 _ _,Nat.le_refl _,by unfold maxLen;omega,rfl,rfl⟩⟩
set_option maxHeartbeats 8000000 in
theorem stp_5a (W:World) (b d n:Nat) (s:ByteArray) (us:List (Int×List UInt8)) (hn:n≤1000000) (HN:Hid (us.length=n)) (HBU:Hid (∀ u∈us,0≤u.1∧u.1≤1000)) (hd0:¬ d=0) (HI1:Hid (∀ z w,z=((d:Int)+1)→Calls Tryz.prog 107 #[.agg #[.int .i64 z,.string s]] w fun e w'=>e=.returned (.bool false)∧Below w.heap.size w w')) (HLO:Hid (∀ w,Calls Tryz.prog 146 #[.agg #[.int .i64 ((d:Int)+1),.string s]] w fun e w'=>e=.returned (.agg #[.int .i64 (d:Int),.string s])∧Below w.heap.size w w')) (HI2:Hid (∀ z w,z=(d:Int)→Calls Tryz.prog 107 #[.agg #[.int .i64 z,.string s]] w fun e w'=>e=.returned (.bool false)∧Below w.heap.size w w')) (HRE:Hid (∀ w,Below W.heap.size W w→Calls Tryz.prog 112 #[.pointer (some ⟨b,0,none⟩),.agg #[.int .i64 (d:Int),.string s]] w fun e w'=>(∃ v,e=.returned v∧w'.ownsRow w.heap.size 24 2 v n (flatU us))∧Below w.heap.size w w')) :
    Calls Tryz.prog 112 #[.pointer (some ⟨b,0,none⟩),.agg #[.int .i64 ((d:Int)+1),.string s]] W fun e w'=>(∃ v,e=.returned v∧w'.ownsRow W.heap.size 24 2 v n (flatU (us.map fun u=>(u.1+1,u.2))))∧Below W.heap.size W w':=by
  have hd1:(((d:Int)+1) == 0)=false:=by rw [← Bool.not_eq_true,beq_iff_eq];omega
  have hd2:¬ ((d:Int)+1)=0:=by omega
  have hd3:((d:Int) == 0)=false:=by rw [← Bool.not_eq_true,beq_iff_eq];omega
  have hd4:¬ (d:Int)=0:=by omega
  obtain ⟨i0,hi0,hz0,hz1,hz2⟩:=info_parts Tryz.hinfoTy
  go_enter Tryz.func112,Tryz.ntmps112
  go_wp2_with (first
    | (go_at_call 107;refine (HI1.out _ _ (by rfl)).mono ?_;rintro e w1 ⟨rfl,hb⟩;have ssd:=kp2 (n:=W.heap.size) hb (by first|omega|(simp;try omega)) (halloc1 _ _);(try clear ssB ss0 ss1 ssf ssL ssN);obtain ⟨ssB,ss0,ss1,ssf,ssL,ssN⟩:=ssd;have B1:Hid (Below W.heap.size W w1):=bstep (by repeat (first|exact Below.refl _ _|refine Below.setCell ?_ (by simp;try omega) _|refine Below.alloc ?_ (by simp;try omega) _|refine Below.drew ?_)) hb;clear hb HI1)
    | (go_at_call 146;refine (HLO.out _).mono ?_;rintro e w2 ⟨rfl,hb⟩;have ssd:=kp2 (n:=W.heap.size) hb (by first|omega|(simp;try omega)) (ssB.out);(try clear ssB ss0 ss1 ssf ssL ssN);obtain ⟨ssB,ss0,ss1,ssf,ssL,ssN⟩:=ssd;have B2:Hid (Below W.heap.size W w2):=bstep B1.out hb;clear hb HLO)
    | (go_at_call 107;refine (HI2.out _ _ (by rfl)).mono ?_;rintro e w3 ⟨rfl,hb⟩;have lld:=kp2 (n:=w2.heap.size) hb (by simp) (halloc1 _ _);obtain ⟨llB,ll0,ll1,llf,llL,llN⟩:=lld;have B3:Hid (Below W.heap.size W w3):=bstep (B2.out.alloc B2.out.size _) hb;clear hb HI2)
    | (go_at_call 112;refine (HRE.out _ B3.out).mono ?_;rintro e w4 ⟨⟨vu,rfl,ho⟩,hb⟩;obtain ⟨au,cu,rfl⟩:=ownv ho;have U4:Hid (w4.ownsRow w3.heap.size 24 2 (.slice au n cu) n (flatU us)):=ho;have B4:Hid (Below W.heap.size W w4):=bstep B3.out hb;clear hb ho HRE))
  go_loopw [5,12] (fun lv iv wr=>∃ (i:Nat) (al:Option Addr) (cl:Nat),iv=.int .i64 i∧lv=.slice al i cl∧i≤n∧Hid (wr.ownsRow w4.heap.size 24 2 (.slice al i cl) i (flatU ((us.take i).map fun u=>(u.1+1,u.2))))∧Hid (Below w4.heap.size w4 wr)) (fun _ iv _=>n - (intOf iv).toNat)
  case atStart=>exact ⟨0,none,0,rfl,rfl,Nat.zero_le _,(by rw [Hid,List.take_zero];exact World.ownsRow_nil _ _ _ _),Below.refl _ _⟩
  case round =>
    obtain ⟨i,al,cl,rfl,rfl,hi,hO,hB⟩:=hrel
    by_cases hlt:i<n
    · have hiI:(i:Int)<(n:Int):=by omega
      obtain ⟨⟨e0,p⟩,hu⟩:∃ u,us[i]?=some u:=⟨_,List.getElem?_eq_getElem (by rw [HN.out];exact hlt)⟩
      have hbu:=HBU.out _ (List.mem_of_getElem? hu)
      obtain ⟨gu,capu,hfu⟩:=Go.Joins.ownsRow_form U4.out (by omega)
      injection hfu with e1 _ e2
      subst e1 e2
      obtain ⟨m0,m1,mL⟩:=rowU_at U4.out hu
      simp only at m0 m1 hbu
      have x0:=(hB.out.cell (p:=⟨gu,i * 2,none⟩) mL).trans m0
      have x1:=(hB.out.cell (p:=⟨gu,i * 2+1,none⟩) mL).trans m1
      have xL:gu<wr.heap.size:=Nat.lt_of_lt_of_le mL hB.out.size
      have xN:¬ gu=wr.heap.size:=by omega
      have hwz:=hB.out.size
      have FL:Hid (flatU ((us.take (i+1)).map fun u=>(u.1+1,u.2))=flatU ((us.take i).map fun u=>(u.1+1,u.2))++[.int .i64 (e0+1),.string (mkB p)]):=by
        rw [Hid,List.take_add_one,hu,Option.toList_some,List.map_append,flatU_app]
        rfl
      generalize (us.take i).map (fun u=>(u.1+1,u.2))=xs at *
      generalize mkB p=pb at *
      have hw1:IntKind.i64.wrap (e0+1)=e0+1:=by rw [IntKind.wrap_i64];omega
      clear hu m0 m1
      go_upto_region 21 with fail
      go_region_law (refine step_append_lies _ rfl (.tmp 85) (.tmp 98) 66 rfl w4.heap.size 24 i0 (.agg #[.int .i64 0,.string ⟨#[]⟩]) 2 24 Tryz.underlying66 hi0 hz0 hz1 hz2 rfl (by decide) (.slice al i cl) i (flatU xs) (by simp [Act.eval]) ((hO.out.drew).alloc _) ⟨wr.heap.size,0,none⟩ 1 1 [.int .i64 (e0+1),.string pb] (by simp [Act.eval]) rfl (World.news_of_block (heap_alloc_new _ _)) ?_ (by decide) ?_ ?_ ?_ _ rfl ?_;(intro u hu;simp at hu;rcases hu with rfl|rfl <;> rfl);(unfold maxLen;omega);omega;(simp;omega);intro g5 cap5 w5 hown hgrow _ _;have O5:Hid (w5.ownsRow w4.heap.size 24 2 (.slice (some ⟨g5,0,none⟩) (i+1) cap5) (i+1) (flatU xs++[.int .i64 (e0+1),.string pb])):=hown;have B5:Hid (Below w4.heap.size w4 w5):=(Below.grown (w:=_) ((hB.out.drew).alloc (by simpa using hwz) _) hgrow (by simp;omega) (fun z hz=>(hO.out.lt z hz).1));clear hown hgrow)
      all_goals go_wp2
      all_goals exact ⟨⟨i+1,_,cap5,by simp,rfl,by omega,(by rw [FL.out];exact O5),B5⟩,by simp [intOf];omega⟩
    · have e:i=n:=by omega
      subst e
      have E0:Hid (us.take i=us):=List.take_of_length_le (by rw [HN.out];exact Nat.le_refl _)
      rw [E0.out] at hO
      go_wp2
      exact bodyPost_ret (results_tmp rfl _ _ _) rfl ⟨⟨_,rfl,Go.Joins.ownsRow_le hO.out B4.out.size⟩,B4.out.trans (hB.out.mono B4.out.size)⟩
set_option maxHeartbeats 8000000 in
theorem stp_5b (W:World) (b d n:Nat) (s:ByteArray) (us:List (Int×List UInt8)) (hn:n≤1000000) (HN:Hid (us.length=n)) (HBU:Hid (∀ u∈us,0≤u.1∧u.1≤1000)) (hd0:d=0) (hs0:¬ s.toList=sObj) (HI1:Hid (∀ z w,z=((d:Int)+1)→Calls Tryz.prog 107 #[.agg #[.int .i64 z,.string s]] w fun e w'=>e=.returned (.bool false)∧Below w.heap.size w w')) (HLO:Hid (∀ w,Calls Tryz.prog 146 #[.agg #[.int .i64 ((d:Int)+1),.string s]] w fun e w'=>e=.returned (.agg #[.int .i64 (d:Int),.string s])∧Below w.heap.size w w')) (HI2:Hid (∀ z w,z=(d:Int)→Calls Tryz.prog 107 #[.agg #[.int .i64 z,.string s]] w fun e w'=>e=.returned (.bool false)∧Below w.heap.size w w')) (HRE:Hid (∀ w,Below W.heap.size W w→Calls Tryz.prog 112 #[.pointer (some ⟨b,0,none⟩),.agg #[.int .i64 (d:Int),.string s]] w fun e w'=>(∃ v,e=.returned v∧w'.ownsRow w.heap.size 24 2 v n (flatU us))∧Below w.heap.size w w')) :
    Calls Tryz.prog 112 #[.pointer (some ⟨b,0,none⟩),.agg #[.int .i64 ((d:Int)+1),.string s]] W fun e w'=>(∃ v,e=.returned v∧w'.ownsRow W.heap.size 24 2 v n (flatU (us.map fun u=>(u.1+1,u.2))))∧Below W.heap.size W w':=by
  have hs1:(s.toList == [79,98,106,101,99,116])=false:=by rw [← Bool.not_eq_true,beq_iff_eq];exact hs0
  subst hd0
  obtain ⟨i0,hi0,hz0,hz1,hz2⟩:=info_parts Tryz.hinfoTy
  go_enter Tryz.func112,Tryz.ntmps112
  go_wp2_with (first
    | (go_at_call 107;refine (HI1.out _ _ (by rfl)).mono ?_;rintro e w1 ⟨rfl,hb⟩;have ssd:=kp2 (n:=W.heap.size) hb (by first|omega|(simp;try omega)) (halloc1 _ _);(try clear ssB ss0 ss1 ssf ssL ssN);obtain ⟨ssB,ss0,ss1,ssf,ssL,ssN⟩:=ssd;have B1:Hid (Below W.heap.size W w1):=bstep (by repeat (first|exact Below.refl _ _|refine Below.setCell ?_ (by simp;try omega) _|refine Below.alloc ?_ (by simp;try omega) _|refine Below.drew ?_)) hb;clear hb HI1)
    | (go_at_call 146;refine (HLO.out _).mono ?_;rintro e w2 ⟨rfl,hb⟩;have ssd:=kp2 (n:=W.heap.size) hb (by first|omega|(simp;try omega)) (ssB.out);(try clear ssB ss0 ss1 ssf ssL ssN);obtain ⟨ssB,ss0,ss1,ssf,ssL,ssN⟩:=ssd;have B2:Hid (Below W.heap.size W w2):=bstep B1.out hb;clear hb HLO)
    | (go_at_call 107;refine (HI2.out _ _ (by rfl)).mono ?_;rintro e w3 ⟨rfl,hb⟩;have lld:=kp2 (n:=w2.heap.size) hb (by simp) (halloc1 _ _);obtain ⟨llB,ll0,ll1,llf,llL,llN⟩:=lld;have B3:Hid (Below W.heap.size W w3):=bstep (B2.out.alloc B2.out.size _) hb;clear hb HI2)
    | (go_at_call 112;refine (HRE.out _ B3.out).mono ?_;rintro e w4 ⟨⟨vu,rfl,ho⟩,hb⟩;obtain ⟨au,cu,rfl⟩:=ownv ho;have U4:Hid (w4.ownsRow w3.heap.size 24 2 (.slice au n cu) n (flatU us)):=ho;have B4:Hid (Below W.heap.size W w4):=bstep B3.out hb;clear hb ho HRE))
  go_loopw [5,12] (fun lv iv wr=>∃ (i:Nat) (al:Option Addr) (cl:Nat),iv=.int .i64 i∧lv=.slice al i cl∧i≤n∧Hid (wr.ownsRow w4.heap.size 24 2 (.slice al i cl) i (flatU ((us.take i).map fun u=>(u.1+1,u.2))))∧Hid (Below w4.heap.size w4 wr)) (fun _ iv _=>n - (intOf iv).toNat)
  case atStart=>exact ⟨0,none,0,rfl,rfl,Nat.zero_le _,(by rw [Hid,List.take_zero];exact World.ownsRow_nil _ _ _ _),Below.refl _ _⟩
  case round =>
    obtain ⟨i,al,cl,rfl,rfl,hi,hO,hB⟩:=hrel
    by_cases hlt:i<n
    · have hiI:(i:Int)<(n:Int):=by omega
      obtain ⟨⟨e0,p⟩,hu⟩:∃ u,us[i]?=some u:=⟨_,List.getElem?_eq_getElem (by rw [HN.out];exact hlt)⟩
      have hbu:=HBU.out _ (List.mem_of_getElem? hu)
      obtain ⟨gu,capu,hfu⟩:=Go.Joins.ownsRow_form U4.out (by omega)
      injection hfu with e1 _ e2
      subst e1 e2
      obtain ⟨m0,m1,mL⟩:=rowU_at U4.out hu
      simp only at m0 m1 hbu
      have x0:=(hB.out.cell (p:=⟨gu,i * 2,none⟩) mL).trans m0
      have x1:=(hB.out.cell (p:=⟨gu,i * 2+1,none⟩) mL).trans m1
      have xL:gu<wr.heap.size:=Nat.lt_of_lt_of_le mL hB.out.size
      have xN:¬ gu=wr.heap.size:=by omega
      have hwz:=hB.out.size
      have FL:Hid (flatU ((us.take (i+1)).map fun u=>(u.1+1,u.2))=flatU ((us.take i).map fun u=>(u.1+1,u.2))++[.int .i64 (e0+1),.string (mkB p)]):=by
        rw [Hid,List.take_add_one,hu,Option.toList_some,List.map_append,flatU_app]
        rfl
      generalize (us.take i).map (fun u=>(u.1+1,u.2))=xs at *
      generalize mkB p=pb at *
      have hw1:IntKind.i64.wrap (e0+1)=e0+1:=by rw [IntKind.wrap_i64];omega
      clear hu m0 m1
      go_upto_region 21 with fail
      go_region_law (refine step_append_lies _ rfl (.tmp 85) (.tmp 98) 66 rfl w4.heap.size 24 i0 (.agg #[.int .i64 0,.string ⟨#[]⟩]) 2 24 Tryz.underlying66 hi0 hz0 hz1 hz2 rfl (by decide) (.slice al i cl) i (flatU xs) (by simp [Act.eval]) ((hO.out.drew).alloc _) ⟨wr.heap.size,0,none⟩ 1 1 [.int .i64 (e0+1),.string pb] (by simp [Act.eval]) rfl (World.news_of_block (heap_alloc_new _ _)) ?_ (by decide) ?_ ?_ ?_ _ rfl ?_;(intro u hu;simp at hu;rcases hu with rfl|rfl <;> rfl);(unfold maxLen;omega);omega;(simp;omega);intro g5 cap5 w5 hown hgrow _ _;have O5:Hid (w5.ownsRow w4.heap.size 24 2 (.slice (some ⟨g5,0,none⟩) (i+1) cap5) (i+1) (flatU xs++[.int .i64 (e0+1),.string pb])):=hown;have B5:Hid (Below w4.heap.size w4 w5):=(Below.grown (w:=_) ((hB.out.drew).alloc (by simpa using hwz) _) hgrow (by simp;omega) (fun z hz=>(hO.out.lt z hz).1));clear hown hgrow)
      all_goals go_wp2
      all_goals exact ⟨⟨i+1,_,cap5,by simp,rfl,by omega,(by rw [FL.out];exact O5),B5⟩,by simp [intOf];omega⟩
    · have e:i=n:=by omega
      subst e
      have E0:Hid (us.take i=us):=List.take_of_length_le (by rw [HN.out];exact Nat.le_refl _)
      rw [E0.out] at hO
      go_wp2
      exact bodyPost_ret (results_tmp rfl _ _ _) rfl ⟨⟨_,rfl,Go.Joins.ownsRow_le hO.out B4.out.size⟩,B4.out.trans (hB.out.mono B4.out.size)⟩
end Go.Proofs.YtkclpcmkplbclaaGreat
