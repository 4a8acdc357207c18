import Derived.Test.YtfjekhmnjfcbeaaGreatRfG
import Derived.Test.YtfjekhmnjfcbeaaGreatOrdB
import Derived.Test.YtfjekhmnjfcbeaaGreatHrZ
import Derived.Test.YtfjekhmnjfcbeaaGreatMxC
import Derived.Test.YtfjekhmnjfcbeaaGreatRfA
import Derived.Test.YtfjekhmnjfcbeaaGreatRsA
import Derived.Test.YtfjekhmnjfcbeaaGreatRfB
import Derived.Test.YtfjekhmnjfcbeaaGreatTys
import Derived.Test.YtfjekhmnjfcbeaaGreatTypesRef
import Derived.Test.YtfjekhmnjfcbeaaGreatSoD
import Derived.Test.YtfjekhmnjfcbeaaGreatOwnRefs
import Derived.Test.YtfjekhmnjfcbeaaGreatOwnC
import Derived.Test.YtfjekhmnjfcbeaaGreatHrX
import Derived.Laws.IdiomStrings
import Derived.Deep.LoopGhost
import Derived.Deep.DeepCutAuto
import Derived.Deep.RegionLaw
set_option maxRecDepth 100000
namespace Go.Proofs.YtfjekhmnjfcbeaaGreat
open Go.RowKit Go.Maps
def SpW (ps:List Plc):Prop:=∀ k q,0<k→ps[k]?=some q→lookL ps q.c.su.data.toList=some q.sp
theorem spW (l:List Cls) (hl:∀ c∈l,ClsW c):SpW (wld l):=by
  have key:WI (wld l)∧SpW (wld l):=by
    refine wld_ind (P:=fun ps=>WI ps∧SpW ps) ⟨wi3,fun k q h0 hk=>?_⟩ (fun ps c h hc=>⟨h.1.define c hc,?_⟩) l hl
    · match k,hk with
      | 1,hk=>simp [P3] at hk;subst hk;decide
      | 2,hk=>simp [P3] at hk;subst hk;decide
      | (k+3),hk=>simp [P3] at hk
    · cases hd:defN ps c with
      | error e=>exact h.2
      | ok p =>
        obtain ⟨_,_,hn,s,l,hs,_,rfl⟩:=def_ok hd
        intro k q h0 hk
        have hk2:(ps++[(⟨hcOf c,s,gathL (ps.map Plc.cl) s l⟩:Plc)])[k]?=some q:=hk
        show lookL (ps++[_]) q.c.su.data.toList=some q.sp
        by_cases hlt:k<ps.length
        · rw [List.getElem?_append_left hlt] at hk2
          exact look_snoc (h.2 k q h0 hk2) hn
        · rw [List.getElem?_append_right (by omega)] at hk2
          have he:k - ps.length=0:=by
            have:=(List.getElem?_eq_some_iff.1 hk2).1
            simp at this;omega
          rw [he] at hk2
          simp at hk2
          subst hk2
          refine look_snoc ?_ hn
          show lookL ps c.su.data.toList=some s
          rw [aboveN] at hs
          cases hl2:lookL ps c.su.data.toList with
          | none=>rw [hl2] at hs;cases hs
          | some j =>
            rw [hl2] at hs
            simp only at hs
            cases hq:ps[j]? with
            | none=>rw [hq] at hs;cases hs
            | some q =>
              rw [hq] at hs
              simp only at hs
              split at hs
              · split at hs
                · cases hs;rfl
                · cases hs
              · cases hs
  exact key.2
theorem takeL_app (c a b:List Nat):takeL c (a++b)=takeL (takeL c a) b:=by
  induction a generalizing c with
  | nil=>rfl
  | cons x r ih=>rw [List.cons_append,takeL,takeL];exact ih _
theorem takeL_old {c a:List Nat} (h:∀ x∈a,x∈c):takeL c a=c:=by
  induction a with
  | nil=>rfl
  | cons x r ih =>
    rw [takeL]
    have hx:c.contains x=true:=by simpa using h x (by simp)
    simp only [hx,if_true]
    exact ih (fun y hy=>h y (by simp [hy]))
theorem takeL_assoc (l a b:List Nat):takeL l (takeL a b)=takeL (takeL l a) b:=by
  induction b generalizing a with
  | nil=>rfl
  | cons x r ih =>
    rw [takeL,takeL,ih]
    congr 1
    by_cases hx:a.contains x=true
    · have h1:(takeL l a).contains x=true:=by
        have:x∈a:=by simpa using hx
        simpa using (takeL_iff l a x).2 (.inr this)
      simp only [hx,h1,if_true]
    · simp only [hx,if_false,Bool.false_eq_true]
      rw [takeL_app,takeL,takeL]
theorem gathF_assoc (cls:List (List Nat)) (l:List Nat):∀ (ks:List Nat) (a:List Nat),takeL l (ks.foldl (gathF cls) a)=ks.foldl (gathF cls) (takeL l a)
  | [],_=>rfl
  | k::r,a=>by
    rw [List.foldl_cons,List.foldl_cons,gathF_assoc cls l r]
    congr 1
    rw [gathF,gathF,takeL_assoc,takeL_assoc]
structure TwW (cs:List Cls) (ps:List Plc):Prop where
  tw:Twin cs ps
  nm:NmW ps
  sp:SpW ps
  wi:WI ps
theorem twW (l:List Cls) (hl:∀ c∈l,ClsW c):TwW (wldC l) (wld l):=⟨twin_all l hl,nmW l hl,spW l hl,wld_wi l hl⟩
theorem TwW.super {cs:List Cls} {ps:List Plc} (h:TwW cs ps) {k:Nat} {c:Cls} (hk:cs[k]?=some c) (h0:0<k):nmdI c.su.toList cs 0=((spO (ps.map nd) k:Nat):Int):=by
  obtain ⟨q,hq,hc⟩:=h.tw.at hk
  rw [look_nmd h.tw h.nm,Lib.toList_data]
  have:=h.sp k q h0 hq
  rw [hc] at this
  have e:(hcOf c).su=c.su:=rfl
  rw [e] at this
  rw [this,lkI,spO,nd_at' hq];rfl
set_option maxHeartbeats 4000000 in
theorem rChain_yes {b:Nat} {cs:List Cls} {ps:List Plc} {W:World} (h:RAt b cs W) (ht:TwW cs ps) (k:Nat) (hk:k<ps.length):Calls Tryz.prog 29 #[.pointer (some ⟨b,0,none⟩),.int .i64 (k:Int)] W fun e w'=>(∃ v,e=.returned (.tuple #[v,.int .i64 0])∧w'.ownsRow W.heap.size 3 1 v (chL (ps.map nd) k).length ((chL (ps.map nd) k).map numV))∧Below W.heap.size W w':=by
  obtain ⟨i0,hi0,hz0,hz1,hz2⟩:=info_parts Tryz.hinfo3
  have hlen:=ht.tw.len
  have h3:=ht.wi.hi
  have HR:Hid (RAt b cs W):=h
  have HT:Hid (TwW cs ps):=ht
  obtain ⟨L,hL⟩:∃ L,cs.length=L:=⟨_,rfl⟩
  have HL:Hid (cs.length=L):=hL
  have HI:Hid (∀ w,Below W.heap.size W w→Calls Tryz.prog 75 #[.pointer (some ⟨b,0,none⟩),.int .i64 (k:Int)] w fun e w'=>e=.returned (.bool true)∧w'=w):=fun w hb=>by
    have:=rIn_c (h.below hb) (k:Int)
    rw [clsI_nat,List.getElem?_eq_getElem (by omega)] at this
    exact this
  have HN:Hid (∀ w (c:Cls),Below W.heap.size W w→Calls Tryz.prog 71 #[.pointer (some ⟨b,0,none⟩),.string c.su] w fun e w'=>e=.returned (.int .i64 (nmdI c.su.toList cs 0))∧w'=w):=fun w c hb=>rNamed_c (h.below hb) c.su (by omega)
  have hkL:k<L:=by omega
  have hL3:L≤300:=by omega
  clear h ht hlen h3 hk hL
  go_enter Tryz.func29,Tryz.ntmps29
  go_wp2_with (go_at_call 75;refine (HI.out _ (Below.refl _ _)).mono ?_;rintro e w9 ⟨rfl,hw9⟩;rw [hw9];clear hw9 w9)
  go_loopw [1,6] (fun kv lv wr=>∃ (cur:Nat) (P:List Nat),kv=.int .i64 (cur:Int)∧cur<L∧P.length+cur≤300∧Hid (chL (ps.map nd) k=P++chL (ps.map nd) cur)∧Hid (wr.ownsRow W.heap.size 3 1 lv (P++[cur]).length ((P++[cur]).map numV))∧Hid (Below W.heap.size W wr)) (fun kv _ _=>(intOf kv).toNat)
  case atStart=>exact ⟨k,[],rfl,hkL,by simp;omega,rfl,lit_at W _ rfl _ _ _ _ _ (Nat.le_refl _) (by unfold maxLen;omega) rfl,(Below.refl _ _).alloc (Nat.le_refl _) _⟩
  case round =>
    obtain ⟨cur,P,rfl,hcur,hPc,hch,hO,hB⟩:=hrel
    by_cases h0:cur=0
    · subst h0
      have HE:Hid (chL (ps.map nd) k=P++[0]):=hch.out
      obtain ⟨va,vn,rfl⟩:=ownv hO.out
      clear hch
      go_wp2
      refine bodyPost_ret (results_tmp2 rfl _ _ _) rfl ⟨⟨.slice va (P++[0]).length vn,rfl,?_⟩,hB.out⟩
      rw [HE.out];exact hO.out
    · have h0I:¬ (cur:Int)=0:=by omega
      obtain ⟨c,hc⟩:∃ c,cs[cur]?=some c:=⟨_,List.getElem?_eq_getElem (by rw [HL.out];exact hcur)⟩
      have hsu:=HT.out.super hc (by omega)
      have hcurp:cur<(ps.map nd).length:=by rw [List.length_map,← HT.out.tw.len,HL.out];exact hcur
      have hsl:=HT.out.wi.wo.spLt hcurp (by omega)
      have hcons:=chL_cons HT.out.wi.wo hcurp (by omega)
      have HNX:Hid (chL (ps.map nd) k=(P++[cur])++chL (ps.map nd) (spO (ps.map nd) cur)):=by rw [Hid,hch.out,hcons];simp
      obtain ⟨g,cap,vi,vm,b0,hlt,hgl,c0,c1,c2,c3,c4,c5,_,_⟩:=(HR.out.below hB.out).cells hc
      have HN1:Hid (Calls Tryz.prog 71 #[.pointer (some ⟨b,0,none⟩),.string c.su] wr fun e w'=>e=.returned (.int .i64 ((spO (ps.map nd) cur:Nat):Int))∧w'=wr):=by rw [← hsu];exact HN.out wr c hB.out
      rw [HL.out] at b0
      generalize spO (ps.map nd) cur=s at *
      have hcI:(cur:Int)<(L:Int):=by omega
      obtain ⟨va,vn,rfl⟩:=ownv hO.out
      have hPl:(P++[cur]).length=P.length+1:=by simp
      rw [hPl] at hO
      clear hcons hch hsu hc HN HI c0 c2 c3 c4 c5
      go_wp2_with (first
        | (go_at_call 71;refine HN1.out.mono ?_;rintro e w9 ⟨rfl,hw9⟩;rw [hw9];clear hw9 w9 HN1)
        | (at_builtin;refine wpList_append_own _ rfl _ _ 37 rfl W.heap.size 3 i0 (.int .i64 0) 1 8 Tryz.underlying37 hi0 hz0 hz1 hz2 rfl (by decide) (.slice va (P++[cur]).length vn) (P.length+1) ((P++[cur]).map numV) (by first|rfl|(rw [hPl];rfl)) (by rw [hPl];exact hO.out.alloc _) ⟨wr.heap.size,0,none⟩ 1 1 [.int .i64 (s:Int)] rfl rfl ?c1 ?c2 ?c3 ?c4 ?c5 ?_))
      case c1=>intro jj u hj;rw [addr_add];cases jj with
        | zero=>simp at hj;subst hj;simp [go_sem]
        | succ jj=>simp at hj
      case c2=>intro u hu;simp at hu;subst hu;rfl
      case c3=>unfold maxLen;omega
      case c4=>omega
      case c5=>have:=hB.out.size;simp;omega
      intro v' w2 hown hgrow _
      obtain ⟨va2,vn2,rfl⟩:=ownv hown
      have B2:Hid (Below W.heap.size W w2):=by
        have hb1:Below W.heap.size W (wr.alloc (.cells #[.int .i64 (s:Int)] 3)):=hB.out.alloc hB.out.size _
        refine hb1.grown hgrow hb1.size (fun x hx=>?_)
        have:=(hO.out.lt x hx).1
        omega
      have O2:Hid (w2.ownsRow W.heap.size 3 1 (.slice va2 (P.length+1+1) vn2) ((P++[cur])++[s]).length (((P++[cur])++[s]).map numV)):=by
        have e:((P++[cur])++[s]).map numV=P.map numV++[numV cur,.int .i64 (s:Int)]:=by simp [numV]
        have e2:((P++[cur])++[s]).length=P.length+1+1:=by simp
        rw [Hid,e,e2];simpa [numV] using hown
      clear hown hgrow
      go_wp2
      go_roundw
      case rel=>exact ⟨s,P++[cur],rfl,by omega,by omega,HNX,O2,B2⟩
      case measure=>simp [intOf];omega
theorem strsV_inj {a b:List (List UInt8)} (h:strsV a=strsV b):a=b:=by
  induction a generalizing b with
  | nil=>cases b with
    | nil=>rfl
    | cons y t=>simp [strsV] at h
  | cons x r ih=>cases b with
    | nil=>simp [strsV] at h
    | cons y t =>
      simp only [strsV,List.map_cons,List.cons.injEq,Value.string.injEq,ByteArray.mk.injEq] at h
      have e1:x=y:=by have:=congrArg Array.toList h.1;simpa using this
      rw [e1,ih h.2]
theorem TwW.ifaces {cs:List Cls} {ps:List Plc} (h:TwW cs ps) (hJ:WJ ps) {k:Nat} {c:Cls} (hk:cs[k]?=some c):∃ ks:List Nat,ks.length=c.ifs.length∧(∀ (i:Nat) (p:List UInt8),c.ifs[i]?=some p→∃ j,ks[i]?=some j∧nmdI p cs 0=((j:Nat):Int)∧j<k)∧clO (ps.map nd) k=gathL (ps.map Plc.cl) (spO (ps.map nd) k) ks:=by
  obtain ⟨q,hq,hc⟩:=h.tw.at hk
  obtain ⟨names,ks,h1,_,_,h4,h5,h6,h7⟩:=hJ k q hq
  have e:names=c.ifs:=by
    rw [hc] at h1
    exact (strsV_inj h1).symm
  subst e
  refine ⟨ks,h4,fun i p hp=>?_,?_⟩
  · obtain ⟨j,hj,hl⟩:=h5 i p hp
    exact ⟨j,hj,by rw [look_nmd h.tw h.nm,hl,lkI],h6 j (List.mem_of_getElem? hj)⟩
  · have e1:clO (ps.map nd) k=q.cl:=by rw [clO,nd_at' hq];rfl
    have e2:spO (ps.map nd) k=q.sp:=by rw [spO,nd_at' hq];rfl
    rw [e1,e2];exact h7
structure ClL (ps:List Plc) (l:List Nat):Prop where
  up:∀ x∈l,∀ y∈clO (ps.map nd) x,y∈l
  nod:l.Nodup
  lt:∀ x∈l,x<ps.length
theorem ClL.nil (ps:List Plc):ClL ps []:=⟨fun x hx=>by simp at hx,List.nodup_nil,fun x hx=>by simp at hx⟩
theorem ClL.len {ps:List Plc} {l:List Nat} (h:ClL ps l):l.length≤ps.length:=nodup_lt_len _ _ h.nod h.lt
theorem ClL.take {ps:List Plc} {l:List Nat} (hW:WI ps) (h:ClL ps l) (k:Nat) (hk:k<ps.length):ClL ps (takeL l (clO (ps.map nd) k)):=by
  refine ⟨fun x hx y hy=>?_,takeL_nodup _ _ h.nod,fun x hx=>?_⟩
  · rcases (takeL_iff _ _ _).1 hx with hx|hx
    · exact (takeL_iff _ _ _).2 (.inl (h.up x hx y hy))
    · obtain ⟨_,_,p,hp,_,h3⟩:=cl_facts hW.wo hx
      exact (takeL_iff _ _ _).2 (.inr (h3 y (by rw [clO,hp] at hy;exact hy)))
  · rcases (takeL_iff _ _ _).1 hx with hx|hx
    · exact h.lt x hx
    · have:=(cl_facts hW.wo hx).1
      omega
theorem gathF_yes {ps:List Plc} {l:List Nat} (h:ClL ps l) {k:Nat} (hk:k∈l):gathF (ps.map Plc.cl) l k=l:=by
  rw [gathF,getD_cl2,takeL_old (h.up k hk)]
  exact takeL_old (fun x hx=>by simp at hx;rw [hx];exact hk)
theorem gathF_no {ps:List Plc} (hW:WI ps) {l:List Nat} {k:Nat} (hk:¬ k∈l):gathF (ps.map Plc.cl) l k=takeL l (clO (ps.map nd) k)++[k]:=by
  rw [gathF,getD_cl2]
  have hn:¬ k∈takeL l (clO (ps.map nd) k):=fun hm=>by
    rcases (takeL_iff _ _ _).1 hm with hm|hm
    · exact hk hm
    · have:=(cl_facts hW.wo hm).1
      omega
  have hc:(takeL l (clO (ps.map nd) k)).contains k=false:=by simpa using hn
  rw [takeL,takeL,hc];rfl
theorem ClL.gathF {ps:List Plc} {l:List Nat} (hW:WI ps) (h:ClL ps l) (k:Nat) (hk:k<ps.length):ClL ps (gathF (ps.map Plc.cl) l k):=by
  by_cases hm:k∈l
  · rw [gathF_yes h hm];exact h
  · rw [gathF_no hW hm]
    have h1:=h.take hW k hk
    have hn:¬ k∈takeL l (clO (ps.map nd) k):=fun hm2=>by
      rcases (takeL_iff _ _ _).1 hm2 with hm2|hm2
      · exact hm hm2
      · have:=(cl_facts hW.wo hm2).1
        omega
    refine ⟨fun x hx y hy=>?_,?_,fun x hx=>?_⟩
    · rcases List.mem_append.1 hx with hx|hx
      · exact List.mem_append_left _ (h1.up x hx y hy)
      · simp at hx
        subst hx
        exact List.mem_append_left _ ((takeL_iff _ _ _).2 (.inr hy))
    · refine List.nodup_append.2 ⟨h1.nod,by simp,fun a ha b hb hab=>?_⟩
      simp at hb
      rw [hab,hb] at ha
      exact hn ha
    · rcases List.mem_append.1 hx with hx|hx
      · exact h1.lt x hx
      · simp at hx;omega
theorem gath_take {ps:List Plc} (l:List Nat) (k:Nat) (ks:List Nat) (h:clO (ps.map nd) k=gathL (ps.map Plc.cl) (spO (ps.map nd) k) ks):takeL l (clO (ps.map nd) k)=ks.foldl (gathF (ps.map Plc.cl)) (takeL l (clO (ps.map nd) (spO (ps.map nd) k))):=by
  rw [h,gathL,gathF_assoc,takeL_assoc,getD_cl2];rfl
set_option maxHeartbeats 4000000 in
theorem rGather_any {b:Nat} {cs:List Cls} {ps:List Plc} {W:World} (h:RAt b cs W) (ht:TwW cs ps) (hJ:WJ ps):∀ (id:Nat),id<ps.length→∀ (w:World) (v:Value) (l:List Nat),Below W.heap.size W w→w.ownsRow W.heap.size 3 1 v l.length (l.map numV)→ClL ps l→Calls Tryz.prog 77 #[.pointer (some ⟨b,0,none⟩),.int .i64 (id:Int),v] w fun e w'=>(∃ v',e=.returned v'∧w'.ownsRow W.heap.size 3 1 v' (takeL l (clO (ps.map nd) id)).length ((takeL l (clO (ps.map nd) id)).map numV))∧Below W.heap.size W w':=by
  intro id
  induction id using Nat.strongRecOn with
  | _ id ih =>
  intro hid w v l hw hrow hcl
  obtain ⟨i0,hi0,hz0,hz1,hz2⟩:=info_parts Tryz.hinfo3
  have hlen:=ht.tw.len
  have h3:=ht.wi.hi
  obtain ⟨c,hc⟩:∃ c,cs[id]?=some c:=⟨_,List.getElem?_eq_getElem (by omega)⟩
  obtain ⟨ks,hk1,hk2,hk3⟩:=ht.ifaces hJ hc
  have hgt:=gath_take (ps:=ps) l id ks hk3
  have HR:Hid (RAt b cs W):=h
  have HTW:Hid (TwW cs ps):=ht
  have HW3:Hid (ps.length≤300):=h3
  have HCC:Hid (cs[id]?=some c):=hc
  have HKS:Hid (∀ (i:Nat) (p:List UInt8),c.ifs[i]?=some p→∃ j,ks[i]?=some j∧nmdI p cs 0=((j:Nat):Int)∧j<id):=hk2
  have HN:Hid (∀ (w':World) (s:ByteArray),Below W.heap.size W w'→Calls Tryz.prog 71 #[.pointer (some ⟨b,0,none⟩),.string s] w' fun e w''=>e=.returned (.int .i64 (nmdI s.toList cs 0))∧w''=w'):=fun w' s hb=>rNamed_c (h.below hb) s (by omega)
  have HIH:Hid (∀ (j:Nat),j<id→∀ (w:World) (v:Value) (l:List Nat),Below W.heap.size W w→w.ownsRow W.heap.size 3 1 v l.length (l.map numV)→ClL ps l→Calls Tryz.prog 77 #[.pointer (some ⟨b,0,none⟩),.int .i64 (j:Int),v] w fun e w'=>(∃ v',e=.returned v'∧w'.ownsRow W.heap.size 3 1 v' (takeL l (clO (ps.map nd) j)).length ((takeL l (clO (ps.map nd) j)).map numV))∧Below W.heap.size W w'):=fun j hj=>ih j hj (by omega)
  have HHA:Hid (∀ (v:Value) (l:List Nat) (p:Nat) (w:World),w.ownsRow W.heap.size 3 1 v l.length (l.map numV)→l.length≤1000000→Calls Tryz.prog 128 #[v,.int .i64 (p:Int)] w fun e w'=>e=.returned (.bool (l.contains p))∧Below w.heap.size w w'):=fun v l p w hr hl=>rHas_any v l p w (own_rds hr) hl
  obtain ⟨n,hn⟩:∃ n,c.ifs.length=n:=⟨_,rfl⟩
  have HNI:Hid (c.ifs.length=n):=hn
  have HKL:Hid (ks.length=n):=hk1.trans hn
  obtain ⟨L,hL⟩:∃ L,cs.length=L:=⟨_,rfl⟩
  have HL:Hid (cs.length=L):=hL
  have hidL:id<L:=by omega
  have hidI:(id:Int)<(L:Int):=by omega
  have HCL:Hid (ClL ps l):=hcl
  have HRW:Hid (w.ownsRow W.heap.size 3 1 v l.length (l.map numV)):=hrow
  have HBW:Hid (Below W.heap.size W w):=hw
  have hnb:n≤1000000:=by
    obtain ⟨q,hq,hqc⟩:=ht.tw.at hc
    have h1:=(ht.wi.pb q (List.mem_of_getElem? hq)).ni
    rw [hqc] at h1
    rw [← hn];exact h1
  obtain ⟨va0,vn0,rfl⟩:=ownv hrow
  by_cases h0:id=0
  · have hks:ks=[]:=by
      cases hcs:c.ifs with
      | nil=>exact List.length_eq_zero_iff.1 (by rw [hk1,hcs];rfl)
      | cons p r =>
        obtain ⟨j,_,_,hj⟩:=hk2 0 p (by rw [hcs];rfl)
        omega
    have hz:clO (ps.map nd) id=[]:=by
      obtain ⟨n0,h1,_,h2,_⟩:=ht.wi.wo.top
      rw [h0,clO,h1];exact h2
    have HX1:Hid (takeL l (clO (ps.map nd) id)=l):=by rw [Hid,hz];rfl
    have hn0:n=0:=by rw [← HKL.out,hks];rfl
    subst hn0
    subst h0
    obtain ⟨g,cap,vi,vm,b0,hlt0,hgl,c0,c1,c2,c3,c4,c5,hst,_⟩:=(h.below hw).cells hc
    rw [hL] at b0
    obtain ⟨ao,icap,rfl,_,_,_⟩:=hst
    rw [hn] at c2
    have hL0:(0:Int)<(L:Int):=by omega
    clear hlen h3 hc hk1 hk2 hk3 hgt h ht hJ ih hn hL hcl hrow hw hks hz HIH HHA HN HKS c0 c1 c3 c4 c5
    go_enter Tryz.func77,Tryz.ntmps77
    go_wp2
    go_loopw [2,7] (fun lv iv wr=>lv=.slice va0 l.length vn0∧iv=.int .i64 0∧wr=w) (fun _ _ _=>0)
    case atStart=>exact ⟨rfl,rfl,rfl⟩
    case round =>
      obtain ⟨rfl,rfl,rfl⟩:=hrel
      go_wp2
      refine bodyPost_ret (results_tmp rfl _ _ _) rfl ⟨⟨.slice va0 l.length vn0,rfl,?_⟩,HBW.out⟩
      rw [HX1.out];exact HRW.out
  · obtain ⟨l1,hl1⟩:∃ l1,l1=takeL l (clO (ps.map nd) (spO (ps.map nd) id)):=⟨_,rfl⟩
    have HX1:Hid (ks.foldl (gathF (ps.map Plc.cl)) l1=takeL l (clO (ps.map nd) id)):=by rw [Hid,hl1];exact hgt.symm
    have hidp:id<(ps.map nd).length:=by rw [List.length_map];exact hid
    have hsl:=ht.wi.wo.spLt hidp (by omega)
    have hsu:=ht.super hc (by omega)
    have HCL1:Hid (ClL ps l1):=by rw [Hid,hl1];exact hcl.take ht.wi _ (by omega)
    have HS1:Hid (∀ w',Below W.heap.size W w'→Calls Tryz.prog 71 #[.pointer (some ⟨b,0,none⟩),.string c.su] w' fun e w''=>e=.returned (.int .i64 ((spO (ps.map nd) id:Nat):Int))∧w''=w'):=fun w' hb=>by rw [← hsu];exact HN.out w' c.su hb
    have HS2:Hid (Calls Tryz.prog 77 #[.pointer (some ⟨b,0,none⟩),.int .i64 ((spO (ps.map nd) id:Nat):Int),.slice va0 l.length vn0] w fun e w'=>(∃ v',e=.returned v'∧w'.ownsRow W.heap.size 3 1 v' l1.length (l1.map numV))∧Below W.heap.size W w'):=by rw [hl1];exact HIH.out _ hsl w _ l hw hrow hcl
    obtain ⟨g0,cap0,vi0,vm0,b00,hlt00,hgl0,_,c10,_,_,_,_,_,_⟩:=(h.below hw).cells hc
    rw [hL] at b00
    generalize spO (ps.map nd) id=sp at *
    have h0I:¬ (id:Int)=0:=by omega
    clear hlen h3 hc hk1 hk2 hk3 hgt h ht hJ ih hn hL hcl hrow hw hl1 hsu
    go_enter Tryz.func77,Tryz.ntmps77
    go_wp2_with (first
      | (go_at_call 71;refine (HS1.out _ HBW.out).mono ?_;rintro e w9 ⟨rfl,hw9⟩;rw [hw9];clear hw9 w9 HS1)
      | (go_at_call 77;refine HS2.out.mono ?_;rintro e w1 ⟨⟨v1,rfl,ho⟩,hb⟩;obtain ⟨va1,vn1,rfl⟩:=ownv ho;have O1:Hid (w1.ownsRow W.heap.size 3 1 (.slice va1 l1.length vn1) l1.length (l1.map numV)):=ho;have B1:Hid (Below W.heap.size W w1):=hb;clear hb ho HS2))
    go_loopw [2,7] (fun lv iv wr=>∃ (i:Nat),iv=.int .i64 (i:Int)∧i≤n∧Hid (wr.ownsRow W.heap.size 3 1 lv ((ks.take i).foldl (gathF (ps.map Plc.cl)) l1).length (((ks.take i).foldl (gathF (ps.map Plc.cl)) l1).map numV))∧Hid (ClL ps ((ks.take i).foldl (gathF (ps.map Plc.cl)) l1))∧Hid (Below W.heap.size W wr)) (fun _ iv _=>n - (intOf iv).toNat)
    case atStart=>exact ⟨0,rfl,Nat.zero_le _,O1,HCL1,B1⟩
    case round =>
      obtain ⟨i,rfl,hi,hO,hC,hB⟩:=hrel
      obtain ⟨g,cap,vi,vm,b0,hlt0,hgl,c0,c1,c2,c3,c4,c5,hst,_⟩:=(HR.out.below hB.out).cells HCC.out
      rw [HL.out] at b0
      obtain ⟨ao,icap,rfl,hq1,hq2,hq3⟩:=hst
      rw [HNI.out] at c2 hq1
      have HQ3:Hid _:=hq3
      clear c0 c1 c3 c4 c5 hq3
      by_cases hlt:i<n
      · have hltI:(i:Int)<(n:Int):=by omega
        obtain ⟨p,hp⟩:∃ p,c.ifs[i]?=some p:=⟨_,List.getElem?_eq_getElem (by rw [HNI.out];exact hlt)⟩
        obtain ⟨k,hk,hkn,hkl⟩:=HKS.out i p hp
        obtain ⟨bk,o,rfl,hbk,hcs⟩:=HQ3.out (fun e=>by rw [e] at hp;simp at hp)
        have hce:=hcs i p hp
        have hfold:(ks.take (i+1)).foldl (gathF (ps.map Plc.cl)) l1=gathF (ps.map Plc.cl) ((ks.take i).foldl (gathF (ps.map Plc.cl)) l1) k:=by
          rw [List.take_add_one,hk,List.foldl_append];rfl
        have HN1:Hid (Calls Tryz.prog 71 #[.pointer (some ⟨b,0,none⟩),.string ⟨p.toArray⟩] wr fun e w''=>e=.returned (.int .i64 (k:Int))∧w''=wr):=by
          have:=HN.out wr ⟨p.toArray⟩ hB.out
          rw [show (ByteArray.mk p.toArray).toList=p from by rw [Lib.toList_data],hkn] at this
          exact this
        obtain ⟨Lc,hLc⟩:∃ Lc,(ks.take i).foldl (gathF (ps.map Plc.cl)) l1=Lc:=⟨_,rfl⟩
        rw [hLc] at hO hC hfold
        have HFO:Hid _:=hfold
        have hLb:Lc.length≤300:=Nat.le_trans hC.out.len HW3.out
        have HA1:Hid (∀ (v:Value),wr.ownsRow W.heap.size 3 1 v Lc.length (Lc.map numV)→Calls Tryz.prog 128 #[v,.int .i64 (k:Int)] wr fun e w'=>e=.returned (.bool (Lc.contains k))∧Below wr.heap.size wr w'):=fun v hr=>HHA.out v Lc k wr hr (by omega)
        have HG1:Hid (∀ (w:World) (v:Value),Below W.heap.size W w→w.ownsRow W.heap.size 3 1 v Lc.length (Lc.map numV)→Calls Tryz.prog 77 #[.pointer (some ⟨b,0,none⟩),.int .i64 (k:Int),v] w fun e w'=>(∃ v',e=.returned v'∧w'.ownsRow W.heap.size 3 1 v' (takeL Lc (clO (ps.map nd) k)).length ((takeL Lc (clO (ps.map nd) k)).map numV))∧Below W.heap.size W w'):=fun w v hb hr=>HIH.out k hkl w v Lc hb hr hC.out
        have HCN:Hid (ClL ps (gathF (ps.map Plc.cl) Lc k)):=hC.out.gathF HTW.out.wi k (by omega)
        have HG2:Hid (Lc.contains k=true→gathF (ps.map Plc.cl) Lc k=Lc):=fun he=>gathF_yes hC.out (by simpa using he)
        have HG3:Hid (Lc.contains k=false→gathF (ps.map Plc.cl) Lc k=takeL Lc (clO (ps.map nd) k)++[k]∧(takeL Lc (clO (ps.map nd) k)).length≤300):=fun he=>⟨gathF_no HTW.out.wi (by simpa using he),Nat.le_trans (hC.out.take HTW.out.wi k (by omega)).len HW3.out⟩
        obtain ⟨va,vn,rfl⟩:=ownv hO.out
        clear hcs hp hk hkn hfold hLc HX1 HN HIH HHA HQ3
        cases hz:Lc.contains k with
        | true =>
          rw [hz] at HA1
          have he:=HG2.out hz
          rw [he] at HFO HCN
          clear HG1 HG2 HG3 hz he
          go_wp2_with (first
            | (go_at_call 71;refine HN1.out.mono ?_;rintro e w9 ⟨rfl,hw9⟩;rw [hw9];clear hw9 w9 HN1)
            | (go_at_call 128;refine (HA1.out _ hO.out).mono ?_;rintro e w2 ⟨rfl,hb⟩;have O2:Hid (w2.ownsRow W.heap.size 3 1 (.slice va Lc.length vn) Lc.length (Lc.map numV)):=rowBelow hO.out hb;have B2:Hid (Below W.heap.size W w2):=bstep hB.out hb;clear hb HA1))
          go_roundw
          case rel=>exact ⟨i+1,by go_num,by omega,by rw [HFO.out];exact O2,by rw [HFO.out];exact HCN,B2⟩
          case measure=>simp [intOf];omega
        | false =>
          rw [hz] at HA1
          obtain ⟨he,hlb⟩:=HG3.out hz
          rw [he] at HFO HCN
          generalize takeL Lc (clO (ps.map nd) k)=T at *
          clear HG2 HG3 hz he
          go_wp2_with (first
            | (go_at_call 71;refine HN1.out.mono ?_;rintro e w9 ⟨rfl,hw9⟩;rw [hw9];clear hw9 w9 HN1)
            | (go_at_call 128;refine (HA1.out _ hO.out).mono ?_;rintro e w2 ⟨rfl,hb⟩;have O2:Hid (w2.ownsRow W.heap.size 3 1 (.slice va Lc.length vn) Lc.length (Lc.map numV)):=rowBelow hO.out hb;have B2:Hid (Below W.heap.size W w2):=bstep hB.out hb;clear hb HA1)
            | (go_at_call 77;refine (HG1.out _ _ B2.out O2.out).mono ?_;rintro e w3 ⟨⟨v3,rfl,ho⟩,hb⟩;obtain ⟨va3,vn3,rfl⟩:=ownv ho;have O3:Hid (w3.ownsRow W.heap.size 3 1 (.slice va3 T.length vn3) T.length (T.map numV)):=ho;have B3:Hid (Below W.heap.size W w3):=hb;clear hb ho HG1)
            | (at_builtin;refine wpList_append_own _ rfl _ _ 37 rfl W.heap.size 3 i0 (.int .i64 0) 1 8 Tryz.underlying37 hi0 hz0 hz1 hz2 rfl (by decide) (.slice va3 T.length vn3) T.length (T.map numV) rfl (O3.out.alloc _) ⟨w3.heap.size,0,none⟩ 1 1 [.int .i64 (k:Int)] rfl rfl ?c1 ?c2 ?c3 ?c4 ?c5 ?_))
          case c1=>intro jj u hj;rw [addr_add];cases jj with
            | zero=>simp at hj;subst hj;simp [go_sem]
            | succ jj=>simp at hj
          case c2=>intro u hu;simp at hu;subst hu;rfl
          case c3=>unfold maxLen;omega
          case c4=>omega
          case c5=>have:=B3.out.size;simp;omega
          intro v' w4 hown hgrow _
          obtain ⟨va4,vn4,rfl⟩:=ownv hown
          have B4:Hid (Below W.heap.size W w4):=by
            have hb1:Below W.heap.size W (w3.alloc (.cells #[.int .i64 (k:Int)] 3)):=B3.out.alloc B3.out.size _
            refine hb1.grown hgrow hb1.size (fun x hx=>?_)
            have:=(O3.out.lt x hx).1
            omega
          have O4:Hid (w4.ownsRow W.heap.size 3 1 (.slice va4 (T.length+1) vn4) (T++[k]).length ((T++[k]).map numV)):=by
            rw [Hid,List.length_append,List.map_append];exact hown
          clear hown hgrow
          go_wp2
          go_roundw
          case rel=>exact ⟨i+1,by go_num,by omega,by rw [HFO.out];exact O4,by rw [HFO.out];exact HCN,B4⟩
          case measure=>simp [intOf];omega
      · have e:i=n:=by omega
        have HT:Hid ((ks.take i).foldl (gathF (ps.map Plc.cl)) l1=takeL l (clO (ps.map nd) id)):=by
          rw [Hid,e,← HKL.out,List.take_of_length_le (Nat.le_refl _)]
          exact HX1.out
        rw [HT.out] at hO
        subst e
        obtain ⟨va,vn,rfl⟩:=ownv hO.out
        clear HT HX1
        go_wp2
        refine bodyPost_ret (results_tmp rfl _ _ _) rfl ⟨⟨_,rfl,?_⟩,hB.out⟩
        exact hO.out
theorem rIn_t {b:Nat} {cs:List Cls} {ps:List Plc} {W:World} (h:RAt b cs W) (ht:TwW cs ps) (i:Int):Calls Tryz.prog 75 #[.pointer (some ⟨b,0,none⟩),.int .i64 i] W fun e w'=>e=.returned (.bool (plcI ps i).isSome)∧w'=W:=by
  have:=rIn_c h i
  rcases ht.tw.clsI i with ⟨h1,h2⟩|⟨k,c,q,rfl,_,_,_,h1,h2⟩
  · rw [h1] at this;rw [h2];exact this
  · rw [h1] at this;rw [h2];exact this
set_option maxHeartbeats 1000000 in
theorem rExtends_c {b:Nat} {cs:List Cls} {ps:List Plc} {W:World} (h:RAt b cs W) (ht:TwW cs ps) (hJ:WJ ps) (x y:Int):Calls Tryz.prog 96 #[.pointer (some ⟨b,0,none⟩),.int .i64 x,.int .i64 y] W fun e w'=>e=.returned (.bool (extI ps x y))∧Below W.heap.size W w':=by
  have HI:Hid (∀ i z w,Below W.heap.size W w→(plcI ps i).isSome=z→Calls Tryz.prog 75 #[.pointer (some ⟨b,0,none⟩),.int .i64 i] w fun e w'=>e=.returned (.bool z)∧w'=w):=fun i z w hb hz=>by rw [← hz];exact rIn_t (h.below hb) ht i
  rcases plcI_cases ps x with ⟨h1,_⟩|⟨k,p,rfl,h2,h1⟩
  · have e:extI ps x y=false:=by rw [extI,h1];rfl
    rw [e]
    have HX:Hid (∀ i w,Below W.heap.size W w→i=x→Calls Tryz.prog 75 #[.pointer (some ⟨b,0,none⟩),.int .i64 i] w fun e w'=>e=.returned (.bool false)∧w'=w):=fun i w hb hi=>by rw [hi];exact HI.out x false w hb (by rw [h1];rfl)
    clear h ht hJ HI h1 e
    go_enter Tryz.func96,Tryz.ntmps96
    go_wp2_with (go_at_call 75;refine (HX.out _ _ (Below.refl _ _) (by rfl)).mono ?_;rintro e w9 ⟨rfl,hw9⟩;rw [hw9];clear hw9 w9)
    exact bodyPost_ret (results_tmp rfl _ _ _) rfl ⟨rfl,Below.refl _ _⟩
  · have HX:Hid (∀ i w,Below W.heap.size W w→i=(k:Int)→Calls Tryz.prog 75 #[.pointer (some ⟨b,0,none⟩),.int .i64 i] w fun e w'=>e=.returned (.bool true)∧w'=w):=fun i w hb hi=>by rw [hi];exact HI.out k true w hb (by rw [h1];rfl)
    rcases plcI_cases ps y with ⟨g1,_⟩|⟨j,q,rfl,g2,g1⟩
    · have e:extI ps k y=false:=by rw [extI,h1,g1];rfl
      rw [e]
      have HY:Hid (∀ i w,Below W.heap.size W w→i=y→Calls Tryz.prog 75 #[.pointer (some ⟨b,0,none⟩),.int .i64 i] w fun e w'=>e=.returned (.bool false)∧w'=w):=fun i w hb hi=>by rw [hi];exact HI.out y false w hb (by rw [g1];rfl)
      clear h ht hJ HI h1 g1 e
      go_enter Tryz.func96,Tryz.ntmps96
      go_wp2_with (first
        | (go_at_call 75;refine (HX.out _ _ (Below.refl _ _) (by rfl)).mono ?_;rintro e w9 ⟨rfl,hw9⟩;rw [hw9];clear hw9 w9)
        | (go_at_call 75;refine (HY.out _ _ (Below.refl _ _) (by rfl)).mono ?_;rintro e w9 ⟨rfl,hw9⟩;rw [hw9];clear hw9 w9))
      exact bodyPost_ret (results_tmp rfl _ _ _) rfl ⟨rfl,Below.refl _ _⟩
    · have hkl:=(List.getElem?_eq_some_iff.1 h2).1
      have e:extI ps k j=((chL (ps.map nd) k).contains j||(clO (ps.map nd) k).contains j):=by rw [extI,h1,g1];rfl
      rw [e]
      have HY:Hid (∀ i w,Below W.heap.size W w→i=(j:Int)→Calls Tryz.prog 75 #[.pointer (some ⟨b,0,none⟩),.int .i64 i] w fun e w'=>e=.returned (.bool true)∧w'=w):=fun i w hb hi=>by rw [hi];exact HI.out j true w hb (by rw [g1];rfl)
      have HC:Hid (Calls Tryz.prog 29 #[.pointer (some ⟨b,0,none⟩),.int .i64 (k:Int)] W fun e w'=>(∃ v,e=.returned (.tuple #[v,.int .i64 0])∧w'.ownsRow W.heap.size 3 1 v (chL (ps.map nd) k).length ((chL (ps.map nd) k).map numV))∧Below W.heap.size W w'):=rChain_yes h ht k hkl
      have hcb:(chL (ps.map nd) k).length≤1000000:=by
        have hkn:k<(ps.map nd).length:=by rw [List.length_map];exact hkl
        have:=nodup_lt_len (k+1) _ (ch_nodup ht.wi.wo k hkn) (fun i hi=>Nat.lt_succ_of_le (ch_le ht.wi.wo k hkn i hi))
        have:=ht.wi.hi
        omega
      have hclb:(clO (ps.map nd) k).length≤1000000:=by
        have:=nodup_lt_len k _ (cl_nodup ht.wi.wo k) (fun i hi=>(cl_facts ht.wi.wo hi).1)
        have:=ht.wi.hi
        omega
      have HG:Hid (∀ w,Below W.heap.size W w→Calls Tryz.prog 77 #[.pointer (some ⟨b,0,none⟩),.int .i64 (k:Int),.slice none 0 0] w fun e w'=>(∃ v',e=.returned v'∧w'.ownsRow W.heap.size 3 1 v' (clO (ps.map nd) k).length ((clO (ps.map nd) k).map numV))∧Below W.heap.size W w'):=fun w hb=>by
        have:=rGather_any h ht hJ k hkl w (.slice none 0 0) [] hb (World.ownsRow_nil _ _ _ _) (ClL.nil ps)
        rw [take_nil _ (cl_nodup ht.wi.wo k)] at this
        exact this
      have HH1:Hid (∀ (v:Value) (w:World),w.ownsRow W.heap.size 3 1 v (chL (ps.map nd) k).length ((chL (ps.map nd) k).map numV)→Calls Tryz.prog 128 #[v,.int .i64 (j:Int)] w fun e w'=>e=.returned (.bool ((chL (ps.map nd) k).contains j))∧Below w.heap.size w w'):=fun v w hr=>rHas_any v _ j w (own_rds hr) hcb
      have HH2:Hid (∀ (v:Value) (w:World),w.ownsRow W.heap.size 3 1 v (clO (ps.map nd) k).length ((clO (ps.map nd) k).map numV)→Calls Tryz.prog 128 #[v,.int .i64 (j:Int)] w fun e w'=>e=.returned (.bool ((clO (ps.map nd) k).contains j))∧Below w.heap.size w w'):=fun v w hr=>rHas_any v _ j w (own_rds hr) hclb
      generalize (chL (ps.map nd) k).contains j=z1 at *
      generalize (clO (ps.map nd) k).contains j=z2 at *
      generalize chL (ps.map nd) k=C at *
      generalize clO (ps.map nd) k=G at *
      clear h ht hJ HI h1 h2 g1 g2 e hcb hclb hkl
      cases z1
      all_goals
        go_enter Tryz.func96,Tryz.ntmps96
        go_wp2_with (first
          | (go_at_call 75;refine (HX.out _ _ (Below.refl _ _) (by rfl)).mono ?_;rintro e w9 ⟨rfl,hw9⟩;rw [hw9];clear hw9 w9)
          | (go_at_call 75;refine (HY.out _ _ (Below.refl _ _) (by rfl)).mono ?_;rintro e w9 ⟨rfl,hw9⟩;rw [hw9];clear hw9 w9)
          | (go_at_call 29;refine HC.out.mono ?_;rintro e w1 ⟨⟨v1,rfl,ho⟩,hb⟩;obtain ⟨va1,vn1,rfl⟩:=ownv ho;have O1:Hid (w1.ownsRow W.heap.size 3 1 (.slice va1 C.length vn1) C.length (C.map numV)):=ho;have B1:Hid (Below W.heap.size W w1):=hb;clear hb ho HC)
          | (go_at_call 128;refine (HH1.out _ _ O1.out).mono ?_;rintro e w2 ⟨rfl,hb⟩;have B2:Hid (Below W.heap.size W w2):=bstep B1.out hb;clear hb HH1 O1)
          | (go_at_call 77;refine (HG.out _ B2.out).mono ?_;rintro e w3 ⟨⟨v3,rfl,ho⟩,hb⟩;obtain ⟨va3,vn3,rfl⟩:=ownv ho;have O3:Hid (w3.ownsRow W.heap.size 3 1 (.slice va3 G.length vn3) G.length (G.map numV)):=ho;have B3:Hid (Below W.heap.size W w3):=hb;clear hb ho HG)
          | (go_at_call 128;refine (HH2.out _ _ O3.out).mono ?_;rintro e w4 ⟨rfl,hb⟩;have B4:Hid (Below W.heap.size W w4):=bstep B3.out hb;clear hb HH2 O3))
        first
          | exact bodyPost_ret (results_tmp rfl _ _ _) rfl ⟨rfl,B4.out⟩
          | exact bodyPost_ret (results_tmp rfl _ _ _) rfl ⟨rfl,B2.out⟩
theorem findM_H (nm ds:ByteArray):∀ (l:List Mth) (k:Nat),findM nm ds l k=findH nm ds (l.map hmOf) k
  | [],_=>rfl
  | m::r,k=>by
    rw [findM,List.map_cons,findH,findM_H nm ds r (k+1)]
    rfl
set_option maxHeartbeats 1000000 in
theorem rFind_c {b:Nat} {cs:List Cls} {ps:List Plc} {W:World} (h:RAt b cs W) (ht:TwW cs ps) (x:Int) (nm ds:ByteArray):Calls Tryz.prog 143 #[.pointer (some ⟨b,0,none⟩),.int .i64 x,.string nm,.string ds] W fun e w'=>e=.returned (.tuple #[.int .i64 (fndI ps x nm ds).1,.int .i64 (fndI ps x nm ds).2])∧Below W.heap.size W w':=by
  have HI:Hid (Calls Tryz.prog 75 #[.pointer (some ⟨b,0,none⟩),.int .i64 x] W fun e w'=>e=.returned (.bool (plcI ps x).isSome)∧w'=W):=rIn_t h ht x
  rcases ht.tw.clsI x with ⟨h1,h2⟩|⟨k,c,q,rfl,hc,hq,hcq,h1,h2⟩
  · have e:fndI ps x nm ds=(0,3):=by rw [fndI,h2]
    rw [e]
    rw [h2] at HI
    clear h ht h1 h2 e
    go_enter Tryz.func143,Tryz.ntmps143
    go_wp2_with (go_at_call 75;refine HI.out.mono ?_;rintro e w9 ⟨rfl,hw9⟩;rw [hw9];clear hw9 w9)
    exact bodyPost_ret (results_tmp2 rfl _ _ _) rfl ⟨rfl,Below.refl _ _⟩
  · have e:fndI ps k nm ds=if findM nm ds c.ms 0<0 then (0,6) else (findM nm ds c.ms 0,0):=by
      rw [fndI,h2]
      simp only
      have:q.c.ms=c.ms.map hmOf:=by rw [hcq];rfl
      rw [this,← findM_H]
    rw [e]
    rw [h2] at HI
    simp only [Option.isSome_some] at HI
    obtain ⟨g,cap,vi,vm,b0,hlt,hgl,c0,c1,c2,c3,c4,c5,hIs,hMs⟩:=RAt.cells h hc
    obtain ⟨ai,ci,rfl⟩:=strs_slice hIs
    have HF:Hid (∀ cn cu cf cl,Calls Tryz.prog 125 #[.agg #[.string cn,.string cu,.slice ai c.ifs.length ci,.int .i64 cf,.int .i64 cl,vm],.string nm,.string ds] W fun e w'=>e=.returned (.int .i64 (findM nm ds c.ms 0))∧Below W.heap.size W w'):=fun cn cu cf cl=>rFind_any cn cu _ cf cl vm c.ms nm ds W hMs
    obtain ⟨am,cm,rfl⟩:=mths_slice hMs
    have hkI:(k:Int)<(cs.length:Int):=by have:=(List.getElem?_eq_some_iff.1 hc).1;omega
    generalize findM nm ds c.ms 0=F at *
    clear h ht h1 h2 e hc hq hcq hIs hMs
    by_cases hF:F<0
    · rw [if_pos hF]
      go_enter Tryz.func143,Tryz.ntmps143
      go_wp2_with (first
        | (go_at_call 75;refine HI.out.mono ?_;rintro e w9 ⟨rfl,hw9⟩;rw [hw9];clear hw9 w9)
        | (go_at_call 125;refine (HF.out _ _ _ _).mono ?_;rintro e w1 ⟨rfl,hb⟩;have B1:Hid (Below W.heap.size W w1):=hb;clear hb HF))
      exact bodyPost_ret (results_tmp2 rfl _ _ _) rfl ⟨rfl,B1.out⟩
    · rw [if_neg hF]
      have hF2:0≤F:=by omega
      go_enter Tryz.func143,Tryz.ntmps143
      go_wp2_with (first
        | (go_at_call 75;refine HI.out.mono ?_;rintro e w9 ⟨rfl,hw9⟩;rw [hw9];clear hw9 w9)
        | (go_at_call 125;refine (HF.out _ _ _ _).mono ?_;rintro e w1 ⟨rfl,hb⟩;have B1:Hid (Below W.heap.size W w1):=hb;clear hb HF))
      exact bodyPost_ret (results_tmp2 rfl _ _ _) rfl ⟨rfl,B1.out⟩
theorem RAt.meth {b:Nat} {cs:List Cls} {ps:List Plc} {w:World} (h:RAt b cs w) (ht:TwW cs ps) {k:Nat} {i:Int} {x:HM} (hx:methI ps (k:Int) i=some x):∃ (g cap bk n cm j:Nat) (ac:Option Addr) (cc:Nat),i=(j:Int)∧w.cell? ⟨b,0,none⟩=some (.slice (some ⟨g,0,none⟩) cs.length cap)∧b<w.heap.size∧g<w.heap.size∧(k:Int)<(cs.length:Int)∧w.cell? ⟨g,k * 6+5,none⟩=some (.slice (some ⟨bk,0,none⟩) n cm)∧bk<w.heap.size∧(j:Int)<(n:Int)∧w.cell? ⟨bk,j * 6,none⟩=some (.string x.nm)∧w.cell? ⟨bk,j * 6+1,none⟩=some (.string x.ds)∧w.cell? ⟨bk,j * 6+2,none⟩=some (.int .i64 x.fl)∧w.cell? ⟨bk,j * 6+3,none⟩=some (.int .i64 x.lo)∧w.cell? ⟨bk,j * 6+4,none⟩=some (.int .i64 x.st)∧w.cell? ⟨bk,j * 6+5,none⟩=some (.slice ac x.n cc)∧Rds w (.slice ac x.n cc) x.n 7 x.xs∧(∀ u∈x.xs,u.oneCell'=true)∧x.n≤1000000:=by
  obtain ⟨k',q,hk,hq,_,hm⟩:=meth_plc hx
  have:k=k':=by omega
  subst this
  obtain ⟨c,hc,hcq⟩:=ht.tw.at' hq
  have hcd:=(ht.wi.pb q (List.mem_of_getElem? hq)).cd
  obtain ⟨N,v,rs,hW,hrc⟩:=h
  have hc2:=hc
  rw [← hrc,List.getElem?_map] at hc2
  cases er:rs[k]? with
  | none=>rw [er] at hc2;cases hc2
  | some r =>
    rw [er] at hc2
    have hrcc:r.c=c:=Option.some.inj hc2
    have hkl:=(List.getElem?_eq_some_iff.1 er).1
    obtain ⟨g,cap,rfl⟩:=Go.Joins.ownsRow_form hW.row (by omega)
    have hat:=(hW.row.cellAt (k * 6+5) (by omega)).trans (flatR_at rs k r er 5 (by omega))
    have b0:=cell_of_row w b 0 _ _ _ hW.hb
    simp only [List.getElem?_toArray,List.getElem?_cons_zero] at b0
    obtain ⟨qm,hqm,ho⟩:=hW.own r (List.mem_of_getElem? er)
    unfold methP at hm
    split at hm
    · rename_i hi
      have hms:q.c.ms=qm.map Prod.fst:=by rw [hqm,hrcc,hcq];rfl
      have hxm:x∈q.c.ms:=List.mem_of_getElem? hm
      rw [hms,List.getElem?_map] at hm
      cases e:qm[i.toNat]? with
      | none=>rw [e] at hm;cases hm
      | some p =>
        rw [e] at hm
        have hpx:p.1=x:=Option.some.inj hm
        have hil:=(List.getElem?_eq_some_iff.1 e).1
        obtain ⟨bk,cm,hvm⟩:=Go.Joins.ownsRow_form ho.ms (by omega)
        have hmr:=ho.ms
        rw [hvm] at hmr
        have hcell:=fun j hj=>(hmr.cellAt (i.toNat * 6+j) (by omega)).trans (flatH_at qm i.toNat p e j hj)
        have hco:=ho.cod p (List.mem_of_getElem? e)
        obtain ⟨ac,cc,hp2⟩:=ownv hco
        have h0:w.cell? ⟨bk,i.toNat * 6,none⟩=some (.string x.nm):=by rw [← hpx];exact hcell 0 (by omega)
        have hgb:=World.block_lt_of_cell? w _ (show w.cell? ⟨g,k * 6+5,none⟩=some r.vm from hat)
        refine ⟨g,cap,bk,qm.length,cm,i.toNat,ac,cc,by omega,?_,(Array.getElem?_eq_some_iff.1 hW.hb).1,hgb,?_,?_,World.block_lt_of_cell? w _ h0,by omega,h0,?_,?_,?_,?_,?_,?_,(hcd x hxm).1,(hcd x hxm).2⟩
        · rw [← hrc,List.length_map];exact b0
        · rw [← hrc,List.length_map];omega
        · rw [← hvm];exact hat
        · rw [← hpx];exact hcell 1 (by omega)
        · rw [← hpx];exact hcell 2 (by omega)
        · rw [← hpx];exact hcell 3 (by omega)
        · rw [← hpx];exact hcell 4 (by omega)
        · have:=hcell 5 (by omega)
          rw [← hpx,← hp2];exact this
        · rw [hp2] at hco
          rw [← hpx]
          exact own_rds hco
    · cases hm
section
variable {ps:List Plc} {p:Plc}
end
theorem spC_eq {cs:List Cls} {ps:List Plc} (ht:TwW cs ps) (a b:Int):spC cs a b=spI ps a b:=by
  unfold spC spI
  rcases ht.tw.clsI a with ⟨h1,h2⟩|⟨k,c,q,rfl,hc,hq,hcq,h1,h2⟩
  · rw [h1,h2]
  · rw [h1,h2]
    rcases ht.tw.clsI b with ⟨g1,g2⟩|⟨k',c',q',rfl,hc',hq',hcq',g1,g2⟩
    · rw [g1,g2]
    · rw [g1,g2]
      show togB c c'=samePk q q'
      unfold togB samePk
      rw [hcq,hcq'];rfl
theorem ifcC_eq {cs:List Cls} {ps:List Plc} (ht:TwW cs ps) (a:Int):ifcC cs a=ifcI ps a:=by
  unfold ifcC ifcI
  rcases ht.tw.clsI a with ⟨h1,h2⟩|⟨k,c,q,rfl,hc,hq,hcq,h1,h2⟩
  · rw [h1,h2]
  · rw [h1,h2]
    simp only
    rw [hcq];rfl
theorem rOpen3_c (f:Int) (W:World):Calls Tryz.prog 172 #[.int .i64 f] W fun e w'=>e=.returned (.int .i64 (openI f))∧w'=W:=by
  have H1:Hid (∀ (z:Int) (w:World),z=1→Calls Tryz.prog 73 #[.int .i64 f,.int .i64 z] w fun e w'=>e=.returned (.bool (hasI f 1))∧w'=w):=fun z w hz=>by rw [hz];exact has_any f 1 w
  have H4:Hid (∀ (z:Int) (w:World),z=4→Calls Tryz.prog 73 #[.int .i64 f,.int .i64 z] w fun e w'=>e=.returned (.bool (hasI f 4))∧w'=w):=fun z w hz=>by rw [hz];exact has_any f 4 w
  have H2:Hid (∀ (z:Int) (w:World),z=2→Calls Tryz.prog 73 #[.int .i64 f,.int .i64 z] w fun e w'=>e=.returned (.bool (hasI f 2))∧w'=w):=fun z w hz=>by rw [hz];exact has_any f 2 w
  unfold openI
  generalize hasI f 1=a1 at *
  generalize hasI f 4=a4 at *
  generalize hasI f 2=a2 at *
  cases a1 <;> cases a4 <;> cases a2
  all_goals
    go_enter Tryz.func172,Tryz.ntmps172
    go_wp2_with (first
      | (go_at_call 73;refine (H1.out _ _ (by rfl)).mono ?_;rintro e w9 ⟨rfl,hw9⟩;rw [hw9];clear hw9 w9)
      | (go_at_call 73;refine (H4.out _ _ (by rfl)).mono ?_;rintro e w9 ⟨rfl,hw9⟩;rw [hw9];clear hw9 w9)
      | (go_at_call 73;refine (H2.out _ _ (by rfl)).mono ?_;rintro e w9 ⟨rfl,hw9⟩;rw [hw9];clear hw9 w9))
    exact bodyPost_ret (results_tmp rfl _ _ _) rfl ⟨rfl,rfl⟩
theorem any_take {p:Int×Int→Bool} {A:List (Int×Int)} {i:Nat} {x:Int×Int} (h:A[i]?=some x):(A.take (i+1)).any p=((A.take i).any p||p x):=by
  rw [List.take_add_one,h,List.any_append]
  simp
theorem clss_kp {w w':World} {v:Value} {l:List Cls} (h:IsClss w v l) (hb:Below w.heap.size w w'):IsClss w' v l:=by
  obtain ⟨ao,cap,rfl,h1,h2,h3⟩:=h
  refine ⟨ao,cap,rfl,h1,h2,fun hne=>?_⟩
  obtain ⟨bk,o,e,hlt,hc⟩:=h3 hne
  refine ⟨bk,o,e,Nat.lt_of_lt_of_le hlt hb.size,fun k c hk=>?_⟩
  obtain ⟨vi,vm,h4,h5⟩:=hc k c hk
  exact ⟨vi,vm,fun j u hj=>(hb.cell hlt).trans (h4 j u hj),h5.keep hb⟩
end Go.Proofs.YtfjekhmnjfcbeaaGreat
