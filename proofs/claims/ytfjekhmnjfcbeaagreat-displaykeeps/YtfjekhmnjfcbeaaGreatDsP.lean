import Derived.Test.YtfjekhmnjfcbeaaGreatRfG
import Derived.Test.YtfjekhmnjfcbeaaGreatWdB
import Derived.Test.YtfjekhmnjfcbeaaGreatRfF
import Derived.Test.YtfjekhmnjfcbeaaGreatHrX
import Derived.Test.YtfjekhmnjfcbeaaGreatOrdB
import Derived.Test.YtfjekhmnjfcbeaaGreatHrZ
import Derived.Test.YtfjekhmnjfcbeaaGreatSoA
import Derived.Test.YtfjekhmnjfcbeaaGreatRfX
import Derived.BigQuiet
import Derived.Lib.SliceRun
import Derived.Shelf.RegionOpen
set_option maxRecDepth 100000
namespace Go.Proofs.YtfjekhmnjfcbeaaGreat
open Go.RowKit Go.Maps
set_option maxHeartbeats 4000000 in
theorem sameNums_rds (l:List Nat) (v1 v2:Value) (W:World) (h1:Rds W v1 l.length 1 (l.map numV)) (h2:Rds W v2 l.length 1 (l.map numV)) (hn:l.length≤1000000000):Calls Tryz.prog 17 #[v1,v2] W fun e w'=>e=.returned (.bool true)∧Below W.heap.size W w':=by
  have HC:Hid (∀ (v:Value),Rds W v l.length 1 (l.map numV)→(∃ a c,v=.slice a l.length c∧∀ (i x:Nat),l[i]?=some x→∃ bk o,a=some ⟨bk,o,none⟩∧bk<W.heap.size∧W.cell? ⟨bk,o+i,none⟩=some (.int .i64 (x:Int)))):=by
    intro v h
    rcases h.val with ⟨e1,e⟩|⟨bk,o,cap,e1,_,_,h3,h4⟩
    · refine ⟨none,0,by rw [e1,e],fun i x hx=>?_⟩
      rw [List.length_eq_zero_iff.1 e] at hx;simp at hx
    · exact ⟨some ⟨bk,o,none⟩,cap,e1,fun i x hx=>⟨bk,o,rfl,h3,h4 i _ (by rw [List.getElem?_map,hx];rfl)⟩⟩
  obtain ⟨a1,c1,rfl,k1⟩:=HC.out v1 h1
  obtain ⟨a2,c2,rfl,k2⟩:=HC.out v2 h2
  obtain ⟨K,hK⟩:∃ K,l.length=K:=⟨_,rfl⟩
  have HK:Hid (l.length=K):=hK
  have K1:Hid _:=k1
  have K2:Hid _:=k2
  rw [hK] at hn ⊢
  clear h1 h2 hK HC k1 k2
  go_enter Tryz.func17,Tryz.ntmps17
  go_wp2
  go_loopw [5] (fun iv wr=>∃ i:Nat,iv=.int .i64 i∧i≤K∧Hid (Below W.heap.size W wr)) (fun iv _=>K - (intOf iv).toNat)
  case atStart=>exact ⟨0,rfl,Nat.zero_le _,Below.refl _ _⟩
  case round =>
    obtain ⟨i,rfl,hi,hb⟩:=hrel
    by_cases hlt:i<K
    · obtain ⟨x,hx⟩:∃ x,l[i]?=some x:=⟨_,List.getElem?_eq_getElem (by rw [HK.out];exact hlt)⟩
      obtain ⟨g1,o1,rfl,l1,q1⟩:=K1.out i x hx
      obtain ⟨g2,o2,rfl,l2,q2⟩:=K2.out i x hx
      have hiI:(i:Int)<(K:Int):=by omega
      obtain ⟨σ,V,hne,V1,V2⟩:=class_of' (fun w'=>Below W.heap.size W w') ⟨_,Below.refl _ _⟩
      have kp:∀ (s:σ) (bb j:Nat) (v:Value),bb<W.heap.size→W.cell? ⟨bb,j,none⟩=some v→(V s).cell? ⟨bb,j,none⟩=some v:=fun s bb j v hl h=>((V1.out s).cell (p:=⟨bb,j,none⟩) hl).trans h
      replace q1:=fun s=>kp s _ _ _ l1 q1
      replace q2:=fun s=>kp s _ _ _ l2 q2
      clear hx K1 K2 kp
      go_wp2
      refine wp_region_class (C:=fun w'=>∃ s,w'=V s) (by kernel_rfl) (by kernel_rfl) (V2.out _ (hb.out.drew)) ?_
      repeat (go_big_quiet_step (fail))
      refine wpQuiet_nil ?_
      intro w9 hw9
      obtain ⟨s9,rfl⟩:=hw9
      have B9:Hid (Below W.heap.size W (V s9)):=V1.out s9
      go_wp2
      go_roundw
      case rel=>exact ⟨i+1,by go_num,by omega,B9⟩
      case measure=>simp [intOf];omega
    · have hiI:¬ (i:Int)<(K:Int):=by omega
      go_wp2
      exact bodyPost_ret (results_tmp rfl _ _ _) rfl ⟨rfl,hb.out⟩
def dpI (ps:List Plc) (x:Int):Int×Int:=match plcI ps x with
  | some _=>(((chL (ps.map nd) x.toNat).length:Int) - 1,0)
  | none=>(0,3)
def chR (ps:List Plc) (x:Int):List Nat×Int:=match plcI ps x with
  | some _=>(chL (ps.map nd) x.toNat,0)
  | none=>([],3)
def NumsA (r:List Nat×Int) (e:Ending) (w':World):Prop:=∃ a c,e=.returned (.tuple #[.slice a r.1.length c,.int .i64 r.2])∧Rds w' (.slice a r.1.length c) r.1.length 1 (r.1.map numV)
theorem NumsA.of {N:Nat} {l:List Nat} {E:Int} {v:Value} {w':World} (h:w'.ownsRow N 3 1 v l.length (l.map numV)):NumsA (l,E) (.returned (.tuple #[v,.int .i64 E])) w':=by
  obtain ⟨a,c,rfl⟩:=ownv h
  exact ⟨a,c,rfl,own_rds h⟩
theorem NumsA.nil (E:Int) (w':World):NumsA ([],E) (.returned (.tuple #[.slice none 0 0,.int .i64 E])) w':=NumsA.of (N:=0) (World.ownsRow_nil w' 0 _ _)
theorem chain_no6 {b:Nat} {ps:List Plc} {W:World} (h:WAt b ps W) (x:Int) (hx:plcI ps x=none):Calls Tryz.prog 14 #[.pointer (some ⟨b,0,none⟩),.int .i64 x] W fun e w'=>e=.returned (.tuple #[.slice none 0 0,.int .i64 3])∧Below W.heap.size W w':=by
  have HH:Hid (∀ w,Below W.heap.size W w→Calls Tryz.prog 60 #[.pointer (some ⟨b,0,none⟩),.int .i64 x] w fun e w'=>e=.returned (.bool false)∧w'=w):=fun w hb=>by
    have:=has_c (h.below hb) x
    rw [hx] at this
    exact this
  clear h hx
  go_enter Tryz.func14,Tryz.ntmps14
  go_wp2_with (go_at_call 60;refine (HH.out _ (by repeat (first|exact Below.refl _ _|refine Below.setCell ?_ (by simp;try omega) _|refine Below.alloc ?_ (by simp;try omega) _|refine Below.drew ?_))).mono ?_;rintro e w9 ⟨rfl,hw9⟩;rw [hw9];clear hw9 w9)
  exact bodyPost_ret (v:=.tuple #[.slice none 0 0,.int .i64 3]) (by simp [results,Tryz.results14,go_sem, *]) rfl ⟨rfl,(by repeat (first|exact Below.refl _ _|refine Below.setCell ?_ (by simp;try omega) _|refine Below.alloc ?_ (by simp;try omega) _|refine Below.drew ?_))⟩
theorem chain_r {b:Nat} {ps:List Plc} {W:World} (h:WAt b ps W) (hW:WI ps) (x:Int):Calls Tryz.prog 14 #[.pointer (some ⟨b,0,none⟩),.int .i64 x] W fun e w'=>NumsA (chR ps x) e w'∧Below W.heap.size W w':=by
  rcases plcI_cases ps x with ⟨hn,_⟩|⟨k,q,rfl,hk,hq⟩
  · refine (chain_no6 h x hn).mono fun e w' zz=>⟨?_,zz.2⟩
    rw [zz.1,chR,hn]
    exact NumsA.nil 3 w'
  · obtain ⟨N,mb,vp,pv,hw⟩:=h
    refine (chain_yes N b mb ps vp pv k (List.getElem?_eq_some_iff.1 hk).1 hW.wo hW.hi W hw).mono ?_
    rintro e w' ⟨v,rfl,ho,hb⟩
    rw [chR,hq]
    exact ⟨NumsA.of ho,hb⟩
theorem depth_r {b:Nat} {ps:List Plc} {W:World} (h:WAt b ps W) (hW:WI ps) (x:Int):Calls Tryz.prog 103 #[.pointer (some ⟨b,0,none⟩),.int .i64 x] W fun e w'=>e=.returned (.tuple #[.int .i64 (dpI ps x).1,.int .i64 (dpI ps x).2])∧Below W.heap.size W w':=by
  rcases plcI_cases ps x with ⟨hn,_⟩|⟨k,q,rfl,hk,hq⟩
  · have HH:Hid (∀ w,Below W.heap.size W w→Calls Tryz.prog 60 #[.pointer (some ⟨b,0,none⟩),.int .i64 x] w fun e w'=>e=.returned (.bool false)∧w'=w):=fun w hb=>by
      have:=has_c (h.below hb) x
      rw [hn] at this
      exact this
    have e0:dpI ps x=(0,3):=by rw [dpI,hn]
    rw [e0]
    clear h hn e0 hW
    go_enter Tryz.func103,Tryz.ntmps103
    go_wp2_with (go_at_call 60;refine (HH.out _ (by repeat (first|exact Below.refl _ _|refine Below.setCell ?_ (by simp;try omega) _|refine Below.alloc ?_ (by simp;try omega) _|refine Below.drew ?_))).mono ?_;rintro e w9 ⟨rfl,hw9⟩;rw [hw9];clear hw9 w9)
    exact bodyPost_ret (v:=.tuple #[.int .i64 0,.int .i64 3]) (by simp [results,Tryz.results103,go_sem, *]) rfl ⟨rfl,(by repeat (first|exact Below.refl _ _|refine Below.setCell ?_ (by simp;try omega) _|refine Below.alloc ?_ (by simp;try omega) _|refine Below.drew ?_))⟩
  · obtain ⟨N,mb,vp,pv,hw⟩:=h
    rw [dpI,hq]
    exact depth_yes N b mb ps vp pv k (List.getElem?_eq_some_iff.1 hk).1 hW.wo hW.hi W hw
def SpW (ps:List Plc):Prop:=∀ k q,0<k→ps[k]?=some q→lookL ps q.c.su.data.toList=some q.sp
theorem spW (l:List Cls) (hl:∀ c∈l,ClsW c):SpW (wld l):=by
  have key:WI (wld l)∧SpW (wld l):=by
    refine wld_ind (P:=fun ps=>WI ps∧SpW ps) ⟨wi3,fun k q h0 hk=>?_⟩ (fun ps c h hc=>⟨h.1.define c hc,?_⟩) l hl
    · match k,hk with
      | 1,hk=>simp [P3] at hk;subst hk;decide
      | 2,hk=>simp [P3] at hk;subst hk;decide
      | (k+3),hk=>simp [P3] at hk
    · cases hd:defN ps c with
      | error e=>exact h.2
      | ok p =>
        obtain ⟨_,_,hn,s,l,hs,_,rfl⟩:=def_ok hd
        intro k q h0 hk
        have hk2:(ps++[(⟨hcOf c,s,gathL (ps.map Plc.cl) s l⟩:Plc)])[k]?=some q:=hk
        show lookL (ps++[_]) q.c.su.data.toList=some q.sp
        by_cases hlt:k<ps.length
        · rw [List.getElem?_append_left hlt] at hk2
          exact look_snoc (h.2 k q h0 hk2) hn
        · rw [List.getElem?_append_right (by omega)] at hk2
          have he:k - ps.length=0:=by
            have:=(List.getElem?_eq_some_iff.1 hk2).1
            simp at this;omega
          rw [he] at hk2
          simp at hk2
          subst hk2
          refine look_snoc ?_ hn
          show lookL ps c.su.data.toList=some s
          rw [aboveN] at hs
          cases hl2:lookL ps c.su.data.toList with
          | none=>rw [hl2] at hs;cases hs
          | some j =>
            rw [hl2] at hs
            simp only at hs
            cases hq:ps[j]? with
            | none=>rw [hq] at hs;cases hs
            | some q =>
              rw [hq] at hs
              simp only at hs
              split at hs
              · split at hs
                · cases hs;rfl
                · cases hs
              · cases hs
  exact key.2
theorem takeL_app (c a b:List Nat):takeL c (a++b)=takeL (takeL c a) b:=by
  induction a generalizing c with
  | nil=>rfl
  | cons x r ih=>rw [List.cons_append,takeL,takeL];exact ih _
theorem takeL_old {c a:List Nat} (h:∀ x∈a,x∈c):takeL c a=c:=by
  induction a with
  | nil=>rfl
  | cons x r ih =>
    rw [takeL]
    have hx:c.contains x=true:=by simpa using h x (by simp)
    simp only [hx,if_true]
    exact ih (fun y hy=>h y (by simp [hy]))
theorem takeL_assoc (l a b:List Nat):takeL l (takeL a b)=takeL (takeL l a) b:=by
  induction b generalizing a with
  | nil=>rfl
  | cons x r ih =>
    rw [takeL,takeL,ih]
    congr 1
    by_cases hx:a.contains x=true
    · have h1:(takeL l a).contains x=true:=by
        have:x∈a:=by simpa using hx
        simpa using (takeL_iff l a x).2 (.inr this)
      simp only [hx,h1,if_true]
    · simp only [hx,if_false,Bool.false_eq_true]
      rw [takeL_app,takeL,takeL]
theorem gathF_assoc (cls:List (List Nat)) (l:List Nat):∀ (ks:List Nat) (a:List Nat),takeL l (ks.foldl (gathF cls) a)=ks.foldl (gathF cls) (takeL l a)
  | [],_=>rfl
  | k::r,a=>by
    rw [List.foldl_cons,List.foldl_cons,gathF_assoc cls l r]
    congr 1
    rw [gathF,gathF,takeL_assoc,takeL_assoc]
structure TwW (cs:List Cls) (ps:List Plc):Prop where
  tw:Twin cs ps
  nm:NmW ps
  sp:SpW ps
  wi:WI ps
theorem twW (l:List Cls) (hl:∀ c∈l,ClsW c):TwW (wldC l) (wld l):=⟨twin_all l hl,nmW l hl,spW l hl,wld_wi l hl⟩
theorem TwW.super {cs:List Cls} {ps:List Plc} (h:TwW cs ps) {k:Nat} {c:Cls} (hk:cs[k]?=some c) (h0:0<k):nmdI c.su.toList cs 0=((spO (ps.map nd) k:Nat):Int):=by
  obtain ⟨q,hq,hc⟩:=h.tw.at hk
  rw [look_nmd h.tw h.nm,Lib.toList_data]
  have:=h.sp k q h0 hq
  rw [hc] at this
  have e:(hcOf c).su=c.su:=rfl
  rw [e] at this
  rw [this,lkI,spO,nd_at' hq];rfl
set_option maxHeartbeats 4000000 in
theorem rChain_yes {b:Nat} {cs:List Cls} {ps:List Plc} {W:World} (h:RAt b cs W) (ht:TwW cs ps) (k:Nat) (hk:k<ps.length):Calls Tryz.prog 29 #[.pointer (some ⟨b,0,none⟩),.int .i64 (k:Int)] W fun e w'=>(∃ v,e=.returned (.tuple #[v,.int .i64 0])∧w'.ownsRow W.heap.size 3 1 v (chL (ps.map nd) k).length ((chL (ps.map nd) k).map numV))∧Below W.heap.size W w':=by
  obtain ⟨i0,hi0,hz0,hz1,hz2⟩:=info_parts Tryz.hinfo3
  have hlen:=ht.tw.len
  have h3:=ht.wi.hi
  have HR:Hid (RAt b cs W):=h
  have HT:Hid (TwW cs ps):=ht
  obtain ⟨L,hL⟩:∃ L,cs.length=L:=⟨_,rfl⟩
  have HL:Hid (cs.length=L):=hL
  have HI:Hid (∀ w,Below W.heap.size W w→Calls Tryz.prog 75 #[.pointer (some ⟨b,0,none⟩),.int .i64 (k:Int)] w fun e w'=>e=.returned (.bool true)∧w'=w):=fun w hb=>by
    have:=rIn_c (h.below hb) (k:Int)
    rw [clsI_nat,List.getElem?_eq_getElem (by omega)] at this
    exact this
  have HN:Hid (∀ w (c:Cls),Below W.heap.size W w→Calls Tryz.prog 71 #[.pointer (some ⟨b,0,none⟩),.string c.su] w fun e w'=>e=.returned (.int .i64 (nmdI c.su.toList cs 0))∧w'=w):=fun w c hb=>rNamed_c (h.below hb) c.su (by omega)
  have hkL:k<L:=by omega
  have hL3:L≤300:=by omega
  clear h ht hlen h3 hk hL
  go_enter Tryz.func29,Tryz.ntmps29
  go_wp2_with (go_at_call 75;refine (HI.out _ (Below.refl _ _)).mono ?_;rintro e w9 ⟨rfl,hw9⟩;rw [hw9];clear hw9 w9)
  go_loopw [1,6] (fun kv lv wr=>∃ (cur:Nat) (P:List Nat),kv=.int .i64 (cur:Int)∧cur<L∧P.length+cur≤300∧Hid (chL (ps.map nd) k=P++chL (ps.map nd) cur)∧Hid (wr.ownsRow W.heap.size 3 1 lv (P++[cur]).length ((P++[cur]).map numV))∧Hid (Below W.heap.size W wr)) (fun kv _ _=>(intOf kv).toNat)
  case atStart=>exact ⟨k,[],rfl,hkL,by simp;omega,rfl,lit_at W _ rfl _ _ _ _ _ (Nat.le_refl _) (by unfold maxLen;omega) rfl,(Below.refl _ _).alloc (Nat.le_refl _) _⟩
  case round =>
    obtain ⟨cur,P,rfl,hcur,hPc,hch,hO,hB⟩:=hrel
    by_cases h0:cur=0
    · subst h0
      have HE:Hid (chL (ps.map nd) k=P++[0]):=hch.out
      obtain ⟨va,vn,rfl⟩:=ownv hO.out
      clear hch
      go_wp2
      refine bodyPost_ret (results_tmp2 rfl _ _ _) rfl ⟨⟨.slice va (P++[0]).length vn,rfl,?_⟩,hB.out⟩
      rw [HE.out];exact hO.out
    · have h0I:¬ (cur:Int)=0:=by omega
      obtain ⟨c,hc⟩:∃ c,cs[cur]?=some c:=⟨_,List.getElem?_eq_getElem (by rw [HL.out];exact hcur)⟩
      have hsu:=HT.out.super hc (by omega)
      have hcurp:cur<(ps.map nd).length:=by rw [List.length_map,← HT.out.tw.len,HL.out];exact hcur
      have hsl:=HT.out.wi.wo.spLt hcurp (by omega)
      have hcons:=chL_cons HT.out.wi.wo hcurp (by omega)
      have HNX:Hid (chL (ps.map nd) k=(P++[cur])++chL (ps.map nd) (spO (ps.map nd) cur)):=by rw [Hid,hch.out,hcons];simp
      obtain ⟨g,cap,vi,vm,b0,hlt,hgl,c0,c1,c2,c3,c4,c5,_,_⟩:=(HR.out.below hB.out).cells hc
      have HN1:Hid (Calls Tryz.prog 71 #[.pointer (some ⟨b,0,none⟩),.string c.su] wr fun e w'=>e=.returned (.int .i64 ((spO (ps.map nd) cur:Nat):Int))∧w'=wr):=by rw [← hsu];exact HN.out wr c hB.out
      rw [HL.out] at b0
      generalize spO (ps.map nd) cur=s at *
      have hcI:(cur:Int)<(L:Int):=by omega
      obtain ⟨va,vn,rfl⟩:=ownv hO.out
      have hPl:(P++[cur]).length=P.length+1:=by simp
      rw [hPl] at hO
      clear hcons hch hsu hc HN HI c0 c2 c3 c4 c5
      go_wp2_with (first
        | (go_at_call 71;refine HN1.out.mono ?_;rintro e w9 ⟨rfl,hw9⟩;rw [hw9];clear hw9 w9 HN1)
        | (at_builtin;refine wpList_append_own _ rfl _ _ 37 rfl W.heap.size 3 i0 (.int .i64 0) 1 8 Tryz.underlying37 hi0 hz0 hz1 hz2 rfl (by decide) (.slice va (P++[cur]).length vn) (P.length+1) ((P++[cur]).map numV) (by first|rfl|(rw [hPl];rfl)) (by rw [hPl];exact hO.out.alloc _) ⟨wr.heap.size,0,none⟩ 1 1 [.int .i64 (s:Int)] rfl rfl ?c1 ?c2 ?c3 ?c4 ?c5 ?_))
      case c1=>intro jj u hj;rw [addr_add];cases jj with
        | zero=>simp at hj;subst hj;simp [go_sem]
        | succ jj=>simp at hj
      case c2=>intro u hu;simp at hu;subst hu;rfl
      case c3=>unfold maxLen;omega
      case c4=>omega
      case c5=>have:=hB.out.size;simp;omega
      intro v' w2 hown hgrow _
      obtain ⟨va2,vn2,rfl⟩:=ownv hown
      have B2:Hid (Below W.heap.size W w2):=by
        have hb1:Below W.heap.size W (wr.alloc (.cells #[.int .i64 (s:Int)] 3)):=hB.out.alloc hB.out.size _
        refine hb1.grown hgrow hb1.size (fun x hx=>?_)
        have:=(hO.out.lt x hx).1
        omega
      have O2:Hid (w2.ownsRow W.heap.size 3 1 (.slice va2 (P.length+1+1) vn2) ((P++[cur])++[s]).length (((P++[cur])++[s]).map numV)):=by
        have e:((P++[cur])++[s]).map numV=P.map numV++[numV cur,.int .i64 (s:Int)]:=by simp [numV]
        have e2:((P++[cur])++[s]).length=P.length+1+1:=by simp
        rw [Hid,e,e2];simpa [numV] using hown
      clear hown hgrow
      go_wp2
      go_roundw
      case rel=>exact ⟨s,P++[cur],rfl,by omega,by omega,HNX,O2,B2⟩
      case measure=>simp [intOf];omega
theorem strsV_inj {a b:List (List UInt8)} (h:strsV a=strsV b):a=b:=by
  induction a generalizing b with
  | nil=>cases b with
    | nil=>rfl
    | cons y t=>simp [strsV] at h
  | cons x r ih=>cases b with
    | nil=>simp [strsV] at h
    | cons y t =>
      simp only [strsV,List.map_cons,List.cons.injEq,Value.string.injEq,ByteArray.mk.injEq] at h
      have e1:x=y:=by have:=congrArg Array.toList h.1;simpa using this
      rw [e1,ih h.2]
theorem TwW.ifaces {cs:List Cls} {ps:List Plc} (h:TwW cs ps) (hJ:WJ ps) {k:Nat} {c:Cls} (hk:cs[k]?=some c):∃ ks:List Nat,ks.length=c.ifs.length∧(∀ (i:Nat) (p:List UInt8),c.ifs[i]?=some p→∃ j,ks[i]?=some j∧nmdI p cs 0=((j:Nat):Int)∧j<k)∧clO (ps.map nd) k=gathL (ps.map Plc.cl) (spO (ps.map nd) k) ks:=by
  obtain ⟨q,hq,hc⟩:=h.tw.at hk
  obtain ⟨names,ks,h1,_,_,h4,h5,h6,h7⟩:=hJ k q hq
  have e:names=c.ifs:=by
    rw [hc] at h1
    exact (strsV_inj h1).symm
  subst e
  refine ⟨ks,h4,fun i p hp=>?_,?_⟩
  · obtain ⟨j,hj,hl⟩:=h5 i p hp
    exact ⟨j,hj,by rw [look_nmd h.tw h.nm,hl,lkI],h6 j (List.mem_of_getElem? hj)⟩
  · have e1:clO (ps.map nd) k=q.cl:=by rw [clO,nd_at' hq];rfl
    have e2:spO (ps.map nd) k=q.sp:=by rw [spO,nd_at' hq];rfl
    rw [e1,e2];exact h7
structure ClL (ps:List Plc) (l:List Nat):Prop where
  up:∀ x∈l,∀ y∈clO (ps.map nd) x,y∈l
  nod:l.Nodup
  lt:∀ x∈l,x<ps.length
theorem ClL.nil (ps:List Plc):ClL ps []:=⟨fun x hx=>by simp at hx,List.nodup_nil,fun x hx=>by simp at hx⟩
theorem ClL.len {ps:List Plc} {l:List Nat} (h:ClL ps l):l.length≤ps.length:=nodup_lt_len _ _ h.nod h.lt
theorem ClL.take {ps:List Plc} {l:List Nat} (hW:WI ps) (h:ClL ps l) (k:Nat) (hk:k<ps.length):ClL ps (takeL l (clO (ps.map nd) k)):=by
  refine ⟨fun x hx y hy=>?_,takeL_nodup _ _ h.nod,fun x hx=>?_⟩
  · rcases (takeL_iff _ _ _).1 hx with hx|hx
    · exact (takeL_iff _ _ _).2 (.inl (h.up x hx y hy))
    · obtain ⟨_,_,p,hp,_,h3⟩:=cl_facts hW.wo hx
      exact (takeL_iff _ _ _).2 (.inr (h3 y (by rw [clO,hp] at hy;exact hy)))
  · rcases (takeL_iff _ _ _).1 hx with hx|hx
    · exact h.lt x hx
    · have:=(cl_facts hW.wo hx).1
      omega
theorem gathF_yes {ps:List Plc} {l:List Nat} (h:ClL ps l) {k:Nat} (hk:k∈l):gathF (ps.map Plc.cl) l k=l:=by
  rw [gathF,getD_cl2,takeL_old (h.up k hk)]
  exact takeL_old (fun x hx=>by simp at hx;rw [hx];exact hk)
theorem gathF_no {ps:List Plc} (hW:WI ps) {l:List Nat} {k:Nat} (hk:¬ k∈l):gathF (ps.map Plc.cl) l k=takeL l (clO (ps.map nd) k)++[k]:=by
  rw [gathF,getD_cl2]
  have hn:¬ k∈takeL l (clO (ps.map nd) k):=fun hm=>by
    rcases (takeL_iff _ _ _).1 hm with hm|hm
    · exact hk hm
    · have:=(cl_facts hW.wo hm).1
      omega
  have hc:(takeL l (clO (ps.map nd) k)).contains k=false:=by simpa using hn
  rw [takeL,takeL,hc];rfl
theorem ClL.gathF {ps:List Plc} {l:List Nat} (hW:WI ps) (h:ClL ps l) (k:Nat) (hk:k<ps.length):ClL ps (gathF (ps.map Plc.cl) l k):=by
  by_cases hm:k∈l
  · rw [gathF_yes h hm];exact h
  · rw [gathF_no hW hm]
    have h1:=h.take hW k hk
    have hn:¬ k∈takeL l (clO (ps.map nd) k):=fun hm2=>by
      rcases (takeL_iff _ _ _).1 hm2 with hm2|hm2
      · exact hm hm2
      · have:=(cl_facts hW.wo hm2).1
        omega
    refine ⟨fun x hx y hy=>?_,?_,fun x hx=>?_⟩
    · rcases List.mem_append.1 hx with hx|hx
      · exact List.mem_append_left _ (h1.up x hx y hy)
      · simp at hx
        subst hx
        exact List.mem_append_left _ ((takeL_iff _ _ _).2 (.inr hy))
    · refine List.nodup_append.2 ⟨h1.nod,by simp,fun a ha b hb hab=>?_⟩
      simp at hb
      rw [hab,hb] at ha
      exact hn ha
    · rcases List.mem_append.1 hx with hx|hx
      · exact h1.lt x hx
      · simp at hx;omega
theorem gath_take {ps:List Plc} (l:List Nat) (k:Nat) (ks:List Nat) (h:clO (ps.map nd) k=gathL (ps.map Plc.cl) (spO (ps.map nd) k) ks):takeL l (clO (ps.map nd) k)=ks.foldl (gathF (ps.map Plc.cl)) (takeL l (clO (ps.map nd) (spO (ps.map nd) k))):=by
  rw [h,gathL,gathF_assoc,takeL_assoc,getD_cl2];rfl
set_option maxHeartbeats 4000000 in
theorem rGather_any {b:Nat} {cs:List Cls} {ps:List Plc} {W:World} (h:RAt b cs W) (ht:TwW cs ps) (hJ:WJ ps):∀ (id:Nat),id<ps.length→∀ (w:World) (v:Value) (l:List Nat),Below W.heap.size W w→w.ownsRow W.heap.size 3 1 v l.length (l.map numV)→ClL ps l→Calls Tryz.prog 77 #[.pointer (some ⟨b,0,none⟩),.int .i64 (id:Int),v] w fun e w'=>(∃ v',e=.returned v'∧w'.ownsRow W.heap.size 3 1 v' (takeL l (clO (ps.map nd) id)).length ((takeL l (clO (ps.map nd) id)).map numV))∧Below W.heap.size W w':=by
  intro id
  induction id using Nat.strongRecOn with
  | _ id ih =>
  intro hid w v l hw hrow hcl
  obtain ⟨i0,hi0,hz0,hz1,hz2⟩:=info_parts Tryz.hinfo3
  have hlen:=ht.tw.len
  have h3:=ht.wi.hi
  obtain ⟨c,hc⟩:∃ c,cs[id]?=some c:=⟨_,List.getElem?_eq_getElem (by omega)⟩
  obtain ⟨ks,hk1,hk2,hk3⟩:=ht.ifaces hJ hc
  have hgt:=gath_take (ps:=ps) l id ks hk3
  have HR:Hid (RAt b cs W):=h
  have HTW:Hid (TwW cs ps):=ht
  have HW3:Hid (ps.length≤300):=h3
  have HCC:Hid (cs[id]?=some c):=hc
  have HKS:Hid (∀ (i:Nat) (p:List UInt8),c.ifs[i]?=some p→∃ j,ks[i]?=some j∧nmdI p cs 0=((j:Nat):Int)∧j<id):=hk2
  have HN:Hid (∀ (w':World) (s:ByteArray),Below W.heap.size W w'→Calls Tryz.prog 71 #[.pointer (some ⟨b,0,none⟩),.string s] w' fun e w''=>e=.returned (.int .i64 (nmdI s.toList cs 0))∧w''=w'):=fun w' s hb=>rNamed_c (h.below hb) s (by omega)
  have HIH:Hid (∀ (j:Nat),j<id→∀ (w:World) (v:Value) (l:List Nat),Below W.heap.size W w→w.ownsRow W.heap.size 3 1 v l.length (l.map numV)→ClL ps l→Calls Tryz.prog 77 #[.pointer (some ⟨b,0,none⟩),.int .i64 (j:Int),v] w fun e w'=>(∃ v',e=.returned v'∧w'.ownsRow W.heap.size 3 1 v' (takeL l (clO (ps.map nd) j)).length ((takeL l (clO (ps.map nd) j)).map numV))∧Below W.heap.size W w'):=fun j hj=>ih j hj (by omega)
  have HHA:Hid (∀ (v:Value) (l:List Nat) (p:Nat) (w:World),w.ownsRow W.heap.size 3 1 v l.length (l.map numV)→l.length≤1000000→Calls Tryz.prog 128 #[v,.int .i64 (p:Int)] w fun e w'=>e=.returned (.bool (l.contains p))∧Below w.heap.size w w'):=fun v l p w hr hl=>rHas_any v l p w (own_rds hr) hl
  obtain ⟨n,hn⟩:∃ n,c.ifs.length=n:=⟨_,rfl⟩
  have HNI:Hid (c.ifs.length=n):=hn
  have HKL:Hid (ks.length=n):=hk1.trans hn
  obtain ⟨L,hL⟩:∃ L,cs.length=L:=⟨_,rfl⟩
  have HL:Hid (cs.length=L):=hL
  have hidL:id<L:=by omega
  have hidI:(id:Int)<(L:Int):=by omega
  have HCL:Hid (ClL ps l):=hcl
  have HRW:Hid (w.ownsRow W.heap.size 3 1 v l.length (l.map numV)):=hrow
  have HBW:Hid (Below W.heap.size W w):=hw
  have hnb:n≤1000000:=by
    obtain ⟨q,hq,hqc⟩:=ht.tw.at hc
    have h1:=(ht.wi.pb q (List.mem_of_getElem? hq)).ni
    rw [hqc] at h1
    rw [← hn];exact h1
  obtain ⟨va0,vn0,rfl⟩:=ownv hrow
  by_cases h0:id=0
  · have hks:ks=[]:=by
      cases hcs:c.ifs with
      | nil=>exact List.length_eq_zero_iff.1 (by rw [hk1,hcs];rfl)
      | cons p r =>
        obtain ⟨j,_,_,hj⟩:=hk2 0 p (by rw [hcs];rfl)
        omega
    have hz:clO (ps.map nd) id=[]:=by
      obtain ⟨n0,h1,_,h2,_⟩:=ht.wi.wo.top
      rw [h0,clO,h1];exact h2
    have HX1:Hid (takeL l (clO (ps.map nd) id)=l):=by rw [Hid,hz];rfl
    have hn0:n=0:=by rw [← HKL.out,hks];rfl
    subst hn0
    subst h0
    obtain ⟨g,cap,vi,vm,b0,hlt0,hgl,c0,c1,c2,c3,c4,c5,hst,_⟩:=(h.below hw).cells hc
    rw [hL] at b0
    obtain ⟨ao,icap,rfl,_,_,_⟩:=hst
    rw [hn] at c2
    have hL0:(0:Int)<(L:Int):=by omega
    clear hlen h3 hc hk1 hk2 hk3 hgt h ht hJ ih hn hL hcl hrow hw hks hz HIH HHA HN HKS c0 c1 c3 c4 c5
    go_enter Tryz.func77,Tryz.ntmps77
    go_wp2
    go_loopw [2,7] (fun lv iv wr=>lv=.slice va0 l.length vn0∧iv=.int .i64 0∧wr=w) (fun _ _ _=>0)
    case atStart=>exact ⟨rfl,rfl,rfl⟩
    case round =>
      obtain ⟨rfl,rfl,rfl⟩:=hrel
      go_wp2
      refine bodyPost_ret (results_tmp rfl _ _ _) rfl ⟨⟨.slice va0 l.length vn0,rfl,?_⟩,HBW.out⟩
      rw [HX1.out];exact HRW.out
  · obtain ⟨l1,hl1⟩:∃ l1,l1=takeL l (clO (ps.map nd) (spO (ps.map nd) id)):=⟨_,rfl⟩
    have HX1:Hid (ks.foldl (gathF (ps.map Plc.cl)) l1=takeL l (clO (ps.map nd) id)):=by rw [Hid,hl1];exact hgt.symm
    have hidp:id<(ps.map nd).length:=by rw [List.length_map];exact hid
    have hsl:=ht.wi.wo.spLt hidp (by omega)
    have hsu:=ht.super hc (by omega)
    have HCL1:Hid (ClL ps l1):=by rw [Hid,hl1];exact hcl.take ht.wi _ (by omega)
    have HS1:Hid (∀ w',Below W.heap.size W w'→Calls Tryz.prog 71 #[.pointer (some ⟨b,0,none⟩),.string c.su] w' fun e w''=>e=.returned (.int .i64 ((spO (ps.map nd) id:Nat):Int))∧w''=w'):=fun w' hb=>by rw [← hsu];exact HN.out w' c.su hb
    have HS2:Hid (Calls Tryz.prog 77 #[.pointer (some ⟨b,0,none⟩),.int .i64 ((spO (ps.map nd) id:Nat):Int),.slice va0 l.length vn0] w fun e w'=>(∃ v',e=.returned v'∧w'.ownsRow W.heap.size 3 1 v' l1.length (l1.map numV))∧Below W.heap.size W w'):=by rw [hl1];exact HIH.out _ hsl w _ l hw hrow hcl
    obtain ⟨g0,cap0,vi0,vm0,b00,hlt00,hgl0,_,c10,_,_,_,_,_,_⟩:=(h.below hw).cells hc
    rw [hL] at b00
    generalize spO (ps.map nd) id=sp at *
    have h0I:¬ (id:Int)=0:=by omega
    clear hlen h3 hc hk1 hk2 hk3 hgt h ht hJ ih hn hL hcl hrow hw hl1 hsu
    go_enter Tryz.func77,Tryz.ntmps77
    go_wp2_with (first
      | (go_at_call 71;refine (HS1.out _ HBW.out).mono ?_;rintro e w9 ⟨rfl,hw9⟩;rw [hw9];clear hw9 w9 HS1)
      | (go_at_call 77;refine HS2.out.mono ?_;rintro e w1 ⟨⟨v1,rfl,ho⟩,hb⟩;obtain ⟨va1,vn1,rfl⟩:=ownv ho;have O1:Hid (w1.ownsRow W.heap.size 3 1 (.slice va1 l1.length vn1) l1.length (l1.map numV)):=ho;have B1:Hid (Below W.heap.size W w1):=hb;clear hb ho HS2))
    go_loopw [2,7] (fun lv iv wr=>∃ (i:Nat),iv=.int .i64 (i:Int)∧i≤n∧Hid (wr.ownsRow W.heap.size 3 1 lv ((ks.take i).foldl (gathF (ps.map Plc.cl)) l1).length (((ks.take i).foldl (gathF (ps.map Plc.cl)) l1).map numV))∧Hid (ClL ps ((ks.take i).foldl (gathF (ps.map Plc.cl)) l1))∧Hid (Below W.heap.size W wr)) (fun _ iv _=>n - (intOf iv).toNat)
    case atStart=>exact ⟨0,rfl,Nat.zero_le _,O1,HCL1,B1⟩
    case round =>
      obtain ⟨i,rfl,hi,hO,hC,hB⟩:=hrel
      obtain ⟨g,cap,vi,vm,b0,hlt0,hgl,c0,c1,c2,c3,c4,c5,hst,_⟩:=(HR.out.below hB.out).cells HCC.out
      rw [HL.out] at b0
      obtain ⟨ao,icap,rfl,hq1,hq2,hq3⟩:=hst
      rw [HNI.out] at c2 hq1
      have HQ3:Hid _:=hq3
      clear c0 c1 c3 c4 c5 hq3
      by_cases hlt:i<n
      · have hltI:(i:Int)<(n:Int):=by omega
        obtain ⟨p,hp⟩:∃ p,c.ifs[i]?=some p:=⟨_,List.getElem?_eq_getElem (by rw [HNI.out];exact hlt)⟩
        obtain ⟨k,hk,hkn,hkl⟩:=HKS.out i p hp
        obtain ⟨bk,o,rfl,hbk,hcs⟩:=HQ3.out (fun e=>by rw [e] at hp;simp at hp)
        have hce:=hcs i p hp
        have hfold:(ks.take (i+1)).foldl (gathF (ps.map Plc.cl)) l1=gathF (ps.map Plc.cl) ((ks.take i).foldl (gathF (ps.map Plc.cl)) l1) k:=by
          rw [List.take_add_one,hk,List.foldl_append];rfl
        have HN1:Hid (Calls Tryz.prog 71 #[.pointer (some ⟨b,0,none⟩),.string ⟨p.toArray⟩] wr fun e w''=>e=.returned (.int .i64 (k:Int))∧w''=wr):=by
          have:=HN.out wr ⟨p.toArray⟩ hB.out
          rw [show (ByteArray.mk p.toArray).toList=p from by rw [Lib.toList_data],hkn] at this
          exact this
        obtain ⟨Lc,hLc⟩:∃ Lc,(ks.take i).foldl (gathF (ps.map Plc.cl)) l1=Lc:=⟨_,rfl⟩
        rw [hLc] at hO hC hfold
        have HFO:Hid _:=hfold
        have hLb:Lc.length≤300:=Nat.le_trans hC.out.len HW3.out
        have HA1:Hid (∀ (v:Value),wr.ownsRow W.heap.size 3 1 v Lc.length (Lc.map numV)→Calls Tryz.prog 128 #[v,.int .i64 (k:Int)] wr fun e w'=>e=.returned (.bool (Lc.contains k))∧Below wr.heap.size wr w'):=fun v hr=>HHA.out v Lc k wr hr (by omega)
        have HG1:Hid (∀ (w:World) (v:Value),Below W.heap.size W w→w.ownsRow W.heap.size 3 1 v Lc.length (Lc.map numV)→Calls Tryz.prog 77 #[.pointer (some ⟨b,0,none⟩),.int .i64 (k:Int),v] w fun e w'=>(∃ v',e=.returned v'∧w'.ownsRow W.heap.size 3 1 v' (takeL Lc (clO (ps.map nd) k)).length ((takeL Lc (clO (ps.map nd) k)).map numV))∧Below W.heap.size W w'):=fun w v hb hr=>HIH.out k hkl w v Lc hb hr hC.out
        have HCN:Hid (ClL ps (gathF (ps.map Plc.cl) Lc k)):=hC.out.gathF HTW.out.wi k (by omega)
        have HG2:Hid (Lc.contains k=true→gathF (ps.map Plc.cl) Lc k=Lc):=fun he=>gathF_yes hC.out (by simpa using he)
        have HG3:Hid (Lc.contains k=false→gathF (ps.map Plc.cl) Lc k=takeL Lc (clO (ps.map nd) k)++[k]∧(takeL Lc (clO (ps.map nd) k)).length≤300):=fun he=>⟨gathF_no HTW.out.wi (by simpa using he),Nat.le_trans (hC.out.take HTW.out.wi k (by omega)).len HW3.out⟩
        obtain ⟨va,vn,rfl⟩:=ownv hO.out
        clear hcs hp hk hkn hfold hLc HX1 HN HIH HHA HQ3
        cases hz:Lc.contains k with
        | true =>
          rw [hz] at HA1
          have he:=HG2.out hz
          rw [he] at HFO HCN
          clear HG1 HG2 HG3 hz he
          go_wp2_with (first
            | (go_at_call 71;refine HN1.out.mono ?_;rintro e w9 ⟨rfl,hw9⟩;rw [hw9];clear hw9 w9 HN1)
            | (go_at_call 128;refine (HA1.out _ hO.out).mono ?_;rintro e w2 ⟨rfl,hb⟩;have O2:Hid (w2.ownsRow W.heap.size 3 1 (.slice va Lc.length vn) Lc.length (Lc.map numV)):=rowBelow hO.out hb;have B2:Hid (Below W.heap.size W w2):=bstep hB.out hb;clear hb HA1))
          go_roundw
          case rel=>exact ⟨i+1,by go_num,by omega,by rw [HFO.out];exact O2,by rw [HFO.out];exact HCN,B2⟩
          case measure=>simp [intOf];omega
        | false =>
          rw [hz] at HA1
          obtain ⟨he,hlb⟩:=HG3.out hz
          rw [he] at HFO HCN
          generalize takeL Lc (clO (ps.map nd) k)=T at *
          clear HG2 HG3 hz he
          go_wp2_with (first
            | (go_at_call 71;refine HN1.out.mono ?_;rintro e w9 ⟨rfl,hw9⟩;rw [hw9];clear hw9 w9 HN1)
            | (go_at_call 128;refine (HA1.out _ hO.out).mono ?_;rintro e w2 ⟨rfl,hb⟩;have O2:Hid (w2.ownsRow W.heap.size 3 1 (.slice va Lc.length vn) Lc.length (Lc.map numV)):=rowBelow hO.out hb;have B2:Hid (Below W.heap.size W w2):=bstep hB.out hb;clear hb HA1)
            | (go_at_call 77;refine (HG1.out _ _ B2.out O2.out).mono ?_;rintro e w3 ⟨⟨v3,rfl,ho⟩,hb⟩;obtain ⟨va3,vn3,rfl⟩:=ownv ho;have O3:Hid (w3.ownsRow W.heap.size 3 1 (.slice va3 T.length vn3) T.length (T.map numV)):=ho;have B3:Hid (Below W.heap.size W w3):=hb;clear hb ho HG1)
            | (at_builtin;refine wpList_append_own _ rfl _ _ 37 rfl W.heap.size 3 i0 (.int .i64 0) 1 8 Tryz.underlying37 hi0 hz0 hz1 hz2 rfl (by decide) (.slice va3 T.length vn3) T.length (T.map numV) rfl (O3.out.alloc _) ⟨w3.heap.size,0,none⟩ 1 1 [.int .i64 (k:Int)] rfl rfl ?c1 ?c2 ?c3 ?c4 ?c5 ?_))
          case c1=>intro jj u hj;rw [addr_add];cases jj with
            | zero=>simp at hj;subst hj;simp [go_sem]
            | succ jj=>simp at hj
          case c2=>intro u hu;simp at hu;subst hu;rfl
          case c3=>unfold maxLen;omega
          case c4=>omega
          case c5=>have:=B3.out.size;simp;omega
          intro v' w4 hown hgrow _
          obtain ⟨va4,vn4,rfl⟩:=ownv hown
          have B4:Hid (Below W.heap.size W w4):=by
            have hb1:Below W.heap.size W (w3.alloc (.cells #[.int .i64 (k:Int)] 3)):=B3.out.alloc B3.out.size _
            refine hb1.grown hgrow hb1.size (fun x hx=>?_)
            have:=(O3.out.lt x hx).1
            omega
          have O4:Hid (w4.ownsRow W.heap.size 3 1 (.slice va4 (T.length+1) vn4) (T++[k]).length ((T++[k]).map numV)):=by
            rw [Hid,List.length_append,List.map_append];exact hown
          clear hown hgrow
          go_wp2
          go_roundw
          case rel=>exact ⟨i+1,by go_num,by omega,by rw [HFO.out];exact O4,by rw [HFO.out];exact HCN,B4⟩
          case measure=>simp [intOf];omega
      · have e:i=n:=by omega
        have HT:Hid ((ks.take i).foldl (gathF (ps.map Plc.cl)) l1=takeL l (clO (ps.map nd) id)):=by
          rw [Hid,e,← HKL.out,List.take_of_length_le (Nat.le_refl _)]
          exact HX1.out
        rw [HT.out] at hO
        subst e
        obtain ⟨va,vn,rfl⟩:=ownv hO.out
        clear HT HX1
        go_wp2
        refine bodyPost_ret (results_tmp rfl _ _ _) rfl ⟨⟨_,rfl,?_⟩,hB.out⟩
        exact hO.out
theorem rIn_t {b:Nat} {cs:List Cls} {ps:List Plc} {W:World} (h:RAt b cs W) (ht:TwW cs ps) (i:Int):Calls Tryz.prog 75 #[.pointer (some ⟨b,0,none⟩),.int .i64 i] W fun e w'=>e=.returned (.bool (plcI ps i).isSome)∧w'=W:=by
  have:=rIn_c h i
  rcases ht.tw.clsI i with ⟨h1,h2⟩|⟨k,c,q,rfl,_,_,_,h1,h2⟩
  · rw [h1] at this;rw [h2];exact this
  · rw [h1] at this;rw [h2];exact this
theorem rClosure_yes {b:Nat} {cs:List Cls} {ps:List Plc} {W:World} (h:RAt b cs W) (ht:TwW cs ps) (hJ:WJ ps) (k:Nat) (q:Plc) (hq:ps[k]?=some q):Calls Tryz.prog 30 #[.pointer (some ⟨b,0,none⟩),.int .i64 (k:Int)] W fun e w'=>(∃ v,e=.returned (.tuple #[v,.int .i64 0])∧w'.ownsRow W.heap.size 3 1 v q.cl.length (q.cl.map numV))∧Below W.heap.size W w':=by
  have hkl:=(List.getElem?_eq_some_iff.1 hq).1
  have hcl:clO (ps.map nd) k=q.cl:=by rw [clO,nd_at' hq];rfl
  have HI:Hid (Calls Tryz.prog 75 #[.pointer (some ⟨b,0,none⟩),.int .i64 (k:Int)] W fun e w'=>e=.returned (.bool true)∧w'=W):=(rIn_t h ht k).mono fun e w' zz=>⟨by rw [zz.1,plcI_nat,hq];rfl,zz.2⟩
  have HG:Hid (∀ w,Below W.heap.size W w→Calls Tryz.prog 77 #[.pointer (some ⟨b,0,none⟩),.int .i64 (k:Int),.slice none 0 0] w fun e w'=>(∃ v',e=.returned v'∧w'.ownsRow W.heap.size 3 1 v' q.cl.length (q.cl.map numV))∧Below W.heap.size W w'):=fun w hb=>by
    have:=rGather_any h ht hJ k hkl w (.slice none 0 0) [] hb (World.ownsRow_nil _ _ _ _) (ClL.nil ps)
    rw [take_nil _ (cl_nodup ht.wi.wo k),hcl] at this
    exact this
  generalize q.cl.length=n at *
  generalize q.cl.map numV=xs at *
  clear h ht hJ hq hkl hcl
  go_enter Tryz.func30,Tryz.ntmps30
  go_wp2_with (first
    | (go_at_call 75;refine HI.out.mono ?_;rintro e w9 ⟨rfl,hw9⟩;rw [hw9];clear hw9 w9)
    | (go_at_call 77;refine (HG.out _ (Below.refl _ _)).mono ?_;rintro e w1 ⟨⟨v,rfl,ho⟩,hb⟩;obtain ⟨a1,c1,rfl⟩:=ownv ho;have O1:Hid (w1.ownsRow W.heap.size 3 1 (.slice a1 n c1) n xs):=ho;have B1:Hid (Below W.heap.size W w1):=hb;clear ho hb HG))
  exact bodyPost_ret (results_tmp2 rfl _ _ _) rfl ⟨⟨_,rfl,O1.out⟩,B1.out⟩
theorem wld_wj (l:List Cls) (hl:∀ c∈l,ClsW c):WI (wld l)∧WJ (wld l):=wld_ind (P:=fun ps=>WI ps∧WJ ps) ⟨wi3,wj3⟩ (fun _ c h hc=>⟨h.1.define c hc,WJ.define h.1 h.2 c hc⟩) l hl
theorem halloc2 (w:World) {n:Nat} (o:Obj) (hn:w.heap.size=n):(w.alloc o).heap[n]?=some o:=by subst hn;exact halloc1 w o
theorem hkeep {w:World} {n:Nat} {x o:Obj} (h:w.heap[n]?=some x):(w.alloc o).heap[n]?=some x:=by
  have hb:Below w.heap.size w (w.alloc o):=(Below.refl _ w).alloc (Nat.le_refl _) _
  exact (hb.block n (Array.getElem?_eq_some_iff.1 h).1).trans h
theorem rChain_no6 {b:Nat} {cs:List Cls} {ps:List Plc} {W:World} (h:RAt b cs W) (ht:TwW cs ps) (c:Int) (hc:plcI ps c=none):Calls Tryz.prog 29 #[.pointer (some ⟨b,0,none⟩),.int .i64 c] W fun e w'=>e=.returned (.tuple #[.slice none 0 0,.int .i64 3])∧Below W.heap.size W w':=by
  have HI:Hid (∀ w,Below W.heap.size W w→Calls Tryz.prog 75 #[.pointer (some ⟨b,0,none⟩),.int .i64 c] w fun e w'=>e=.returned (.bool false)∧w'=w):=fun w hb=>(rIn_t (h.below hb) ht c).mono fun e w' zz=>⟨by rw [zz.1,hc];rfl,zz.2⟩
  clear h ht hc
  go_enter Tryz.func29,Tryz.ntmps29
  go_wp2_with (go_at_call 75;refine (HI.out _ (by repeat (first|exact Below.refl _ _|refine Below.setCell ?_ (by simp;try omega) _|refine Below.alloc ?_ (by simp;try omega) _|refine Below.drew ?_))).mono ?_;rintro e w9 ⟨rfl,hw9⟩;rw [hw9];clear hw9 w9)
  exact bodyPost_ret (results_tmp2 rfl _ _ _) rfl ⟨rfl,(by repeat (first|exact Below.refl _ _|refine Below.setCell ?_ (by simp;try omega) _|refine Below.alloc ?_ (by simp;try omega) _|refine Below.drew ?_))⟩
theorem rChain_r {b:Nat} {cs:List Cls} {ps:List Plc} {W:World} (h:RAt b cs W) (ht:TwW cs ps) (x:Int):Calls Tryz.prog 29 #[.pointer (some ⟨b,0,none⟩),.int .i64 x] W fun e w'=>NumsA (chR ps x) e w'∧Below W.heap.size W w':=by
  rcases plcI_cases ps x with ⟨hn,_⟩|⟨k,q,rfl,hk,hq⟩
  · refine (rChain_no6 h ht x hn).mono fun e w' zz=>⟨?_,zz.2⟩
    rw [zz.1,chR,hn]
    exact NumsA.nil 3 w'
  · refine (rChain_yes h ht k (List.getElem?_eq_some_iff.1 hk).1).mono ?_
    rintro e w' ⟨⟨v,rfl,ho⟩,hb⟩
    rw [chR,hq]
    exact ⟨NumsA.of ho,hb⟩
theorem rw2 {w:World} {n:Nat} {t:TypeId} {a0 a1:Value} (h:w.heap[n]?=some (.cells #[a0,a1] t (0,0))):w.cell? ⟨n,0,none⟩=some a0∧w.cell? ⟨n,1,none⟩=some a1∧(∀ k,w.frozen? ⟨n,k,none⟩=false)∧n<w.heap.size :=
  ⟨(cell_of_row w n 0 _ _ _ h).trans rfl,(cell_of_row w n 1 _ _ _ h).trans rfl,fun k=>frozen_of_row w n k _ _ h,(Array.getElem?_eq_some_iff.1 h).1⟩
theorem rw4 {w:World} {n:Nat} {t:TypeId} {a0 a1 a2 a3:Value} (h:w.heap[n]?=some (.cells #[a0,a1,a2,a3] t (0,0))):w.cell? ⟨n,0,none⟩=some a0∧w.cell? ⟨n,1,none⟩=some a1∧w.cell? ⟨n,2,none⟩=some a2∧w.cell? ⟨n,3,none⟩=some a3∧(∀ k,w.frozen? ⟨n,k,none⟩=false)∧n<w.heap.size :=
  ⟨(cell_of_row w n 0 _ _ _ h).trans rfl,(cell_of_row w n 1 _ _ _ h).trans rfl,(cell_of_row w n 2 _ _ _ h).trans rfl,(cell_of_row w n 3 _ _ _ h).trans rfl,fun k=>frozen_of_row w n k _ _ h,(Array.getElem?_eq_some_iff.1 h).1⟩
theorem kp2 {V w:World} {N n:Nat} {t:TypeId} {a0 a1:Value} (hb:Below N V w) (hn:n<N:=by first|omega|(simp;try omega)) (h:V.heap[n]?=some (.cells #[a0,a1] t (0,0)):=by first|exact Hid.out (by assumption)|exact hkeep (Hid.out (by assumption))|exact hkeep (hkeep (Hid.out (by assumption)))|exact halloc2 _ _ rfl|exact hkeep (halloc2 _ _ rfl)|exact hkeep (hkeep (halloc2 _ _ rfl))|exact halloc2 _ _ (by simp;done)):Hid (w.heap[n]?=some (.cells #[a0,a1] t (0,0)))∧w.cell? ⟨n,0,none⟩=some a0∧w.cell? ⟨n,1,none⟩=some a1∧(∀ k,w.frozen? ⟨n,k,none⟩=false)∧n<w.heap.size∧¬ n=w.heap.size:=by
  have h2:=(hb.block n hn).trans h
  obtain ⟨c0,c1,f,l⟩:=rw2 h2
  exact ⟨h2,c0,c1,f,l,by omega⟩
theorem kp4 {V w:World} {N n:Nat} {t:TypeId} {a0 a1 a2 a3:Value} (hb:Below N V w) (hn:n<N:=by first|omega|(simp;try omega)) (h:V.heap[n]?=some (.cells #[a0,a1,a2,a3] t (0,0)):=by first|exact Hid.out (by assumption)|exact hkeep (Hid.out (by assumption))|exact hkeep (hkeep (Hid.out (by assumption)))|exact halloc2 _ _ rfl|exact hkeep (halloc2 _ _ rfl)|exact hkeep (hkeep (halloc2 _ _ rfl))|exact halloc2 _ _ (by simp;done)):Hid (w.heap[n]?=some (.cells #[a0,a1,a2,a3] t (0,0)))∧w.cell? ⟨n,0,none⟩=some a0∧w.cell? ⟨n,1,none⟩=some a1∧w.cell? ⟨n,2,none⟩=some a2∧w.cell? ⟨n,3,none⟩=some a3∧(∀ k,w.frozen? ⟨n,k,none⟩=false)∧n<w.heap.size∧¬ n=w.heap.size:=by
  have h2:=(hb.block n hn).trans h
  obtain ⟨c0,c1,c2,c3,f,l⟩:=rw4 h2
  exact ⟨h2,c0,c1,c2,c3,f,l,by omega⟩
def dnL (ps:List Plc) (k:Nat):List Nat:=(chL (ps.map nd) k).reverse
def ckI (ps:List Plc) (x:Int):Int:=match plcI ps x with
  | some _=>0
  | none=>3
def lookN:List Nat→Nat→Nat
  | [],_=>0
  | x::r,t=>if x=t then 1 else lookN r t+1
def atB (D:List Nat) (n t:Nat):Bool:=match D[n]? with
  | some x=>x == t
  | none=>false
def rdN (ps:List Plc) (s t:Nat):Nat:=if ifcI ps (t:Int) then (if s=t then 1 else lookN (clO (ps.map nd) s) t+1) else 1
theorem lookN_at {l:List Nat} {t i x:Nat} (h:l[i]?=some x):lookN (l.drop i) t=if x=t then 1 else lookN (l.drop (i+1)) t+1:=by
  obtain ⟨h1,h2⟩:=List.getElem?_eq_some_iff.1 h
  rw [List.drop_eq_getElem_cons h1,h2,lookN]
theorem hasN_at {l:List Nat} {t i x:Nat} (h:l[i]?=some x):(l.drop i).contains t=if x=t then true else (l.drop (i+1)).contains t:=by
  obtain ⟨h1,h2⟩:=List.getElem?_eq_some_iff.1 h
  rw [List.drop_eq_getElem_cons h1,h2,List.contains_cons]
  by_cases e:x=t
  · subst e;simp
  · have:(t == x)=false:=by simpa using fun e2=>e e2.symm
    rw [if_neg e,this,Bool.false_or]
theorem ch_suffix {ns:List Nd} (h:WO ns) (a:Nat) (ha:a<ns.length):∀ b∈chL ns a,∃ pre,chL ns a=pre++chL ns b:=by
  refine ch_ind h (P:=fun a=>∀ b∈chL ns a,∃ pre,chL ns a=pre++chL ns b) ?_ ?_ a ha
  · intro b hb
    rw [chL_zero,List.mem_singleton] at hb
    subst hb
    exact ⟨[],rfl⟩
  · intro k hk h0 _ ih b hb
    rw [chL_cons h hk h0,List.mem_cons] at hb
    rcases hb with rfl|hb
    · exact ⟨[],rfl⟩
    · obtain ⟨pre,e⟩:=ih b hb
      exact ⟨k::pre,by rw [chL_cons h hk h0,e];rfl⟩
theorem dn_own (ns:List Nd) (k:Nat):(chL ns k).reverse[(chL ns k).length - 1]?=some k:=by
  have hp:=ch_pos (ns:=ns) k
  rw [List.getElem?_reverse (by omega),show (chL ns k).length - 1 - ((chL ns k).length - 1)=0 by omega]
  exact ch_head k
theorem dn_at {ns:List Nd} (h:WO ns) {a b:Nat} (ha:a<ns.length) (hb:b∈chL ns a):(chL ns a).reverse[(chL ns b).length - 1]?=some b:=by
  obtain ⟨pre,e⟩:=ch_suffix h a ha b hb
  have hp:=ch_pos (ns:=ns) b
  rw [e,List.reverse_append,List.getElem?_append_left (by rw [List.length_reverse];omega)]
  exact dn_own ns b
theorem atB_mem {ns:List Nd} (h:WO ns) {a b:Nat} (ha:a<ns.length):atB (chL ns a).reverse ((chL ns b).length - 1) b=(chL ns a).contains b:=by
  rw [Bool.eq_iff_iff,List.contains_iff_mem]
  constructor
  · intro e
    rw [atB] at e
    split at e
    · rename_i x hx
      rw [beq_iff_eq] at e
      subst e
      exact List.mem_reverse.1 (List.mem_of_getElem? hx)
    · cases e
  · intro e
    rw [atB,dn_at h ha e]
    exact beq_self_eq_true b
theorem ifc_at {ps:List Plc} {k:Nat} {q:Plc} (h:ps[k]?=some q):(ps.map nd)[k]?=some (nd q)∧(nd q).i=ifcI ps (k:Int):=by
  refine ⟨nd_at' h,?_⟩
  rw [ifcI,plcI_nat,h]
  rfl
theorem ext_class {ps:List Plc} (hW:WI ps) {s t:Nat} {q r:Plc} (hs:ps[s]?=some q) (ht:ps[t]?=some r) (hf:ifcI ps (t:Int)=false):extI ps (s:Int) (t:Int)=atB (dnL ps s) ((chL (ps.map nd) t).length - 1) t:=by
  have hsl:s<(ps.map nd).length:=by rw [List.length_map];exact (List.getElem?_eq_some_iff.1 hs).1
  rw [extI,plcI_nat,plcI_nat,hs,ht,dnL,atB_mem hW.wo hsl,Int.toNat_natCast,Int.toNat_natCast,extB]
  have hc:(clO (ps.map nd) s).contains t=false:=by
    rw [← Bool.not_eq_true,List.contains_iff_mem]
    intro hm
    obtain ⟨_,_,p,hp,hi,_⟩:=cl_facts hW.wo hm
    obtain ⟨e1,e2⟩:=ifc_at ht
    rw [e1] at hp
    cases hp
    rw [e2,hf] at hi
    cases hi
  rw [hc,Bool.or_false]
  rfl
theorem ext_iface {ps:List Plc} (hW:WI ps) {s t:Nat} {q r:Plc} (hs:ps[s]?=some q) (ht:ps[t]?=some r) (hf:ifcI ps (t:Int)=true) (hn:s≠t):extI ps (s:Int) (t:Int)=q.cl.contains t:=by
  have hsl:s<(ps.map nd).length:=by rw [List.length_map];exact (List.getElem?_eq_some_iff.1 hs).1
  rw [extI,plcI_nat,plcI_nat,hs,ht,Int.toNat_natCast,Int.toNat_natCast,extB]
  have hc:(chL (ps.map nd) s).contains t=false:=by
    rw [← Bool.not_eq_true,List.contains_iff_mem]
    intro hm
    obtain ⟨e1,e2⟩:=ifc_at ht
    have:=ch_plain hW.wo s hsl t hm hn.symm _ e1
    rw [e2,hf] at this
    cases this
  rw [hc,Bool.false_or,clO,nd_at' hs]
  rfl
theorem ext_own {ps:List Plc} {s:Nat} {q:Plc} (hs:ps[s]?=some q):extI ps (s:Int) (s:Int)=true:=by
  rw [extI,plcI_nat,hs,Int.toNat_natCast,ext_self];rfl
theorem cl_at {ps:List Plc} {s:Nat} {q:Plc} (hs:ps[s]?=some q):clO (ps.map nd) s=q.cl:=by
  rw [clO,nd_at' hs];rfl
theorem cl_len {ps:List Plc} (hW:WI ps) {s:Nat} {q:Plc} (hs:ps[s]?=some q):q.cl.length≤300:=by
  have hcl:=hW.wo.cl s (nd q) (nd_at' hs)
  have:=List.Nodup.length_le_of_subset hcl.1 (l₂:=List.range ps.length) (fun i hi=>List.mem_range.2 (by
    have:=(hcl.2 i hi).1
    have:=(List.getElem?_eq_some_iff.1 hs).1
    omega))
  rw [List.length_range] at this
  have h2:=hW.hi
  have h3:q.cl.length≤ps.length:=this
  omega
theorem dn_len (ps:List Plc) (k:Nat):(dnL ps k).length=(chL (ps.map nd) k).length:=List.length_reverse
theorem dn_le {ps:List Plc} (hW:WI ps) {k:Nat} (hk:k<ps.length):(dnL ps k).length≤300:=by
  have hkl:k<(ps.map nd).length:=by rw [List.length_map];exact hk
  have:=List.Nodup.length_le_of_subset (ch_nodup hW.wo k hkl) (l₂:=List.range ps.length) (fun i hi=>List.mem_range.2 (by
    have:=ch_le hW.wo k hkl i hi
    omega))
  rw [List.length_range] at this
  have h2:=hW.hi
  rw [dn_len]
  omega
end Go.Proofs.YtfjekhmnjfcbeaaGreat
