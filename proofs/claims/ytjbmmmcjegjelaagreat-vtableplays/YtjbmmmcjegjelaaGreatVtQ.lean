import Derived.Test.YtjbmmmcjegjelaaGreatVtG
import Derived.Test.YtjbmmmcjegjelaaGreatLcQ
import Derived.Test.YtjbmmmcjegjelaaGreatVtD
import Derived.Test.YtjbmmmcjegjelaaGreatSq
set_option maxHeartbeats 4000000
set_option maxRecDepth 100000
namespace Go.Proofs.YtjbmmmcjegjelaaGreat
open Go.RowKit Go.Maps
theorem chk_n (W:World) (b:Nat) (x:Int) (N:Nat) (f:Bool) (HL:Hid (∀ w,Below W.heap.size W w→Calls Tryz.prog 49 #[.pointer (some ⟨b,0,none⟩)] w fun e w'=>e=.returned (.int .i64 (N:Int))∧w'=w)) (HF:Hid (∀ w,Below W.heap.size W w→Calls Tryz.prog 30 #[.pointer (some ⟨b,0,none⟩),.int .i64 x] w fun e w'=>e=.returned (.bool f)∧Below w.heap.size w w')) (E:Int) (hE:E=if x<0∨(N:Int)≤x then 3 else if f then 23 else 0):Calls Tryz.prog 23 #[.pointer (some ⟨b,0,none⟩),.int .i64 x] W fun e w'=>e=.returned (.int .i64 E)∧Below W.heap.size W w':=by
  by_cases h0:x<0
  · have e1:E=3:=by rw [hE,if_pos (.inl h0)]
    subst e1
    clear hE
    go_enter Tryz.func23,Tryz.ntmps23
    go_wp2
    go_ret
    exact ⟨rfl,Below.refl _ _⟩
  · by_cases h1:(N:Int)≤x
    · have e1:E=3:=by rw [hE,if_pos (.inr h1)]
      subst e1
      clear hE
      go_enter Tryz.func23,Tryz.ntmps23
      go_wp2_with (go_at_call 49;refine (HL.out _ (Below.refl _ _)).mono ?_;rintro e w9 ⟨rfl,hw9⟩;rw [hw9];clear hw9 w9 HL)
      go_ret
      exact ⟨rfl,Below.refl _ _⟩
    · cases f
      · have e1:E=0:=by rw [hE,if_neg (by omega)];rfl
        subst e1
        clear hE
        go_enter Tryz.func23,Tryz.ntmps23
        go_wp2_with (first
          | (go_at_call 49;refine (HL.out _ (Below.refl _ _)).mono ?_;rintro e w9 ⟨rfl,hw9⟩;rw [hw9];clear hw9 w9 HL)
          | (go_at_call 30;refine (HF.out _ (Below.refl _ _)).mono ?_;rintro e w2 ⟨rfl,hb⟩;have B2:Hid (Below W.heap.size W w2):=hb;clear hb HF))
        go_ret
        exact ⟨rfl,B2.out⟩
      · have e1:E=23:=by rw [hE,if_neg (by omega)];rfl
        subst e1
        clear hE
        go_enter Tryz.func23,Tryz.ntmps23
        go_wp2_with (first
          | (go_at_call 49;refine (HL.out _ (Below.refl _ _)).mono ?_;rintro e w9 ⟨rfl,hw9⟩;rw [hw9];clear hw9 w9 HL)
          | (go_at_call 30;refine (HF.out _ (Below.refl _ _)).mono ?_;rintro e w2 ⟨rfl,hb⟩;have B2:Hid (Below W.heap.size W w2):=hb;clear hb HF))
        go_ret
        exact ⟨rfl,B2.out⟩
def vckE (ps:List Plc) (x:Int):Int:=match plcI ps x with
  | none=>3
  | some _=>if ifcI ps x then 23 else 0
theorem chk_c {b:Nat} {ps:List Plc} {W:World} (h:WAt b ps W) (x:Int):Calls Tryz.prog 23 #[.pointer (some ⟨b,0,none⟩),.int .i64 x] W fun e w'=>e=.returned (.int .i64 (vckE ps x))∧Below W.heap.size W w':=by
  refine chk_n W b x ps.length (ifcI ps x) (fun w hb=>len_c (h.below hb)) (fun w hb=>Jq (h.below hb) x) _ ?_
  rw [vckE]
  rcases Zo ps x with ⟨e,hn⟩|⟨k,q,rfl,hq,e⟩
  · rw [e,if_pos (show x<0∨(ps.length:Int)≤x by omega)]
  · have:=(List.getElem?_eq_some_iff.1 hq).1
    rw [e,if_neg (show ¬ ((k:Int)<0∨(ps.length:Int)≤(k:Int)) by omega)]
theorem bld_no (W:World) (b:Nat) (x E:Int) (hE:¬ E=0) (HC:Hid (∀ w,Below W.heap.size W w→Calls Tryz.prog 23 #[.pointer (some ⟨b,0,none⟩),.int .i64 x] w fun e w'=>e=.returned (.int .i64 E)∧Below w.heap.size w w')):Calls Tryz.prog 9 #[.pointer (some ⟨b,0,none⟩),.int .i64 x] W fun e w'=>e=.returned (.tuple #[.slice none 0 0,.int .i64 E])∧Below W.heap.size W w':=by
  go_enter Tryz.func9,Tryz.ntmps9
  go_wp2_with (go_at_call 23;refine (HC.out _ (Below.refl _ _)).mono ?_;rintro e w1 ⟨rfl,hb⟩;have B1:Hid (Below W.heap.size W w1):=hb;clear hb HC)
  go_ret2
  exact ⟨rfl,B1.out⟩
theorem bld_yes (W:World) (b:Nat) (x:Int) (T:List Sl) (HC:Hid (∀ w,Below W.heap.size W w→Calls Tryz.prog 23 #[.pointer (some ⟨b,0,none⟩),.int .i64 x] w fun e w'=>e=.returned (.int .i64 0)∧Below w.heap.size w w')) (HT:Hid (∀ w,Below W.heap.size W w→Calls Tryz.prog 24 #[.pointer (some ⟨b,0,none⟩),.int .i64 x] w fun e w'=>(∃ v,e=.returned v∧w'.ownsRow w.heap.size 48 4 v T.length (Yi T))∧Below w.heap.size w w')):Calls Tryz.prog 9 #[.pointer (some ⟨b,0,none⟩),.int .i64 x] W fun e w'=>(∃ v,e=.returned (.tuple #[v,.int .i64 0])∧w'.ownsRow W.heap.size 48 4 v T.length (Yi T))∧Below W.heap.size W w':=by
  go_enter Tryz.func9,Tryz.ntmps9
  go_wp2_with (first
    | (go_at_call 23;refine (HC.out _ (Below.refl _ _)).mono ?_;rintro e w1 ⟨rfl,hb⟩;have B1:Hid (Below W.heap.size W w1):=hb;clear hb HC)
    | (go_at_call 24;refine (HT.out _ B1.out).mono ?_;rintro e w2 ⟨⟨v,rfl,ho⟩,hb⟩;obtain ⟨va,vc,rfl⟩:=ownv ho;have O2:Hid (w2.ownsRow W.heap.size 48 4 (.slice va T.length vc) T.length (Yi T)):=Go.Joins.ownsRow_le ho B1.out.size;have B2:Hid (Below W.heap.size W w2):=Za B1.out hb;clear hb ho HT))
  go_ret2
  exact ⟨⟨_,rfl,O2.out⟩,B2.out⟩
def bldT (ps:List Plc) (x:Int):List Sl:=if vckE ps x=0 then tabP ps x.toNat else []
theorem Zeq {ps:List Plc} {x:Int} (h:vckE ps x=0):∃ (k:Nat) (q:Plc),x=(k:Int)∧ps[k]?=some q:=by
  rw [vckE] at h
  rcases Zo ps x with ⟨e,_⟩|⟨k,q,e1,hq,_⟩
  · rw [e] at h;cases h
  · exact ⟨k,q,e1,hq⟩
theorem bld_c {b:Nat} {ps:List Plc} {W:World} (h:WAt b ps W) (hi:WI ps) (hU:UnqM ps) (x:Int):Calls Tryz.prog 9 #[.pointer (some ⟨b,0,none⟩),.int .i64 x] W fun e w'=>(∃ v,e=.returned (.tuple #[v,.int .i64 (vckE ps x)])∧w'.ownsRow W.heap.size 48 4 v (bldT ps x).length (Yi (bldT ps x)))∧Below W.heap.size W w':=by
  by_cases hz:vckE ps x=0
  · obtain ⟨k,q,rfl,hq⟩:=Zeq hz
    have hT:bldT ps (k:Int)=tabP ps k:=by rw [bldT,if_pos hz,Int.toNat_natCast]
    rw [hT,hz]
    refine bld_yes W b (k:Int) (tabP ps k) (fun w hb=>?_) (fun w hb=>Zgu (h.below hb) hi hU k q hq)
    rw [← hz]
    exact chk_c (h.below hb) _
  · have hT:bldT ps x=[]:=by rw [bldT,if_neg hz]
    rw [hT]
    refine (bld_no W b x (vckE ps x) hz (fun w hb=>chk_c (h.below hb) x)).mono ?_
    rintro e w' ⟨rfl,hb⟩
    exact ⟨⟨_,rfl,World.ownsRow_nil _ _ _ _⟩,hb⟩
theorem siz_n (W:World) (b:Nat) (x E:Int) (T:List Sl) (HB:Hid (∀ w,Below W.heap.size W w→Calls Tryz.prog 9 #[.pointer (some ⟨b,0,none⟩),.int .i64 x] w fun e w'=>(∃ v,e=.returned (.tuple #[v,.int .i64 E])∧w'.ownsRow w.heap.size 48 4 v T.length (Yi T))∧Below w.heap.size w w')):Calls Tryz.prog 11 #[.pointer (some ⟨b,0,none⟩),.int .i64 x] W fun e w'=>e=.returned (.tuple #[.int .i64 (T.length:Int),.int .i64 E])∧Below W.heap.size W w':=by
  go_enter Tryz.func11,Tryz.ntmps11
  go_wp2_with (go_at_call 9;refine (HB.out _ (Below.refl _ _)).mono ?_;rintro e w2 ⟨⟨v,rfl,ho⟩,hb⟩;obtain ⟨va,vc,rfl⟩:=ownv ho;have B2:Hid (Below W.heap.size W w2):=hb;clear hb ho HB)
  go_ret2
  exact ⟨rfl,B2.out⟩
def X8 (x:Sl):List Value:=[.int .i64 x.1.1,.int .i64 x.1.2,.int .i64 x.2.1,.int .i64 x.2.2]
def Ze0 (x:Sl):Value:=.agg #[.int .i64 x.1.1,.int .i64 x.1.2,.int .i64 x.2.1,.int .i64 x.2.2]
theorem Y5:∀ (l:List Sl) (i:Nat) (x:Sl) (j:Nat),l[i]?=some x→j<4→(Yi l)[i * 4+j]?=(X8 x)[j]?
  | [],i,x,j,h,_=>by simp at h
  | y::r,0,x,j,h,hj=>by
    simp only [List.getElem?_cons_zero,Option.some.injEq] at h
    subst h
    rw [Nat.zero_mul,Nat.zero_add]
    show (X8 y++Yi r)[j]?=_
    rw [List.getElem?_append_left (by simpa [X8] using hj)]
  | y::r,i+1,x,j,h,hj=>by
    rw [List.getElem?_cons_succ] at h
    show (X8 y++Yi r)[(i+1) * 4+j]?=_
    rw [List.getElem?_append_right (by simp [X8];omega),show (i+1) * 4+j - (X8 y).length=i * 4+j by simp [X8];omega]
    exact Y5 r i x j h hj
theorem Zdv {w:World} {N T n s:Nat} {v:Value} {xs:List Value} (h:w.ownsRow N T s v n xs) (hn:0<n):∃ g cap,v=.slice (some ⟨g,0,none⟩) n cap∧N≤g∧g<w.heap.size∧∀ (j:Nat) (u:Value),xs[j]?=some u→w.cell? ⟨g,j,none⟩=some u:=by
  have hr:=Z4 h
  rcases h.2 with ⟨_,e⟩|⟨g,cap,cur,e1,e2,e3,e4⟩
  · omega
  · subst e1
    refine ⟨g,cap,rfl,e2,(Array.getElem?_eq_some_iff.1 e3).1,fun j u hj=>?_⟩
    rcases hr.val with ⟨e,_⟩|⟨bk,o,cap',e,_,_,_,h4⟩
    · cases e
    · injection e with ea _ _
      injection ea with ea
      injection ea with e5 e6 _
      have:=h4 j u hj
      rw [← e5,← e6,Nat.zero_add] at this
      exact this
def idxL {α:Type} (p:α→Bool):List α→Nat→Int
  | [],_=>-1
  | m::r,k=>if p m then (k:Int) else idxL p r (k+1)
theorem idxL_at {α:Type} {p:α→Bool} {l:List α} (k:Nat) (x:α) (h:l[k]?=some x):idxL p (l.drop k) k=if p x then (k:Int) else idxL p (l.drop (k+1)) (k+1):=by
  obtain ⟨h1,h2⟩:=List.getElem?_eq_some_iff.1 h
  rw [List.drop_eq_getElem_cons h1,h2,idxL]
theorem Zie (g:Nat) (eg:∀ args w,(callFunc g args).run Tryz.prog w=.ok (.enter g args) w) (cb:Array Value) (p:Sl→Bool) (N:Nat) (l:List Sl) (v:Value) (W:World) (h:W.ownsRow N 48 4 v l.length (Yi l)) (hn:l.length≤1000000000) (hp:∀ m∈l,∀ w,Below W.heap.size W w→Calls Tryz.prog g (#[Ze0 m]++cb) w fun e w'=>e=.returned (.bool (p m))∧Below w.heap.size w w') :
    Calls Tryz.prog 32 #[v,.func (.func g) #[] cb] W fun e w'=>e=.returned (.int .i64 (idxL p l 0))∧Below W.heap.size W w':=by
  obtain ⟨ao,cap,rfl⟩:=ownv h
  obtain ⟨K,hK⟩:∃ K,l.length=K:=⟨_,rfl⟩
  have HA:Hid (W.ownsRow N 48 4 (.slice ao l.length cap) l.length (Yi l)):=h
  have HK:Hid (l.length=K):=hK
  have HP:Hid (∀ m∈l,∀ w,Below W.heap.size W w→Calls Tryz.prog g (#[Ze0 m]++cb) w fun e w'=>e=.returned (.bool (p m))∧Below w.heap.size w w'):=hp
  rw [hK] at hn ⊢
  clear hK h hp
  go_enter Tryz.func32,Tryz.ntmps32
  go_wp2
  go_loopw [8] (fun iv wr=>∃ i:Nat,iv=.int .i64 i∧i≤K∧Hid (Below W.heap.size W wr)∧Hid (idxL p (l.drop i) i=idxL p l 0)) (fun iv _=>K - (intOf iv).toNat)
  case atStart=>exact ⟨0,rfl,Nat.zero_le _,Below.refl _ _,rfl⟩
  case round =>
    obtain ⟨i,rfl,hi,hb,hs⟩:=hrel
    by_cases hlt:i<K
    · have hlq:i<l.length:=by rw [HK.out];exact hlt
      obtain ⟨x,hx⟩:∃ x,l[i]?=some x:=⟨_,List.getElem?_eq_getElem hlq⟩
      obtain ⟨gm,cm,hform,_,hgl,hcs⟩:=Zdv HA.out (by omega)
      injection hform with hao _ hcap
      subst hao hcap
      have hc4:∀ j u,(X8 x)[j]?=some u→j<4→wr.cell? ⟨gm,i * 4+j,none⟩=some u:=fun j u hj h5=>(hb.out.cell (p:=⟨gm,i * 4+j,none⟩) hgl).trans (hcs _ u ((Y5 l i x j hx h5).trans hj))
      have e0:=hc4 0 _ rfl (by decide)
      have e1:=hc4 1 _ rfl (by decide)
      have e2:=hc4 2 _ rfl (by decide)
      have e3:=hc4 3 _ rfl (by decide)
      rw [Nat.add_zero] at e0
      clear hcs hc4
      have hst:=idxL_at (p:=p) i x hx
      rw [hs.out] at hst
      have HC:Hid (Calls Tryz.prog g (#[Ze0 x]++cb) wr fun e w'=>e=.returned (.bool (p x))∧Below wr.heap.size wr w'):=HP.out x (List.mem_of_getElem? hx) wr hb.out
      generalize p x=q at *
      obtain ⟨⟨r1,r2⟩,⟨m1,m2⟩⟩:=x
      simp only [Ze0] at e0 e1 e2 e3 HC
      clear hs HA hx hlq HP
      cases q with
      | true =>
        have HZ:Hid (idxL p l 0=(i:Int)):=by rw [Hid,hst];rfl
        clear hst
        go_wp2_with (go_at_fn g;refine (HC.out).mono ?_;rintro e w1 ⟨rfl,hb1⟩)
        go_ret
        exact ⟨Zg HZ.out.symm,Below.step hb.out hb1⟩
      | false =>
        have HZ:Hid (idxL p (l.drop (i+1)) (i+1)=idxL p l 0):=by rw [Hid,hst];rfl
        clear hst
        go_wp2_with (go_at_fn g;refine (HC.out).mono ?_;rintro e w1 ⟨rfl,hb1⟩;have hb2:Hid (Below W.heap.size W w1):=Below.step hb.out hb1;clear hb1)
        go_roundw
        case rel=>exact ⟨i+1,by go_num,by omega,hb2,HZ⟩
        case measure=>simp [intOf];omega
    · have e:i=K:=by omega
      subst e
      have HZ:Hid (idxL p l 0=-1):=by rw [Hid,← hs.out,List.drop_of_length_le (by rw [HK.out];exact Nat.le_refl _)];rfl
      clear hs HA HP
      go_wp2
      go_ret
      exact ⟨Zg HZ.out.symm,hb.out⟩
theorem callS1 (vs:Array Value) (w:World):(callFunc 33 vs).run Tryz.prog w=.ok (.enter 33 vs) w:=by simp [go_sem]
theorem callS2 (vs:Array Value) (w:World):(callFunc 34 vs).run Tryz.prog w=.ok (.enter 34 vs) w:=by simp [go_sem]
theorem isRoot_c (W:World) (B:Nat) (hB:B<W.heap.size) (o1 o2:Int) (h0:W.cell? ⟨B,0,none⟩=some (.int .i64 o1)) (h1:W.cell? ⟨B,1,none⟩=some (.int .i64 o2)) (x:Sl):Calls Tryz.prog 33 #[Ze0 x,.pointer (some ⟨B,0,none⟩)] W fun e w'=>e=.returned (.bool ((x.1.1 == o1)&&(x.1.2 == o2)))∧Below W.heap.size W w':=by
  obtain ⟨⟨r1,r2⟩,⟨m1,m2⟩⟩:=x
  simp only [Ze0]
  have hN:¬ B=W.heap.size:=by omega
  go_enter Tryz.func33,Tryz.ntmps33
  go_wp2
  all_goals go_ret
  all_goals exact ⟨retB (by simp [*]),sqR⟩
theorem isMeth_c (W:World) (B:Nat) (hB:B<W.heap.size) (o1 o2:Int) (h0:W.cell? ⟨B,0,none⟩=some (.int .i64 o1)) (h1:W.cell? ⟨B,1,none⟩=some (.int .i64 o2)) (x:Sl):Calls Tryz.prog 34 #[Ze0 x,.pointer (some ⟨B,0,none⟩)] W fun e w'=>e=.returned (.bool ((x.2.1 == o1)&&(x.2.2 == o2)))∧Below W.heap.size W w':=by
  obtain ⟨⟨r1,r2⟩,⟨m1,m2⟩⟩:=x
  simp only [Ze0]
  have hN:¬ B=W.heap.size:=by omega
  go_enter Tryz.func34,Tryz.ntmps34
  go_wp2
  all_goals go_ret
  all_goals exact ⟨retB (by simp [*]),sqR⟩
def mth3 (ps:List Plc) (c i:Int):Except Int HM:=match Zm ps c i with
  | some m=>.ok m
  | none=>.error 3
theorem vrd_c {b:Nat} {ps:List Plc} {W:World} (h:WAt b ps W) (hi:WI ps) (c i:Int):Calls Tryz.prog 29 #[.pointer (some ⟨b,0,none⟩),.agg #[.int .i64 c,.int .i64 i]] W fun e w'=>mthE (mth3 ps c i) e∧Below W.heap.size W w':=by
  have HM:Hid (∀ w,Below W.heap.size W w→Calls Tryz.prog 57 #[.pointer (some ⟨b,0,none⟩),.agg #[.int .i64 c,.int .i64 i]] w fun e w'=>mthE (mth3 ps c i) e∧Below w.heap.size w w'):=fun w hb=>mth_e (h.below hb) hi.pb c i
  generalize mth3 ps c i=X at *
  cases X with
  | error x =>
    simp only [mthE] at HM ⊢
    go_enter Tryz.func29,Tryz.ntmps29
    go_wp2_with (go_at_call 57;refine (HM.out _ sqR).mono ?_;rintro e w1 ⟨rfl,hb⟩;have zzd:=kp6 (n:=W.heap.size+1) hb (by simp) (Ze _ _ (by simp));obtain ⟨zzB,zz0,zz1,zz2,zz3,zz4,zz5,zzf,zzL,zzN⟩:=zzd;have B1:Hid (Below W.heap.size W w1):=Za sqR hb;clear hb HM)
    exact bodyPost_ret (v:=.tuple #[.agg #[.string ⟨#[]⟩,.string ⟨#[]⟩,.int .i64 0,.int .i64 0,.int .i64 0,.slice none 0 0],.int .i64 x]) (by simp [results,Tryz.results29,go_sem, *]) rfl ⟨rfl,(sqE B1)⟩
  | ok m =>
    simp only [mthE] at HM ⊢
    go_enter Tryz.func29,Tryz.ntmps29
    go_wp2_with (go_at_call 57;refine (HM.out _ sqR).mono ?_;rintro e w1 ⟨⟨sa,sk,so,rfl⟩,hb⟩;have zzd:=kp6 (n:=W.heap.size+1) hb (by simp) (Ze _ _ (by simp));obtain ⟨zzB,zz0,zz1,zz2,zz3,zz4,zz5,zzf,zzL,zzN⟩:=zzd;have B1:Hid (Below W.heap.size W w1):=Za sqR hb;clear hb HM)
    exact bodyPost_ret (v:=.tuple #[.agg #[.string m.nm,.string m.ds,.int .i64 m.fl,.int .i64 m.lo,.int .i64 m.st,.slice sa sk so],.int .i64 0]) (by simp [results,Tryz.results29,go_sem, *]) rfl ⟨⟨sa,sk,so,rfl⟩,(sqE B1)⟩
theorem slo_1 (W:World) (b:Nat) (c i x:Int) (hx:¬ x=0) (HR:Hid (∀ w,Below W.heap.size W w→Calls Tryz.prog 29 #[.pointer (some ⟨b,0,none⟩),.agg #[.int .i64 c,.int .i64 i]] w fun e w'=>e=.returned (.tuple #[.agg #[.string ⟨#[]⟩,.string ⟨#[]⟩,.int .i64 0,.int .i64 0,.int .i64 0,.slice none 0 0],.int .i64 x])∧Below w.heap.size w w')):Calls Tryz.prog 14 #[.pointer (some ⟨b,0,none⟩),.agg #[.int .i64 c,.int .i64 i]] W fun e w'=>e=.returned (.tuple #[.int .i64 0,.int .i64 x])∧Below W.heap.size W w':=by
  go_enter Tryz.func14,Tryz.ntmps14
  go_wp2_with (go_at_call 29;refine (HR.out _ sqR).mono ?_;rintro e w1 ⟨rfl,hb⟩;have mmd:=kp2 (n:=W.heap.size) hb (by simp) (Zk _ _);obtain ⟨mmB,mm0,mm1,mmf,mmL,mmN⟩:=mmd;have B1:Hid (Below W.heap.size W w1):=Za sqR hb;clear hb HR)
  go_ret2
  exact ⟨rfl,(sqE B1)⟩
theorem slo_2 (W:World) (b:Nat) (c i:Int) (m:HM) (f:Bool) (hf:f=true∨vrtB m.nm m.fl=false) (HR:Hid (∀ w,Below W.heap.size W w→Calls Tryz.prog 29 #[.pointer (some ⟨b,0,none⟩),.agg #[.int .i64 c,.int .i64 i]] w fun e w'=>(∃ sa sk so,e=.returned (.tuple #[.agg #[.string m.nm,.string m.ds,.int .i64 m.fl,.int .i64 m.lo,.int .i64 m.st,.slice sa sk so],.int .i64 0]))∧Below w.heap.size w w')) (HF:Hid (∀ w,Below W.heap.size W w→Calls Tryz.prog 30 #[.pointer (some ⟨b,0,none⟩),.int .i64 c] w fun e w'=>e=.returned (.bool f)∧Below w.heap.size w w')):Calls Tryz.prog 14 #[.pointer (some ⟨b,0,none⟩),.agg #[.int .i64 c,.int .i64 i]] W fun e w'=>e=.returned (.tuple #[.int .i64 0,.int .i64 6])∧Below W.heap.size W w':=by
  have HV:Hid (∀ (a:Option Addr) (n s:Nat) (w:World),Calls Tryz.prog 31 #[.agg #[.string m.nm,.string m.ds,.int .i64 m.fl,.int .i64 m.lo,.int .i64 m.st,.slice a n s]] w fun e w'=>e=.returned (.bool (vrtB m.nm m.fl))∧Below w.heap.size w w'):=fun a n s w=>Zha m.nm m.ds m.fl m.lo m.st a n s w
  generalize vrtB m.nm m.fl=vv at *
  obtain ⟨nm,ds,fl,lo,st,cd⟩:=m
  simp only at HR HV
  cases f
  · have e1:vv=false:=hf.resolve_left (by decide)
    subst e1
    clear hf
    go_enter Tryz.func14,Tryz.ntmps14
    go_wp2_with (first
      | (go_at_call 29;refine (HR.out _ sqR).mono ?_;rintro e w1 ⟨⟨sa,sk,so,rfl⟩,hb⟩;have mmd:=kp2 (n:=W.heap.size) hb (by simp) (Zk _ _);obtain ⟨mmB,mm0,mm1,mmf,mmL,mmN⟩:=mmd;have B1:Hid (Below W.heap.size W w1):=Za sqR hb;clear hb HR)
      | (go_at_call 30;refine (HF.out _ (sqE B1)).mono ?_;rintro e w2 ⟨rfl,hb⟩;have aad:=kp6 (n:=w1.heap.size) hb (by simp) (Zk _ _);obtain ⟨aaB,aa0,aa1,aa2,aa3,aa4,aa5,aaf,aaL,aaN⟩:=aad;have B2:Hid (Below W.heap.size W w2):=Za (sqE B1) hb;clear hb HF)
      | (go_at_call 31;refine (HV.out _ _ _ _).mono ?_;rintro e w3 ⟨rfl,hb⟩;have B3:Hid (Below W.heap.size W w3):=Za B2.out hb;clear hb HV))
    go_ret2
    exact ⟨rfl,B3.out⟩
  · clear hf HV
    go_enter Tryz.func14,Tryz.ntmps14
    go_wp2_with (first
      | (go_at_call 29;refine (HR.out _ sqR).mono ?_;rintro e w1 ⟨⟨sa,sk,so,rfl⟩,hb⟩;have mmd:=kp2 (n:=W.heap.size) hb (by simp) (Zk _ _);obtain ⟨mmB,mm0,mm1,mmf,mmL,mmN⟩:=mmd;have B1:Hid (Below W.heap.size W w1):=Za sqR hb;clear hb HR)
      | (go_at_call 30;refine (HF.out _ (sqE B1)).mono ?_;rintro e w2 ⟨rfl,hb⟩;have B2:Hid (Below W.heap.size W w2):=Za (sqE B1) hb;clear hb HF))
    go_ret2
    exact ⟨rfl,B2.out⟩
def isRt (c i:Int) (x:Sl):Bool:=(x.1.1 == c)&&(x.1.2 == i)
def isMt (c i:Int) (x:Sl):Bool:=(x.2.1 == c)&&(x.2.2 == i)
def sloP (T:List Sl) (c i:Int):Int:=if idxL (isRt c i) T 0<0 then idxL (isMt c i) T 0 else idxL (isRt c i) T 0
theorem slo_3 (W:World) (b:Nat) (c i:Int) (m:HM) (hv:vrtB m.nm m.fl=true) (T:List Sl) (hT:T.length≤1000000000) (HR:Hid (∀ w,Below W.heap.size W w→Calls Tryz.prog 29 #[.pointer (some ⟨b,0,none⟩),.agg #[.int .i64 c,.int .i64 i]] w fun e w'=>(∃ sa sk so,e=.returned (.tuple #[.agg #[.string m.nm,.string m.ds,.int .i64 m.fl,.int .i64 m.lo,.int .i64 m.st,.slice sa sk so],.int .i64 0]))∧Below w.heap.size w w')) (HF:Hid (∀ w,Below W.heap.size W w→Calls Tryz.prog 30 #[.pointer (some ⟨b,0,none⟩),.int .i64 c] w fun e w'=>e=.returned (.bool false)∧Below w.heap.size w w')) (HT:Hid (∀ w,Below W.heap.size W w→Calls Tryz.prog 24 #[.pointer (some ⟨b,0,none⟩),.int .i64 c] w fun e w'=>(∃ v,e=.returned v∧w'.ownsRow w.heap.size 48 4 v T.length (Yi T))∧Below w.heap.size w w')):Calls Tryz.prog 14 #[.pointer (some ⟨b,0,none⟩),.agg #[.int .i64 c,.int .i64 i]] W fun e w'=>e=.returned (.tuple #[.int .i64 (sloP T c i),.int .i64 0])∧Below W.heap.size W w':=by
  have HV:Hid (∀ (a:Option Addr) (n s:Nat) (w:World),Calls Tryz.prog 31 #[.agg #[.string m.nm,.string m.ds,.int .i64 m.fl,.int .i64 m.lo,.int .i64 m.st,.slice a n s]] w fun e w'=>e=.returned (.bool true)∧Below w.heap.size w w'):=fun a n s w=>by rw [← hv];exact Zha m.nm m.ds m.fl m.lo m.st a n s w
  have H1:Hid (∀ (N:Nat) (v:Value) (w:World),w.heap[W.heap.size]?=some (.cells #[.int .i64 c,.int .i64 i] 39 (0,0))→w.ownsRow N 48 4 v T.length (Yi T)→Calls Tryz.prog 32 #[v,.func (.func 33) #[] #[.pointer (some ⟨W.heap.size,0,none⟩)]] w fun e w'=>e=.returned (.int .i64 (idxL (isRt c i) T 0))∧Below w.heap.size w w'):=fun N v w hm ho=>by
    refine Zie 33 callS1 _ _ N T v w ho hT (fun x _ w' hb=>?_)
    obtain ⟨_,c0,c1,_,cL,_⟩:=kp2 (n:=W.heap.size) hb ((Array.getElem?_eq_some_iff.1 hm).1) hm
    exact isRoot_c w' W.heap.size cL c i c0 c1 x
  have H2:Hid (∀ (N:Nat) (v:Value) (w:World),w.heap[W.heap.size]?=some (.cells #[.int .i64 c,.int .i64 i] 39 (0,0))→w.ownsRow N 48 4 v T.length (Yi T)→Calls Tryz.prog 32 #[v,.func (.func 34) #[] #[.pointer (some ⟨W.heap.size,0,none⟩)]] w fun e w'=>e=.returned (.int .i64 (idxL (isMt c i) T 0))∧Below w.heap.size w w'):=fun N v w hm ho=>by
    refine Zie 34 callS2 _ _ N T v w ho hT (fun x _ w' hb=>?_)
    obtain ⟨_,c0,c1,_,cL,_⟩:=kp2 (n:=W.heap.size) hb ((Array.getElem?_eq_some_iff.1 hm).1) hm
    exact isMeth_c w' W.heap.size cL c i c0 c1 x
  obtain ⟨P,hP⟩:∃ P,sloP T c i=P:=⟨_,rfl⟩
  rw [hP]
  have HP:Hid (P=if idxL (isRt c i) T 0<0 then idxL (isMt c i) T 0 else idxL (isRt c i) T 0):=by rw [Hid,← hP,sloP]
  clear hP
  generalize idxL (isRt c i) T 0=R1 at *
  generalize idxL (isMt c i) T 0=R2 at *
  obtain ⟨nm,ds,fl,lo,st,cd⟩:=m
  simp only at HR HV
  clear hv
  by_cases hn:R1<0
  · have e1:P=R2:=by rw [HP.out,if_pos hn]
    subst e1
    clear HP
    go_enter Tryz.func14,Tryz.ntmps14
    go_wp2_with (first
      | (go_at_call 29;refine (HR.out _ sqR).mono ?_;rintro e w1 ⟨⟨sa,sk,so,rfl⟩,hb⟩;have mmd:=kp2 (n:=W.heap.size) hb (by simp) (Zk _ _);obtain ⟨mmB,mm0,mm1,mmf,mmL,mmN⟩:=mmd;have B1:Hid (Below W.heap.size W w1):=Za sqR hb;clear hb HR)
      | (go_at_call 30;refine (HF.out _ (sqE B1)).mono ?_;rintro e w2 ⟨rfl,hb⟩;have aad:=kp6 (n:=w1.heap.size) hb (by simp) (Zk _ _);obtain ⟨aaB,aa0,aa1,aa2,aa3,aa4,aa5,aaf,aaL,aaN⟩:=aad;have mmd:=kp2 (n:=W.heap.size) hb (by simp;omega) (Zj mmB.out);clear mmB mm0 mm1 mmf mmL mmN;obtain ⟨mmB,mm0,mm1,mmf,mmL,mmN⟩:=mmd;have B2:Hid (Below W.heap.size W w2):=Za (sqE B1) hb;clear hb HF)
      | (go_at_call 31;refine (HV.out _ _ _ _).mono ?_;rintro e w3 ⟨rfl,hb⟩;have mmd:=kp2 (n:=W.heap.size) hb mmL mmB.out;clear mmB mm0 mm1 mmf mmL mmN;obtain ⟨mmB,mm0,mm1,mmf,mmL,mmN⟩:=mmd;have B3:Hid (Below W.heap.size W w3):=Za B2.out hb;clear hb HV)
      | (go_at_call 24;refine (HT.out _ B3.out).mono ?_;rintro e w4 ⟨⟨v,rfl,ho⟩,hb⟩;obtain ⟨va,vc,rfl⟩:=ownv ho;have O4:Hid (w4.ownsRow w3.heap.size 48 4 (.slice va T.length vc) T.length (Yi T)):=ho;have mmd:=kp2 (n:=W.heap.size) hb mmL mmB.out;clear mmB mm0 mm1 mmf mmL mmN;obtain ⟨mmB,mm0,mm1,mmf,mmL,mmN⟩:=mmd;have B4:Hid (Below W.heap.size W w4):=Za B3.out hb;clear hb ho HT)
      | (go_at_call 32;refine (H1.out _ _ _ mmB.out O4.out).mono ?_;rintro e w5 ⟨rfl,hb⟩;have O5:Hid (w5.ownsRow w3.heap.size 48 4 (.slice va T.length vc) T.length (Yi T)):=Zc O4.out hb;clear O4;have mmd:=kp2 (n:=W.heap.size) hb mmL mmB.out;clear mmB mm0 mm1 mmf mmL mmN;obtain ⟨mmB,mm0,mm1,mmf,mmL,mmN⟩:=mmd;have B5:Hid (Below W.heap.size W w5):=Za B4.out hb;clear hb H1)
      | (go_at_call 32;refine (H2.out _ _ _ mmB.out O5.out).mono ?_;rintro e w6 ⟨rfl,hb⟩;have B6:Hid (Below W.heap.size W w6):=Za B5.out hb;clear hb H2))
    go_ret2
    exact ⟨rfl,B6.out⟩
  · have e1:P=R1:=by rw [HP.out,if_neg hn]
    subst e1
    clear HP H2
    go_enter Tryz.func14,Tryz.ntmps14
    go_wp2_with (first
      | (go_at_call 29;refine (HR.out _ sqR).mono ?_;rintro e w1 ⟨⟨sa,sk,so,rfl⟩,hb⟩;have mmd:=kp2 (n:=W.heap.size) hb (by simp) (Zk _ _);obtain ⟨mmB,mm0,mm1,mmf,mmL,mmN⟩:=mmd;have B1:Hid (Below W.heap.size W w1):=Za sqR hb;clear hb HR)
      | (go_at_call 30;refine (HF.out _ (sqE B1)).mono ?_;rintro e w2 ⟨rfl,hb⟩;have aad:=kp6 (n:=w1.heap.size) hb (by simp) (Zk _ _);obtain ⟨aaB,aa0,aa1,aa2,aa3,aa4,aa5,aaf,aaL,aaN⟩:=aad;have mmd:=kp2 (n:=W.heap.size) hb (by simp;omega) (Zj mmB.out);clear mmB mm0 mm1 mmf mmL mmN;obtain ⟨mmB,mm0,mm1,mmf,mmL,mmN⟩:=mmd;have B2:Hid (Below W.heap.size W w2):=Za (sqE B1) hb;clear hb HF)
      | (go_at_call 31;refine (HV.out _ _ _ _).mono ?_;rintro e w3 ⟨rfl,hb⟩;have mmd:=kp2 (n:=W.heap.size) hb mmL mmB.out;clear mmB mm0 mm1 mmf mmL mmN;obtain ⟨mmB,mm0,mm1,mmf,mmL,mmN⟩:=mmd;have B3:Hid (Below W.heap.size W w3):=Za B2.out hb;clear hb HV)
      | (go_at_call 24;refine (HT.out _ B3.out).mono ?_;rintro e w4 ⟨⟨v,rfl,ho⟩,hb⟩;obtain ⟨va,vc,rfl⟩:=ownv ho;have O4:Hid (w4.ownsRow w3.heap.size 48 4 (.slice va T.length vc) T.length (Yi T)):=ho;have mmd:=kp2 (n:=W.heap.size) hb mmL mmB.out;clear mmB mm0 mm1 mmf mmL mmN;obtain ⟨mmB,mm0,mm1,mmf,mmL,mmN⟩:=mmd;have B4:Hid (Below W.heap.size W w4):=Za B3.out hb;clear hb ho HT)
      | (go_at_call 32;refine (H1.out _ _ _ mmB.out O4.out).mono ?_;rintro e w5 ⟨rfl,hb⟩;have B5:Hid (Below W.heap.size W w5):=Za B4.out hb;clear hb H1))
    go_ret2
    exact ⟨rfl,B5.out⟩
theorem Zld {ps:List Plc} (hi:WI ps) (c:Nat):(msK ps c).length≤1000000:=by
  rw [msK]
  cases e:ps[c]? with
  | none=>simp
  | some q=>exact (hi.pb q (List.mem_of_getElem? e)).ms
theorem Zf2 {ps:List Plc} (hi:WI ps):∀ (l:List Nat) (t:List Sl),(l.foldl (fun (t:List Sl) (c:Nat)=>grwP (ovA ps) (c:Int) (msK ps c) t) t).length≤t.length+l.length * 1000000
  | [],t=>by simp
  | c::r,t=>by
    rw [List.foldl_cons,List.length_cons]
    have h1:=Zf2 hi r (grwP (ovA ps) (c:Int) (msK ps c) t)
    have h2:(grwP (ovA ps) (c:Int) (msK ps c) t).length≤t.length+1000000:=by
      rw [grwP,List.length_append,List.length_map]
      have:=Zbc (c:Int) (t.map (inhP (ovA ps) (c:Int))) (msK ps c) 0
      have:=Zld hi c
      omega
    omega
theorem Za2 {ps:List Plc} (hi:WI ps) {k:Nat} (hk:k<ps.length):(tabP ps k).length≤300000000:=by
  rw [tabP,tabL]
  have h1:=Zf2 hi (chL (ps.map nd) k).reverse []
  have h2:=Zio hi.wo k (by rw [List.length_map];exact hk)
  have h3:=hi.hi
  rw [List.length_reverse,List.length_nil] at h1
  omega
def sloR (ps:List Plc) (c i:Int):Int×Int:=match Zm ps c i with
  | none=>(0,3)
  | some m=>if ifcI ps c=true∨vrtB m.nm m.fl=false then (0,6) else (sloP (tabP ps c.toNat) c i,0)
theorem slo_c {b:Nat} {ps:List Plc} {W:World} (h:WAt b ps W) (hi:WI ps) (hU:UnqM ps) (c i:Int):Calls Tryz.prog 14 #[.pointer (some ⟨b,0,none⟩),.agg #[.int .i64 c,.int .i64 i]] W fun e w'=>e=.returned (.tuple #[.int .i64 (sloR ps c i).1,.int .i64 (sloR ps c i).2])∧Below W.heap.size W w':=by
  have hR:∀ w,Below W.heap.size W w→Calls Tryz.prog 29 #[.pointer (some ⟨b,0,none⟩),.agg #[.int .i64 c,.int .i64 i]] w fun e w'=>mthE (mth3 ps c i) e∧Below w.heap.size w w':=fun w hb=>vrd_c (h.below hb) hi c i
  have hF:∀ w,Below W.heap.size W w→Calls Tryz.prog 30 #[.pointer (some ⟨b,0,none⟩),.int .i64 c] w fun e w'=>e=.returned (.bool (ifcI ps c))∧Below w.heap.size w w':=fun w hb=>Jq (h.below hb) c
  rw [sloR]
  rw [mth3] at hR
  cases hm:Zm ps c i with
  | none =>
    rw [hm] at hR
    exact slo_1 W b c i 3 (by decide) hR
  | some m =>
    rw [hm] at hR
    simp only
    split
    · rename_i hc
      exact slo_2 W b c i m (ifcI ps c) hc hR hF
    · rename_i hc
      have h1:ifcI ps c=false:=by cases e:ifcI ps c with
        | false=>rfl
        | true=>exact absurd (.inl e) hc
      have h2:vrtB m.nm m.fl=true:=by cases e:vrtB m.nm m.fl with
        | true=>rfl
        | false=>exact absurd (.inr e) hc
      rw [h1] at hF
      rcases Zo ps c with ⟨e,_⟩|⟨k,q,rfl,hq,_⟩
      · rw [Zm,e] at hm
        simp at hm
      · rw [Int.toNat_natCast]
        exact slo_3 W b (k:Int) i m h2 (tabP ps k) (Nat.le_trans (Za2 hi (List.getElem?_eq_some_iff.1 hq).1) (by decide)) hR hF (fun w hb=>Zgu (h.below hb) hi hU k q hq)
theorem siz_c {b:Nat} {ps:List Plc} {W:World} (h:WAt b ps W) (hi:WI ps) (hU:UnqM ps) (x:Int):Calls Tryz.prog 11 #[.pointer (some ⟨b,0,none⟩),.int .i64 x] W fun e w'=>e=.returned (.tuple #[.int .i64 ((bldT ps x).length:Int),.int .i64 (vckE ps x)])∧Below W.heap.size W w' :=
  siz_n W b x (vckE ps x) (bldT ps x) (fun _ hb=>bld_c (h.below hb) hi hU x)
theorem sel_1 (W:World) (b:Nat) (r c i:Int) (x:Int) (hx:¬ x=0) (HR:Hid (∀ w,Below W.heap.size W w→Calls Tryz.prog 29 #[.pointer (some ⟨b,0,none⟩),.agg #[.int .i64 c,.int .i64 i]] w fun e w'=>e=.returned (.tuple #[.agg #[.string ⟨#[]⟩,.string ⟨#[]⟩,.int .i64 0,.int .i64 0,.int .i64 0,.slice none 0 0],.int .i64 x])∧Below w.heap.size w w')):Calls Tryz.prog 16 #[.pointer (some ⟨b,0,none⟩),.int .i64 r,.agg #[.int .i64 c,.int .i64 i]] W fun e w'=>e=.returned (.tuple #[.agg #[.int .i64 0,.int .i64 0],.int .i64 x])∧Below W.heap.size W w':=by
  go_enter Tryz.func16,Tryz.ntmps16
  go_wp2_with (first
    | (go_at_call 29;refine (HR.out _ sqR).mono ?_;rintro e w1 ⟨rfl,hb⟩;have mmd:=kp2 (n:=W.heap.size) hb;(try clear mmB mm0 mm1 mmf mmL mmN);obtain ⟨mmB,mm0,mm1,mmf,mmL,mmN⟩:=mmd;have zzd:=kp2 (n:=W.heap.size+1) hb;(try clear zzB zz0 zz1 zzf zzL zzN);obtain ⟨zzB,zz0,zz1,zzf,zzL,zzN⟩:=zzd;have B1:Hid (Below W.heap.size W w1):=Za sqR hb;clear hb HR))
  exact bodyPost_ret (v:=.tuple #[.agg #[.int .i64 0,.int .i64 0],.int .i64 x]) (by simp [results,Tryz.results16,go_sem, *]) rfl ⟨rfl,(sqE B1)⟩
theorem sel_2 (W:World) (b:Nat) (r c i:Int) (m:HM) (x:Int) (hx:¬ x=0) (HR:Hid (∀ w,Below W.heap.size W w→Calls Tryz.prog 29 #[.pointer (some ⟨b,0,none⟩),.agg #[.int .i64 c,.int .i64 i]] w fun e w'=>(∃ sa sk so,e=.returned (.tuple #[.agg #[.string m.nm,.string m.ds,.int .i64 m.fl,.int .i64 m.lo,.int .i64 m.st,.slice sa sk so],.int .i64 0]))∧Below w.heap.size w w')) (HC:Hid (∀ w,Below W.heap.size W w→Calls Tryz.prog 23 #[.pointer (some ⟨b,0,none⟩),.int .i64 r] w fun e w'=>e=.returned (.int .i64 x)∧Below w.heap.size w w')):Calls Tryz.prog 16 #[.pointer (some ⟨b,0,none⟩),.int .i64 r,.agg #[.int .i64 c,.int .i64 i]] W fun e w'=>e=.returned (.tuple #[.agg #[.int .i64 0,.int .i64 0],.int .i64 x])∧Below W.heap.size W w':=by
  go_enter Tryz.func16,Tryz.ntmps16
  go_wp2_with (first
    | (go_at_call 29;refine (HR.out _ sqR).mono ?_;rintro e w1 ⟨⟨sa,sk,so,rfl⟩,hb⟩;have mmd:=kp2 (n:=W.heap.size) hb;(try clear mmB mm0 mm1 mmf mmL mmN);obtain ⟨mmB,mm0,mm1,mmf,mmL,mmN⟩:=mmd;have zzd:=kp2 (n:=W.heap.size+1) hb;(try clear zzB zz0 zz1 zzf zzL zzN);obtain ⟨zzB,zz0,zz1,zzf,zzL,zzN⟩:=zzd;have B1:Hid (Below W.heap.size W w1):=Za sqR hb;clear hb HR)
    | (go_at_call 23;refine (HC.out _ (sqE B1)).mono ?_;rintro e w2 ⟨rfl,hb⟩;have mmd:=kp2 (n:=W.heap.size) hb;(try clear mmB mm0 mm1 mmf mmL mmN);obtain ⟨mmB,mm0,mm1,mmf,mmL,mmN⟩:=mmd;have zzd:=kp2 (n:=W.heap.size+1) hb;(try clear zzB zz0 zz1 zzf zzL zzN);obtain ⟨zzB,zz0,zz1,zzf,zzL,zzN⟩:=zzd;have B2:Hid (Below W.heap.size W w2):=Za (sqE B1) hb;clear hb HC))
  exact bodyPost_ret (v:=.tuple #[.agg #[.int .i64 0,.int .i64 0],.int .i64 x]) (by simp [results,Tryz.results16,go_sem, *]) rfl ⟨rfl,(sqE B2)⟩
theorem sel_3 (W:World) (b:Nat) (r c i:Int) (m:HM) (HR:Hid (∀ w,Below W.heap.size W w→Calls Tryz.prog 29 #[.pointer (some ⟨b,0,none⟩),.agg #[.int .i64 c,.int .i64 i]] w fun e w'=>(∃ sa sk so,e=.returned (.tuple #[.agg #[.string m.nm,.string m.ds,.int .i64 m.fl,.int .i64 m.lo,.int .i64 m.st,.slice sa sk so],.int .i64 0]))∧Below w.heap.size w w')) (HC:Hid (∀ w,Below W.heap.size W w→Calls Tryz.prog 23 #[.pointer (some ⟨b,0,none⟩),.int .i64 r] w fun e w'=>e=.returned (.int .i64 0)∧Below w.heap.size w w')) (HX:Hid (∀ w,Below W.heap.size W w→Calls Tryz.prog 37 #[.pointer (some ⟨b,0,none⟩),.int .i64 r,.int .i64 c] w fun e w'=>e=.returned (.bool false)∧Below w.heap.size w w')):Calls Tryz.prog 16 #[.pointer (some ⟨b,0,none⟩),.int .i64 r,.agg #[.int .i64 c,.int .i64 i]] W fun e w'=>e=.returned (.tuple #[.agg #[.int .i64 0,.int .i64 0],.int .i64 6])∧Below W.heap.size W w':=by
  go_enter Tryz.func16,Tryz.ntmps16
  go_wp2_with (first
    | (go_at_call 29;refine (HR.out _ sqR).mono ?_;rintro e w1 ⟨⟨sa,sk,so,rfl⟩,hb⟩;have mmd:=kp2 (n:=W.heap.size) hb;(try clear mmB mm0 mm1 mmf mmL mmN);obtain ⟨mmB,mm0,mm1,mmf,mmL,mmN⟩:=mmd;have zzd:=kp2 (n:=W.heap.size+1) hb;(try clear zzB zz0 zz1 zzf zzL zzN);obtain ⟨zzB,zz0,zz1,zzf,zzL,zzN⟩:=zzd;have B1:Hid (Below W.heap.size W w1):=Za sqR hb;clear hb HR)
    | (go_at_call 23;refine (HC.out _ (sqE B1)).mono ?_;rintro e w2 ⟨rfl,hb⟩;have mmd:=kp2 (n:=W.heap.size) hb;(try clear mmB mm0 mm1 mmf mmL mmN);obtain ⟨mmB,mm0,mm1,mmf,mmL,mmN⟩:=mmd;have zzd:=kp2 (n:=W.heap.size+1) hb;(try clear zzB zz0 zz1 zzf zzL zzN);obtain ⟨zzB,zz0,zz1,zzf,zzL,zzN⟩:=zzd;have B2:Hid (Below W.heap.size W w2):=Za (sqE B1) hb;clear hb HC)
    | (go_at_call 37;refine (HX.out _ B2.out).mono ?_;rintro e w3 ⟨rfl,hb⟩;have mmd:=kp2 (n:=W.heap.size) hb;(try clear mmB mm0 mm1 mmf mmL mmN);obtain ⟨mmB,mm0,mm1,mmf,mmL,mmN⟩:=mmd;have zzd:=kp2 (n:=W.heap.size+1) hb;(try clear zzB zz0 zz1 zzf zzL zzN);obtain ⟨zzB,zz0,zz1,zzf,zzL,zzN⟩:=zzd;have B3:Hid (Below W.heap.size W w3):=Za B2.out hb;clear hb HX))
  exact bodyPost_ret (v:=.tuple #[.agg #[.int .i64 0,.int .i64 0],.int .i64 6]) (by simp [results,Tryz.results16,go_sem, *]) rfl ⟨rfl,(sqE B3)⟩
theorem sel_4 (W:World) (b:Nat) (r c i:Int) (m:HM) (x:Int) (hx:¬ x=0) (HR:Hid (∀ w,Below W.heap.size W w→Calls Tryz.prog 29 #[.pointer (some ⟨b,0,none⟩),.agg #[.int .i64 c,.int .i64 i]] w fun e w'=>(∃ sa sk so,e=.returned (.tuple #[.agg #[.string m.nm,.string m.ds,.int .i64 m.fl,.int .i64 m.lo,.int .i64 m.st,.slice sa sk so],.int .i64 0]))∧Below w.heap.size w w')) (HC:Hid (∀ w,Below W.heap.size W w→Calls Tryz.prog 23 #[.pointer (some ⟨b,0,none⟩),.int .i64 r] w fun e w'=>e=.returned (.int .i64 0)∧Below w.heap.size w w')) (HX:Hid (∀ w,Below W.heap.size W w→Calls Tryz.prog 37 #[.pointer (some ⟨b,0,none⟩),.int .i64 r,.int .i64 c] w fun e w'=>e=.returned (.bool true)∧Below w.heap.size w w')) (HS:Hid (∀ w,Below W.heap.size W w→Calls Tryz.prog 14 #[.pointer (some ⟨b,0,none⟩),.agg #[.int .i64 c,.int .i64 i]] w fun e w'=>e=.returned (.tuple #[.int .i64 0,.int .i64 x])∧Below w.heap.size w w')):Calls Tryz.prog 16 #[.pointer (some ⟨b,0,none⟩),.int .i64 r,.agg #[.int .i64 c,.int .i64 i]] W fun e w'=>e=.returned (.tuple #[.agg #[.int .i64 0,.int .i64 0],.int .i64 x])∧Below W.heap.size W w':=by
  go_enter Tryz.func16,Tryz.ntmps16
  go_wp2_with (first
    | (go_at_call 29;refine (HR.out _ sqR).mono ?_;rintro e w1 ⟨⟨sa,sk,so,rfl⟩,hb⟩;have mmd:=kp2 (n:=W.heap.size) hb;(try clear mmB mm0 mm1 mmf mmL mmN);obtain ⟨mmB,mm0,mm1,mmf,mmL,mmN⟩:=mmd;have zzd:=kp2 (n:=W.heap.size+1) hb;(try clear zzB zz0 zz1 zzf zzL zzN);obtain ⟨zzB,zz0,zz1,zzf,zzL,zzN⟩:=zzd;have B1:Hid (Below W.heap.size W w1):=Za sqR hb;clear hb HR)
    | (go_at_call 23;refine (HC.out _ (sqE B1)).mono ?_;rintro e w2 ⟨rfl,hb⟩;have mmd:=kp2 (n:=W.heap.size) hb;(try clear mmB mm0 mm1 mmf mmL mmN);obtain ⟨mmB,mm0,mm1,mmf,mmL,mmN⟩:=mmd;have zzd:=kp2 (n:=W.heap.size+1) hb;(try clear zzB zz0 zz1 zzf zzL zzN);obtain ⟨zzB,zz0,zz1,zzf,zzL,zzN⟩:=zzd;have B2:Hid (Below W.heap.size W w2):=Za (sqE B1) hb;clear hb HC)
    | (go_at_call 37;refine (HX.out _ B2.out).mono ?_;rintro e w3 ⟨rfl,hb⟩;have mmd:=kp2 (n:=W.heap.size) hb;(try clear mmB mm0 mm1 mmf mmL mmN);obtain ⟨mmB,mm0,mm1,mmf,mmL,mmN⟩:=mmd;have zzd:=kp2 (n:=W.heap.size+1) hb;(try clear zzB zz0 zz1 zzf zzL zzN);obtain ⟨zzB,zz0,zz1,zzf,zzL,zzN⟩:=zzd;have B3:Hid (Below W.heap.size W w3):=Za B2.out hb;clear hb HX)
    | (go_at_call 14;refine (HS.out _ B3.out).mono ?_;rintro e w4 ⟨rfl,hb⟩;have mmd:=kp2 (n:=W.heap.size) hb;(try clear mmB mm0 mm1 mmf mmL mmN);obtain ⟨mmB,mm0,mm1,mmf,mmL,mmN⟩:=mmd;have zzd:=kp2 (n:=W.heap.size+1) hb;(try clear zzB zz0 zz1 zzf zzL zzN);obtain ⟨zzB,zz0,zz1,zzf,zzL,zzN⟩:=zzd;have B4:Hid (Below W.heap.size W w4):=Za B3.out hb;clear hb HS))
  exact bodyPost_ret (v:=.tuple #[.agg #[.int .i64 0,.int .i64 0],.int .i64 x]) (by simp [results,Tryz.results16,go_sem, *]) rfl ⟨rfl,(sqE B4)⟩
theorem sel_5 (W:World) (b:Nat) (r c i:Int) (m:HM) (T:List Sl) (p:Nat) (x:Sl) (hx:T[p]?=some x) (HR:Hid (∀ w,Below W.heap.size W w→Calls Tryz.prog 29 #[.pointer (some ⟨b,0,none⟩),.agg #[.int .i64 c,.int .i64 i]] w fun e w'=>(∃ sa sk so,e=.returned (.tuple #[.agg #[.string m.nm,.string m.ds,.int .i64 m.fl,.int .i64 m.lo,.int .i64 m.st,.slice sa sk so],.int .i64 0]))∧Below w.heap.size w w')) (HC:Hid (∀ w,Below W.heap.size W w→Calls Tryz.prog 23 #[.pointer (some ⟨b,0,none⟩),.int .i64 r] w fun e w'=>e=.returned (.int .i64 0)∧Below w.heap.size w w')) (HX:Hid (∀ w,Below W.heap.size W w→Calls Tryz.prog 37 #[.pointer (some ⟨b,0,none⟩),.int .i64 r,.int .i64 c] w fun e w'=>e=.returned (.bool true)∧Below w.heap.size w w')) (HS:Hid (∀ w,Below W.heap.size W w→Calls Tryz.prog 14 #[.pointer (some ⟨b,0,none⟩),.agg #[.int .i64 c,.int .i64 i]] w fun e w'=>e=.returned (.tuple #[.int .i64 (p:Int),.int .i64 0])∧Below w.heap.size w w')) (HT:Hid (∀ w,Below W.heap.size W w→Calls Tryz.prog 24 #[.pointer (some ⟨b,0,none⟩),.int .i64 r] w fun e w'=>(∃ v,e=.returned v∧w'.ownsRow w.heap.size 48 4 v T.length (Yi T))∧Below w.heap.size w w')):Calls Tryz.prog 16 #[.pointer (some ⟨b,0,none⟩),.int .i64 r,.agg #[.int .i64 c,.int .i64 i]] W fun e w'=>e=.returned (.tuple #[.agg #[.int .i64 x.2.1,.int .i64 x.2.2],.int .i64 0])∧Below W.heap.size W w':=by
  have hpT:=(List.getElem?_eq_some_iff.1 hx).1
  have hT:0<T.length:=by omega
  have hpI:(p:Int)<(T.length:Int):=by omega
  go_enter Tryz.func16,Tryz.ntmps16
  go_wp2_with (first
    | (go_at_call 29;refine (HR.out _ sqR).mono ?_;rintro e w1 ⟨⟨sa,sk,so,rfl⟩,hb⟩;have mmd:=kp2 (n:=W.heap.size) hb;(try clear mmB mm0 mm1 mmf mmL mmN);obtain ⟨mmB,mm0,mm1,mmf,mmL,mmN⟩:=mmd;have zzd:=kp2 (n:=W.heap.size+1) hb;(try clear zzB zz0 zz1 zzf zzL zzN);obtain ⟨zzB,zz0,zz1,zzf,zzL,zzN⟩:=zzd;have B1:Hid (Below W.heap.size W w1):=Za sqR hb;clear hb HR)
    | (go_at_call 23;refine (HC.out _ (sqE B1)).mono ?_;rintro e w2 ⟨rfl,hb⟩;have mmd:=kp2 (n:=W.heap.size) hb;(try clear mmB mm0 mm1 mmf mmL mmN);obtain ⟨mmB,mm0,mm1,mmf,mmL,mmN⟩:=mmd;have zzd:=kp2 (n:=W.heap.size+1) hb;(try clear zzB zz0 zz1 zzf zzL zzN);obtain ⟨zzB,zz0,zz1,zzf,zzL,zzN⟩:=zzd;have B2:Hid (Below W.heap.size W w2):=Za (sqE B1) hb;clear hb HC)
    | (go_at_call 37;refine (HX.out _ B2.out).mono ?_;rintro e w3 ⟨rfl,hb⟩;have mmd:=kp2 (n:=W.heap.size) hb;(try clear mmB mm0 mm1 mmf mmL mmN);obtain ⟨mmB,mm0,mm1,mmf,mmL,mmN⟩:=mmd;have zzd:=kp2 (n:=W.heap.size+1) hb;(try clear zzB zz0 zz1 zzf zzL zzN);obtain ⟨zzB,zz0,zz1,zzf,zzL,zzN⟩:=zzd;have B3:Hid (Below W.heap.size W w3):=Za B2.out hb;clear hb HX)
    | (go_at_call 14;refine (HS.out _ B3.out).mono ?_;rintro e w4 ⟨rfl,hb⟩;have mmd:=kp2 (n:=W.heap.size) hb;(try clear mmB mm0 mm1 mmf mmL mmN);obtain ⟨mmB,mm0,mm1,mmf,mmL,mmN⟩:=mmd;have zzd:=kp2 (n:=W.heap.size+1) hb;(try clear zzB zz0 zz1 zzf zzL zzN);obtain ⟨zzB,zz0,zz1,zzf,zzL,zzN⟩:=zzd;have B4:Hid (Below W.heap.size W w4):=Za B3.out hb;clear hb HS)
    | (go_at_call 24;refine (HT.out _ B4.out).mono ?_;rintro e w5 ⟨⟨v,rfl,ho⟩,hb⟩;obtain ⟨gm,cm,rfl,_,hgl,hcs⟩:=Zdv ho hT;have t2:=hcs _ _ ((Y5 T p x 2 hx (by decide)).trans rfl);have t3:=hcs _ _ ((Y5 T p x 3 hx (by decide)).trans rfl);have hgN:¬ gm=W.heap.size+1:=(by omega);have mmd:=kp2 (n:=W.heap.size) hb;(try clear mmB mm0 mm1 mmf mmL mmN);obtain ⟨mmB,mm0,mm1,mmf,mmL,mmN⟩:=mmd;have zzd:=kp2 (n:=W.heap.size+1) hb;(try clear zzB zz0 zz1 zzf zzL zzN);obtain ⟨zzB,zz0,zz1,zzf,zzL,zzN⟩:=zzd;have B5:Hid (Below W.heap.size W w5):=Za B4.out hb;clear hb ho hcs HT))
  exact bodyPost_ret (v:=.tuple #[.agg #[.int .i64 x.2.1,.int .i64 x.2.2],.int .i64 0]) (by simp [results,Tryz.results16,go_sem, *]) rfl ⟨rfl,(sqE B5)⟩
theorem Jd {ps:List Plc} (hi:WI ps) {k:Nat} (hk:k<ps.length) (h0:0<k):tabP ps k=grwP (ovA ps) (k:Int) (msK ps k) (tabP ps (spO (ps.map nd) k)):=by
  rw [tabP,Ye hi.wo (by rw [List.length_map];exact hk) h0,List.reverse_cons,Zez]
  rfl
theorem Zd6 (A:Int×Int→List (Int×Int)) (id:Int) (x:Sl):(inhP A id x).1=x.1:=by
  rw [inhP]
  split <;> rfl
theorem Zbt (A:Int×Int→List (Int×Int)) (id:Int) (ms:List HM) (l:List Sl):(grwP A id ms l).map Prod.fst=l.map Prod.fst++(addP id (l.map (inhP A id)) ms 0).map Prod.fst:=by
  rw [grwP,List.map_append,List.map_map]
  congr 1
  exact List.map_congr_left fun x _=>Zd6 A id x
theorem Zj6 {ps:List Plc} (hi:WI ps) (r:Nat) (hr:r<ps.length):∀ c∈chL (ps.map nd) r,(tabP ps c).map Prod.fst <+: (tabP ps r).map Prod.fst:=by
  refine Jz hi.wo (P:=fun r=>∀ c∈chL (ps.map nd) r,(tabP ps c).map Prod.fst <+: (tabP ps r).map Prod.fst) ?_ ?_ r (by rw [List.length_map];exact hr)
  · intro c hc
    rw [Yd,List.mem_singleton] at hc
    subst hc
    exact List.prefix_refl _
  · intro k hk h0 hl ih c hc
    rw [Ye hi.wo hk h0,List.mem_cons] at hc
    rcases hc with rfl|hc
    · exact List.prefix_refl _
    · rw [List.length_map] at hk
      rw [Jd hi hk h0,Zbt]
      exact (ih c hc).trans (List.prefix_append _ _)
theorem Zj7 {ps:List Plc} (hi:WI ps) {r:Nat} (hr:r<ps.length) {c:Nat} (hc:c∈chL (ps.map nd) r):(tabP ps c).length≤(tabP ps r).length:=by
  have:=(Zj6 hi r hr c hc).length_le
  rwa [List.length_map,List.length_map] at this
theorem Zis (id:Int) (inh:List Sl):∀ (ms:List HM) (i j:Nat) (m:HM),ms[j]?=some m→ownP inh (id,((i+j:Nat):Int)) m=true→((id,((i+j:Nat):Int)),(id,((i+j:Nat):Int)))∈addP id inh ms i
  | [],i,j,m,h,_=>by simp at h
  | x::r,i,0,m,h,ho=>by
    simp only [List.getElem?_cons_zero,Option.some.injEq] at h
    subst h
    rw [Nat.add_zero] at ho ⊢
    rw [addP,if_pos ho]
    exact List.mem_append.2 (.inl (by simp))
  | x::r,i,j+1,m,h,ho=>by
    rw [List.getElem?_cons_succ] at h
    have e:i+(j+1)=(i+1)+j:=by omega
    rw [e] at ho ⊢
    rw [addP]
    exact List.mem_append.2 (.inr (Zis id inh r (i+1) j m h ho))
theorem tabP_grw {ps:List Plc} (hi:WI ps) {k:Nat} (hk:k<ps.length):∃ l,tabP ps k=grwP (ovA ps) (k:Int) (msK ps k) l:=by
  by_cases h0:k=0
  · subst h0
    exact ⟨[],by rw [tabP,Yd];rfl⟩
  · exact ⟨_,Jd hi hk (by omega)⟩
theorem Ziz {ps:List Plc} (hi:WI ps) {k:Nat} {q:Plc} (hq:ps[k]?=some q) {i:Nat} {m:HM} (hm:q.c.ms[i]?=some m) (hv:vrtB m.nm m.fl=true):∃ x∈tabP ps k,isRt (k:Int) (i:Int) x=true∨isMt (k:Int) (i:Int) x=true:=by
  obtain ⟨l,hl⟩:=tabP_grw hi (List.getElem?_eq_some_iff.1 hq).1
  have hms:msK ps k=q.c.ms:=by rw [msK,hq]
  rw [hl,hms,grwP]
  cases ho:ownP (l.map (inhP (ovA ps) (k:Int))) ((k:Int),(i:Int)) m with
  | true =>
    have:=Zis (k:Int) (l.map (inhP (ovA ps) (k:Int))) q.c.ms 0 i m hm (by rw [Nat.zero_add];exact ho)
    rw [Nat.zero_add] at this
    exact ⟨_,List.mem_append.2 (.inr this),.inl (by simp [isRt])⟩
  | false =>
    rw [ownP,hv] at ho
    simp only [Bool.true_and,Bool.not_eq_eq_eq_not,Bool.not_false,Bool.and_eq_true] at ho
    obtain ⟨x,hx,hx2⟩:=List.any_eq_true.1 ho.2
    exact ⟨x,List.mem_append.2 (.inl hx),.inr hx2⟩
theorem Jr {α:Type} (p:α→Bool):∀ (l:List α) (k:Nat),(idxL p l k=-1∧∀ x∈l,p x=false)∨∃ (j:Nat) (x:α),idxL p l k=((k+j:Nat):Int)∧l[j]?=some x∧p x=true
  | [],_=>.inl ⟨rfl,by simp⟩
  | m::r,k=>by
    rw [idxL]
    cases e:p m with
    | true=>exact .inr ⟨0,m,by simp,rfl,e⟩
    | false =>
      rw [if_neg (by simp)]
      rcases Jr p r (k+1) with ⟨h,h2⟩|⟨j,x,h,h2,h3⟩
      · refine .inl ⟨h,fun x hx=>?_⟩
        rcases List.mem_cons.1 hx with rfl|hx
        · exact e
        · exact h2 x hx
      · exact .inr ⟨j+1,x,by rw [h];congr 1;omega,h2,h3⟩
theorem Zkc {ps:List Plc} (hi:WI ps) {k:Nat} {q:Plc} (hq:ps[k]?=some q) {i:Nat} {m:HM} (hm:q.c.ms[i]?=some m) (hv:vrtB m.nm m.fl=true):∃ (j:Nat) (x:Sl),sloP (tabP ps k) (k:Int) (i:Int)=(j:Int)∧(tabP ps k)[j]?=some x∧(isRt (k:Int) (i:Int) x=true∨isMt (k:Int) (i:Int) x=true):=by
  rw [sloP]
  rcases Jr (isRt (k:Int) (i:Int)) (tabP ps k) 0 with ⟨h1,h2⟩|⟨j,x,h1,h2,h3⟩
  · rw [h1,if_pos (by decide)]
    rcases Jr (isMt (k:Int) (i:Int)) (tabP ps k) 0 with ⟨g1,g2⟩|⟨j,x,g1,g2,g3⟩
    · obtain ⟨x,hx,hx2⟩:=Ziz hi hq hm hv
      rw [h2 x hx,g2 x hx] at hx2
      simp at hx2
    · rw [g1,Nat.zero_add]
      exact ⟨j,x,rfl,g2,.inr g3⟩
  · rw [h1,Nat.zero_add,if_neg (by omega)]
    exact ⟨j,x,rfl,h2,.inl h3⟩
theorem ovA_mem {ps:List Plc} {r y:Int×Int} (h:y∈ovA ps r):(ovrI ps y r).1=true:=by
  rw [ovA,alvE] at h
  split at h
  · obtain ⟨k,hk,rfl⟩:=List.mem_map.1 h
    have:=(List.mem_filter.1 hk).2
    rw [ovC,Bool.and_eq_true] at this
    exact this.2
  · cases h
theorem Jo {ps:List Plc} {k:Nat} {q:Plc} (hq:ps[k]?=some q) {i:Nat} {m:HM} (hm:q.c.ms[i]?=some m):Zm ps (k:Int) (i:Int)=some m:=by
  rw [Zm,Z8,hq]
  show Y2 q (i:Int)=some m
  rw [Y2,if_pos (by omega),Int.toNat_natCast,hm]
theorem Zb7 (id:Int) (inh:List Sl):∀ (ms:List HM) (i:Nat) (x:Sl),x∈addP id inh ms i→∃ (j:Nat) (m:HM),ms[j]?=some m∧ownP inh (id,((i+j:Nat):Int)) m=true∧x=((id,((i+j:Nat):Int)),(id,((i+j:Nat):Int)))
  | [],i,x,h=>by cases h
  | y::r,i,x,h=>by
    rw [addP] at h
    rcases List.mem_append.1 h with h|h
    · split at h
      · rename_i ho
        rw [List.mem_singleton] at h
        exact ⟨0,y,rfl,by rw [Nat.add_zero];exact ho,by rw [Nat.add_zero];exact h⟩
      · cases h
    · obtain ⟨j,m,h1,h2,h3⟩:=Zb7 id inh r (i+1) x h
      have e:i+(j+1)=(i+1)+j:=by omega
      exact ⟨j+1,m,by rw [List.getElem?_cons_succ];exact h1,by rw [e];exact h2,by rw [e];exact h3⟩
def TO (ps:List Plc) (S:List Nat) (x:Sl):Prop:=(ovrI ps x.2 x.1).1=true∧∃ c∈S,x.2.1=(c:Int)
theorem Zh2 {ps:List Plc} (hW:WI ps) (hU:UnqM ps) {a:Int×Int} {m:HM} (ha:Zm ps a.1 a.2=some m) (hs:stB m.fl=false):(ovrI ps a a).1=true :=
  (Zbn hW hU ha ha).2.2 ⟨0,rfl,by rw [stI,ha];exact hs⟩
theorem vrt_st {nm:ByteArray} {fl:Int} (h:vrtB nm fl=true):stB fl=false:=by
  rw [vrtB,Bool.and_eq_true] at h
  have h10:hasI fl 10=false:=by rw [hasI];simpa using h.1
  rw [has10c,Bool.or_eq_false_iff] at h10
  exact h10.2
theorem grw_over {ps:List Plc} (hW:WI ps) (hU:UnqM ps) {k:Nat} (hk:k<ps.length) (S:List Nat) (t:List Sl) (ht:∀ x∈t,TO ps S x):∀ x∈grwP (ovA ps) (k:Int) (msK ps k) t,TO ps (S++[k]) x:=by
  intro x hx
  rw [grwP] at hx
  rcases List.mem_append.1 hx with hx|hx
  · obtain ⟨y,hy,rfl⟩:=List.mem_map.1 hx
    obtain ⟨h1,c,hc,h2⟩:=ht y hy
    rw [inhP]
    split
    · rename_i z hz
      have hm:=ovA_mem (List.mem_of_find?_eq_some hz)
      have he:=List.find?_some hz
      exact ⟨hm,k,by simp,by simpa using he⟩
    · exact ⟨h1,c,List.mem_append.2 (.inl hc),h2⟩
  · obtain ⟨j,m,h1,h2,rfl⟩:=Zb7 _ _ _ _ _ hx
    have hq:ps[k]?=some ps[k]:=List.getElem?_eq_getElem hk
    rw [msK,hq] at h1
    rw [Nat.zero_add] at h2 ⊢
    refine ⟨Zh2 hW hU (Jo hq h1) ?_,k,by simp,rfl⟩
    rw [ownP,Bool.and_eq_true] at h2
    exact vrt_st h2.1
theorem Zf1 {ps:List Plc} (hW:WI ps) (hU:UnqM ps):∀ (l:List Nat) (_:∀ c∈l,c<ps.length) (S:List Nat) (t:List Sl),(∀ x∈t,TO ps S x)→∀ x∈l.foldl (fun (t:List Sl) (c:Nat)=>grwP (ovA ps) (c:Int) (msK ps c) t) t,TO ps (S++l) x
  | [],_,S,t,ht=>by rw [List.append_nil];exact ht
  | c::r,hl,S,t,ht=>by
    rw [List.foldl_cons]
    have:=Zf1 hW hU r (fun d hd=>hl d (List.mem_cons_of_mem _ hd)) (S++[c]) _ (grw_over hW hU (hl c (by simp)) S t ht)
    rwa [List.append_assoc] at this
theorem tab_over {ps:List Plc} (hW:WI ps) (hU:UnqM ps) {k:Nat} (hk:k<ps.length) {x:Sl} (hx:x∈tabP ps k):(ovrI ps x.2 x.1).1=true∧∃ c∈chL (ps.map nd) k,x.2.1=(c:Int):=by
  rw [tabP,tabL] at hx
  obtain ⟨h1,c,hc,h2⟩:=Zf1 hW hU _ (fun c hc=>Nat.lt_of_le_of_lt (Zes hW.wo k (by rw [List.length_map];exact hk) c (List.mem_reverse.1 hc)) hk) [] [] (fun x hx=>by cases hx) x hx
  exact ⟨h1,c,List.mem_reverse.1 (by simpa using hc),h2⟩
theorem slo_ok {ps:List Plc} (hi:WI ps) {c i:Int} (h:(sloR ps c i).2=0):∃ (k j:Nat) (q:Plc) (x:Sl),c=(k:Int)∧ps[k]?=some q∧ifcI ps c=false∧(sloR ps c i).1=(j:Int)∧(tabP ps k)[j]?=some x∧(isRt c i x=true∨isMt c i x=true):=by
  unfold sloR at h ⊢
  cases hm:Zm ps c i with
  | none=>rw [hm] at h;cases h
  | some m =>
    rw [hm] at h
    simp only at h ⊢
    split at h
    · cases h
    · rename_i hc
      rw [if_neg hc]
      have h1:ifcI ps c=false:=by cases e:ifcI ps c with
        | false=>rfl
        | true=>exact absurd (.inl e) hc
      have h2:vrtB m.nm m.fl=true:=by cases e:vrtB m.nm m.fl with
        | true=>rfl
        | false=>exact absurd (.inr e) hc
      rcases Zo ps c with ⟨e,_⟩|⟨k,q,rfl,hq,e⟩
      · rw [Zm,e] at hm;simp at hm
      · have hm2:Y2 q i=some m:=by rw [Zm,e] at hm;exact hm
        have hi0:0≤i:=by
          rw [Y2] at hm2
          split at hm2
          · assumption
          · cases hm2
        obtain ⟨n,rfl⟩:∃ n:Nat,i=(n:Int):=⟨i.toNat,by omega⟩
        rw [Y2,if_pos hi0,Int.toNat_natCast] at hm2
        obtain ⟨j,x,e1,e2,e3⟩:=Zkc hi hq hm2 h2
        exact ⟨k,j,q,x,rfl,hq,h1,by rw [Int.toNat_natCast];exact e1,e2,e3⟩
theorem slo_err {ps:List Plc} {c i:Int} (h:¬ (sloR ps c i).2=0):(sloR ps c i).1=0:=by
  unfold sloR at h ⊢
  cases hm:Zm ps c i with
  | none=>rfl
  | some m =>
    rw [hm] at h
    simp only at h ⊢
    split
    · rfl
    · rename_i hc
      rw [if_neg hc] at h
      exact absurd rfl h
def selR (ps:List Plc) (r c i:Int):(Int×Int)×Int:=match Zm ps c i with
  | none=>((0,0),3)
  | some _=>if vckE ps r=0 then
      (if extI ps r c=true then
        (if (sloR ps c i).2=0 then (match (tabP ps r.toNat)[(sloR ps c i).1.toNat]? with|some x=>(x.2,0)|none=>((0,0),0)) else ((0,0),(sloR ps c i).2))
        else ((0,0),6))
      else ((0,0),vckE ps r)
def selE (R:(Int×Int)×Int):Value:=.tuple #[.agg #[.int .i64 R.1.1,.int .i64 R.1.2],.int .i64 R.2]
theorem sel_c {b:Nat} {ps:List Plc} {W:World} (h:WAt b ps W) (hi:WI ps) (hU:UnqM ps) (r c i:Int):Calls Tryz.prog 16 #[.pointer (some ⟨b,0,none⟩),.int .i64 r,.agg #[.int .i64 c,.int .i64 i]] W fun e w'=>e=.returned (selE (selR ps r c i))∧Below W.heap.size W w':=by
  have hR:∀ w,Below W.heap.size W w→Calls Tryz.prog 29 #[.pointer (some ⟨b,0,none⟩),.agg #[.int .i64 c,.int .i64 i]] w fun e w'=>mthE (mth3 ps c i) e∧Below w.heap.size w w':=fun w hb=>vrd_c (h.below hb) hi c i
  have hC:∀ w,Below W.heap.size W w→Calls Tryz.prog 23 #[.pointer (some ⟨b,0,none⟩),.int .i64 r] w fun e w'=>e=.returned (.int .i64 (vckE ps r))∧Below w.heap.size w w':=fun w hb=>chk_c (h.below hb) r
  have hX:∀ w,Below W.heap.size W w→Calls Tryz.prog 37 #[.pointer (some ⟨b,0,none⟩),.int .i64 r,.int .i64 c] w fun e w'=>e=.returned (.bool (extI ps r c))∧Below w.heap.size w w':=fun w hb=>Zgm (h.below hb) hi r c
  have hS:∀ w,Below W.heap.size W w→Calls Tryz.prog 14 #[.pointer (some ⟨b,0,none⟩),.agg #[.int .i64 c,.int .i64 i]] w fun e w'=>e=.returned (.tuple #[.int .i64 (sloR ps c i).1,.int .i64 (sloR ps c i).2])∧Below w.heap.size w w':=fun w hb=>slo_c (h.below hb) hi hU c i
  rw [mth3] at hR
  cases hm:Zm ps c i with
  | none =>
    rw [hm] at hR
    have e:selR ps r c i=((0,0),3):=by unfold selR;rw [hm]
    rw [e]
    exact sel_1 W b r c i 3 (by decide) hR
  | some m =>
    rw [hm] at hR
    by_cases hz:vckE ps r=0
    · rw [hz] at hC
      cases hx:extI ps r c with
      | false =>
        have e:selR ps r c i=((0,0),6):=by unfold selR;rw [hm];simp only;rw [if_pos hz,if_neg (by rw [hx];decide)]
        rw [e]
        rw [hx] at hX
        exact sel_3 W b r c i m hR hC hX
      | true =>
        rw [hx] at hX
        by_cases hs:(sloR ps c i).2=0
        · obtain ⟨k,j,q,x,rfl,hq,hif,e1,e2,_⟩:=slo_ok hi hs
          obtain ⟨n,qr,rfl,hqr⟩:=Zeq hz
          have hn:=(List.getElem?_eq_some_iff.1 hqr).1
          have hin:=Zb4 hi hn (J0 _ n) hx hif
          have hlen:=Zj7 hi hn hin
          obtain ⟨y,hy⟩:∃ y,(tabP ps n)[j]?=some y:=⟨_,List.getElem?_eq_getElem (Nat.lt_of_lt_of_le (List.getElem?_eq_some_iff.1 e2).1 hlen)⟩
          have e:selR ps (n:Int) (k:Int) i=(y.2,0):=by
            unfold selR
            rw [hm]
            simp only
            rw [if_pos hz,if_pos hx,if_pos hs,e1,Int.toNat_natCast,Int.toNat_natCast,hy]
          rw [e]
          rw [e1,hs] at hS
          exact sel_5 W b (n:Int) (k:Int) i m (tabP ps n) j y hy hR hC hX hS (fun w hb=>Zgu (h.below hb) hi hU n qr hqr)
        · have e:selR ps r c i=((0,0),(sloR ps c i).2):=by unfold selR;rw [hm];simp only;rw [if_pos hz,if_pos hx,if_neg hs]
          rw [e]
          rw [slo_err hs] at hS
          exact sel_4 W b r c i m (sloR ps c i).2 hs hR hC hX hS
    · have e:selR ps r c i=((0,0),vckE ps r):=by unfold selR;rw [hm];simp only;rw [if_neg hz]
      rw [e]
      exact sel_2 W b r c i m (vckE ps r) hz hR hC
end Go.Proofs.YtjbmmmcjegjelaaGreat
