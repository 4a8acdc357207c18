import Derived.Test.YtmafkabjjibcbaaGreatRnD
set_option maxHeartbeats 16000000
set_option maxRecDepth 100000
namespace Go.Proofs.YtmafkabjjibcbaaGreat
open Go.RowKit Go.Maps
def namL (ps:List Plc) (nm ds:ByteArray):Nat→List (Int×Int)
 | 0=>[]
 | k+1=>namL ps nm ds k++if (fndI ps (k:Int) nm ds).2=0∧ifcI ps (k:Int)=false then [((k:Int),(fndI ps (k:Int) nm ds).1)] else []
theorem Zd8 (ps:List Plc) (nm ds:ByteArray):∀ n,(namL ps nm ds n).length≤n
 | 0=>Nat.le_refl _
 | k+1=>by
   have:=Zd8 ps nm ds k
   rw [namL,List.length_append]
   split <;> simp <;> omega
theorem RAt.head {b:Nat} {cs:List Cls} {w:World} (h:RAt b cs w):∃ a cap,w.cell? ⟨b,0,none⟩=some (.slice a cs.length cap):=by
 obtain ⟨N,v,rs,hW,hrc⟩:=h
 have b0:=cell_of_row w b 0 _ _ _ hW.hb
 simp only [List.getElem?_toArray,List.getElem?_cons_zero] at b0
 obtain ⟨a,c,rfl⟩:=ownv hW.row
 have e:rs.length=cs.length:=by rw [← hrc,List.length_map]
 rw [e] at b0
 exact ⟨a,c,b0⟩
theorem Zkv {b:Nat} {cs:List Cls} {ps:List Plc} {W:World} (h:RAt b cs W) (ht:TwW cs ps) (c i:Int) (x:HM) (hx:Zm ps c i=some x):Calls Tryz.prog 189 #[.pointer (some ⟨b,0,none⟩),.agg #[.int .i64 c,.int .i64 i]] W fun e w'=>(∃ v,e=.returned v∧w'.ownsRow W.heap.size 38 2 v (namL ps x.nm x.ds ps.length).length (Zf (namL ps x.nm x.ds ps.length)))∧Bw W w':=by
 obtain ⟨i0,hi0,hz0,hz1,hz2⟩:=info_parts Tryz.hinfoD
 have HTW:Hid (TwW cs ps):=ht
 have HW0:Hid (RAt b cs W):=h
 obtain ⟨K,hK⟩:∃ K,cs.length=K:=⟨_,rfl⟩
 have hKp:ps.length=K:=by
  rw [← hK]
  have:=congrArg List.length ht.tw
  simpa using this.symm
 have hKb:K≤300:=by rw [← hKp];exact ht.wi.hi
 have HM:Hid (∀ w,Bw W w→Calls Tryz.prog 188 #[.pointer (some ⟨b,0,none⟩),.agg #[.int .i64 c,.int .i64 i]] w fun e w'=>(∃ a n s,e=.returned (.agg #[.string x.nm,.string x.ds,.int .i64 x.fl,.int .i64 x.lo,.int .i64 x.st,.slice a n s]))∧Bw w w'):=fun w hb=>Jq (h.below hb) ht c i x hx
 have HHD:Hid (∀ w,RAt b cs w→∃ a cap,w.cell? ⟨b,0,none⟩=some (.slice a K cap)):=fun w hw=>by rw [← hK];exact hw.head
 have HFA:Hid (∀ (k:Nat) w,RAt b cs w→Calls Tryz.prog 86 #[.pointer (some ⟨b,0,none⟩),.int .i64 (k:Int),.string x.nm,.string x.ds] w fun e w'=>e=.returned (.tuple #[.int .i64 (fndI ps k x.nm x.ds).1,.int .i64 (fndI ps k x.nm x.ds).2])∧Bw w w'):=fun k w hw=>Zgy hw ht k x.nm x.ds
 have HIA:Hid (∀ (k:Nat) w,RAt b cs w→Calls Tryz.prog 61 #[.pointer (some ⟨b,0,none⟩),.int .i64 (k:Int)] w fun e w'=>e=.returned (.bool (ifcI ps k))∧w'=w):=fun k w hw=>(Yy hw k).mono fun e w' zz=>⟨by rw [zz.1,Zar ht],zz.2⟩
 rw [hKp]
 obtain ⟨NL,hNL⟩:∃ NL:Nat→List (Int×Int),NL=namL ps x.nm x.ds:=⟨_,rfl⟩
 have HN1:Hid (∀ k,NL (k+1)=NL k++if (fndI ps (k:Int) x.nm x.ds).2=0∧ifcI ps (k:Int)=false then [((k:Int),(fndI ps (k:Int) x.nm x.ds).1)] else []):=fun k=>by rw [hNL];rfl
 have HNL:Hid (∀ k,(NL k).length≤k):=fun k=>by rw [hNL];exact Zd8 _ _ _ k
 have HN0:Hid (NL 0=[]):=by rw [hNL];rfl
 rw [← hNL]
 generalize x.nm=nm at *
 generalize x.ds=ds at *
 clear h ht hx hK hKp hNL
 have BB:Hid (Bw W W):=Below.refl _ _
 go_enter Tryz.func189,Tryz.ntmps189
 go_wp2_with (first
  | (go_at_call 188;refine (HM.out _ ((Below.refl _ _).alloc (Nat.le_refl _) _)).mono ?_;rintro e w0 ⟨⟨xa,xk,xo,rfl⟩,hb⟩;have B0:Hid (Bw W w0):=Zb ((Below.refl _ _).alloc (Nat.le_refl _) _) hb;clear hb HM))
 obtain ⟨w1,hw1⟩:∃ w1,w1=w0.alloc (.cells #[.string nm,.string ds,.int .i64 x.fl,.int .i64 x.lo,.int .i64 x.st,.slice xa xk xo] 87):=⟨_,rfl⟩
 have B1:Hid (Bw W w1):=by rw [hw1];exact B0.out.alloc B0.out.size _
 have HX1:Hid (w1.heap[w0.heap.size]?=some (.cells #[.string nm,.string ds,.int .i64 x.fl,.int .i64 x.lo,.int .i64 x.st,.slice xa xk xo] 87 (0,0))):=by rw [hw1];exact Zo _ _
 have hxl:w0.heap.size<w1.heap.size:=by rw [hw1];simp
 rw [← hw1]
 have HW1:Hid (RAt b cs w1):=HW0.out.below B1.out
 clear hw1 BB
 go_loopw [6,7] (fun sv kv wr=>∃ (j:Nat),kv=.int .i64 j∧j≤K∧Hid (wr.ownsRow w1.heap.size 38 2 sv (NL j).length (Zf (NL j)))∧Hid (Bw w1 wr)) (fun _ kv _=>K - (intOf kv).toNat)
 case atStart=>exact ⟨0,rfl,Nat.zero_le _,by rw [HN0.out];exact World.ownsRow_nil _ _ _ _,Below.refl _ _⟩
 case round =>
  obtain ⟨j,rfl,hj,hO,hB⟩:=hrel
  have HRr:Hid (RAt b cs wr):=HW1.out.below hB.out
  obtain ⟨ha,hcap,hd⟩:=HHD.out wr HRr.out
  obtain ⟨x0,x1,x2,x3,x4,x5,xf,xL⟩:=rw6 ((hB.out.block w0.heap.size hxl).trans HX1.out)
  obtain ⟨va,vn,rfl⟩:=ownv hO.out
  by_cases hlt:j<K
  ·have hjI:(j:Int)<(K:Int):=by omega
   have hst:=HN1.out j
   have hal:(NL j).length≤300:=by have:=HNL.out j;omega
   have HF:Hid (Calls Tryz.prog 86 #[.pointer (some ⟨b,0,none⟩),.int .i64 (j:Int),.string nm,.string ds] wr fun e w'=>e=.returned (.tuple #[.int .i64 (fndI ps j nm ds).1,.int .i64 (fndI ps j nm ds).2])∧Bw wr w'):=HFA.out j wr HRr.out
   have HI:Hid (∀ w,RAt b cs w→Calls Tryz.prog 61 #[.pointer (some ⟨b,0,none⟩),.int .i64 (j:Int)] w fun e w'=>e=.returned (.bool (ifcI ps j))∧w'=w):=fun w hw=>HIA.out j w hw
   have HST:Hid _:=hst
   generalize fndI ps (j:Int) nm ds=F at *
   obtain ⟨F1,F2⟩:=F
   simp only at HF HST
   generalize ifcI ps (j:Int)=S at *
   obtain ⟨L,hL⟩:∃ L,NL j=L:=⟨_,rfl⟩
   rw [hL] at HST hal hO
   rw [hL]
   clear hst hL HFA HIA HN1 HNL HN0
   by_cases hF:F2=0
   ·subst hF
    cases S
    case true =>
     have hst2:NL (j+1)=L:=by rw [HST.out,if_neg (by simp)];simp
     clear HST
     go_wp2_with (first
      | (go_at_call 86;refine HF.out.mono ?_;rintro e w2 ⟨rfl,hb⟩;have B2:Hid (Bw w1 w2):=Zb hB.out hb;have O2:Hid (w2.ownsRow w1.heap.size 38 2 (.slice va L.length vn) L.length (Zf L)):=Zd hO.out hb;have HR2:Hid (RAt b cs w2):=HRr.out.below hb;clear hb HF)
      | (go_at_call 61;refine (HI.out _ HR2.out).mono ?_;rintro e w9 ⟨rfl,hw9⟩;rw [hw9];clear hw9 w9))
     go_roundw
     case rel=>exact ⟨j+1,by go_num,by omega,by rw [hst2];exact O2,B2⟩
     case measure=>simp [intOf];omega
    case false =>
     have hst2:NL (j+1)=L++[((j:Int),F1)]:=by rw [HST.out,if_pos (by simp)]
     clear HST
     go_wp2_with (first
      | (go_at_call 86;refine HF.out.mono ?_;rintro e w2 ⟨rfl,hb⟩;have B2:Hid (Bw w1 w2):=Zb hB.out hb;have O2:Hid (w2.ownsRow w1.heap.size 38 2 (.slice va L.length vn) L.length (Zf L)):=Zd hO.out hb;have HR2:Hid (RAt b cs w2):=HRr.out.below hb;clear hb HF)
      | (go_at_call 61;refine (HI.out _ HR2.out).mono ?_;rintro e w9 ⟨rfl,hw9⟩;rw [hw9];clear hw9 w9)
      | (at_builtin;refine wpList_append_own _ rfl _ _ 30 rfl w1.heap.size 38 i0 (.agg #[.int .i64 0,.int .i64 0]) 2 16 Tryz.underlying30 hi0 hz0 hz1 hz2 rfl (by decide) (.slice va L.length vn) L.length (Zf L) rfl (O2.out.alloc _) ⟨w2.heap.size,0,none⟩ 1 1 [.int .i64 (j:Int),.int .i64 F1] rfl rfl ?c1 ?c2 ?c3 ?c4 ?c5 ?_))
     case c1=>intro jj u hj;rw [addr_add];match jj,hj with
      | 0,hj=>simp at hj;subst hj;simp [go_sem]
      | 1,hj=>simp at hj;subst hj;simp [go_sem]
      | (jj+2),hj=>simp at hj
     case c2=>intro u hu;simp at hu;rcases hu with rfl|rfl <;> rfl
     case c3=>unfold maxLen;omega
     case c4=>omega
     case c5=>have:=B2.out.size;simp;omega
     intro v' w4 hown hgrow _
     obtain ⟨va2,vn2,rfl⟩:=ownv hown
     have B4:Hid (Bw w1 w4):=by
      have hb1:Bw w1 (w2.alloc (.cells #[.int .i64 (j:Int),.int .i64 F1] 38)):=B2.out.alloc B2.out.size _
      refine hb1.grown hgrow hb1.size (fun x hx=>?_)
      have:=(O2.out.lt x hx).1
      omega
     have O4:Hid (w4.ownsRow w1.heap.size 38 2 (.slice va2 (L.length+1) vn2) (L++[((j:Int),F1)]).length (Zf (L++[((j:Int),F1)]))):=by
      rw [Hid,List.length_append,Yw];exact hown
     go_wp2
     go_roundw
     case rel=>exact ⟨j+1,by go_num,by omega,by rw [hst2];exact O4,B4⟩
     case measure=>simp [intOf];omega
   ·have hst2:NL (j+1)=L:=by rw [HST.out,if_neg (fun h=>hF h.1)];simp
    clear HST
    go_wp2_with (first
     | (go_at_call 86;refine HF.out.mono ?_;rintro e w2 ⟨rfl,hb⟩;have B2:Hid (Bw w1 w2):=Zb hB.out hb;have O2:Hid (w2.ownsRow w1.heap.size 38 2 (.slice va L.length vn) L.length (Zf L)):=Zd hO.out hb;clear hb HF))
    go_roundw
    case rel=>exact ⟨j+1,by go_num,by omega,by rw [hst2];exact O2,B2⟩
    case measure=>simp [intOf];omega
  ·have e:j=K:=by omega
   subst e
   go_wp2
   exact bodyPost_ret (results_tmp rfl _ _ _) rfl ⟨⟨_,rfl,Go.Joins.ownsRow_le hO.out B1.out.size⟩,B1.out.trans (hB.out.mono B1.out.size)⟩
def gK (ps:List Plc) (nm ds:ByteArray) (k:Nat):Int×Int:=((k:Int),(fndI ps (k:Int) nm ds).1)
def namK (ps:List Plc) (nm ds:ByteArray):Nat→List Nat
 | 0=>[]
 | k+1=>namK ps nm ds k++if (fndI ps (k:Int) nm ds).2=0∧ifcI ps (k:Int)=false then [k] else []
theorem Zd7 (ps:List Plc) (nm ds:ByteArray):∀ n,namL ps nm ds n=(namK ps nm ds n).map (gK ps nm ds)
 | 0=>rfl
 | k+1=>by
   rw [namL,namK,List.map_append,Zd7 ps nm ds k]
   congr 1
   split <;> rfl
theorem Zbi {ps:List Plc} {nm ds:ByteArray}:∀ {n k:Nat},k∈namK ps nm ds n↔k<n∧(fndI ps (k:Int) nm ds).2=0∧ifcI ps (k:Int)=false
 | 0,k=>by simp [namK]
 | n+1,k=>by
   rw [namK,List.mem_append,Zbi (n:=n)]
   constructor
   ·rintro (⟨h1,h2⟩|h)
    ·exact ⟨by omega,h2⟩
    ·split at h
     ·rename_i hc
      rw [List.mem_singleton] at h
      subst h
      exact ⟨by omega,hc⟩
     ·cases h
   ·rintro ⟨h1,h2⟩
    by_cases e:k=n
    ·subst e
     exact .inr (by rw [if_pos h2];exact List.mem_singleton.2 rfl)
    ·exact .inl ⟨by omega,h2⟩
theorem Zhd {ps:List Plc} (hU:UnqM ps) {a:Int×Int} {ma:HM} (ha:Zm ps a.1 a.2=some ma) {nm ds:ByteArray} (h1:ma.nm.toList=nm.toList) (h2:ma.ds.toList=ds.toList):∃ k,k<ps.length∧gK ps nm ds k=a∧(fndI ps (k:Int) nm ds).2=0:=by
 obtain ⟨k,q,hk,hq,_,_⟩:=Yl ha
 have hf:=hU.fnd ha h1 h2
 rw [hk] at hf
 exact ⟨k,(List.getElem?_eq_some_iff.1 hq).1,by rw [gK,hf];exact Prod.ext hk.symm rfl,by rw [hf]⟩
structure AllS (ps:List Plc) (a:Int×Int) (nm ds:ByteArray) (Ks:List Nat):Prop where
 nd:Ks.Nodup
 lt:∀ k∈Ks,k<ps.length
 top:∃ k∈Ks,gK ps nm ds k=a
 ov:∀ k∈Ks,Ov ps a (gK ps nm ds k)
def DoneI (ps:List Plc) (nm ds:ByteArray) (i:Nat) (Ks:List Nat):Prop:=∀ p y,p<i→Ks[p]?=some y→∀ s∈namK ps nm ds ps.length,plI ps (gK ps nm ds s) (gK ps nm ds y)=true→s∈Ks
theorem AllS.start {ps:List Plc} {a:Int×Int} {nm ds:ByteArray} {k:Nat} (hk:k<ps.length) (he:gK ps nm ds k=a) (hs:stI ps a=false):AllS ps a nm ds [k] :=
 ⟨List.nodup_cons.2 ⟨by simp,List.nodup_nil⟩,fun j hj=>by rw [List.mem_singleton] at hj;rw [hj];exact hk,⟨k,List.mem_singleton.2 rfl,he⟩,fun j hj=>by
  rw [List.mem_singleton] at hj
  rw [hj,he]
  exact ⟨0,rfl,hs⟩⟩
theorem AllS.snoc {ps:List Plc} {a:Int×Int} {nm ds:ByteArray} {Ks:List Nat} (h:AllS ps a nm ds Ks) {s y:Nat} (hs:s∈namK ps nm ds ps.length) (hn:¬ s∈Ks) (hy:y∈Ks) (hp:plI ps (gK ps nm ds s) (gK ps nm ds y)=true):AllS ps a nm ds (Ks++[s]):=by
 refine ⟨?_,fun k hk=>?_,?_,fun k hk=>?_⟩
 ·rw [List.nodup_append]
  refine ⟨h.nd,List.nodup_cons.2 ⟨by simp,List.nodup_nil⟩,fun x hx z hz e=>?_⟩
  rw [List.mem_singleton] at hz
  subst hz e
  exact hn hx
 ·rcases List.mem_append.1 hk with hk|hk
  ·exact h.lt k hk
  ·rw [List.mem_singleton] at hk
   rw [hk];exact (Zbi.1 hs).1
 ·obtain ⟨k,hk,e⟩:=h.top
  exact ⟨k,List.mem_append_left _ hk,e⟩
 ·rcases List.mem_append.1 hk with hk|hk
  ·exact h.ov k hk
  ·rw [List.mem_singleton] at hk
   rw [hk];exact (h.ov y hy).step hp
theorem DoneI.snoc {ps:List Plc} {nm ds:ByteArray} {i:Nat} {Ks:List Nat} (h:DoneI ps nm ds i Ks) (hi:i≤Ks.length) (s:Nat):DoneI ps nm ds i (Ks++[s]):=by
 intro p y hp hy t ht hpl
 rw [List.getElem?_append_left (by omega)] at hy
 exact List.mem_append_left _ (h p y hp hy t ht hpl)
theorem AllS.all {ps:List Plc} (hW:WI ps) (hU:UnqM ps) {a:Int×Int} {ma:HM} (ha:Zm ps a.1 a.2=some ma) {Ks:List Nat} (h:AllS ps a ma.nm ma.ds Ks) (hd:DoneI ps ma.nm ma.ds Ks.length Ks) (x:Int×Int):x∈Ks.map (gK ps ma.nm ma.ds)↔Ov ps a x:=by
 constructor
 ·intro hx
  obtain ⟨k,hk,rfl⟩:=List.mem_map.1 hx
  exact h.ov k hk
 ·rintro ⟨n,hn⟩
  induction n generalizing x with
  | zero =>
    obtain ⟨rfl,_⟩:=hn
    obtain ⟨k,hk,e⟩:=h.top
    exact List.mem_map.2 ⟨k,hk,e⟩
  | succ n ih =>
    obtain ⟨y,hy,hp⟩:=hn
    obtain ⟨ky,hky,ey⟩:=List.mem_map.1 (ih y hy)
    obtain ⟨my,hmy,n1,n2,_⟩:=Ym hW ha n y hy
    obtain ⟨mx,my2,hmx,hmy2,f1,f2,_,_,_,f6,_⟩:=Zbe hp
    rw [hmy] at hmy2
    cases hmy2
    obtain ⟨k,hk,e,e0⟩:=Zhd hU hmx (f1.trans n1) (f2.trans n2)
    obtain ⟨p,hpl,hpe⟩:=List.getElem_of_mem hky
    refine List.mem_map.2 ⟨k,hd p ky hpl (by rw [List.getElem?_eq_getElem hpl,hpe]) k (Zbi.2 ⟨hk,e0,?_⟩) (by rw [e,ey];exact hp),e⟩
    have:(k:Int)=x.1:=by rw [← e];rfl
    rw [this];exact f6
theorem any_gK {ps:List Plc} {nm ds:ByteArray} (Ks:List Nat) (s:Nat):((Ks.map (gK ps nm ds)).any fun x=>(x.1 == (gK ps nm ds s).1)&&(x.2 == (gK ps nm ds s).2))=Ks.contains s:=by
 rw [Bool.eq_iff_iff,List.any_eq_true,List.contains_iff_mem]
 constructor
 ·rintro ⟨x,hx,h⟩
  obtain ⟨k,hk,rfl⟩:=List.mem_map.1 hx
  simp only [gK,Bool.and_eq_true,beq_iff_eq] at h
  have:k=s:=by omega
  rw [← this];exact hk
 ·intro h
  exact ⟨_,List.mem_map.2 ⟨s,h,rfl⟩,by simp⟩
theorem AllS.len {ps:List Plc} {a:Int×Int} {nm ds:ByteArray} {Ks:List Nat} (h:AllS ps a nm ds Ks):Ks.length≤ps.length:=Zt _ _ h.nd h.lt
theorem r9all_w {b:Nat} {ps:List Plc} {W:World} (c i:Int) (x:HM) (hps:ps.length≤300) (RR:World→Prop) (HRB:Hid (∀ w w',RR w→Bw w w'→RR w')) (HRG:Hid (∀ w,Bw W w→RR w))
 (HST:Hid (hasI x.fl 8=false)) (kA:Nat) (HKA:Hid (kA<ps.length∧gK ps x.nm x.ds kA=(c,i)∧stI ps (c,i)=false))
 (HM:Hid (∀ w,RR w→Calls Tryz.prog 188 #[.pointer (some ⟨b,0,none⟩),.agg #[.int .i64 c,.int .i64 i]] w fun e w'=>(∃ a n s,e=.returned (.agg #[.string x.nm,.string x.ds,.int .i64 x.fl,.int .i64 x.lo,.int .i64 x.st,.slice a n s]))∧Bw w w'))
 (HN:Hid (∀ w,RR w→Calls Tryz.prog 189 #[.pointer (some ⟨b,0,none⟩),.agg #[.int .i64 c,.int .i64 i]] w fun e w'=>(∃ v,e=.returned v∧w'.ownsRow w.heap.size 38 2 v (namK ps x.nm x.ds ps.length).length (Zf ((namK ps x.nm x.ds ps.length).map (gK ps x.nm x.ds))))∧Bw w w'))
 (HP:Hid (∀ (s y:Nat) w,s∈namK ps x.nm x.ds ps.length→Ov ps (c,i) (gK ps x.nm x.ds y)→RR w→Calls Tryz.prog 191 #[.pointer (some ⟨b,0,none⟩),.agg #[.int .i64 (gK ps x.nm x.ds s).1,.int .i64 (gK ps x.nm x.ds s).2],.agg #[.int .i64 (gK ps x.nm x.ds y).1,.int .i64 (gK ps x.nm x.ds y).2]] w fun e w'=>e=.returned (.bool (plI ps (gK ps x.nm x.ds s) (gK ps x.nm x.ds y)))∧Bw w w')) :
 Calls Tryz.prog 126 #[.pointer (some ⟨b,0,none⟩),.agg #[.int .i64 c,.int .i64 i]] W fun e w'=>(∃ v Ks,e=.returned v∧w'.ownsRow W.heap.size 38 2 v (Ks.map (gK ps x.nm x.ds)).length (Zf (Ks.map (gK ps x.nm x.ds)))∧AllS ps (c,i) x.nm x.ds Ks∧DoneI ps x.nm x.ds Ks.length Ks)∧Bw W w':=by
 obtain ⟨i0,hi0,hz0,hz1,hz2⟩:=info_parts Tryz.hinfoD
 have HH:Hid (∀ w:World,Calls Tryz.prog 62 #[.int .i64 x.fl,.int .i64 8] w fun e w'=>e=.returned (.bool false)∧w'=w):=fun w=>by
  have:=Zv x.fl 8 w
  rw [HST.out] at this
  exact this
 obtain ⟨G,hG⟩:∃ G:Nat→Int×Int,G=gK ps x.nm x.ds:=⟨_,rfl⟩
 have HGA:Hid (∀ (Ks:List Nat) (s:Nat),((Ks.map G).any fun y=>(y.1 == (G s).1)&&(y.2 == (G s).2))=Ks.contains s):=fun Ks s=>by rw [hG];exact any_gK Ks s
 have HGE:Hid (G=gK ps x.nm x.ds):=hG
 rw [← hG] at HN HP HKA ⊢
 obtain ⟨S,hS⟩:∃ S,S=namK ps x.nm x.ds ps.length:=⟨_,rfl⟩
 have HSE:Hid (S=namK ps x.nm x.ds ps.length):=hS
 rw [← hS] at HN HP
 have hSl:S.length≤300:=by
  have:=Zd8 ps x.nm x.ds ps.length
  rw [Zd7,List.length_map,← hS] at this
  omega
 obtain ⟨T,hT⟩:∃ T,S.length=T:=⟨_,rfl⟩
 have HTL:Hid (S.length=T):=hT
 rw [hT] at HN hSl
 clear hG hS hT
 have FLD:∀ (a:Option Addr) (n m:Nat) (w:World),(Instr.field 87 (.agg #[.string x.nm,.string x.ds,.int .i64 x.fl,.int .i64 x.lo,.int .i64 x.st,.slice a n m]) 2).run Tryz.prog w=.ok (.int .i64 x.fl) w:=fun a n m w=>by
  simp [Instr.field,run_underlying Tryz.underlying87,go_sem,part,asAgg]
 go_enter Tryz.func126,Tryz.ntmps126
 go_wp2_with (first
  | (go_at_call 188;refine (HM.out _ (HRG.out _ ((Below.refl _ _).alloc (Nat.le_refl _) _))).mono ?_;rintro e w1 ⟨⟨xa,xk,xo,rfl⟩,hb⟩;have cbd:=kp2 (n:=W.heap.size) hb (by simp) (Zo _ _);obtain ⟨cbB,cb0,cb1,cbf,cbL,cbN⟩:=cbd;have B1:Hid (Bw W w1):=Zb ((Below.refl _ _).alloc (Nat.le_refl _) _) hb;clear hb HM)
  | (go_at_call 62;refine (HH.out _).mono ?_;rintro e w9 ⟨rfl,hw9⟩;rw [hw9];clear hw9 w9 HH)
  | (go_at_call 189;refine (HN.out _ (HRG.out _ (B1.out.alloc B1.out.size _))).mono ?_;rintro e w2 ⟨⟨v,rfl,ho⟩,hb⟩;obtain ⟨sa,sc,rfl⟩:=ownv ho;have OS:Hid (w2.ownsRow (w1.heap.size+1) 38 2 (.slice sa T sc) T (Zf (S.map G))):=Go.Joins.ownsRow_le ho (by simp);have LB:Hid (w2.heap[w1.heap.size]?=some (.cells #[.int .i64 c,.int .i64 i] 38 (0,0))):=(hb.block w1.heap.size (by simp)).trans (Zo _ _);have B2:Hid (Bw w1 w2):=Zb ((Below.refl _ _).alloc (Nat.le_refl _) _) hb;clear ho hb HN))
 have hLB:=LB.out
 clear LB
 go_loopw [5,7] (fun sv kv wr=>∃ (Ks:List Nat) (ii:Nat) (la:Option Addr) (lc:Nat),sv=.slice la Ks.length lc∧kv=.int .i64 ii∧ii≤Ks.length∧Ks.length≤300∧Hid (AllS ps (c,i) x.nm x.ds Ks)∧Hid (DoneI ps x.nm x.ds ii Ks)∧Hid (wr.ownsRow w1.heap.size 38 2 (.slice la Ks.length lc) Ks.length (Zf (Ks.map G)))∧Hid (Value.ownBlock (.slice sa T sc)=none∨Value.ownBlock (.slice sa T sc)≠Value.ownBlock (.slice la Ks.length lc))∧Hid (wr.ownsRow (w1.heap.size+1) 38 2 (.slice sa T sc) T (Zf (S.map G)))∧Hid (Bw w1 wr)) (fun _ kv _=>300 - (intOf kv).toNat)
 case atStart =>
  refine ⟨[kA],0,some ⟨w1.heap.size,0,none⟩,1,rfl,rfl,by simp,by simp,?_,?_,?_,?_,OS,B2⟩
  ·have:=HKA.out;exact AllS.start this.1 (by rw [← HGE.out];exact this.2.1) this.2.2
  ·intro p y hp;omega
  ·refine ⟨rfl,.inr ⟨w1.heap.size,1,_,rfl,Nat.le_refl _,hLB,Nat.le_refl _,by unfold maxLen;omega,rfl,?_⟩⟩
   simp [Zf,HKA.out.2.1]
  ·rcases OS.out.2 with hn|⟨g,cap,cur,hv,hg,_⟩
   ·exact .inl (by rw [hn.1];rfl)
   ·refine .inr ?_
    rw [hv]
    simp [Value.ownBlock]
    omega
 case round =>
  obtain ⟨Ks0,ii,la0,lc0,rfl,rfl,hii,hK30,hA0,hD0,hO0,hNE0,hOS0,hB0⟩:=hrel
  by_cases hlt:ii<Ks0.length
  ·have hiiI:(ii:Int)<(Ks0.length:Int):=by omega
   obtain ⟨kx,hkx0⟩:∃ kx,Ks0[ii]?=some kx:=⟨_,List.getElem?_eq_getElem hlt⟩
   obtain ⟨wo,hwo⟩:∃ w,w=wr:=⟨_,rfl⟩
   subst hwo
   go_wp2
   go_loopw [5,8] (fun sv jv wr=>∃ (Ks:List Nat) (j:Nat) (la:Option Addr) (lc:Nat),sv=.slice la Ks.length lc∧jv=.int .i64 j∧j≤T∧Ks.length≤300∧Hid (AllS ps (c,i) x.nm x.ds Ks)∧Hid (DoneI ps x.nm x.ds ii Ks)∧Hid (Ks[ii]?=some kx)∧Hid (∀ s∈S.take j,plI ps (G s) (G kx)=true→s∈Ks)∧Hid (wr.ownsRow w1.heap.size 38 2 (.slice la Ks.length lc) Ks.length (Zf (Ks.map G)))∧Hid (Value.ownBlock (.slice sa T sc)=none∨Value.ownBlock (.slice sa T sc)≠Value.ownBlock (.slice la Ks.length lc))∧Hid (wr.ownsRow (w1.heap.size+1) 38 2 (.slice sa T sc) T (Zf (S.map G)))∧Hid (Bw w1 wr)) (fun _ jv _=>T - (intOf jv).toNat)
   case atStart=>exact ⟨Ks0,0,la0,lc0,rfl,rfl,Nat.zero_le _,hK30,hA0,hD0,hkx0,(fun s hs=>by cases hs),hO0,hNE0,hOS0,hB0⟩
   case round =>
    obtain ⟨Ks,j,la,lc,rfl,rfl,hj,hK3,hA,hD,hkx,hNJ,hO,hNE,hOS,hB⟩:=hrel
    have hiK:ii<Ks.length:=(List.getElem?_eq_some_iff.1 hkx.out).1
    by_cases hlj:j<T
    ·have hjS:j<S.length:=by rw [HTL.out];exact hlj
     have hjI:(j:Int)<(T:Int):=by omega
     have hiiK:(ii:Int)<(Ks.length:Int):=by omega
     obtain ⟨s,hs⟩:∃ s,S[j]?=some s:=⟨_,List.getElem?_eq_getElem hjS⟩
     have hsm:s∈S:=List.mem_of_getElem? hs
     obtain ⟨gs,c2,hform⟩:=Go.Joins.ownsRow_form hOS.out (by omega)
     injection hform with hca _ hcc
     subst hca hcc
     obtain ⟨d0,d1,hgs⟩:=Z9 (l:=S.map G) (i:=j) (x:=G s) (by rw [List.length_map,HTL.out];exact hOS.out) (by rw [List.getElem?_map,hs];rfl)
     obtain ⟨gl,c3,hform2⟩:=Go.Joins.ownsRow_form hO.out (by omega)
     injection hform2 with hca2 _ hcc2
     subst hca2 hcc2
     obtain ⟨l0,l1,hgl⟩:=Z9 (l:=Ks.map G) (i:=ii) (x:=G kx) (by rw [List.length_map];exact hO.out) (by rw [List.getElem?_map,hkx.out];rfl)
     obtain ⟨σ,V,hne,V1,V2⟩:=class_of' (fun w'=>Bw wr w') ⟨_,Below.refl _ _⟩
     replace d0:=fun s0=>((V1.out s0).cell (p:=⟨gs,j * 2,none⟩) hgs).trans d0
     replace d1:=fun s0=>((V1.out s0).cell (p:=⟨gs,j * 2+1,none⟩) hgs).trans d1
     replace l0:=fun s0=>((V1.out s0).cell (p:=⟨gl,ii * 2,none⟩) hgl).trans l0
     replace l1:=fun s0=>((V1.out s0).cell (p:=⟨gl,ii * 2+1,none⟩) hgl).trans l1
     have HQ:Hid (∀ s0,Calls Tryz.prog 190 #[.slice (some ⟨gl,0,none⟩) Ks.length lc,.agg #[.int .i64 (G s).1,.int .i64 (G s).2]] (V s0) fun e w''=>e=.returned (.bool (Ks.contains s))∧∃ s',w''=V s'):=fun s0=>by
      have:=r9in_c (W:=V s0) (N:=w1.heap.size) (Ks.map G) (by rw [List.length_map];omega) (.slice (some ⟨gl,0,none⟩) Ks.length lc) (by rw [List.length_map];exact Zd hO.out (V1.out s0)) (G s).1 (G s).2
      rw [HGA.out] at this
      exact this.mono fun e w'' zz=>⟨zz.1,V2.out _ (Zb (V1.out s0) zz.2)⟩
     have hRwr:RR wr:=HRG.out _ (B1.out.trans (hB.out.mono B1.out.size))
     have HPL:Hid (∀ s0,Calls Tryz.prog 191 #[.pointer (some ⟨b,0,none⟩),.agg #[.int .i64 (G s).1,.int .i64 (G s).2],.agg #[.int .i64 (G kx).1,.int .i64 (G kx).2]] (V s0) fun e w''=>e=.returned (.bool (plI ps (G s) (G kx)))∧∃ s',w''=V s'):=fun s0=>(HP.out s kx (V s0) hsm (by rw [HGE.out];exact hA.out.ov kx (List.mem_of_getElem? hkx.out)) (HRB.out _ _ hRwr (V1.out s0))).mono fun e w'' zz=>⟨zz.1,V2.out _ (Zb (V1.out s0) zz.2)⟩
     have NXT:Hid (∀ Ks':List Nat,(∀ t∈Ks,t∈Ks')→(plI ps (G s) (G kx)=true→s∈Ks')→∀ t∈S.take (j+1),plI ps (G t) (G kx)=true→t∈Ks'):=fun Ks' h1 h2 t ht hp=>by
      rw [List.take_add_one,hs,Option.toList_some,List.mem_append] at ht
      rcases ht with ht|ht
      ·exact h1 t (hNJ.out t ht hp)
      ·rw [List.mem_singleton] at ht
       subst ht
       exact h2 hp
     have HIN:Hid (Ks.contains s=true→s∈Ks):=fun h=>List.contains_iff_mem.1 h
     have HNI:Hid (Ks.contains s=false→¬ s∈Ks):=fun h hm=>by
      rw [List.contains_iff_mem.2 hm] at h;cases h
     have HSN:Hid (∀ hp:plI ps (G s) (G kx)=true,¬ s∈Ks→AllS ps (c,i) x.nm x.ds (Ks++[s])∧DoneI ps x.nm x.ds ii (Ks++[s])):=fun hp hn=>by
      rw [HGE.out] at hp
      exact ⟨hA.out.snoc (by rw [← HSE.out];exact hsm) hn (List.mem_of_getElem? hkx.out) hp,hD.out.snoc (by omega) s⟩
     have HLE:Hid (Ks.length≤ps.length):=hA.out.len
     have HGS:Hid ((Ks++[s]).map G=Ks.map G++[G s]):=by rw [Hid,List.map_append];rfl
     generalize hct:Ks.contains s=ct at *
     generalize hpl:plI ps (G s) (G kx)=pl at *
     generalize hgS:G s=Gs at *
     generalize hgX:G kx=Gx at *
     obtain ⟨s1,s2⟩:=Gs
     obtain ⟨x1,x2⟩:=Gx
     simp only at d0 d1 l0 l1 HQ HPL
     clear hct hs hjS hsm hgS hgX HP hRwr
     cases ct
     case true =>
      have NX:=NXT.out Ks (fun t h=>h) (fun _=>HIN.out rfl)
      go_wp2
      refine Ze (C:=fun w'=>∃ s,w'=V s) (by kernel_rfl) (by kernel_rfl) (V2.out _ ((Below.refl _ _).drew)) ?_
      repeat (go_big_quiet_step (first|(go_at_call 190;exact HQ.out _)|(go_at_call 191;exact HPL.out _)))
      refine wpQuiet_nil ?_
      intro w9 hw9
      obtain ⟨s9,hw9⟩:=hw9
      have hb9:Bw wr w9:=by rw [hw9];exact V1.out s9
      have q0:w9.cell? ⟨gs,j * 2,none⟩=some (.int .i64 s1):=by rw [hw9];exact d0 s9
      have q1:w9.cell? ⟨gs,j * 2+1,none⟩=some (.int .i64 s2):=by rw [hw9];exact d1 s9
      have B9:Hid (Bw w1 w9):=Zb hB.out hb9
      have O9:Hid (w9.ownsRow w1.heap.size 38 2 (.slice (some ⟨gl,0,none⟩) Ks.length lc) Ks.length (Zf (Ks.map G))):=Zd hO.out hb9
      have S9:Hid (w9.ownsRow (w1.heap.size+1) 38 2 (.slice (some ⟨gs,0,none⟩) T sc) T (Zf (S.map G))):=Zd hOS.out hb9
      clear hw9 hb9
      go_wp2
      go_roundw
      case rel=>exact ⟨Ks,j+1,some ⟨gl,0,none⟩,lc,rfl,by go_num,by omega,hK3,hA,hD,hkx,NX,O9,hNE,S9,B9⟩
      case measure=>simp [intOf];omega
     case false =>
      cases pl
      case false =>
       have NX:=NXT.out Ks (fun t h=>h) (fun h=>by cases h)
       go_wp2
       refine Ze (C:=fun w'=>∃ s,w'=V s) (by kernel_rfl) (by kernel_rfl) (V2.out _ ((Below.refl _ _).drew)) ?_
       repeat (go_big_quiet_step (first|(go_at_call 190;exact HQ.out _)|(go_at_call 191;exact HPL.out _)))
       refine wpQuiet_nil ?_
       intro w9 hw9
       obtain ⟨s9,hw9⟩:=hw9
       have hb9:Bw wr w9:=by rw [hw9];exact V1.out s9
       have q0:w9.cell? ⟨gs,j * 2,none⟩=some (.int .i64 s1):=by rw [hw9];exact d0 s9
       have q1:w9.cell? ⟨gs,j * 2+1,none⟩=some (.int .i64 s2):=by rw [hw9];exact d1 s9
       have B9:Hid (Bw w1 w9):=Zb hB.out hb9
       have O9:Hid (w9.ownsRow w1.heap.size 38 2 (.slice (some ⟨gl,0,none⟩) Ks.length lc) Ks.length (Zf (Ks.map G))):=Zd hO.out hb9
       have S9:Hid (w9.ownsRow (w1.heap.size+1) 38 2 (.slice (some ⟨gs,0,none⟩) T sc) T (Zf (S.map G))):=Zd hOS.out hb9
       clear hw9 hb9
       go_wp2
       go_roundw
       case rel=>exact ⟨Ks,j+1,some ⟨gl,0,none⟩,lc,rfl,by go_num,by omega,hK3,hA,hD,hkx,NX,O9,hNE,S9,B9⟩
       case measure=>simp [intOf];omega
      case true =>
       obtain ⟨hA2,hD2⟩:=HSN.out rfl (HNI.out rfl)
       have NX:=NXT.out (Ks++[s]) (fun t h=>List.mem_append_left _ h) (fun _=>List.mem_append_right _ (List.mem_singleton.2 rfl))
       have hK4:Ks.length+1≤300:=by have:=hA2.len;rw [List.length_append,List.length_singleton] at this;omega
       have hkx2:(Ks++[s])[ii]?=some kx:=by rw [List.getElem?_append_left hiK];exact hkx.out
       go_wp2
       refine Ze (C:=fun w'=>∃ s,w'=V s) (by kernel_rfl) (by kernel_rfl) (V2.out _ ((Below.refl _ _).drew)) ?_
       repeat (go_big_quiet_step (first|(go_at_call 190;exact HQ.out _)|(go_at_call 191;exact HPL.out _)))
       refine wpQuiet_nil ?_
       intro w9 hw9
       obtain ⟨s9,hw9⟩:=hw9
       have hb9:Bw wr w9:=by rw [hw9];exact V1.out s9
       have q0:w9.cell? ⟨gs,j * 2,none⟩=some (.int .i64 s1):=by rw [hw9];exact d0 s9
       have q1:w9.cell? ⟨gs,j * 2+1,none⟩=some (.int .i64 s2):=by rw [hw9];exact d1 s9
       have B9:Hid (Bw w1 w9):=Zb hB.out hb9
       have O9:Hid (w9.ownsRow w1.heap.size 38 2 (.slice (some ⟨gl,0,none⟩) Ks.length lc) Ks.length (Zf (Ks.map G))):=Zd hO.out hb9
       have S9:Hid (w9.ownsRow (w1.heap.size+1) 38 2 (.slice (some ⟨gs,0,none⟩) T sc) T (Zf (S.map G))):=Zd hOS.out hb9
       clear hw9 hb9
       have gsN:¬ gs=w9.heap.size:=by have:=World.block_lt_of_cell? w9 _ q0;simp only at this;omega
       go_wp2_with (first
        | (at_builtin;refine wpList_append_own_at _ rfl _ _ 30 rfl w1.heap.size 38 i0 (.agg #[.int .i64 0,.int .i64 0]) 2 16 Tryz.underlying30 hi0 hz0 hz1 hz2 rfl (by decide) (.slice (some ⟨gl,0,none⟩) Ks.length lc) Ks.length (Zf (Ks.map G)) rfl (O9.out.alloc _) ⟨w9.heap.size,0,none⟩ 1 1 [.int .i64 s1,.int .i64 s2] rfl rfl ?c1 ?c2 ?c3 ?c4 ?c5 ?_))
       case c1=>intro jj u hj;rw [addr_add];match jj,hj with
        | 0,hj=>simp at hj;subst hj;simp [go_sem]
        | 1,hj=>simp at hj;subst hj;simp [go_sem]
        | (jj+2),hj=>simp at hj
       case c2=>intro u hu;simp at hu;rcases hu with rfl|rfl <;> rfl
       case c3=>unfold maxLen;omega
       case c4=>omega
       case c5=>have:=B9.out.size;simp;omega
       intro v' w4 hown hgrow _ hblk
       obtain ⟨va2,vn2,rfl⟩:=ownv hown
       have B4:Hid (Bw w1 w4):=by
        have hb1:Bw w1 (w9.alloc (.cells #[.int .i64 s1,.int .i64 s2] 38)):=B9.out.alloc B9.out.size _
        refine hb1.grown hgrow hb1.size (fun x hx=>?_)
        have:=(O9.out.lt x hx).1
        omega
       have O4:Hid (w4.ownsRow w1.heap.size 38 2 (.slice va2 (Ks.length+1) vn2) (Ks++[s]).length (Zf ((Ks++[s]).map G))):=by
        rw [Hid,List.length_append,HGS.out,Yw];exact hown
       have S4:Hid (w4.ownsRow (w1.heap.size+1) 38 2 (.slice (some ⟨gs,0,none⟩) T sc) T (Zf (S.map G))):=(S9.out.alloc _).kept hgrow hNE.out
       have NE4:Hid (Value.ownBlock (.slice (some ⟨gs,0,none⟩) T sc)=none∨Value.ownBlock (.slice (some ⟨gs,0,none⟩) T sc)≠Value.ownBlock (.slice va2 (Ks.length+1) vn2)):=by
        rcases hblk with hblk|hblk
        ·rw [Hid,hblk];exact hNE.out
        ·rw [Hid,hblk]
         cases hz:Value.ownBlock (.slice (some ⟨gs,0,none⟩) T sc) with
         | none=>exact .inl rfl
         | some z =>
           refine .inr (fun e=>?_)
           have:=(S9.out.lt z hz).2
           simp at e
           omega
       clear hown hgrow hblk
       go_wp2
       go_roundw
       case rel=>exact ⟨Ks++[s],j+1,va2,vn2,by simp,by go_num,by omega,by simpa using hK4,hA2,hD2,hkx2,NX,by simpa using O4,by simpa using NE4,S4,B4⟩
       case measure=>simp [intOf];omega
    ·have e:j=T:=by omega
     subst e
     have hD3:DoneI ps x.nm x.ds (ii+1) Ks:=by
      intro p y hp hy t ht hpl
      by_cases e:p=ii
      ·subst e
       rw [hkx.out] at hy
       cases hy
       have h1:=hNJ.out t (by rw [← HTL.out,List.take_length,HSE.out];exact ht)
       rw [HGE.out] at h1
       exact h1 hpl
      ·exact hD.out p y (by omega) hy t ht hpl
     clear hNJ hD
     go_wp2
     go_roundw
     case rel=>exact ⟨Ks,ii+1,la,lc,rfl,by go_num,hiK,hK3,hA,hD3,hO,hNE,hOS,hB⟩
     case measure=>simp [intOf];omega
  ·have e:ii=Ks0.length:=by omega
   subst e
   go_wp2
   exact bodyPost_ret (results_tmp rfl _ _ _) rfl ⟨⟨_,Ks0,rfl,by rw [List.length_map];exact Go.Joins.ownsRow_le hO0.out B1.out.size,hA0.out,hD0.out⟩,B1.out.trans (hB0.out.mono B1.out.size)⟩
theorem r9all_c {b:Nat} {cs:List Cls} {ps:List Plc} {W:World} (h:RAt b cs W) (ht:TwW cs ps) (hJ:WJ ps) (hS:SndI ps) (hU:UnqM ps) (hz:∀ c∈cs,c.nm.size≤maxLen) (c i:Int) (x:HM) (hx:Zm ps c i=some x) (hst:hasI x.fl 8=false):Calls Tryz.prog 126 #[.pointer (some ⟨b,0,none⟩),.agg #[.int .i64 c,.int .i64 i]] W fun e w'=>(∃ v A,e=.returned v∧w'.ownsRow W.heap.size 38 2 v A.length (Zf A)∧A.length≤300∧(∀ y,y∈A↔Ov ps (c,i) y)∧A.Nodup)∧Bw W w':=by
 obtain ⟨kA,hk,hg,_⟩:=Zhd hU (a:=(c,i)) hx (nm:=x.nm) (ds:=x.ds) rfl rfl
 have hs0:stI ps (c,i)=false:=by rw [stI];simp only [hx];exact hst
 refine (r9all_w (b:=b) (ps:=ps) (W:=W) c i x ht.wi.hi (RAt b cs) (fun w w' hw hb=>hw.below hb) (fun w hb=>h.below hb) hst kA ⟨hk,hg,hs0⟩ (fun w hw=>Jq hw ht c i x hx) (fun w hw=>?_) (fun s y w hs ho hw=>?_)).mono fun e w' zz=>?_
 ·have:=Zkv hw ht c i x hx
  rw [Zd7,List.length_map] at this
  exact this
 ·obtain ⟨_,h2,_⟩:=Zbi.1 hs
  obtain ⟨⟨m1,hm1,_⟩,_⟩:=J5 h2
  obtain ⟨n,hn⟩:=ho
  obtain ⟨m2,hm2,_⟩:=Ym ht.wi (a:=(c,i)) hx n _ hn
  exact Zku hw ht hJ hS hz _ _ _ _ m1 m2 hm1 hm2
 ·obtain ⟨⟨v,Ks,e1,e2,e3,e4⟩,e5⟩:=zz
  refine ⟨⟨v,Ks.map (gK ps x.nm x.ds),e1,e2,?_,fun y=>AllS.all ht.wi hU (a:=(c,i)) hx e3 e4 y,?_⟩,e5⟩
  ·rw [List.length_map]
   exact Nat.le_trans e3.len ht.wi.hi
  ·refine List.Pairwise.map _ (fun a b hab he=>hab ?_) e3.nd
   have:=congrArg Prod.fst he
   simp only [gK] at this
   omega
def ovC (ps:List Plc) (nm ds:ByteArray) (a:Int×Int) (k:Nat):Bool:=decide ((fndI ps (k:Int) nm ds).2=0)&&(ovrI ps (gK ps nm ds k) a).1
theorem ov_st {ps:List Plc} {a x:Int×Int} (h:Ov ps a x):stI ps a=false:=by
 obtain ⟨n,hn⟩:=h
 induction n generalizing x with
 | zero=>exact hn.2
 | succ n ih=>obtain ⟨y,hy,_⟩:=hn;exact ih hy
theorem Zan {ps:List Plc} (hW:WI ps) (hU:UnqM ps) {a:Int×Int} {ma:HM} (ha:Zm ps a.1 a.2=some ma) {k:Nat}:ovC ps ma.nm ma.ds a k=true↔Ov ps a (gK ps ma.nm ma.ds k):=by
 constructor
 ·intro h
  rw [ovC,Bool.and_eq_true] at h
  cases hx:Zm ps (gK ps ma.nm ma.ds k).1 (gK ps ma.nm ma.ds k).2 with
  | none=>have:=h.2;simp [ovrI,hx] at this
  | some mx=>exact (Zk3 hW hU ha hx).2.1 h.2
 ·intro h
  obtain ⟨n,hn⟩:=h
  obtain ⟨mx,hmx,e1,e2,_⟩:=Ym hW ha n _ hn
  have hf:=hU.fnd hmx e1 e2
  rw [ovC,Bool.and_eq_true,decide_eq_true_iff]
  refine ⟨?_,(Zk3 hW hU ha hmx).2.2 ⟨n,hn⟩⟩
  have:(gK ps ma.nm ma.ds k).1=(k:Int):=rfl
  rw [this] at hf
  rw [hf]
theorem ov_gK {ps:List Plc} (hW:WI ps) (hU:UnqM ps) {a:Int×Int} {ma:HM} (ha:Zm ps a.1 a.2=some ma) {x:Int×Int} (h:Ov ps a x):∃ k,k<ps.length∧x=gK ps ma.nm ma.ds k∧ovC ps ma.nm ma.ds a k=true∧a.1≤(k:Int):=by
 obtain ⟨n,hn⟩:=h
 obtain ⟨mx,hmx,e1,e2,_,e4,_⟩:=Ym hW ha n _ hn
 obtain ⟨k,hk,e,_⟩:=Zhd hU hmx e1 e2
 refine ⟨k,hk,e.symm,(Zan hW hU ha).2 (e ▸ ⟨n,hn⟩),?_⟩
 have h1:=Zev hW e4
 have h2:(k:Int)=x.1:=by rw [← e];rfl
 omega
theorem ovC_le {ps:List Plc} (hW:WI ps) (hU:UnqM ps) {a:Int×Int} {ma:HM} (ha:Zm ps a.1 a.2=some ma) {k:Nat} (h:ovC ps ma.nm ma.ds a k=true):a.1≤(k:Int)∧k<ps.length:=by
 obtain ⟨j,hj,e,_,h4⟩:=ov_gK hW hU ha ((Zan hW hU ha).1 h)
 have:(k:Int)=(j:Int):=congrArg Prod.fst e
 omega
theorem Zll {ps:List Plc} (hW:WI ps) (hU:UnqM ps) {a:Int×Int} {ma:HM} (ha:Zm ps a.1 a.2=some ma) {l:List Nat} (hasc:l.Pairwise (· < ·)) (hcl:∀ d∈l,∀ j:Nat,extI ps (d:Int) (j:Int)=true→ifcI ps (j:Int)=false→a.1<(j:Int)→j∈l):∀ n,gthL ps a (askL ps ma a (l.take n))=(if stI ps a then [] else [a])++((l.take n).filter fun k=>ovC ps ma.nm ma.ds a k&&((k:Int) != a.1)).map (gK ps ma.nm ma.ds):=by
 intro n
 induction n with
 | zero =>
   rw [List.take_zero,askL,nskL,gthL,List.foldl_cons,List.foldl_nil,gth1,Zaw.2 rfl]
   cases stI ps a <;> simp
 | succ n ih =>
   by_cases hn:n<l.length
   ·obtain ⟨d,hd⟩:∃ d,l[n]?=some d:=⟨_,List.getElem?_eq_getElem hn⟩
    have hst:=Zb2 (ps:=ps) (nm:=ma.nm) (ds:=ma.ds) (a:=a.1) hd
    have hask:askL ps ma a (l.take (n+1))=askL ps ma a (l.take n)++(if (fndI ps (d:Int) ma.nm ma.ds).2=0∧(d:Int)≠a.1 then [gK ps ma.nm ma.ds d] else []):=by rw [askL,hst,askL,List.cons_append];rfl
    rw [hask,List.take_add_one,hd,Option.toList_some,List.filter_append,List.map_append]
    by_cases hc:(fndI ps (d:Int) ma.nm ma.ds).2=0∧(d:Int)≠a.1
    ·rw [if_pos hc,Zb6,gth1]
     have he:eqI (gK ps ma.nm ma.ds d) a=false:=by
      cases e:eqI (gK ps ma.nm ma.ds d) a with
      | false=>rfl
      | true=>rw [Zaw] at e;exact absurd (congrArg Prod.fst e) hc.2
     have hk:(gthL ps a (askL ps ma a (l.take n))).any (plI ps (gK ps ma.nm ma.ds d))=ovC ps ma.nm ma.ds a d:=by
      rw [Bool.eq_iff_iff,Zan hW hU ha]
      constructor
      ·intro h
       obtain ⟨y,hy,hp⟩:=List.any_eq_true.1 h
       exact (Zlk _ [] (fun y hy=>by cases hy) y hy:Ov ps a y).step hp
      ·intro h
       have hs:=ov_st h
       obtain ⟨m,hm⟩:=h
       cases m with
       | zero=>exact absurd (congrArg Prod.fst hm.1) hc.2
       | succ m =>
         obtain ⟨y,hy,hp⟩:=hm
         refine List.any_eq_true.2 ⟨y,?_,hp⟩
         obtain ⟨my,hmy,e1,e2,_,_,e5⟩:=Ym hW ha m y hy
         rw [ih,hs]
         rcases e5 with rfl|⟨hif,hlt⟩
         ·exact List.mem_append_left _ (List.mem_singleton.2 rfl)
         ·obtain ⟨j,hj,ej,hoj,_⟩:=ov_gK hW hU ha ⟨m,hy⟩
          obtain ⟨_,_,_,_,_,_,_,_,hne,_,hex⟩:=Zbe hp
          have hy1:y.1=(j:Int):=by rw [ej];rfl
          have hd1:(gK ps ma.nm ma.ds d).1=(d:Int):=rfl
          rw [hy1] at hif hlt hne hex
          rw [hd1] at hne hex
          have hle:=Zev hW hex
          have hjl:=hcl d (List.mem_of_getElem? hd) j hex hif hlt
          refine List.mem_append_right _ (List.mem_map.2 ⟨j,List.mem_filter.2 ⟨Zj4 hasc hd hjl (by omega),?_⟩,ej.symm⟩)
          rw [hoj,Bool.true_and,bne_iff_ne]
          omega
     rw [he,hk,Bool.false_and,Bool.false_or,ih]
     have hb:((d:Int) != a.1)=true:=by rw [bne_iff_ne];exact hc.2
     cases ho:ovC ps ma.nm ma.ds a d with
     | true=>simp [ho,hb,List.append_assoc]
     | false=>simp [ho]
    ·rw [if_neg hc,List.append_nil,ih]
     have:(ovC ps ma.nm ma.ds a d&&((d:Int) != a.1))=false:=by
      rw [ovC]
      by_cases h1:(fndI ps (d:Int) ma.nm ma.ds).2=0
      ·have h2:(d:Int)=a.1:=Decidable.not_not.1 fun h=>hc ⟨h1,h⟩
       rw [h2];simp
      ·simp [h1]
     simp [this]
   ·rw [List.take_of_length_le (by omega)] at ih ⊢
    exact ih
theorem last_max {F:List Nat} (h:F.Pairwise (· < ·)) {j:Nat} (hj:F.getLast?=some j):j∈F∧∀ x∈F,x≤j:=by
 rcases List.eq_nil_or_concat F with rfl|⟨F0,y,rfl⟩
 ·cases hj
 ·rw [List.concat_eq_append] at h hj ⊢
  rw [List.getLast?_append] at hj
  simp at hj
  subst hj
  refine ⟨by simp,fun x hx=>?_⟩
  rcases List.mem_append.1 hx with hx|hx
  ·exact Nat.le_of_lt ((List.pairwise_append.1 h).2.2 x hx y (by simp))
  ·rw [List.mem_singleton] at hx;omega
theorem Zcc {p:Nat→Bool}:∀ {l:List Nat},l.Pairwise (· > ·)→∀ {j:Nat},j∈l→p j=true→(∀ x∈l,p x=true→x≤j)→l.find? p=some j
 | [],_,_,h,_,_=>by cases h
 | y::r,hp,j,hj,hpj,hm=>by
   rw [List.find?_cons]
   rw [List.pairwise_cons] at hp
   cases hy:p y with
   | true =>
     rcases List.mem_cons.1 hj with rfl|hj
     ·rfl
     ·have h1:=hm y (by simp) hy
      have h2:=hp.1 j hj
      omega
   | false =>
     rcases List.mem_cons.1 hj with rfl|hj
     ·rw [hy] at hpj;cases hpj
     ·exact Zcc hp.2 hj hpj fun x hx h=>hm x (List.mem_cons_of_mem _ hx) h
def firD (ps:List Plc) (nm ds:ByteArray) (a:Int×Int) (l:List Nat):(Int×Int)×Int:=match l.find? (ovC ps nm ds a) with
 | some j=>(gK ps nm ds j,0)
 | none=>((0,0),6)
theorem Zgi {ps:List Plc} {nm ds:ByteArray} {a:Int×Int} {l:List Nat} {j:Nat} (h:l.find? (ovC ps nm ds a)=some j):firD ps nm ds a l=(gK ps nm ds j,0):=by rw [firD,h]
theorem Zgj {ps:List Plc} {nm ds:ByteArray} {a:Int×Int} {l:List Nat} (h:∀ x∈l,ovC ps nm ds a x=false):firD ps nm ds a l=((0,0),6):=by
 have:l.find? (ovC ps nm ds a)=none:=by rw [List.find?_eq_none];intro x hx;rw [h x hx];simp
 rw [firD,this]
theorem Zmh {ps:List Plc} (hW:WI ps) {k:Nat} (hk:k<ps.length) {d:Nat} (hd:d∈chL (ps.map nd) k) {j:Nat} (hex:extI ps (d:Int) (j:Int)=true) (hif:ifcI ps (j:Int)=false):j∈chL (ps.map nd) k:=by
 have hkl:k<(ps.map nd).length:=by simpa using hk
 obtain ⟨i,j2,hi,hj,hil,hjl,he⟩:=X0 hex
 obtain rfl:d=i:=by omega
 obtain rfl:j=j2:=by omega
 refine Zex hW.wo k hkl d hd j ?_
 rcases (Zav _ _ _).1 he with h|h
 ·exact h
 ·exfalso
  obtain ⟨_,_,p,hp1,hp2,_⟩:=Yh hW.wo h
  rw [ifcI,Z5] at hif
  rw [List.getElem?_map] at hp1
  obtain ⟨q,hq,rfl⟩:=Option.map_eq_some_iff.1 hp1
  rw [hq] at hif
  have:(nd q).i=false:=hif
  rw [this] at hp2
  cases hp2
theorem Zgh {ps:List Plc} (hW:WI ps) (hU:UnqM ps) {a:Int×Int} {ma:HM} (ha:Zm ps a.1 a.2=some ma) {k:Nat} {q:Plc} (hq:ps[k]?=some q):firI ps (k:Int) a=firD ps ma.nm ma.ds a (chL (ps.map nd) k):=by
 have hk:=(List.getElem?_eq_some_iff.1 hq).1
 have hkl:k<(ps.map nd).length:=by simpa using hk
 have hdesc:=Zmg hW.wo k hkl
 have hasc:(chL (ps.map nd) k).reverse.Pairwise (· < ·):=by rw [List.pairwise_reverse];exact hdesc
 have hg:=Zll hW hU ha hasc (fun d hd j h1 h2 _=>List.mem_reverse.2 (Zmh hW hk (List.mem_reverse.1 hd) h1 h2)) (chL (ps.map nd) k).reverse.length
 rw [List.take_length] at hg
 have e0:firI ps (k:Int) a=lstI (chL (ps.map nd) k) (gthL ps a (askL ps ma a (chL (ps.map nd) k).reverse)):=by
  rw [firI,ha,Z5,hq];rfl
 rw [e0,hg]
 obtain ⟨F,hF⟩:∃ F,((chL (ps.map nd) k).reverse.filter fun k=>ovC ps ma.nm ma.ds a k&&((k:Int) != a.1))=F:=⟨_,rfl⟩
 rw [hF]
 have hFasc:F.Pairwise (· < ·):=by rw [← hF];exact hasc.filter _
 have hFm:∀ x,x∈F↔x∈chL (ps.map nd) k∧ovC ps ma.nm ma.ds a x=true∧(x:Int)≠a.1:=fun x=>by
  rw [← hF,List.mem_filter,List.mem_reverse,Bool.and_eq_true,bne_iff_ne]
 cases hl:F.getLast? with
 | some j =>
   obtain ⟨hj1,hj2⟩:=last_max hFasc hl
   obtain ⟨h1,h2,h3⟩:=(hFm j).1 hj1
   have hle:=(ovC_le hW hU ha h2).1
   rw [Zgi (Zcc hdesc h1 h2 fun x hx hp=>?_)]
   ·have hlast:((if stI ps a then [] else [a])++F.map (gK ps ma.nm ma.ds)).getLast?=some (gK ps ma.nm ma.ds j):=by
     rw [List.getLast?_append,List.getLast?_map,hl];rfl
    rw [Zb4 hlast,if_pos]
    exact List.contains_iff_mem.2 (List.mem_map.2 ⟨j,h1,rfl⟩)
   ·by_cases hxa:(x:Int)=a.1
    ·omega
    ·exact hj2 x ((hFm x).2 ⟨hx,hp,hxa⟩)
 | none =>
   have hF0:F=[]:=List.getLast?_eq_none_iff.1 hl
   rw [hF0,List.map_nil,List.append_nil]
   cases hs:stI ps a with
   | true =>
     rw [Zgj fun x hx=>?_]
     ·rfl
     ·cases ho:ovC ps ma.nm ma.ds a x with
      | false=>rfl
      | true=>rw [ov_st ((Zan hW hU ha).1 ho)] at hs;cases hs
   | false =>
     simp only [Bool.false_eq_true,if_false]
     rw [Zb4 (x:=a) rfl]
     by_cases hin:((chL (ps.map nd) k).map (fun k:Nat=>(k:Int))).contains a.1=true
     ·rw [if_pos hin]
      obtain ⟨j,hj,ej⟩:=List.mem_map.1 (List.contains_iff_mem.1 hin)
      obtain ⟨j2,hj2,e2,hoj,_⟩:=ov_gK hW hU ha ⟨0,rfl,hs⟩
      have:(j2:Int)=a.1:=by rw [e2];rfl
      obtain rfl:j=j2:=by omega
      rw [Zgi (Zcc hdesc hj hoj fun x hx hp=>?_),← e2]
      by_cases hxa:(x:Int)=a.1
      ·omega
      ·have:=(hFm x).2 ⟨hx,hp,hxa⟩
       rw [hF0] at this;cases this
     ·rw [if_neg hin,Zgj fun x hx=>?_]
      cases ho:ovC ps ma.nm ma.ds a x with
      | false=>rfl
      | true =>
        by_cases hxa:(x:Int)=a.1
        ·exact absurd (List.contains_iff_mem.2 (List.mem_map.2 ⟨x,hx,hxa⟩)) hin
        ·have:=(hFm x).2 ⟨hx,ho,hxa⟩
         rw [hF0] at this;cases this
theorem r9all_no {b:Nat} {cs:List Cls} {ps:List Plc} {W:World} (h:RAt b cs W) (ht:TwW cs ps) (c i:Int) (x:HM) (hx:Zm ps c i=some x) (hst:hasI x.fl 8=true):Calls Tryz.prog 126 #[.pointer (some ⟨b,0,none⟩),.agg #[.int .i64 c,.int .i64 i]] W fun e w'=>e=.returned (.slice none 0 0)∧Bw W w':=by
 have HM:Hid (∀ w,Bw W w→Calls Tryz.prog 188 #[.pointer (some ⟨b,0,none⟩),.agg #[.int .i64 c,.int .i64 i]] w fun e w'=>(∃ a n s,e=.returned (.agg #[.string x.nm,.string x.ds,.int .i64 x.fl,.int .i64 x.lo,.int .i64 x.st,.slice a n s]))∧Bw w w'):=fun w hb=>Jq (h.below hb) ht c i x hx
 have HH:Hid (∀ w:World,Calls Tryz.prog 62 #[.int .i64 x.fl,.int .i64 8] w fun e w'=>e=.returned (.bool true)∧w'=w):=fun w=>by
  have:=Zv x.fl 8 w
  rw [hst] at this
  exact this
 have FLD:∀ (a:Option Addr) (n m:Nat) (w:World),(Instr.field 87 (.agg #[.string x.nm,.string x.ds,.int .i64 x.fl,.int .i64 x.lo,.int .i64 x.st,.slice a n m]) 2).run Tryz.prog w=.ok (.int .i64 x.fl) w:=fun a n m w=>by
  simp [Instr.field,run_underlying Tryz.underlying87,go_sem,part,asAgg]
 clear h ht hx hst
 go_enter Tryz.func126,Tryz.ntmps126
 go_wp2_with (first
  | (go_at_call 188;refine (HM.out _ ((Below.refl _ _).alloc (Nat.le_refl _) _)).mono ?_;rintro e w1 ⟨⟨xa,xk,xo,rfl⟩,hb⟩;have B1:Hid (Bw W w1):=Zb ((Below.refl _ _).alloc (Nat.le_refl _) _) hb;clear hb HM)
  | (go_at_call 62;refine (HH.out _).mono ?_;rintro e w9 ⟨rfl,hw9⟩;rw [hw9];clear hw9 w9 HH))
 all_goals exact bodyPost_ret (results_tmp rfl _ _ _) rfl ⟨rfl,B1.out⟩
theorem Zkx {b:Nat} {cs:List Cls} {ps:List Plc} {W:World} (h:RAt b cs W) (ht:TwW cs ps) (hJ:WJ ps) (hS:SndI ps) (hU:UnqM ps) (hz:∀ c∈cs,c.nm.size≤maxLen) (c i:Int) (x:HM) (hx:Zm ps c i=some x):Calls Tryz.prog 126 #[.pointer (some ⟨b,0,none⟩),.agg #[.int .i64 c,.int .i64 i]] W fun e w'=>(∃ v A,e=.returned v∧w'.ownsRow W.heap.size 38 2 v A.length (Zf A)∧A.length≤300∧(∀ y,y∈A↔Ov ps (c,i) y)∧A.Nodup)∧Bw W w':=by
 cases hst:hasI x.fl 8 with
 | false=>exact r9all_c h ht hJ hS hU hz c i x hx hst
 | true =>
   refine (r9all_no h ht c i x hx hst).mono fun e w' zz=>⟨⟨_,[],zz.1,World.ownsRow_nil _ _ _ _,by simp,fun y=>⟨fun hy=>(by cases hy),fun hy=>?_⟩,List.nodup_nil⟩,zz.2⟩
   have h0:=ov_st hy
   rw [stI] at h0
   simp only [hx] at h0
   exact absurd (show hasI x.fl 8=false from h0) (by rw [hst];decide)
end Go.Proofs.YtmafkabjjibcbaaGreat
