import Derived.Test.YtjbmmmcjegjelaaGreatVtQ
import Derived.Test.YtjbmmmcjegjelaaGreatRnF
import Derived.Test.YtjbmmmcjegjelaaGreatLcQ
import Derived.Test.YtjbmmmcjegjelaaGreatRpE
import Derived.Test.YtjbmmmcjegjelaaGreatRnI
import Derived.Test.YtjbmmmcjegjelaaGreatRfA
import Derived.Test.YtjbmmmcjegjelaaGreatVtD
import Derived.Deep.AppendLies
import Derived.Test.YtjbmmmcjegjelaaGreatSq
set_option maxHeartbeats 8000000
set_option maxRecDepth 100000
namespace Go.Proofs.YtjbmmmcjegjelaaGreat
open Go.RowKit Go.Maps
theorem Zll {ps:List Plc} {k:Nat} (hk:k<ps.length) {x:Sl} {m:HM} (hm:Zm ps x.1.1 x.1.2=some m):inhP (ovA ps) (k:Int) x=if ovC ps m.nm m.ds x.1 k then (x.1,gK ps m.nm m.ds k) else x:=by
  have he:ovA ps x.1=(allK ps m.nm m.ds x.1).map (gK ps m.nm m.ds):=by rw [ovA,alvE,hm]
  rw [inhP,he]
  cases h:((allK ps m.nm m.ds x.1).map (gK ps m.nm m.ds)).find? (fun y=>y.1 == (k:Int)) with
  | some z =>
    obtain ⟨j,hj,rfl⟩:=List.mem_map.1 (List.mem_of_find?_eq_some h)
    have h1:=List.find?_some h
    have:j=k:=by
      simp [gK] at h1
      omega
    subst this
    rw [if_pos (List.mem_filter.1 hj).2]
  | none =>
    rw [List.find?_eq_none] at h
    have:ovC ps m.nm m.ds x.1 k=false:=by
      cases ho:ovC ps m.nm m.ds x.1 k with
      | false=>rfl
      | true=>exact absurd (h _ (List.mem_map.2 ⟨k,List.mem_filter.2 ⟨List.mem_range.2 hk,ho⟩,rfl⟩)) (by simp [gK])
    rw [this];rfl
theorem Zgl (ps:List Plc) (nm ds:ByteArray) (a:Int×Int) (k:Nat) (l:List Nat):firD ps nm ds a (k::l)=if ovC ps nm ds a k then (gK ps nm ds k,0) else firD ps nm ds a l:=by
  rw [firD,firD,List.find?_cons]
  cases ovC ps nm ds a k <;> rfl
theorem ovC_own {ps:List Plc} (hW:WI ps) (hU:UnqM ps) {k:Nat} {i:Int} {m:HM} (ha:Zm ps (k:Int) i=some m) (hs:stB m.fl=false):ovC ps m.nm m.ds ((k:Int),i) k=true∧gK ps m.nm m.ds k=((k:Int),i):=by
  have hf:=hU.fnd ha rfl rfl
  have hg:gK ps m.nm m.ds k=((k:Int),i):=by rw [gK,hf]
  refine ⟨?_,hg⟩
  rw [ovC,Bool.and_eq_true]
  exact ⟨by rw [hf];rfl,by rw [hg];exact Zh2 hW hU ha hs⟩
def SlF (ps:List Plc) (k:Nat) (x:Sl):Prop:=∃ m,Zm ps x.1.1 x.1.2=some m∧vrtB m.nm m.fl=true∧firD ps m.nm m.ds x.1 (chL (ps.map nd) k)=(x.2,0)
theorem Zgs {ps:List Plc} (hW:WI ps) (hU:UnqM ps) {k:Nat} (hk:k<ps.length) {t:List Sl} {x:Sl} (hx:x∈addP (k:Int) t (msK ps k) 0):SlF ps k x:=by
  obtain ⟨j,m,h1,h2,rfl⟩:=Zb7 _ _ _ _ _ hx
  have hq:ps[k]?=some ps[k]:=List.getElem?_eq_getElem hk
  rw [msK,hq] at h1
  rw [Nat.zero_add] at h2 ⊢
  rw [ownP,Bool.and_eq_true] at h2
  obtain ⟨o1,o2⟩:=ovC_own hW hU (Jo hq h1) (vrt_st h2.1)
  refine ⟨m,Jo hq h1,h2.1,?_⟩
  have hh:=ch_head (ns:=ps.map nd) k
  cases hc:chL (ps.map nd) k with
  | nil=>rw [hc] at hh;cases hh
  | cons y r =>
    rw [hc] at hh
    have:y=k:=by simpa using hh
    subst this
    rw [Zgl,if_pos o1,o2]
theorem Zey {ps:List Plc} (hW:WI ps) (hU:UnqM ps):∀ k,k<ps.length→∀ x∈tabP ps k,SlF ps k x:=by
  intro k hk
  refine Jz (P:=fun k=>∀ x∈tabP ps k,SlF ps k x) hW.wo ?_ ?_ k (by rw [List.length_map];exact hk)
  · intro x hx
    rw [tabP,Yd] at hx
    have hx2:x∈grwP (ovA ps) (0:Int) (msK ps 0) []:=hx
    rw [grwP,List.map_nil,List.nil_append] at hx2
    exact Zgs hW hU (by omega) hx2
  · intro k hkl h0 hsp ih x hx
    have hk:k<ps.length:=by simpa using hkl
    rw [Jd hW hk h0,grwP] at hx
    rcases List.mem_append.1 hx with hx|hx
    · obtain ⟨y,hy,rfl⟩:=List.mem_map.1 hx
      obtain ⟨m,hm,hv,hf⟩:=ih y hy
      refine ⟨m,by rw [Zd6];exact hm,hv,?_⟩
      rw [Zd6,Ye hW.wo hkl h0,Zgl,Zll hk hm]
      cases ovC ps m.nm m.ds y.1 k with
      | true=>rfl
      | false=>exact hf
    · exact Zgs hW hU hk hx
theorem has5d (f:Int):hasI f 5=(hasI f 1||hasI f 4):=by
  have e5:bits .and .i64 f 5=IntKind.wrap .i64 (((BitVec.ofInt 64 f).toNat &&& 5:Nat):Int):=rfl
  have e1:bits .and .i64 f 1=IntKind.wrap .i64 (((BitVec.ofInt 64 f).toNat &&& 1:Nat):Int):=rfl
  have e4:bits .and .i64 f 4=IntKind.wrap .i64 (((BitVec.ofInt 64 f).toNat &&& 4:Nat):Int):=rfl
  have h:(BitVec.ofInt 64 f).toNat &&& 5=((BitVec.ofInt 64 f).toNat &&& 1) ||| ((BitVec.ofInt 64 f).toNat &&& 4):=by
    rw [← Nat.and_or_distrib_left];rfl
  unfold hasI
  rw [e5,e1,e4,h]
  have h2:(BitVec.ofInt 64 f).toNat &&& 1≤1:=Nat.and_le_right
  have h8:(BitVec.ofInt 64 f).toNat &&& 4≤4:=Nat.and_le_right
  have h8':((BitVec.ofInt 64 f).toNat &&& 4) &&& 4=(BitVec.ofInt 64 f).toNat &&& 4:=by rw [Nat.and_assoc,Nat.and_self]
  generalize (BitVec.ofInt 64 f).toNat &&& 1=a at *
  generalize (BitVec.ofInt 64 f).toNat &&& 4=b at *
  have ha:a=0∨a=1:=by omega
  have hb:b=0∨b=4:=by
    have:b=0∨b=1∨b=2∨b=3∨b=4:=by omega
    rcases this with rfl|rfl|rfl|rfl|rfl
    · exact .inl rfl
    all_goals first|exact .inr rfl|exact absurd h8' (by decide)
  rcases ha with rfl|rfl <;> rcases hb with rfl|rfl <;> decide
theorem Zk6 (f:Int):opnB f=(hasI f 1||hasI f 4):=has5d f
theorem sh_iff {ps:List Plc} (hW:WI ps) (hU:UnqM ps) {k:Nat} (hk:k<ps.length) {i:Int} {m:HM} (hm:Zm ps (k:Int) i=some m) {s:Nat} (hs:s<k) {x:Sl} (hx:x∈tabP ps s):(inhP (ovA ps) (k:Int) x).2=((k:Int),i)↔(ovrI ps ((k:Int),i) x.1).1=true:=by
  obtain ⟨mR,hR,hvR,_⟩:=Zey hW hU s (by omega) x hx
  rw [Zll hk hR,(Zbn hW hU hR hm).2]
  constructor
  · intro h
    split at h
    · rename_i ho
      have:=(Q6 hW hU hR).1 ho
      simp only at h
      rwa [h] at this
    · obtain ⟨_,c,hc,e⟩:=tab_over hW hU (by omega:s<ps.length) hx
      have h1:=Zes hW.wo s (by rw [List.length_map];omega) c hc
      rw [h] at e
      simp only at e
      omega
  · intro h
    obtain ⟨k2,_,e,ho,_⟩:=Zjg hW hU hR h
    have:k2=k:=by
      have:=congrArg Prod.fst e
      simp only [gK] at this
      omega
    subst this
    rw [if_pos ho]
    exact e.symm
def addD (ps:List Plc) (k:Nat) (ab:List (Int×Int)):List HM→Nat→List (Int×Int)
  | [],_=>[]
  | m::r,i=>(if vrtB m.nm m.fl&&!(opnB m.fl&&ab.any fun R=>(ovrI ps ((k:Int),(i:Int)) R).1) then [((k:Int),(i:Int))] else [])++addD ps k ab r (i+1)
theorem Zb8 (ps:List Plc) (k:Nat) (ab:List (Int×Int)) (m:HM):∀ (ms:List HM) (i:Nat),addD ps k ab (ms++[m]) i=addD ps k ab ms i++(if vrtB m.nm m.fl&&!(opnB m.fl&&ab.any fun R=>(ovrI ps ((k:Int),((i+ms.length:Nat):Int)) R).1) then [((k:Int),((i+ms.length:Nat):Int))] else [])
  | [],i=>by simp [addD]
  | x::r,i=>by
    rw [List.cons_append,addD,Zb8 ps k ab m r (i+1),addD,List.append_assoc,List.length_cons,show i+1+r.length=i+(r.length+1) by omega]
theorem Zeu (ps:List Plc) (k:Nat) (ab:List (Int×Int)):∀ (ms:List HM) (i:Nat),(addD ps k ab ms i).length≤ms.length
  | [],i=>Nat.le_refl _
  | x::r,i=>by
    have:=Zeu ps k ab r (i+1)
    rw [addD,List.length_append,List.length_cons]
    split <;> simp <;> omega
theorem any_eq {α:Type} {p q:α→Bool}:∀ {l:List α},(∀ x∈l,p x=q x)→l.any p=l.any q
  | [],_=>rfl
  | x::r,h=>by
    rw [List.any_cons,List.any_cons,h x (List.mem_cons_self ..),any_eq (fun y hy=>h y (List.mem_cons_of_mem _ hy))]
theorem Zmm {ps:List Plc} (hW:WI ps) (hU:UnqM ps) {k:Nat} {q:Plc} (hq:ps[k]?=some q) {T:List Sl} (hT:T=[]∨∃ s,s<k∧T=tabP ps s):∀ (ms:List HM) (i:Nat),(∀ j m,ms[j]?=some m→q.c.ms[i+j]?=some m)→(addP (k:Int) (T.map (inhP (ovA ps) (k:Int))) ms i).map Prod.fst=addD ps k (T.map Prod.fst) ms i
  | [],i,_=>rfl
  | m::r,i,h=>by
    have hk:k<ps.length:=(List.getElem?_eq_some_iff.1 hq).1
    have h0:Zm ps (k:Int) (i:Int)=some m:=Jo hq (by have:=h 0 m rfl;simpa using this)
    have e:((T.map (inhP (ovA ps) (k:Int))).any fun x=>(x.2.1 == (k:Int))&&(x.2.2 == (i:Int)))=(T.map Prod.fst).any fun R=>(ovrI ps ((k:Int),(i:Int)) R).1:=by
      rw [List.any_map,List.any_map]
      refine any_eq fun x hx=>?_
      rcases hT with rfl|⟨s,hs,rfl⟩
      · cases hx
      · have:=sh_iff hW hU hk h0 hs hx
        show ((inhP (ovA ps) (k:Int) x).2.1 == (k:Int)&&(inhP (ovA ps) (k:Int) x).2.2 == (i:Int))=(ovrI ps ((k:Int),(i:Int)) x.1).1
        rw [Bool.eq_iff_iff,Bool.and_eq_true,beq_iff_eq,beq_iff_eq,← this]
        constructor
        · rintro ⟨h1,h2⟩;exact Prod.ext h1 h2
        · intro h1;rw [h1];exact ⟨rfl,rfl⟩
    rw [addP,addD,List.map_append,Zmm hW hU hq hT r (i+1) (fun j m hj=>by have:=h (j+1) m (by simpa using hj);rwa [show i+1+j=i+(j+1) by omega])]
    congr 1
    rw [ownP,e]
    split <;> simp
def rtsD (ps:List Plc) (k:Nat):List (Int×Int):=(tabP ps k).map Prod.fst
theorem Zle {ps:List Plc} {k:Nat} {q:Plc} (hq:ps[k]?=some q):msK ps k=q.c.ms:=by rw [msK,hq]
theorem Zke {ps:List Plc} (hW:WI ps) (hU:UnqM ps) {q:Plc} (hq:ps[0]?=some q):rtsD ps 0=[]++addD ps 0 [] q.c.ms 0:=by
  have e:tabP ps 0=grwP (ovA ps) ((0:Nat):Int) (msK ps 0) []:=rfl
  rw [rtsD,e,Zbt,Zle hq,List.map_nil]
  have:=Zmm hW hU hq (T:=[]) (.inl rfl) q.c.ms 0 (fun j m hj=>by rwa [Nat.zero_add])
  rw [this]
  rfl
theorem Zkf {ps:List Plc} (hW:WI ps) (hU:UnqM ps) {k:Nat} {q:Plc} (hq:ps[k]?=some q) (h0:0<k):spO (ps.map nd) k<k∧rtsD ps k=rtsD ps (spO (ps.map nd) k)++addD ps k (rtsD ps (spO (ps.map nd) k)) q.c.ms 0:=by
  have hk:k<ps.length:=(List.getElem?_eq_some_iff.1 hq).1
  have hs:spO (ps.map nd) k<k:=hW.wo.spLt (by rw [List.length_map];exact hk) h0
  refine ⟨hs,?_⟩
  rw [rtsD,Jd hW hk h0,Zbt,Zle hq,Zmm hW hU hq (.inr ⟨_,hs,rfl⟩) q.c.ms 0 (fun j m hj=>by rwa [Nat.zero_add])]
  rfl
theorem rts_len {ps:List Plc} (hW:WI ps) {k:Nat} (hk:k<ps.length):(rtsD ps k).length≤300000000:=by
  rw [rtsD,List.length_map];exact Za2 hW hk
theorem Zkd {ps:List Plc} (hW:WI ps) (hU:UnqM ps) {k:Nat} {q:Plc} (hq:ps[k]?=some q) {x:Sl} (hx:x∈tabP ps k):firI ps (k:Int) x.1=(x.2,0):=by
  obtain ⟨m,hm,_,hF⟩:=Zey hW hU k (List.getElem?_eq_some_iff.1 hq).1 x hx
  rw [Zgi hW hU hm hq,hF]
theorem callR9ov (vs:Array Value) (w:World):(callFunc 54 vs).run Tryz.prog w=.ok (.enter 54 vs) w:=by simp [go_sem]
theorem rab_at {w:World} {aa:Option Addr} {A ca:Nat} {ab:List (Int×Int)} (h:Rds w (.slice aa A ca) A 2 (Zn ab)) {j:Nat} {R:Int×Int} (hR:ab[j]?=some R):∃ g o,aa=some ⟨g,o,none⟩∧(g<w.heap.size∧w.cell? ⟨g,o+j * 2,none⟩=some (.int .i64 R.1))∧w.cell? ⟨g,o+j * 2+1,none⟩=some (.int .i64 R.2):=by
  have hl:j<ab.length:=(List.getElem?_eq_some_iff.1 hR).1
  have hlen:=h.len
  rw [Zf6] at hlen
  rcases h.val with ⟨e,e2⟩|⟨g,o,cap,e,_,_,hg,hc⟩
  · omega
  · injection e with e1 _ _
    refine ⟨g,o,e1,⟨hg,hc (j * 2) _ (Zec _ _ _ hR).1⟩,?_⟩
    have:=hc (j * 2+1) _ (Zec _ _ _ hR).2
    rwa [← Nat.add_assoc] at this
theorem rts_s (ps:List Plc) (W:World) (b g CL cap k:Nat) (am:Option Addr) (n cm:Nat) (ms:List HM) (ab:List (Int×Int)) (A:Nat) (HAL:Hid (ab.length=A)) (hA:A≤300000000) (s:Nat) (hk0:¬ (k:Int)=0) (HS:Hid (∀ w,Below W.heap.size W w→Calls Tryz.prog 53 #[.pointer (some ⟨b,0,none⟩),.int .i64 (k:Int)] w fun e w'=>e=.returned (.tuple #[.int .i64 (s:Int),.int .i64 0])∧w'=w)) (HR:Hid (∀ w,Below W.heap.size W w→Calls Tryz.prog 27 #[.pointer (some ⟨b,0,none⟩),.int .i64 (s:Int)] w fun e w'=>(∃ v,e=.returned v∧w'.ownsRow w.heap.size 39 2 v ab.length (Zn ab))∧Below w.heap.size w w'))
    (b0:W.cell? ⟨b,0,none⟩=some (.slice (some ⟨g,0,none⟩) CL cap)) (hbl:b<W.heap.size) (hgl:g<W.heap.size) (hkI:(k:Int)<(CL:Int)) (c5:W.cell? ⟨g,k * 6+5,none⟩=some (.slice am n cm)) (hn:n≤1000000) (HNL:Hid (ms.length=n))
    (HMS:Hid (∀ (j:Nat) (m:HM),ms[j]?=some m→∃ bk o,am=some ⟨bk,o,none⟩∧bk<W.heap.size∧W.cell? ⟨bk,o+j * 6+2,none⟩=some (.int .i64 m.fl)))
    (HV:Hid (∀ (j:Nat) (m:HM),ms[j]?=some m→∀ w,Below W.heap.size W w→Calls Tryz.prog 36 #[.pointer (some ⟨b,0,none⟩),.agg #[.int .i64 (k:Int),.int .i64 (j:Int)]] w fun e w'=>e=.returned (.bool (vrtB m.nm m.fl))∧Below w.heap.size w w'))
    (HO:Hid (∀ (j:Nat) (m:HM),ms[j]?=some m→∀ R∈ab,∀ w,Below W.heap.size W w→Calls Tryz.prog 54 #[.pointer (some ⟨b,0,none⟩),.agg #[.int .i64 (k:Int),.int .i64 (j:Int)],.agg #[.int .i64 R.1,.int .i64 R.2]] w fun e w'=>(∃ E:Int,e=.returned (.tuple #[.bool (ovrI ps ((k:Int),(j:Int)) R).1,.int .i64 E]))∧Below w.heap.size w w')) :
    Calls Tryz.prog 27 #[.pointer (some ⟨b,0,none⟩),.int .i64 (k:Int)] W fun e w'=>(∃ v,e=.returned v∧w'.ownsRow W.heap.size 39 2 v (ab++addD ps k ab ms 0).length (Zn (ab++addD ps k ab ms 0)))∧Below W.heap.size W w':=by
  obtain ⟨i0,hi0,hz0,hz1,hz2⟩:=info_parts Tryz.hinfoD
  have B0:Hid (W.cell? ⟨b,0,none⟩=some (.slice (some ⟨g,0,none⟩) CL cap)):=b0
  have C5:Hid (W.cell? ⟨g,k * 6+5,none⟩=some (.slice am n cm)):=c5
  go_enter Tryz.func27,Tryz.ntmps27
  have hkn:¬ k=0:=by omega
  have hk1:((k:Int) == 0)=false:=by simp;exact hkn
  go_wp2_with (first|(go_at_call 53;refine (HS.out _ (Below.refl _ _)).mono ?_;rintro e w9 ⟨rfl,hw9⟩;rw [hw9];clear hw9 w9 HS)|(go_at_call 27;refine (HR.out _ (Below.refl _ _)).mono ?_;rintro e V ⟨⟨v0,rfl,ho⟩,hb⟩;rw [HAL.out] at ho;obtain ⟨aa,ca,rfl⟩:=ownv ho;have RAB:Hid (Rds V (.slice aa A ca) A 2 (Zn ab)):=Z4 ho;have BV:Hid (Below W.heap.size W V):=hb;clear ho hb HR)|(at_builtin;refine Yn rfl _ _ 60 rfl V.heap.size 39 i0 (.agg #[.int .i64 0,.int .i64 0]) 2 16 Tryz.underlying60 hi0 hz0 hz1 hz2 rfl (by decide) (.slice (some ⟨V.heap.size,0,none⟩) 0 0) 0 [] rfl (Qc _ _ (by simp) _ _ _ (by simp)) (.slice aa A ca) A (Zn ab) rfl (.inl (RAB.out.keep ((Below.refl _ _).alloc (Nat.le_refl _) _))) ?c0 ?c1 ?c2 ?c3 ?_))
  case c0=>exact Zf5 ab
  case c1=>unfold maxLen;omega
  case c2=>omega
  case c3=>simp
  intro v' w1 hown hgrow
  have hB1:Below V.heap.size V w1:=by
    refine Below.grown (w:=V.alloc (.cells #[] 39)) ((Below.refl _ V).alloc (Nat.le_refl _) _) hgrow (by simp) (fun x hx=>?_)
    cases hx
    exact Nat.le_refl _
  (try rw [Nat.zero_add] at hown)
  (try rw [List.nil_append] at hown)
  have OL:Hid (w1.ownsRow V.heap.size 39 2 v' (ab++addD ps k ab (ms.take 0) 0).length (Zn (ab++addD ps k ab (ms.take 0) 0))):=by
    rw [List.take_zero,addD,List.append_nil,HAL.out]
    exact hown
  have OB1:Hid (Below V.heap.size V w1):=hB1
  clear hown hgrow hB1
  go_wp2
  go_loopw [8,9] (fun sv iv wr=>∃ i:Nat,iv=.int .i64 i∧i≤n∧Hid (wr.ownsRow V.heap.size 39 2 sv (ab++addD ps k ab (ms.take i) 0).length (Zn (ab++addD ps k ab (ms.take i) 0)))∧Hid (Below V.heap.size V wr)) (fun _ iv _=>n - (intOf iv).toNat)
  case atStart=>exact ⟨0,rfl,Nat.zero_le _,OL,OB1⟩
  case round =>
    obtain ⟨i,rfl,hi,hO,hB⟩:=hrel
    clear OL OB1 b0 c5
    have bW:Below W.heap.size W wr:=Za BV.out hB.out
    have b0:wr.cell? ⟨b,0,none⟩=some (.slice (some ⟨g,0,none⟩) CL cap):=(bW.cell (p:=⟨b,0,none⟩) hbl).trans B0.out
    have c5:wr.cell? ⟨g,k * 6+5,none⟩=some (.slice am n cm):=(bW.cell (p:=⟨g,k * 6+5,none⟩) hgl).trans C5.out
    have hbr:b<wr.heap.size:=Nat.lt_of_lt_of_le hbl bW.size
    have hgr:g<wr.heap.size:=Nat.lt_of_lt_of_le hgl bW.size
    by_cases hlt:i<n
    · have hiI:(i:Int)<(n:Int):=by omega
      obtain ⟨m,hm⟩:∃ m,ms[i]?=some m:=⟨_,List.getElem?_eq_getElem (by rw [HNL.out];exact hlt)⟩
      obtain ⟨bk,o,rfl,hbk,hfl⟩:=HMS.out i m hm
      have hbkr:bk<wr.heap.size:=Nat.lt_of_lt_of_le hbk bW.size
      have HST:Hid ((ab++addD ps k ab (ms.take (i+1)) 0)=(ab++addD ps k ab (ms.take i) 0)++(if vrtB m.nm m.fl&&!(opnB m.fl&&ab.any fun R=>(ovrI ps ((k:Int),(i:Int)) R).1) then [((k:Int),(i:Int))] else [])):=by
        show _=_
        rw [List.take_add_one,hm,Option.toList_some,Zb8,List.append_assoc,List.length_take,Nat.min_eq_left (by rw [HNL.out];omega),Nat.zero_add]
      have hll:(ab++addD ps k ab (ms.take i) 0).length≤400000000:=by
        have h1:=Zeu ps k ab (ms.take i) 0
        rw [List.length_take] at h1
        rw [List.length_append,HAL.out]
        omega
      obtain ⟨LS,hLS⟩:∃ LS,(ab++addD ps k ab (ms.take i) 0)=LS:=⟨_,rfl⟩
      rw [hLS] at hO HST hll
      obtain ⟨la,lc,rfl⟩:=ownv hO.out
      have HVi:Hid (∀ w,Below W.heap.size W w→Calls Tryz.prog 36 #[.pointer (some ⟨b,0,none⟩),.agg #[.int .i64 (k:Int),.int .i64 (i:Int)]] w fun e w'=>e=.returned (.bool (vrtB m.nm m.fl))∧Below w.heap.size w w'):=HV.out i m hm
      have HOi:Hid (∀ R∈ab,∀ w,Below W.heap.size W w→Calls Tryz.prog 54 #[.pointer (some ⟨b,0,none⟩),.agg #[.int .i64 (k:Int),.int .i64 (i:Int)],.agg #[.int .i64 R.1,.int .i64 R.2]] w fun e w'=>(∃ E:Int,e=.returned (.tuple #[.bool (ovrI ps ((k:Int),(i:Int)) R).1,.int .i64 E]))∧Below w.heap.size w w'):=HO.out i m hm
      have HFL:Hid (W.cell? ⟨bk,o+i * 6+2,none⟩=some (.int .i64 m.fl)):=hfl
      have H1:Hid (∀ w:World,Calls Tryz.prog 46 #[.int .i64 m.fl,.int .i64 1] w fun e w'=>e=.returned (.bool (hasI m.fl 1))∧w'=w):=Z5 m.fl 1
      have H4:Hid (∀ w:World,Calls Tryz.prog 46 #[.int .i64 m.fl,.int .i64 4] w fun e w'=>e=.returned (.bool (hasI m.fl 4))∧w'=w):=Z5 m.fl 4
      rw [Zk6] at HST
      clear hLS hm hfl
      generalize vrtB m.nm m.fl=vb at *
      generalize hasI m.fl 1=h1 at *
      generalize hasI m.fl 4=h4 at *
      obtain ⟨MF,hMF⟩:∃ MF,m.fl=MF:=⟨_,rfl⟩
      rw [hMF] at HFL H1 H4
      clear hMF
      cases vb
      · go_wp2_with (go_at_call 36;refine (HVi.out _ (Za BV.out (sqE hB))).mono ?_;rintro e w2 ⟨rfl,hb⟩;have OL:Hid (w2.ownsRow V.heap.size 39 2 (.slice la LS.length lc) LS.length (Zn LS)):=Zc (hO.out.alloc _) hb;have B2:Hid (Below V.heap.size V w2):=Za (sqE hB) hb;clear hb HVi)
        exact ⟨⟨i+1,by simp,by omega,(by have e:=HST.out;simp only [Bool.false_and,Bool.false_eq_true,↓reduceIte,List.append_nil] at e;rw [e];exact OL),B2⟩,by simp [intOf];omega⟩
      · go_wp2_with (go_at_call 36;refine (HVi.out _ (Za BV.out (sqE hB))).mono ?_;rintro e w2 ⟨rfl,hb⟩;have mmd:=kp2 (n:=wr.heap.size) hb (by first|omega|(simp;try omega)) (Zk _ _);(try clear mmB mm0 mm1 mmf mmL mmN);obtain ⟨mmB,mm0,mm1,mmf,mmL,mmN⟩:=mmd;have OL:Hid (w2.ownsRow V.heap.size 39 2 (.slice la LS.length lc) LS.length (Zn LS)):=Zc (hO.out.alloc _) hb;have B2:Hid (Below V.heap.size V w2):=Za (sqE hB) hb;have bW2:Below W.heap.size W w2:=Za BV.out B2.out;clear b0 c5;have b0:w2.cell? ⟨b,0,none⟩=some (.slice (some ⟨g,0,none⟩) CL cap):=(bW2.cell (p:=⟨b,0,none⟩) hbl).trans B0.out;have c5:w2.cell? ⟨g,k * 6+5,none⟩=some (.slice (some ⟨bk,o,none⟩) n cm):=(bW2.cell (p:=⟨g,k * 6+5,none⟩) hgl).trans C5.out;have fl2:w2.cell? ⟨bk,o+i * 6+2,none⟩=some (.int .i64 MF):=(bW2.cell (p:=⟨bk,o+i * 6+2,none⟩) hbk).trans HFL.out;have BW2:Hid (Below W.heap.size W w2):=bW2;have hbr2:b<w2.heap.size:=Nat.lt_of_lt_of_le hbl bW2.size;have hgr2:g<w2.heap.size:=Nat.lt_of_lt_of_le hgl bW2.size;have hbk2:bk<w2.heap.size:=Nat.lt_of_lt_of_le hbk bW2.size;have MB:Hid (w2.heap[wr.heap.size]?=some (.cells #[.int .i64 (k:Int),.int .i64 (i:Int)] 39 (0,0))):=mmB.out;clear hb HVi bW2)
        cases h1
        case' false=>cases h4
        case false.false =>
          go_wp2_with (first|(go_at_call 46;refine (H1.out _).mono ?_;rintro e w9 ⟨rfl,hw9⟩;rw [hw9];clear hw9 w9 H1)|(go_at_call 46;refine (H4.out _).mono ?_;rintro e w9 ⟨rfl,hw9⟩;rw [hw9];clear hw9 w9 H4)|(at_builtin;refine wpList_append_own _ rfl _ _ 60 rfl V.heap.size 39 i0 (.agg #[.int .i64 0,.int .i64 0]) 2 16 Tryz.underlying60 hi0 hz0 hz1 hz2 rfl (by decide) (.slice la LS.length lc) LS.length (Zn LS) rfl (OL.out.alloc _) ⟨w2.heap.size,0,none⟩ 1 1 [.int .i64 (k:Int),.int .i64 (i:Int)] rfl rfl ?c1 ?c2 ?c3 ?c4 ?c5 ?_))
          case c1=>exact World.news_of_block (cs:=#[.int .i64 (k:Int),.int .i64 (i:Int)]) (Zk _ _)
          case c2=>intro u hu;simp at hu;rcases hu with rfl|rfl <;> rfl
          case c3=>unfold maxLen;omega
          case c4=>omega
          case c5=>have:=B2.out.size;simp;omega
          intro v5 w5 hown hgrow _
          have hb5:Hid (Below V.heap.size V w5):=by
            refine (B2.out.alloc B2.out.size _).grown hgrow (by have:=B2.out.size;simp;omega) (fun z hz=>?_)
            exact (OL.out.lt z hz).1
          go_wp2
          exact ⟨⟨i+1,by simp,by omega,(by have e:=HST.out;simp only [Bool.or_self,Bool.false_and,Bool.not_false,Bool.and_self,↓reduceIte] at e;rw [e,List.length_append,List.length_singleton,Xf];exact hown),hb5⟩,by simp [intOf];omega⟩
        all_goals
          have HSU:Hid ((ab++addD ps k ab (ms.take (i+1)) 0)=LS++(if !(ab.any fun R=>(ovrI ps ((k:Int),(i:Int)) R).1) then [((k:Int),(i:Int))] else [])):=(by have e:=HST.out;simp only [Bool.true_and,Bool.or_true,Bool.true_or] at e;exact e)
          go_wp2_with (first|(go_at_call 46;refine (H1.out _).mono ?_;rintro e w9 ⟨rfl,hw9⟩;rw [hw9];clear hw9 w9 H1)|(go_at_call 46;refine (H4.out _).mono ?_;rintro e w9 ⟨rfl,hw9⟩;rw [hw9];clear hw9 w9 H4))
          clear HST b0 c5 fl2
          obtain ⟨wx,hwx⟩:∃ wx,wx=wr:=⟨_,rfl⟩
          subst hwx
          go_loopw [11,13] (fun sv jv wr=>∃ j:Nat,sv=.bool ((ab.take j).any fun R=>(ovrI ps ((k:Int),(i:Int)) R).1)∧jv=.int .i64 j∧j≤A∧Hid (Below w2.heap.size w2 wr)) (fun _ jv _=>A - (intOf jv).toNat)
          case atStart=>exact ⟨0,rfl,rfl,Nat.zero_le _,Below.refl _ _⟩
          case round =>
            obtain ⟨j,rfl,rfl,hj,hC⟩:=hrel
            clear mmB mm0 mm1 mmf mmL mmN
            have mmL0:wx.heap.size<w2.heap.size:=(Array.getElem?_eq_some_iff.1 MB.out).1
            obtain ⟨mmB,mm0,mm1,mmf,mmL,mmN⟩:=kp2 (n:=wx.heap.size) hC.out mmL0 MB.out
            by_cases hlj:j<A
            · have hjI:(j:Int)<(A:Int):=by omega
              obtain ⟨R,hR⟩:∃ R,ab[j]?=some R:=⟨_,List.getElem?_eq_getElem (by rw [HAL.out];exact hlj)⟩
              have HOj:Hid (∀ w,Below W.heap.size W w→Calls Tryz.prog 54 #[.pointer (some ⟨b,0,none⟩),.agg #[.int .i64 (k:Int),.int .i64 (i:Int)],.agg #[.int .i64 R.1,.int .i64 R.2]] w fun e w'=>(∃ E:Int,e=.returned (.tuple #[.bool (ovrI ps ((k:Int),(i:Int)) R).1,.int .i64 E]))∧Below w.heap.size w w'):=HOi.out R (List.mem_of_getElem? hR)
              obtain ⟨g2,o2,hg2,cx0,cx1⟩:=rab_at RAB.out hR
              subst hg2
              have bV:Below V.heap.size V wr:=Za B2.out hC.out
              have g2V:g2<V.heap.size:=cx0.1
              have cy0:wr.cell? ⟨g2,o2+j * 2,none⟩=some (.int .i64 R.1):=(bV.cell (p:=⟨g2,o2+j * 2,none⟩) g2V).trans cx0.2
              have cy1:wr.cell? ⟨g2,o2+j * 2+1,none⟩=some (.int .i64 R.2):=(bV.cell (p:=⟨g2,o2+j * 2+1,none⟩) g2V).trans cx1
              have g2r:g2<wr.heap.size:=Nat.lt_of_lt_of_le g2V bV.size
              have g2n:¬ g2=wr.heap.size:=by omega
              have HSJ:Hid ((ab.take (j+1)).any (fun R=>(ovrI ps ((k:Int),(i:Int)) R).1)=((ab.take j).any (fun R=>(ovrI ps ((k:Int),(i:Int)) R).1)||(ovrI ps ((k:Int),(i:Int)) R).1)):=by
                show _=_
                rw [List.take_add_one,hR,Option.toList_some,List.any_append];simp
              have BWr:Hid (Below W.heap.size W wr):=Za BW2.out hC.out
              clear cx0 cx1 bV hR HOi
              generalize (ab.take j).any (fun R=>(ovrI ps ((k:Int),(i:Int)) R).1)=s1 at *
              generalize (ovrI ps ((k:Int),(i:Int)) R).1=s2 at *
              go_upto_region 17 with fail
              go_region_law (refine Zcm rfl 54 callR9ov (.tmp 75) (.tmp 76) (.tmp 80) 26 39 39 rfl (.pointer (some ⟨b,0,none⟩)) (.agg #[.int .i64 (k:Int),.int .i64 (i:Int)]) (.agg #[.int .i64 R.1,.int .i64 R.2]) (by simp [Act.eval]) (by simp [Act.eval]) (by simp [Act.eval]) (HOj.out _ BWr.out.drew) ?_;rintro e w3 ⟨⟨E,rfl⟩,hb⟩;refine ⟨_,rfl,?_⟩;have C3:Hid (Below w2.heap.size w2 w3):=Za hC.out.drew hb;clear hb HOj)
              all_goals (cases s1 <;> go_wp2)
              all_goals exact ⟨⟨j+1,(by rw [HSJ.out];simp),by simp,by omega,C3⟩,by simp [intOf];omega⟩
            · have e:j=A:=by omega
              subst e
              have eT:ab.take j=ab:=List.take_of_length_le (by rw [HAL.out];exact Nat.le_refl _)
              rw [eT]
              clear eT
              have OL2:Hid (wr.ownsRow V.heap.size 39 2 (.slice la LS.length lc) LS.length (Zn LS)):=Zc OL.out hC.out
              have B4:Hid (Below V.heap.size V wr):=Za B2.out hC.out
              clear OL B2
              have HSU2:=HSU.out
              generalize (ab.any fun R=>(ovrI ps ((k:Int),(i:Int)) R).1)=sh at HSU2 ⊢
              have HSU3:Hid _:=HSU2
              clear HSU HSU2 HOi
              cases sh
              · go_wp2_with (at_builtin;refine wpList_append_own _ rfl _ _ 60 rfl V.heap.size 39 i0 (.agg #[.int .i64 0,.int .i64 0]) 2 16 Tryz.underlying60 hi0 hz0 hz1 hz2 rfl (by decide) (.slice la LS.length lc) LS.length (Zn LS) rfl (OL2.out.alloc _) ⟨wr.heap.size,0,none⟩ 1 1 [.int .i64 (k:Int),.int .i64 (i:Int)] rfl rfl ?c1 ?c2 ?c3 ?c4 ?c5 ?_)
                case c1=>exact World.news_of_block (cs:=#[.int .i64 (k:Int),.int .i64 (i:Int)]) (Zk _ _)
                case c2=>intro u hu;simp at hu;rcases hu with rfl|rfl <;> rfl
                case c3=>unfold maxLen;omega
                case c4=>omega
                case c5=>have:=B4.out.size;simp;omega
                intro v5 w5 hown hgrow _
                have hb5:Hid (Below V.heap.size V w5):=by
                  refine (B4.out.alloc B4.out.size _).grown hgrow (by have:=B4.out.size;simp;omega) (fun z hz=>?_)
                  exact (OL2.out.lt z hz).1
                go_wp2
                exact ⟨⟨i+1,by simp,by omega,(by have e:=HSU3.out;simp only [Bool.not_false,↓reduceIte] at e;rw [e,List.length_append,List.length_singleton,Xf];exact hown),hb5⟩,by simp [intOf];omega⟩
              · go_wp2
                exact ⟨⟨i+1,by simp,by omega,(by have e:=HSU3.out;simp only [Bool.not_true,Bool.false_eq_true,↓reduceIte,List.append_nil] at e;rw [e];exact OL2),B4⟩,by simp [intOf];omega⟩
    · have e:i=n:=by omega
      subst e
      rw [List.take_of_length_le (by rw [HNL.out];exact Nat.le_refl _)] at hO
      obtain ⟨la,lc,e9⟩:=ownv hO.out
      go_wp2
      exact bodyPost_ret (results_tmp rfl _ _ _) rfl ⟨⟨_,rfl,Go.Joins.ownsRow_le hO.out BV.out.size⟩,Za BV.out hB.out⟩
theorem rts_0 (ps:List Plc) (W:World) (b g CL cap:Nat) (am:Option Addr) (n cm:Nat) (ms:List HM) (ab:List (Int×Int)) (hab:ab=[])
    (b0:W.cell? ⟨b,0,none⟩=some (.slice (some ⟨g,0,none⟩) CL cap)) (hbl:b<W.heap.size) (hgl:g<W.heap.size) (hkI:(0:Int)<(CL:Int)) (c5:W.cell? ⟨g,5,none⟩=some (.slice am n cm)) (hn:n≤1000000) (HNL:Hid (ms.length=n))
    (HMS:Hid (∀ (j:Nat) (m:HM),ms[j]?=some m→∃ bk o,am=some ⟨bk,o,none⟩∧bk<W.heap.size∧W.cell? ⟨bk,o+j * 6+2,none⟩=some (.int .i64 m.fl)))
    (HV:Hid (∀ (j:Nat) (m:HM),ms[j]?=some m→∀ w,Below W.heap.size W w→Calls Tryz.prog 36 #[.pointer (some ⟨b,0,none⟩),.agg #[.int .i64 (0:Int),.int .i64 (j:Int)]] w fun e w'=>e=.returned (.bool (vrtB m.nm m.fl))∧Below w.heap.size w w'))
    (HO:Hid (∀ (j:Nat) (m:HM),ms[j]?=some m→∀ R∈ab,∀ w,Below W.heap.size W w→Calls Tryz.prog 54 #[.pointer (some ⟨b,0,none⟩),.agg #[.int .i64 (0:Int),.int .i64 (j:Int)],.agg #[.int .i64 R.1,.int .i64 R.2]] w fun e w'=>(∃ E:Int,e=.returned (.tuple #[.bool (ovrI ps ((0:Int),(j:Int)) R).1,.int .i64 E]))∧Below w.heap.size w w')) :
    Calls Tryz.prog 27 #[.pointer (some ⟨b,0,none⟩),.int .i64 (0:Int)] W fun e w'=>(∃ v,e=.returned v∧w'.ownsRow W.heap.size 39 2 v (ab++addD ps 0 ab ms 0).length (Zn (ab++addD ps 0 ab ms 0)))∧Below W.heap.size W w':=by
  obtain ⟨i0,hi0,hz0,hz1,hz2⟩:=info_parts Tryz.hinfoD
  have B0:Hid (W.cell? ⟨b,0,none⟩=some (.slice (some ⟨g,0,none⟩) CL cap)):=b0
  have C5:Hid (W.cell? ⟨g,5,none⟩=some (.slice am n cm)):=c5
  go_enter Tryz.func27,Tryz.ntmps27
  have HAL:Hid (ab.length=0):=by rw [hab];exact rfl
  have RAB:Hid (Rds W (.slice none 0 0) 0 2 (Zn ab)):=by rw [hab];exact ⟨rfl,.inl ⟨rfl,rfl⟩⟩
  have BV:Hid (Below W.heap.size W W):=Below.refl _ _
  have hA:0≤300000000:=by decide
  clear hab
  go_wp2_with (at_builtin;refine Yn rfl _ _ 60 rfl W.heap.size 39 i0 (.agg #[.int .i64 0,.int .i64 0]) 2 16 Tryz.underlying60 hi0 hz0 hz1 hz2 rfl (by decide) (.slice (some ⟨W.heap.size,0,none⟩) 0 0) 0 [] rfl (Qc _ _ (by simp) _ _ _ (by simp)) (.slice none 0 0) 0 (Zn ab) rfl (.inl (RAB.out.keep ((Below.refl _ _).alloc (Nat.le_refl _) _))) ?c0 ?c1 ?c2 ?c3 ?_)
  case c0=>exact Zf5 ab
  case c1=>unfold maxLen;omega
  case c2=>omega
  case c3=>simp
  intro v' w1 hown hgrow
  have hB1:Below W.heap.size W w1:=by
    refine Below.grown (w:=W.alloc (.cells #[] 39)) ((Below.refl _ W).alloc (Nat.le_refl _) _) hgrow (by simp) (fun x hx=>?_)
    cases hx
    exact Nat.le_refl _
  (try rw [Nat.zero_add] at hown)
  (try rw [List.nil_append] at hown)
  have OL:Hid (w1.ownsRow W.heap.size 39 2 v' (ab++addD ps 0 ab (ms.take 0) 0).length (Zn (ab++addD ps 0 ab (ms.take 0) 0))):=by
    rw [List.take_zero,addD,List.append_nil,HAL.out]
    exact hown
  have OB1:Hid (Below W.heap.size W w1):=hB1
  clear hown hgrow hB1
  go_wp2
  go_loopw [8,9] (fun sv iv wr=>∃ i:Nat,iv=.int .i64 i∧i≤n∧Hid (wr.ownsRow W.heap.size 39 2 sv (ab++addD ps 0 ab (ms.take i) 0).length (Zn (ab++addD ps 0 ab (ms.take i) 0)))∧Hid (Below W.heap.size W wr)) (fun _ iv _=>n - (intOf iv).toNat)
  case atStart=>exact ⟨0,rfl,Nat.zero_le _,OL,OB1⟩
  case round =>
    obtain ⟨i,rfl,hi,hO,hB⟩:=hrel
    clear OL OB1 b0 c5
    have bW:Below W.heap.size W wr:=Za BV.out hB.out
    have b0:wr.cell? ⟨b,0,none⟩=some (.slice (some ⟨g,0,none⟩) CL cap):=(bW.cell (p:=⟨b,0,none⟩) hbl).trans B0.out
    have c5:wr.cell? ⟨g,5,none⟩=some (.slice am n cm):=(bW.cell (p:=⟨g,5,none⟩) hgl).trans C5.out
    have hbr:b<wr.heap.size:=Nat.lt_of_lt_of_le hbl bW.size
    have hgr:g<wr.heap.size:=Nat.lt_of_lt_of_le hgl bW.size
    by_cases hlt:i<n
    · have hiI:(i:Int)<(n:Int):=by omega
      obtain ⟨m,hm⟩:∃ m,ms[i]?=some m:=⟨_,List.getElem?_eq_getElem (by rw [HNL.out];exact hlt)⟩
      obtain ⟨bk,o,rfl,hbk,hfl⟩:=HMS.out i m hm
      have hbkr:bk<wr.heap.size:=Nat.lt_of_lt_of_le hbk bW.size
      have HST:Hid ((ab++addD ps 0 ab (ms.take (i+1)) 0)=(ab++addD ps 0 ab (ms.take i) 0)++(if vrtB m.nm m.fl&&!(opnB m.fl&&ab.any fun R=>(ovrI ps ((0:Int),(i:Int)) R).1) then [((0:Int),(i:Int))] else [])):=by
        show _=_
        rw [List.take_add_one,hm,Option.toList_some,Zb8,List.append_assoc,List.length_take,Nat.min_eq_left (by rw [HNL.out];omega),Nat.zero_add]
        all_goals rfl
      have hll:(ab++addD ps 0 ab (ms.take i) 0).length≤400000000:=by
        have h1:=Zeu ps 0 ab (ms.take i) 0
        rw [List.length_take] at h1
        rw [List.length_append,HAL.out]
        omega
      obtain ⟨LS,hLS⟩:∃ LS,(ab++addD ps 0 ab (ms.take i) 0)=LS:=⟨_,rfl⟩
      rw [hLS] at hO HST hll
      obtain ⟨la,lc,rfl⟩:=ownv hO.out
      have HVi:Hid (∀ w,Below W.heap.size W w→Calls Tryz.prog 36 #[.pointer (some ⟨b,0,none⟩),.agg #[.int .i64 (0:Int),.int .i64 (i:Int)]] w fun e w'=>e=.returned (.bool (vrtB m.nm m.fl))∧Below w.heap.size w w'):=HV.out i m hm
      have HOi:Hid (∀ R∈ab,∀ w,Below W.heap.size W w→Calls Tryz.prog 54 #[.pointer (some ⟨b,0,none⟩),.agg #[.int .i64 (0:Int),.int .i64 (i:Int)],.agg #[.int .i64 R.1,.int .i64 R.2]] w fun e w'=>(∃ E:Int,e=.returned (.tuple #[.bool (ovrI ps ((0:Int),(i:Int)) R).1,.int .i64 E]))∧Below w.heap.size w w'):=HO.out i m hm
      have HFL:Hid (W.cell? ⟨bk,o+i * 6+2,none⟩=some (.int .i64 m.fl)):=hfl
      have H1:Hid (∀ w:World,Calls Tryz.prog 46 #[.int .i64 m.fl,.int .i64 1] w fun e w'=>e=.returned (.bool (hasI m.fl 1))∧w'=w):=Z5 m.fl 1
      have H4:Hid (∀ w:World,Calls Tryz.prog 46 #[.int .i64 m.fl,.int .i64 4] w fun e w'=>e=.returned (.bool (hasI m.fl 4))∧w'=w):=Z5 m.fl 4
      rw [Zk6] at HST
      clear hLS hm hfl
      generalize vrtB m.nm m.fl=vb at *
      generalize hasI m.fl 1=h1 at *
      generalize hasI m.fl 4=h4 at *
      obtain ⟨MF,hMF⟩:∃ MF,m.fl=MF:=⟨_,rfl⟩
      rw [hMF] at HFL H1 H4
      clear hMF
      cases vb
      · go_wp2_with (go_at_call 36;refine (HVi.out _ (Za BV.out (sqE hB))).mono ?_;rintro e w2 ⟨rfl,hb⟩;have OL:Hid (w2.ownsRow W.heap.size 39 2 (.slice la LS.length lc) LS.length (Zn LS)):=Zc (hO.out.alloc _) hb;have B2:Hid (Below W.heap.size W w2):=Za (sqE hB) hb;clear hb HVi)
        exact ⟨⟨i+1,by simp,by omega,(by have e:=HST.out;simp only [Bool.false_and,Bool.false_eq_true,↓reduceIte,List.append_nil] at e;rw [e];exact OL),B2⟩,by simp [intOf];omega⟩
      · go_wp2_with (go_at_call 36;refine (HVi.out _ (Za BV.out (sqE hB))).mono ?_;rintro e w2 ⟨rfl,hb⟩;have mmd:=kp2 (n:=wr.heap.size) hb (by first|omega|(simp;try omega)) (Zk _ _);(try clear mmB mm0 mm1 mmf mmL mmN);obtain ⟨mmB,mm0,mm1,mmf,mmL,mmN⟩:=mmd;have OL:Hid (w2.ownsRow W.heap.size 39 2 (.slice la LS.length lc) LS.length (Zn LS)):=Zc (hO.out.alloc _) hb;have B2:Hid (Below W.heap.size W w2):=Za (sqE hB) hb;have bW2:Below W.heap.size W w2:=Za BV.out B2.out;clear b0 c5;have b0:w2.cell? ⟨b,0,none⟩=some (.slice (some ⟨g,0,none⟩) CL cap):=(bW2.cell (p:=⟨b,0,none⟩) hbl).trans B0.out;have c5:w2.cell? ⟨g,5,none⟩=some (.slice (some ⟨bk,o,none⟩) n cm):=(bW2.cell (p:=⟨g,5,none⟩) hgl).trans C5.out;have fl2:w2.cell? ⟨bk,o+i * 6+2,none⟩=some (.int .i64 MF):=(bW2.cell (p:=⟨bk,o+i * 6+2,none⟩) hbk).trans HFL.out;have BW2:Hid (Below W.heap.size W w2):=bW2;have hbr2:b<w2.heap.size:=Nat.lt_of_lt_of_le hbl bW2.size;have hgr2:g<w2.heap.size:=Nat.lt_of_lt_of_le hgl bW2.size;have hbk2:bk<w2.heap.size:=Nat.lt_of_lt_of_le hbk bW2.size;have MB:Hid (w2.heap[wr.heap.size]?=some (.cells #[.int .i64 (0:Int),.int .i64 (i:Int)] 39 (0,0))):=mmB.out;clear hb HVi bW2)
        cases h1
        case' false=>cases h4
        case false.false =>
          go_wp2_with (first|(go_at_call 46;refine (H1.out _).mono ?_;rintro e w9 ⟨rfl,hw9⟩;rw [hw9];clear hw9 w9 H1)|(go_at_call 46;refine (H4.out _).mono ?_;rintro e w9 ⟨rfl,hw9⟩;rw [hw9];clear hw9 w9 H4)|(at_builtin;refine wpList_append_own _ rfl _ _ 60 rfl W.heap.size 39 i0 (.agg #[.int .i64 0,.int .i64 0]) 2 16 Tryz.underlying60 hi0 hz0 hz1 hz2 rfl (by decide) (.slice la LS.length lc) LS.length (Zn LS) rfl (OL.out.alloc _) ⟨w2.heap.size,0,none⟩ 1 1 [.int .i64 (0:Int),.int .i64 (i:Int)] rfl rfl ?c1 ?c2 ?c3 ?c4 ?c5 ?_))
          case c1=>exact World.news_of_block (cs:=#[.int .i64 (0:Int),.int .i64 (i:Int)]) (Zk _ _)
          case c2=>intro u hu;simp at hu;rcases hu with rfl|rfl <;> rfl
          case c3=>unfold maxLen;omega
          case c4=>omega
          case c5=>have:=B2.out.size;simp;omega
          intro v5 w5 hown hgrow _
          have hb5:Hid (Below W.heap.size W w5):=by
            refine (B2.out.alloc B2.out.size _).grown hgrow (by have:=B2.out.size;simp;omega) (fun z hz=>?_)
            exact (OL.out.lt z hz).1
          go_wp2
          exact ⟨⟨i+1,by simp,by omega,(by have e:=HST.out;simp only [Bool.or_self,Bool.false_and,Bool.not_false,Bool.and_self,↓reduceIte] at e;rw [e,List.length_append,List.length_singleton,Xf];exact hown),hb5⟩,by simp [intOf];omega⟩
        all_goals
          have HSU:Hid ((ab++addD ps 0 ab (ms.take (i+1)) 0)=LS++(if !(ab.any fun R=>(ovrI ps ((0:Int),(i:Int)) R).1) then [((0:Int),(i:Int))] else [])):=(by have e:=HST.out;simp only [Bool.true_and,Bool.or_true,Bool.true_or] at e;exact e)
          go_wp2_with (first|(go_at_call 46;refine (H1.out _).mono ?_;rintro e w9 ⟨rfl,hw9⟩;rw [hw9];clear hw9 w9 H1)|(go_at_call 46;refine (H4.out _).mono ?_;rintro e w9 ⟨rfl,hw9⟩;rw [hw9];clear hw9 w9 H4))
          clear HST b0 c5 fl2
          obtain ⟨wx,hwx⟩:∃ wx,wx=wr:=⟨_,rfl⟩
          subst hwx
          go_loopw [11,13] (fun sv jv wr=>∃ j:Nat,sv=.bool ((ab.take j).any fun R=>(ovrI ps ((0:Int),(i:Int)) R).1)∧jv=.int .i64 j∧j≤0∧Hid (Below w2.heap.size w2 wr)) (fun _ jv _=>0 - (intOf jv).toNat)
          case atStart=>exact ⟨0,rfl,rfl,Nat.zero_le _,Below.refl _ _⟩
          case round =>
            obtain ⟨j,rfl,rfl,hj,hC⟩:=hrel
            clear mmB mm0 mm1 mmf mmL mmN
            have mmL0:wx.heap.size<w2.heap.size:=(Array.getElem?_eq_some_iff.1 MB.out).1
            obtain ⟨mmB,mm0,mm1,mmf,mmL,mmN⟩:=kp2 (n:=wx.heap.size) hC.out mmL0 MB.out
            by_cases hlj:j<0
            · exact absurd hlj (Nat.not_lt_zero _)
            · have e:j=0:=by omega
              subst e
              have eT:ab.take 0=ab:=List.take_of_length_le (by rw [HAL.out];exact Nat.le_refl _)
              rw [eT]
              clear eT
              have OL2:Hid (wr.ownsRow W.heap.size 39 2 (.slice la LS.length lc) LS.length (Zn LS)):=Zc OL.out hC.out
              have B4:Hid (Below W.heap.size W wr):=Za B2.out hC.out
              clear OL B2
              have HSU2:=HSU.out
              generalize (ab.any fun R=>(ovrI ps ((0:Int),(i:Int)) R).1)=sh at HSU2 ⊢
              have HSU3:Hid _:=HSU2
              clear HSU HSU2 HOi
              cases sh
              · go_wp2_with (at_builtin;refine wpList_append_own _ rfl _ _ 60 rfl W.heap.size 39 i0 (.agg #[.int .i64 0,.int .i64 0]) 2 16 Tryz.underlying60 hi0 hz0 hz1 hz2 rfl (by decide) (.slice la LS.length lc) LS.length (Zn LS) rfl (OL2.out.alloc _) ⟨wr.heap.size,0,none⟩ 1 1 [.int .i64 (0:Int),.int .i64 (i:Int)] rfl rfl ?c1 ?c2 ?c3 ?c4 ?c5 ?_)
                case c1=>exact World.news_of_block (cs:=#[.int .i64 (0:Int),.int .i64 (i:Int)]) (Zk _ _)
                case c2=>intro u hu;simp at hu;rcases hu with rfl|rfl <;> rfl
                case c3=>unfold maxLen;omega
                case c4=>omega
                case c5=>have:=B4.out.size;simp;omega
                intro v5 w5 hown hgrow _
                have hb5:Hid (Below W.heap.size W w5):=by
                  refine (B4.out.alloc B4.out.size _).grown hgrow (by have:=B4.out.size;simp;omega) (fun z hz=>?_)
                  exact (OL2.out.lt z hz).1
                go_wp2
                exact ⟨⟨i+1,by simp,by omega,(by have e:=HSU3.out;simp only [Bool.not_false,↓reduceIte] at e;rw [e,List.length_append,List.length_singleton,Xf];exact hown),hb5⟩,by simp [intOf];omega⟩
              · go_wp2
                exact ⟨⟨i+1,by simp,by omega,(by have e:=HSU3.out;simp only [Bool.not_true,Bool.false_eq_true,↓reduceIte,List.append_nil] at e;rw [e];exact OL2),B4⟩,by simp [intOf];omega⟩
    · have e:i=n:=by omega
      subst e
      rw [List.take_of_length_le (by rw [HNL.out];exact Nat.le_refl _)] at hO
      obtain ⟨la,lc,e9⟩:=ownv hO.out
      go_wp2
      exact bodyPost_ret (results_tmp rfl _ _ _) rfl ⟨⟨_,rfl,Go.Joins.ownsRow_le hO.out BV.out.size⟩,Za BV.out hB.out⟩
theorem Zjp (l:List Sl) (x:Sl):Yi (l++[x])=Yi l++[.int .i64 x.1.1,.int .i64 x.1.2,.int .i64 x.2.1,.int .i64 x.2.2]:=by simp [Yi]
theorem Zk2 (W:World) (b:Nat) (x E:Int) (f g:Bool) (hE:(f=false∧E=3)∨(f=true∧g=true∧E=23)) (HI:Hid (∀ w,Below W.heap.size W w→Calls Tryz.prog 25 #[.pointer (some ⟨b,0,none⟩),.int .i64 x] w fun e w'=>e=.returned (.bool f)∧w'=w)) (HF:Hid (∀ w,Below W.heap.size W w→Calls Tryz.prog 26 #[.pointer (some ⟨b,0,none⟩),.int .i64 x] w fun e w'=>e=.returned (.bool g)∧w'=w)):Calls Tryz.prog 10 #[.pointer (some ⟨b,0,none⟩),.int .i64 x] W fun e w'=>e=.returned (.tuple #[.slice none 0 0,.int .i64 E])∧Below W.heap.size W w':=by
  go_enter Tryz.func10,Tryz.ntmps10
  rcases hE with ⟨rfl,rfl⟩|⟨rfl,rfl,rfl⟩
  all_goals
    go_wp2_with (first|(go_at_call 25;refine (HI.out _ (Below.refl _ _)).mono ?_;rintro e w9 ⟨rfl,hw9⟩;rw [hw9];clear hw9 w9 HI)|(go_at_call 26;refine (HF.out _ (Below.refl _ _)).mono ?_;rintro e w9 ⟨rfl,hw9⟩;rw [hw9];clear hw9 w9 HF))
    exact bodyPost_ret (results_tmp2 rfl _ _ _) rfl ⟨rfl,Below.refl _ _⟩
theorem r13b_yes (W:World) (b k:Nat) (T:List Sl) (n:Nat) (HTL:Hid (T.length=n)) (hn:n≤300000000) (HI:Hid (∀ w,Below W.heap.size W w→Calls Tryz.prog 25 #[.pointer (some ⟨b,0,none⟩),.int .i64 (k:Int)] w fun e w'=>e=.returned (.bool true)∧w'=w)) (HG:Hid (∀ w,Below W.heap.size W w→Calls Tryz.prog 26 #[.pointer (some ⟨b,0,none⟩),.int .i64 (k:Int)] w fun e w'=>e=.returned (.bool false)∧w'=w))
    (HR:Hid (∀ w,Below W.heap.size W w→Calls Tryz.prog 27 #[.pointer (some ⟨b,0,none⟩),.int .i64 (k:Int)] w fun e w'=>(∃ v,e=.returned v∧w'.ownsRow w.heap.size 39 2 v n (Zn (T.map Prod.fst)))∧Below w.heap.size w w'))
    (HF:Hid (∀ (j:Nat) (x:Sl),T[j]?=some x→∀ w,Below W.heap.size W w→Calls Tryz.prog 28 #[.pointer (some ⟨b,0,none⟩),.int .i64 (k:Int),.agg #[.int .i64 x.1.1,.int .i64 x.1.2]] w fun e w'=>e=.returned (.tuple #[.agg #[.int .i64 x.2.1,.int .i64 x.2.2],.int .i64 0])∧Below w.heap.size w w')) :
    Calls Tryz.prog 10 #[.pointer (some ⟨b,0,none⟩),.int .i64 (k:Int)] W fun e w'=>(∃ v,e=.returned (.tuple #[v,.int .i64 0])∧w'.ownsRow W.heap.size 48 4 v T.length (Yi T))∧Below W.heap.size W w':=by
  obtain ⟨i0,hi0,hz0,hz1,hz2⟩:=info_parts Tryz.hinfoS4
  go_enter Tryz.func10,Tryz.ntmps10
  go_wp2_with (first|(go_at_call 25;refine (HI.out _ (Below.refl _ _)).mono ?_;rintro e w9 ⟨rfl,hw9⟩;rw [hw9];clear hw9 w9 HI)|(go_at_call 26;refine (HG.out _ (Below.refl _ _)).mono ?_;rintro e w9 ⟨rfl,hw9⟩;rw [hw9];clear hw9 w9 HG)|(go_at_call 27;refine (HR.out _ (Below.refl _ _)).mono ?_;rintro e V ⟨⟨v0,rfl,ho⟩,hb⟩;obtain ⟨aa,ca,rfl⟩:=ownv ho;have RAB:Hid (Rds V (.slice aa n ca) n 2 (Zn (T.map Prod.fst))):=Z4 ho;have BV:Hid (Below W.heap.size W V):=hb;clear ho hb HR))
  go_loopw [7,8] (fun sv iv wr=>∃ i:Nat,iv=.int .i64 i∧i≤n∧Hid (wr.ownsRow V.heap.size 48 4 sv i (Yi (T.take i)))∧Hid (Below V.heap.size V wr)) (fun _ iv _=>n - (intOf iv).toNat)
  case atStart=>exact ⟨0,rfl,Nat.zero_le _,World.ownsRow_nil _ _ _ _,Below.refl _ _⟩
  case round =>
    obtain ⟨i,rfl,hi,hO,hB⟩:=hrel
    by_cases hlt:i<n
    · have hiI:(i:Int)<(n:Int):=by omega
      obtain ⟨x,hx⟩:∃ x,T[i]?=some x:=⟨_,List.getElem?_eq_getElem (by rw [HTL.out];exact hlt)⟩
      obtain ⟨g2,o2,hg2,cx0,cx1⟩:=rab_at RAB.out (j:=i) (R:=x.1) (by rw [List.getElem?_map,hx];rfl)
      subst hg2
      have g2V:g2<V.heap.size:=cx0.1
      have g2r:g2<wr.heap.size:=Nat.lt_of_lt_of_le g2V hB.out.size
      have g2n:¬ g2=wr.heap.size:=by omega
      have cy0:wr.cell? ⟨g2,o2+i * 2,none⟩=some (.int .i64 x.1.1):=(hB.out.cell (p:=⟨g2,o2+i * 2,none⟩) g2V).trans cx0.2
      have cy1:wr.cell? ⟨g2,o2+i * 2+1,none⟩=some (.int .i64 x.1.2):=(hB.out.cell (p:=⟨g2,o2+i * 2+1,none⟩) g2V).trans cx1
      have HFi:Hid (∀ w,Below W.heap.size W w→Calls Tryz.prog 28 #[.pointer (some ⟨b,0,none⟩),.int .i64 (k:Int),.agg #[.int .i64 x.1.1,.int .i64 x.1.2]] w fun e w'=>e=.returned (.tuple #[.agg #[.int .i64 x.2.1,.int .i64 x.2.2],.int .i64 0])∧Below w.heap.size w w'):=HF.out i x hx
      have HST:Hid (Yi (T.take (i+1))=Yi (T.take i)++[.int .i64 x.1.1,.int .i64 x.1.2,.int .i64 x.2.1,.int .i64 x.2.2]):=by
        rw [List.take_add_one,hx,Option.toList_some];exact Zjp _ _
      have CX:Hid (V.cell? ⟨g2,o2+i * 2,none⟩=some (.int .i64 x.1.1)∧V.cell? ⟨g2,o2+i * 2+1,none⟩=some (.int .i64 x.1.2)):=⟨cx0.2,cx1⟩
      obtain ⟨ta,tc,rfl⟩:=ownv hO.out
      clear hx cx0 cx1
      go_wp2_with (go_at_call 28;refine (HFi.out _ (Za BV.out hB.out)).mono ?_;rintro e w2 ⟨rfl,hb⟩;have OL:Hid (w2.ownsRow V.heap.size 48 4 (.slice ta i tc) i (Yi (T.take i))):=Zc hO.out hb;have B2:Hid (Below V.heap.size V w2):=Za hB.out hb;clear hb HFi cy0 cy1)
      have bU:Below V.heap.size V (w2.alloc (.cells #[.int .i64 x.2.1,.int .i64 x.2.2] 39)):=B2.out.alloc B2.out.size _
      have hU0:(w2.alloc (.cells #[.int .i64 x.2.1,.int .i64 x.2.2] 39)).heap[w2.heap.size]?=some (.cells #[.int .i64 x.2.1,.int .i64 x.2.2] 39 (0,0)):=Zk _ _
      have hUs:(w2.alloc (.cells #[.int .i64 x.2.1,.int .i64 x.2.2] 39)).heap.size=w2.heap.size+1:=by simp
      have OU:Hid ((w2.alloc (.cells #[.int .i64 x.2.1,.int .i64 x.2.2] 39)).ownsRow V.heap.size 48 4 (.slice ta i tc) i (Yi (T.take i))):=OL.out.alloc _
      have hw2:V.heap.size≤w2.heap.size:=B2.out.size
      generalize (w2.alloc (.cells #[.int .i64 x.2.1,.int .i64 x.2.2] 39))=U at *
      have BU:Hid (Below V.heap.size V U):=bU
      have cz0:U.cell? ⟨g2,o2+i * 2,none⟩=some (.int .i64 x.1.1):=(bU.cell (p:=⟨g2,o2+i * 2,none⟩) g2V).trans CX.out.1
      have cz1:U.cell? ⟨g2,o2+i * 2+1,none⟩=some (.int .i64 x.1.2):=(bU.cell (p:=⟨g2,o2+i * 2+1,none⟩) g2V).trans CX.out.2
      obtain ⟨m0,m1,mf,mL⟩:=rw2 hU0
      have mN:¬ w2.heap.size=U.heap.size:=by omega
      have gN:¬ g2=U.heap.size:=by omega
      have gL:g2<U.heap.size:=by omega
      clear bU hU0 OL B2
      go_upto_region 11 with fail
      go_region_law (refine step_append_lies _ rfl (.tmp 37) (.tmp 44) 28 rfl V.heap.size 48 i0 (.agg #[.int .i64 0,.int .i64 0,.int .i64 0,.int .i64 0]) 4 32 Tryz.underlying28 hi0 hz0 hz1 hz2 rfl (by decide) (.slice ta i tc) i (Yi (T.take i)) (by simp [Act.eval]) ((OU.out.drew).alloc _) ⟨U.heap.size,0,none⟩ 1 1 [.int .i64 x.1.1,.int .i64 x.1.2,.int .i64 x.2.1,.int .i64 x.2.2] (by simp [Act.eval]) rfl (World.news_of_block (heap_alloc_new _ _)) ?_ (by decide) ?_ ?_ ?_ _ rfl ?_;(intro u hu;simp at hu;rcases hu with rfl|rfl|rfl|rfl <;> rfl);(unfold maxLen;omega);omega;(simp;omega);intro g5 cap5 w5 hown hgrow _ _;have O5:Hid (w5.ownsRow V.heap.size 48 4 (.slice (some ⟨g5,0,none⟩) (i+1) cap5) (i+1) (Yi (T.take i)++[.int .i64 x.1.1,.int .i64 x.1.2,.int .i64 x.2.1,.int .i64 x.2.2])):=hown;have B5:Hid (Below V.heap.size V w5):=(by refine Below.grown (BU.out.drew.alloc (by simpa using BU.out.size) _) hgrow (by have:=BU.out.size;simp;omega) (fun z hz=>?_);exact (OU.out.lt z hz).1);clear hown hgrow)
      all_goals go_wp2
      all_goals exact ⟨⟨i+1,by simp,by omega,(by rw [HST.out];exact O5),B5⟩,by simp [intOf];omega⟩
    · have e:i=n:=by omega
      subst e
      rw [List.take_of_length_le (by rw [HTL.out];exact Nat.le_refl _)] at hO
      obtain ⟨ta,tc,e9⟩:=ownv hO.out
      go_wp2
      exact bodyPost_ret (results_tmp2 rfl _ _ _) rfl ⟨⟨_,rfl,(by rw [HTL.out];exact Go.Joins.ownsRow_le hO.out BV.out.size)⟩,Za BV.out hB.out⟩
theorem r13rts_c {cs:List Cls} {ps:List Plc} (ht:TwW cs ps) (hJ:WJ ps) (hS:SndI ps) (hU:UnqM ps) (hz:∀ c∈cs,c.nm.size≤maxLen):∀ (k:Nat) (q:Plc),ps[k]?=some q→ifcI ps (k:Int)=false→∀ (b:Nat) (W:World),RAt b cs W→Calls Tryz.prog 27 #[.pointer (some ⟨b,0,none⟩),.int .i64 (k:Int)] W fun e w'=>(∃ v,e=.returned v∧w'.ownsRow W.heap.size 39 2 v (rtsD ps k).length (Zn (rtsD ps k)))∧Below W.heap.size W w':=by
  intro k
  induction k using Nat.strongRecOn with
  | ind k ih =>
    intro q hq hif b W h
    have hW:=ht.wi
    have hkl:k<ps.length:=(List.getElem?_eq_some_iff.1 hq).1
    obtain ⟨c,hc,hqc⟩:=ht.tw.at' hq
    have hms:q.c.ms=c.ms.map hmOf:=by rw [hqc];rfl
    obtain ⟨g,cap,vi,vm,b0,hbl,hgl,_,_,_,_,_,c5,_,hMs⟩:=RAt.cells h hc
    obtain ⟨am,cm,rfl,m1,m2,m3⟩:=hMs
    have hkc:k<cs.length:=(List.getElem?_eq_some_iff.1 hc).1
    have hn:c.ms.length≤1000000:=by
      have:=Zld hW k
      rw [Zle hq,hms,List.length_map] at this
      exact this
    have HMS:∀ (j:Nat) (m:HM),q.c.ms[j]?=some m→∃ bk o,am=some ⟨bk,o,none⟩∧bk<W.heap.size∧W.cell? ⟨bk,o+j * 6+2,none⟩=some (.int .i64 m.fl):=fun j m hm=>by
      rw [hms,List.getElem?_map] at hm
      cases e:c.ms[j]? with
      | none=>rw [e] at hm;cases hm
      | some y =>
        rw [e] at hm
        cases hm
        obtain ⟨bk,o,rfl,hbk,hat⟩:=m3 (by intro h0;rw [h0] at e;simp at e)
        exact ⟨bk,o,rfl,hbk,(hat j y e).2.2.1⟩
    have HV:∀ (j:Nat) (m:HM),q.c.ms[j]?=some m→∀ w,Below W.heap.size W w→Calls Tryz.prog 36 #[.pointer (some ⟨b,0,none⟩),.agg #[.int .i64 (k:Int),.int .i64 (j:Int)]] w fun e w'=>e=.returned (.bool (vrtB m.nm m.fl))∧Below w.heap.size w w':=fun j m hm w hb=>by
      have:=Zh1 (h.below hb) ht (k:Int) (j:Int) m (Jo hq hm)
      rw [vrI,hif] at this
      exact this
    have HO:∀ (ab:List (Int×Int)) (j:Nat) (m:HM),q.c.ms[j]?=some m→∀ R∈ab,∀ w,Below W.heap.size W w→Calls Tryz.prog 54 #[.pointer (some ⟨b,0,none⟩),.agg #[.int .i64 (k:Int),.int .i64 (j:Int)],.agg #[.int .i64 R.1,.int .i64 R.2]] w fun e w'=>(∃ E:Int,e=.returned (.tuple #[.bool (ovrI ps ((k:Int),(j:Int)) R).1,.int .i64 E]))∧Below w.heap.size w w':=fun ab j m hm R hR w hb =>
      (r9Over_c (h.below hb) ht hJ hS hU hz (k:Int) (j:Int) R.1 R.2).mono fun e w' zz=>⟨⟨_,zz.1⟩,zz.2⟩
    have hnl:q.c.ms.length=c.ms.length:=by rw [hms,List.length_map]
    by_cases h0:k=0
    · subst h0
      rw [Zke hW hU hq]
      exact rts_0 ps W b g cs.length cap am c.ms.length cm q.c.ms [] rfl b0 hbl hgl (by omega) c5 hn hnl HMS HV (HO [])
    · obtain ⟨hs,e⟩:=Zkf hW hU hq (by omega)
      rw [e]
      obtain ⟨qs,hqs⟩:∃ qs,ps[spO (ps.map nd) k]?=some qs:=⟨_,List.getElem?_eq_getElem (by omega)⟩
      have hsp:spO (ps.map nd) k=q.sp:=by rw [spO,nd_at' hq];rfl
      have hifs:ifcI ps ((spO (ps.map nd) k:Nat):Int)=false:=by
        have h2:=(hW.wo.sp k (nd q) (by omega) (nd_at' hq)).2.1 (nd qs) (by rw [hsp] at hqs;exact nd_at' hqs)
        rw [ifcI,Z8,hqs]
        exact h2.1
      refine rts_s ps W b g cs.length cap k am c.ms.length cm q.c.ms (rtsD ps (spO (ps.map nd) k)) (rtsD ps (spO (ps.map nd) k)).length rfl (rts_len hW (by omega)) (spO (ps.map nd) k) (by omega) (fun w hb=>?_) (fun w hb=>ih _ hs qs hqs hifs b w (h.below hb)) b0 hbl hgl (by omega) c5 hn hnl HMS HV (HO _)
      have:=rSup_c (h.below hb) ht (k:Int)
      rw [supI,Z8,hq] at this
      simp only [show ¬ ((k:Int)=0) by omega,if_false] at this
      rw [hsp]
      exact this
theorem r13b_c {b:Nat} {cs:List Cls} {ps:List Plc} {W:World} (h:RAt b cs W) (ht:TwW cs ps) (hJ:WJ ps) (hS:SndI ps) (hU:UnqM ps) (hz:∀ c∈cs,c.nm.size≤maxLen) (x:Int):Calls Tryz.prog 10 #[.pointer (some ⟨b,0,none⟩),.int .i64 x] W fun e w'=>(∃ v,e=.returned (.tuple #[v,.int .i64 (vckE ps x)])∧w'.ownsRow W.heap.size 48 4 v (bldT ps x).length (Yi (bldT ps x)))∧Below W.heap.size W w':=by
  have HF:∀ w,Below W.heap.size W w→Calls Tryz.prog 26 #[.pointer (some ⟨b,0,none⟩),.int .i64 x] w fun e w'=>e=.returned (.bool (ifcI ps x))∧w'=w:=fun w hb=>by
    have:=Y0 (h.below hb) x
    rw [Zah ht] at this
    exact this
  rcases Zo ps x with ⟨hn,_⟩|⟨k,q,rfl,hk,hq⟩
  · have e1:vckE ps x=3:=by rw [vckE,hn]
    have e2:bldT ps x=[]:=by rw [bldT,e1];rfl
    rw [e1,e2]
    refine (Zk2 W b x 3 false (ifcI ps x) (.inl ⟨rfl,rfl⟩) (fun w hb=>?_) HF).mono fun e w' zz=>⟨⟨_,zz.1,World.ownsRow_nil _ _ _ _⟩,zz.2⟩
    have:=Zay (h.below hb) ht x
    rw [hn] at this
    exact this
  · have HI:∀ w,Below W.heap.size W w→Calls Tryz.prog 25 #[.pointer (some ⟨b,0,none⟩),.int .i64 (k:Int)] w fun e w'=>e=.returned (.bool true)∧w'=w:=fun w hb=>by
      have:=Zay (h.below hb) ht (k:Int)
      rw [hq] at this
      exact this
    cases hf:ifcI ps (k:Int) with
    | true =>
      have e1:vckE ps (k:Int)=23:=by rw [vckE,hq];simp only;rw [hf];rfl
      have e2:bldT ps (k:Int)=[]:=by rw [bldT,e1];rfl
      rw [e1,e2]
      refine (Zk2 W b k 23 true true (.inr ⟨rfl,rfl,rfl⟩) HI (fun w hb=>?_)).mono fun e w' zz=>⟨⟨_,zz.1,World.ownsRow_nil _ _ _ _⟩,zz.2⟩
      have:=HF w hb
      rw [hf] at this
      exact this
    | false =>
      have e1:vckE ps (k:Int)=0:=by rw [vckE,hq];simp only;rw [hf];rfl
      have e2:bldT ps (k:Int)=tabP ps k:=by rw [bldT,e1];rfl
      rw [e1,e2]
      refine r13b_yes W b k (tabP ps k) _ rfl (Za2 ht.wi (List.getElem?_eq_some_iff.1 hk).1) HI (fun w hb=>?_) (fun w hb=>?_) (fun j y hy w hb=>?_)
      · have:=HF w hb
        rw [hf] at this
        exact this
      · have:=r13rts_c ht hJ hS hU hz k q hk hf b w (h.below hb)
        rw [rtsD,List.length_map] at this
        exact this
      · have:=Zk1 (h.below hb) ht hJ hS hU hz (k:Int) y.1.1 y.1.2
        rw [show (y.1.1,y.1.2)=y.1 from rfl,Zkd ht.wi hU hk (List.mem_of_getElem? hy)] at this
        exact this
end Go.Proofs.YtjbmmmcjegjelaaGreat
