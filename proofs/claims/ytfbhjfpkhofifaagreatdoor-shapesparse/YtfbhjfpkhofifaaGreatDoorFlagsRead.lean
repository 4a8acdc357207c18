import Derived.Lib.Join
namespace Go.Proofs.YtfbhjfpkhofifaaGreatDoor
open Go
def hasI (f x:Int):Bool:=bits .and .i64 f x != 0
def Yl (f:Int):List Int→Int
 | []=>0
 | x::l=>(if hasI f x then x else 0)+Yl f l
def Zo (f:Int):List (Int×List UInt8)→List (List UInt8)
 | []=>[]
 | p::l=>if hasI f p.1 then p.2::Zo f l else Zo f l
def wPublic:List UInt8:=[112,117,98,108,105,99]
def wPrivate:List UInt8:=[112,114,105,118,97,116,101]
def wProtected:List UInt8:=[112,114,111,116,101,99,116,101,100]
def wStatic:List UInt8:=[115,116,97,116,105,99]
def wFinal:List UInt8:=[102,105,110,97,108]
def wSuper:List UInt8:=[115,117,112,101,114]
def wInterface:List UInt8:=[105,110,116,101,114,102,97,99,101]
def wAbstract:List UInt8:=[97,98,115,116,114,97,99,116]
def clsP:List (Int×List UInt8):=[(1,wPublic),(16,wFinal),(32,wSuper),(512,wInterface),(1024,wAbstract)]
def mthP:List (Int×List UInt8):=[(1,wPublic),(2,wPrivate),(4,wProtected),(8,wStatic),(16,wFinal),(1024,wAbstract)]
def flagsOf (ps:List (Int×List UInt8)):List Int:=ps.map (·.1)
def Y4 (f:Int) (ps:List (Int×List UInt8)):Bool:=decide (Yl f (flagsOf ps)=f)
def Qv (f:Int) (ps:List (Int×List UInt8)):List UInt8:=if Y4 f ps then Lib.join (Zo f ps) [32] else []
def Zbt (f:Int) (ps:List (Int×List UInt8)):Int:=if Y4 f ps then 0 else 1
def toks:List UInt8→List (List UInt8)
 | []=>[[]]
 | c::l=>if c=32 then []::toks l else match toks l with
   | []=>[[c]]
   | t::ts=>(c::t)::ts
theorem Zcx (l:List UInt8):toks l≠[]:=by
 cases l with
 | nil=>simp [toks]
 | cons c l =>
   unfold toks
   split
   ·simp
   ·split <;> simp
theorem Zfh (w l:List UInt8) (h:(32:UInt8) ∉ w):toks (w++32::l)=w::toks l:=by
 induction w with
 | nil=>simp [toks]
 | cons c w ih =>
   have hc:c≠32:=fun e=>h (by simp [e]);have:=ih (fun m=>h (List.mem_cons_of_mem _ m));simp [toks,hc,this]
theorem Zfg (w:List UInt8) (h:(32:UInt8) ∉ w):toks w=[w]:=by
 induction w with
 | nil=>rfl
 | cons c w ih =>
   have hc:c≠32:=fun e=>h (by simp [e]);have:=ih (fun m=>h (List.mem_cons_of_mem _ m));simp [toks,hc,this]
theorem Zgr (l:List UInt8):∃ w,(32:UInt8) ∉ w∧((l=w∧toks l=[w])∨∃ r,l=w++32::r∧toks l=w::toks r):=by
 induction l with
 | nil=>exact ⟨[],by simp,.inl ⟨rfl,rfl⟩⟩
 | cons c l ih =>
   by_cases hc:c=32
   ·subst hc;exact ⟨[],by simp,.inr ⟨l,rfl,by simp [toks]⟩⟩
   ·obtain ⟨w,hw,h⟩:=ih;refine ⟨c::w,by simp [hw];exact fun e=>hc e.symm,?_⟩;rcases h with ⟨rfl,h2⟩|⟨r,rfl,h2⟩
    ·exact .inl ⟨rfl,Zfg _ (by simp [hw];exact fun e=>hc e.symm)⟩
    ·exact .inr ⟨r,rfl,Zfh (c::w) r (by simp [hw];exact fun e=>hc e.symm)⟩
theorem Zew (a b:List UInt8) (l:List (List UInt8)):Lib.join (a::b::l) [32]=a++32::Lib.join (b::l) [32]:=by simp [Lib.join]
theorem join_one (a:List UInt8):Lib.join [a] [32]=a:=by simp [Lib.join]
theorem join_nil:Lib.join ([]:List (List UInt8)) [32]=[]:=by simp [Lib.join]
theorem Zoe (l:List UInt8):Lib.join (toks l) [32]=l:=by
 generalize hn:l.length=n
 induction n using Nat.strongRecOn generalizing l with
 | _ n ih =>
   obtain ⟨w,_,⟨rfl,h⟩|⟨r,rfl,h⟩⟩:=Zgr l
   ·rw [h,join_one]
   ·rw [h];obtain ⟨t,ts,ht⟩:∃ t ts,toks r=t::ts:=by
     cases e:toks r with
     | nil=>exact absurd e (Zcx r)
     | cons t ts=>exact ⟨t,ts,rfl⟩
    have:=ih r.length (by simp at hn;omega) r rfl;rw [ht] at this ⊢;rw [Zew,this]
def subW:List (Int×List UInt8)→List (List UInt8)→Option Int
 | _,[]=>some 0
 | [],_::_=>none
 | p::ps,t::ts=>if p.2=t then (subW ps ts).map (p.1 + ·) else subW ps (t::ts)
def Zb0 (ps:List (Int×List UInt8)) (s:List UInt8):Option Int:=if s=[] then some 0 else subW ps (toks s)
def parF (ps:List (Int×List UInt8)) (s:List UInt8):Int:=(Zb0 ps s).getD 0
def parX (ps:List (Int×List UInt8)) (s:List UInt8):Int:=if (Zb0 ps s).isSome then 0 else 4
def Yu (s:List UInt8) (st:Int×Nat) (p:Int×List UInt8):Int×Nat :=
 if st.2+(if 0<st.2 then 32::p.2 else p.2).length≤s.length∧(s.drop st.2).take (if 0<st.2 then 32::p.2 else p.2).length=(if 0<st.2 then 32::p.2 else p.2) ∧
  (st.2+(if 0<st.2 then 32::p.2 else p.2).length=s.length∨s[st.2+(if 0<st.2 then 32::p.2 else p.2).length]?=some 32) then (st.1+p.1,st.2+(if 0<st.2 then 32::p.2 else p.2).length) else st
def Yv (s:List UInt8) (ps:List (Int×List UInt8)) (st:Int×Nat):Int×Nat:=ps.foldl (Yu s) st
def Ju (l w:List UInt8):Prop:=w.length≤l.length∧l.take w.length=w∧(w.length=l.length∨l[w.length]?=some 32)
theorem Zll {l w:List UInt8} (h:(32:UInt8) ∉ w):Ju l w↔(l=w∧toks l=[w])∨∃ r,l=w++32::r∧toks l=w::toks r:=by
 constructor
 ·rintro ⟨h1,h2,h3⟩;have e:l=w++l.drop w.length:=by
   conv=>lhs;rw [← List.take_append_drop w.length l,h2]
  rcases h3 with h3|h3
  ·have:l.drop w.length=[]:=List.drop_of_length_le (by omega);rw [this,List.append_nil] at e;exact .inl ⟨e,by rw [e];exact Zfg w h⟩
  ·have hlt:w.length<l.length:=(List.getElem?_eq_some_iff.1 h3).1;rw [List.drop_eq_getElem_cons hlt] at e;rw [List.getElem?_eq_getElem hlt] at h3;rw [Option.some.inj h3] at e;refine .inr ⟨_,e,?_⟩
   conv=>lhs;rw [e]
   exact Zfh w _ h
 ·rintro (⟨rfl,_⟩|⟨r,rfl,_⟩)
  ·exact ⟨Nat.le_refl _,by simp,.inl rfl⟩
  ·exact ⟨by simp,by simp,.inr (by simp)⟩
theorem Zcy {l t:List UInt8} {ts:List (List UInt8)} (h:toks l=t::ts):(32:UInt8) ∉ t∧((l=t∧ts=[])∨∃ r,l=t++32::r∧ts=toks r):=by
 obtain ⟨w,hw,⟨rfl,h2⟩|⟨r,rfl,h2⟩⟩:=Zgr l
 ·rw [h2] at h;simp at h;obtain ⟨rfl,rfl⟩:=h;exact ⟨hw,.inl ⟨rfl,rfl⟩⟩
 ·rw [h2] at h;simp at h;obtain ⟨rfl,rfl⟩:=h;exact ⟨hw,.inr ⟨r,rfl,rfl⟩⟩
theorem Zc2 {l w t:List UInt8} {ts:List (List UInt8)} (hw:(32:UInt8) ∉ w) (h:toks l=t::ts):Ju l w↔w=t:=by
 rw [Zll hw];constructor
 ·rintro (⟨_,h2⟩|⟨r,_,h2⟩)
  ·rw [h] at h2;simp at h2;exact h2.1.symm
  ·rw [h] at h2;simp at h2;exact h2.1.symm
 ·rintro rfl;obtain ⟨_,⟨h2,h3⟩|⟨r,h2,h3⟩⟩:=Zcy h
  ·exact .inl ⟨h2,by rw [h,h3]⟩
  ·exact .inr ⟨r,h2,by rw [h,h3]⟩
def Jt (s:List UInt8) (a:Nat):List (List UInt8):=if a=s.length then [] else if a=0 then toks s else toks (s.drop (a+1))
def okAt (s:List UInt8) (a:Nat):Prop:=a≤s.length∧(0<a→a=s.length∨s[a]?=some 32)
theorem step_iff {s:List UInt8} {a:Nat} {f:Int} {p:Int×List UInt8} {t:List UInt8} {ts:List (List UInt8)} (ha:okAt s a) (hp:p.2≠[]∧(32:UInt8) ∉ p.2) (h:Jt s a=t::ts) :
 (p.2=t→∃ a',Yu s (f,a) p=(f+p.1,a')∧okAt s a'∧0<a'∧Jt s a'=ts)∧(p.2≠t→Yu s (f,a) p=(f,a)):=by
 have hpl:0<p.2.length:=List.length_pos_iff.2 hp.1;have hne:a≠s.length:=by intro e;simp [Jt,e] at h
 by_cases h0:a=0
 ·subst h0;have htk:toks s=t::ts:=by simpa [Jt,hne] using h
  have hs:=Zc2 hp.2 htk;have e1:(Ju s p.2→Yu s (f,0) p=(f+p.1,p.2.length))∧(¬ Ju s p.2→Yu s (f,0) p=(f,0)):=by
   unfold Yu Ju;simp only [Nat.lt_irrefl,if_false,Nat.zero_add,List.drop_zero];exact ⟨fun h=>if_pos h,fun h=>if_neg h⟩
  constructor
  ·intro e;have hst:=hs.2 e;refine ⟨p.2.length,e1.1 hst,⟨hst.1,fun _=>hst.2.2⟩,hpl,?_⟩;subst e;obtain ⟨_,⟨h2,h3⟩|⟨r,h2,h3⟩⟩:=Zcy htk
   ·rw [h3,Jt,if_pos (by rw [← h2])]
   ·have:p.2.length≠s.length:=by
     have:=congrArg List.length h2;simp at this;omega
    rw [Jt,if_neg this,if_neg (by omega),h3]
    conv=>lhs;rw [h2]
    rw [show p.2.length+1=(p.2++[32]).length by simp,show p.2++32::r=(p.2++[32])++r by simp,List.drop_left]
  ·intro e;exact e1.2 (fun q=>e (hs.1 q))
 ·have hapos:0<a:=by omega
  have hlt:a<s.length:=by have:=ha.1;omega
  have h32:s[a]?=some 32:=by
   rcases ha.2 hapos with q|q
   ·exact absurd q hne
   ·exact q
  have hd:s.drop a=32::s.drop (a+1):=by
   rw [List.drop_eq_getElem_cons hlt];rw [List.getElem?_eq_getElem hlt] at h32;rw [Option.some.inj h32]
  have htk:toks (s.drop (a+1))=t::ts:=by simpa [Jt,hne,h0] using h
  have hs:=Zc2 hp.2 htk;have e1:(Ju (s.drop (a+1)) p.2→Yu s (f,a) p=(f+p.1,a+(p.2.length+1)))∧(¬ Ju (s.drop (a+1)) p.2→Yu s (f,a) p=(f,a)):=by
   unfold Yu Ju;simp only [hapos,if_true,List.length_cons];rw [hd];have c1:(a+(p.2.length+1)≤s.length)↔p.2.length≤(s.drop (a+1)).length:=by rw [List.length_drop];omega
   have c2:(List.take (p.2.length+1) (32::s.drop (a+1))=32::p.2)↔(s.drop (a+1)).take p.2.length=p.2:=by simp
   have c3:(a+(p.2.length+1)=s.length)↔p.2.length=(s.drop (a+1)).length:=by rw [List.length_drop];omega
   have c4:s[a+(p.2.length+1)]?=(s.drop (a+1))[p.2.length]?:=by rw [List.getElem?_drop];congr 1;omega
   rw [c4];simp only [c1,c2,c3];exact ⟨fun h=>if_pos h,fun h=>if_neg h⟩
  constructor
  ·intro e;have hst:=hs.2 e;refine ⟨a+(p.2.length+1),e1.1 hst,?_,by omega,?_⟩
   ·refine ⟨?_,fun _=>?_⟩
    ·have:=hst.1;rw [List.length_drop] at this;omega
    ·rcases hst.2.2 with q|q
     ·left;rw [List.length_drop] at q;omega
     ·right;rw [List.getElem?_drop] at q;rw [show a+(p.2.length+1)=a+1+p.2.length by omega];exact q
   ·subst e;obtain ⟨_,⟨h2,h3⟩|⟨r,h2,h3⟩⟩:=Zcy htk
    ·have:a+(p.2.length+1)=s.length:=by
      have:=congrArg List.length h2;rw [List.length_drop] at this;omega
     rw [h3,Jt,if_pos this]
    ·have hl:=congrArg List.length h2;rw [List.length_drop] at hl;simp at hl;rw [Jt,if_neg (by omega),if_neg (by omega),h3];rw [show a+(p.2.length+1)+1=(a+1)+(p.2++[(32:UInt8)]).length by simp;omega,← List.drop_drop,h2,show p.2++32::r=(p.2++[32])++r by simp,List.drop_left]
  ·intro e;exact e1.2 (fun q=>e (hs.1 q))
theorem step_end {s:List UInt8} {f:Int} {p:Int×List UInt8} (hp:p.2≠[]):Yu s (f,s.length) p=(f,s.length):=by
 have hpl:0<p.2.length:=List.length_pos_iff.2 hp;unfold Yu;rw [if_neg];rintro ⟨h1,_⟩;simp only at h1
 split at h1
 ·simp at h1;omega
 ·omega
theorem run_spec (s:List UInt8) (ps:List (Int×List UInt8)) (hw:∀ p∈ps,p.2≠[]∧(32:UInt8) ∉ p.2) (f:Int) (a:Nat) (ha:okAt s a) :
 ((Yv s ps (f,a)).2=s.length∧subW ps (Jt s a)=some ((Yv s ps (f,a)).1 - f))∨((Yv s ps (f,a)).2≠s.length∧subW ps (Jt s a)=none):=by
 induction ps generalizing f a with
 | nil =>
   by_cases h:a=s.length
   ·left;refine ⟨h,?_⟩;rw [Jt,if_pos h];show some (0:Int)=some (f - f)
    congr 1;omega
   ·right;refine ⟨h,?_⟩;rw [Jt,if_neg h]
    split
    ·cases e:toks s with
     | nil=>exact absurd e (Zcx s)
     | cons=>rfl
    ·cases e:toks (s.drop (a+1)) with
     | nil=>exact absurd e (Zcx _)
     | cons=>rfl
 | cons p ps ih =>
   have hp:=hw p (List.mem_cons_self ..);have hps:=fun q hq=>hw q (List.mem_cons_of_mem _ hq);have er:Yv s (p::ps) (f,a)=Yv s ps (Yu s (f,a) p):=rfl;rw [er]
   cases ht:Jt s a with
   | nil =>
     have hal:a=s.length:=by
      by_cases h:a=s.length
      ·exact h
      ·rw [Jt,if_neg h] at ht
       split at ht
       ·exact absurd ht (Zcx _)
       ·exact absurd ht (Zcx _)
     subst hal;rw [step_end hp.1];have:=ih hps f s.length ha;rw [ht] at this;rcases this with ⟨h1,h2⟩|⟨h1,h2⟩
     ·exact .inl ⟨h1,by rw [← h2];cases ps <;> rfl⟩
     ·exfalso
      revert h2
      cases ps <;> simp [subW]
   | cons t ts =>
     obtain ⟨s1,s2⟩:=step_iff (f:=f) ha hp ht;by_cases e:p.2=t
     ·obtain ⟨a',e1,e2,_,e3⟩:=s1 e;rw [e1];rcases ih hps (f+p.1) a' e2 with ⟨h1,h2⟩|⟨h1,h2⟩
      ·refine .inl ⟨h1,?_⟩;rw [e3] at h2;rw [subW,if_pos e,h2];simp only [Option.map_some]
       congr 1;omega
      ·refine .inr ⟨h1,?_⟩;rw [e3] at h2;rw [subW,if_pos e,h2];rfl
     ·rw [s2 e];have:=ih hps f a ha;rw [ht] at this;rw [subW,if_neg e];exact this
theorem run_read (s:List UInt8) (ps:List (Int×List UInt8)) (hw:∀ p∈ps,p.2≠[]∧(32:UInt8) ∉ p.2) :
 ((Yv s ps (0,0)).2=s.length∧Zb0 ps s=some (Yv s ps (0,0)).1)∨((Yv s ps (0,0)).2≠s.length∧Zb0 ps s=none):=by
 have h:=run_spec s ps hw 0 0 ⟨Nat.zero_le _,fun h=>absurd h (by omega)⟩;have ht:subW ps (Jt s 0)=Zb0 ps s:=by
  unfold Zb0 Jt;by_cases e:s=[]
  ·subst e;simp
   cases ps <;> rfl
  ·have:(0:Nat)≠s.length:=by have:=List.length_pos_iff.2 e;omega
   rw [if_neg this,if_pos rfl,if_neg e]
 rw [ht] at h;rcases h with ⟨h1,h2⟩|⟨h1,h2⟩
 ·exact .inl ⟨h1,by rw [h2];congr 1;omega⟩
 ·exact .inr ⟨h1,h2⟩
end Go.Proofs.YtfbhjfpkhofifaaGreatDoor
