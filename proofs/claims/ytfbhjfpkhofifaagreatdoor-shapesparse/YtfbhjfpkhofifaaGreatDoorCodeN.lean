import Derived.Test.YtfbhjfpkhofifaaGreatDoorCodeM
import Derived.Lib.AtoiAll
namespace Go.Proofs.YtfbhjfpkhofifaaGreatDoor
open Go.RowKit
def clean (l:List UInt8):Prop:=∀ c∈l,c≠32∧c≠46∧c≠58∧c≠40
theorem Zef {c:UInt8} (h:Js c=true):c≠32∧c≠46∧c≠58∧c≠40:=by
 refine ⟨?_,?_,?_,?_⟩ <;> (rintro rfl;revert h;decide)
theorem Zao {l:List UInt8} (h:Zl l=true):clean l:=fun c hc=>by
 rcases Zif h c hc with rfl|e
 ·decide
 ·exact Zef e
theorem Zh5 {a b:List UInt8} (ha:clean a) (hb:clean b):clean (a++b):=fun c hc=>(List.mem_append.1 hc).elim (ha c) (hb c)
theorem Zae {x:UInt8} {b:List UInt8} (hx:x≠32∧x≠46∧x≠58∧x≠40) (hb:clean b):clean (x::b):=fun c hc=>(List.mem_cons.1 hc).elim (fun e=>e ▸ hx) (hb c)
theorem clean_nil:clean []:=fun c hc=>by cases hc
theorem Zan {t:Nat×List UInt8} (h:J4 t=true):clean (Qz t):=by
 unfold Qz;refine Zh5 (fun c hc=>?_) ?_
 ·obtain rfl:=List.eq_of_mem_replicate hc
  decide
 ·split
  ·exact Zae (by decide) clean_nil
  ·rename_i hne
   unfold J4 at h;simp only [Bool.or_eq_true,beq_iff_eq] at h;rcases h with h|h
   ·exact absurd h hne
   ·exact Zae (by decide) (Zh5 (Zao h) (Zae (by decide) clean_nil))
theorem par_text {l:List UInt8} (h:parE l=0):∃ t,l=Qz t∧J4 t=true:=by
 unfold parE at h
 split at h
 ·simp at h
 ·split at h
  ·rename_i t e
   obtain ⟨h1,h2⟩:=Qy e;exact ⟨t,by simpa using h1,h2⟩
  ·simp at h
theorem Zhd {l:List UInt8} (h:parE l=0):clean l:=by
 obtain ⟨t,rfl,ht⟩:=par_text h;exact Zan ht
theorem Zbc {l:List UInt8} (h:prfE l=0):clean l:=by
 unfold prfE at h
 split at h
 ·simp at h
 ·split at h
  ·exact Zhd h
  ·split at h
   ·rename_i hv
    exact Zao hv
   ·simp at h
theorem Zcf {l:List UInt8} (h:Yd l=true):clean l:=by
 unfold Yd at h;simp only [Bool.or_eq_true,Bool.and_eq_true,decide_eq_true_eq,beq_iff_eq] at h;rcases h with rfl|⟨_,h⟩
 ·intro c hc;simp [initL] at hc;rcases hc with rfl|rfl|rfl|rfl|rfl|rfl <;> decide
 ·exact fun c hc=>Zef (Zkw h c hc)
theorem Zmz {ts:List (Nat×List UInt8)} (h:∀ t∈ts,J4 t=true):clean (Qd ts):=by
 intro c hc;unfold Qd at hc;obtain ⟨l,hl,hcl⟩:=List.mem_flatten.1 hc;obtain ⟨t,ht,rfl⟩:=List.mem_map.1 hl;exact Zan (h t ht) c hcl
theorem Znw {l:List UInt8} (h:pdE l=0):∃ r,l=40::r∧(32:UInt8) ∉ l:=by
 unfold pdE at h
 split at h
 ·simp at h
 ·split at h
  ·simp at h
  ·rename_i d e
   obtain ⟨rfl,h1,h2⟩:=Zid e;refine ⟨_,rfl,?_⟩;unfold writeD;intro m;rcases List.mem_cons.1 m with e|m
   ·revert e;decide
   ·rcases List.mem_append.1 m with m|m
    ·exact (Zmz h1 32 m).1 rfl
    ·rcases List.mem_cons.1 m with e|m
     ·revert e;decide
     ·cases hd:d.2 with
      | none=>rw [hd] at m;revert m;decide
      | some t =>
        rw [hd] at m;exact (Zan (h2 t hd) 32 m).1 rfl
theorem Xk (u:Nat):(Lib.decDigits u).all Yz=true∧digV (Lib.decDigits u)=u:=by
 induction u using Nat.strongRecOn with
 | _ u ih =>
   have hd:∀ r:Fin 10,Yz (UInt8.ofNat (48+r.val))=true∧(UInt8.ofNat (48+r.val)).toNat=48+r.val:=by decide
   by_cases h:u<10
   ·rw [Jd h];obtain ⟨a,b⟩:=hd ⟨u,h⟩;simp only at a b;refine ⟨by rw [List.all_cons,a];rfl,?_⟩;simp only [digV,List.foldl_cons,List.foldl_nil,b];omega
   ·rw [Zgn h];obtain ⟨i1,i2⟩:=ih (u / 10) (by omega);obtain ⟨a,b⟩:=hd ⟨u % 10,by omega⟩;simp only at a b;refine ⟨by rw [List.all_append,i1,List.all_cons,a];rfl,?_⟩;rw [Zdu,i2,b];omega
theorem Zox (k u:Nat) (h:u<10 ^ (k+1)):(Lib.decDigits u).length≤k+1:=by
 induction k generalizing u with
 | zero=>rw [Jd (by simpa using h)];simp
 | succ k ih =>
   by_cases hs:u<10
   ·rw [Jd hs];simp
   ·rw [Zgn hs];have:=ih (u / 10) (by rw [Nat.pow_succ] at h;omega);simp;omega
theorem Zle (u:Nat):Lib.decDigits u≠[]:=by
 by_cases h:u<10
 ·rw [Jd h];simp
 ·rw [Zgn h];simp
theorem Zhz {l:List UInt8} (h:l.all Yz=true):clean l:=fun c hc=>by
 have:=List.all_eq_true.1 h c hc;refine ⟨?_,?_,?_,?_⟩ <;> (rintro rfl;revert this;decide)
theorem Zb7 (n:Int):clean (Lib.itoa n):=by
 unfold Lib.itoa
 split
 ·exact Zae (by decide) (Zhz (Xk _).1)
 ·exact Zhz (Xk _).1
theorem Zf5 (n:Int) (h1:-9999999999≤n) (h2:n≤9999999999):numR (Lib.itoa n)=(n,true):=by
 by_cases hn:n<0
 ·have e:Lib.itoa n=45::Lib.decDigits n.natAbs:=by rw [Lib.itoa,if_pos hn]
  obtain ⟨a,b⟩:=Xk n.natAbs;have hl:=Zox 9 n.natAbs (by omega);have hne:0<(Lib.decDigits n.natAbs).length:=List.length_pos_iff.2 (Zle _);have hm:minB (Lib.itoa n)=1:=by rw [e];rfl
  have hN:numN (Lib.itoa n)=n:=by
   rw [numN,hm,if_pos rfl,e];show -((digV (Lib.decDigits n.natAbs):Nat):Int)=n;rw [b];omega
  have hB:numB (Lib.itoa n)=true:=by
   rw [numB,hm,e];simp only [List.length_cons,List.drop_succ_cons,List.drop_zero,a,Bool.and_true,Bool.and_eq_true,decide_eq_true_eq];omega
  rw [numR,hB,if_pos rfl,hN];simp
 ·have e:Lib.itoa n=Lib.decDigits n.toNat:=by rw [Lib.itoa,if_neg hn]
  obtain ⟨a,b⟩:=Xk n.toNat;have hl:=Zox 9 n.toNat (by omega);have hne:0<(Lib.decDigits n.toNat).length:=List.length_pos_iff.2 (Zle _);have hm:minB (Lib.itoa n)=0:=by
   rw [e,minB]
   cases hd:Lib.decDigits n.toNat with
   | nil=>rfl
   | cons c r =>
     rw [hd] at a;rw [if_neg];intro h;simp only [List.head?_cons,Option.some.injEq] at h;subst h;simp at a;exact absurd a.1 (by decide)
  have hN:numN (Lib.itoa n)=n:=by
   rw [numN,hm,if_neg (by decide),e,b];omega
  have hB:numB (Lib.itoa n)=true:=by
   rw [numB,hm,e];simp only [List.drop_zero,a,Bool.and_true,Bool.and_eq_true,decide_eq_true_eq];omega
  rw [numR,hB,if_pos rfl,hN];simp
theorem Zf7 {l:List UInt8} (h:(numR l).2=true):Lib.itoa (numR l).1=l:=by
 unfold numR at h ⊢
 split at h
 ·rename_i hb
  rw [if_pos hb]
  simpa using h
 ·simp at h
theorem Zm7:∀ o:Fin 41,1≤o.val→opOf (wordsL.getD o.val [])=o.val∧(32:UInt8) ∉ wordsL.getD o.val []:=by decide
theorem Zjz (l:List UInt8):∀ (ws:List (List UInt8)) (i:Nat),Xh l i ws≠0→i≤Xh l i ws∧ws[Xh l i ws - i]?=some l:=by
 intro ws
 induction ws with
 | nil=>intro i h;simp [Xh] at h
 | cons x r ih =>
   intro i h;rw [Xh] at h ⊢
   split
   ·rename_i e
    simp [e]
   ·rename_i e
    rw [if_neg e] at h;obtain ⟨h1,h2⟩:=ih (i+1) h;refine ⟨by omega,?_⟩;rw [show Xh l (i+1) r - i=(Xh l (i+1) r - (i+1))+1 by omega]
    simpa using h2
theorem Zn4 {l:List UInt8} (h:opOf l≠0):wordsL.getD (opOf l) []=l:=by
 obtain ⟨h1,h2⟩:=Zjz l (wordsL.drop 1) 1 h;rw [List.getElem?_drop,show 1+(Xh l 1 (wordsL.drop 1) - 1)=opOf l by unfold opOf;omega] at h2;rw [List.getD_eq_getElem?_getD,h2];rfl
def gl:List (List UInt8)→List UInt8
 | []=>[]
 | [a]=>a
 | a::b::r=>a++32::gl (b::r)
theorem Zhl (l:List UInt8):gl (cutL 32 l)=l:=by
 induction l with
 | nil=>rfl
 | cons x l ih =>
   unfold cutL
   split
   ·rename_i e
    subst e
    cases h:cutL 32 l with
    | nil=>exact absurd h (Z1 32 l)
    | cons p r=>rw [h] at ih;show []++32::gl (p::r)=_;rw [ih];rfl
   ·cases h:cutL 32 l with
    | nil=>exact absurd h (Z1 32 l)
    | cons p r =>
      rw [h] at ih
      cases r with
      | nil=>show x::p=_;rw [← ih];rfl
      | cons q r=>show (x::p)++32::gl (q::r)=_;rw [← ih];rfl
theorem Y6 {l:List UInt8} (h:clean l):(32:UInt8) ∉ l:=fun m=>(h 32 m).1 rfl
theorem cut2 {a b:List UInt8} (ha:(32:UInt8) ∉ a) (hb:(32:UInt8) ∉ b):cutL 32 (a++32::b)=[a,b]:=by rw [Zbn 32 a b ha,J8 32 b hb]
theorem cut3 {a b c:List UInt8} (ha:(32:UInt8) ∉ a) (hb:(32:UInt8) ∉ b) (hc:(32:UInt8) ∉ c):cutL 32 (a++32::(b++32::c))=[a,b,c]:=by rw [Zbn 32 a _ ha,cut2 hb hc]
theorem Zfk (p:UInt8→Bool) (a b:List UInt8) (x:UInt8) (h:∀ c∈a,p c=true) (hx:p x=false):Z5 p (a++x::b)=a.length:=by
 induction a with
 | nil=>simp [Z5,hx]
 | cons c a ih =>
   have hc:=h c (List.mem_cons_self ..);have:=ih (fun d hd=>h d (List.mem_cons_of_mem _ hd));simp only [Z5,List.cons_append,List.takeWhile_cons,hc,if_true,List.length_cons] at this ⊢;omega
theorem Zkp {b:Bool} {c n d:List UInt8} (h:rckB c n d=true):rfOK (rtxL b c n d)=true∧rfB (rtxL b c n d)=b∧rfC (rtxL b c n d)=c∧rfN (rtxL b c n d)=n∧rfD (rtxL b c n d)=d:=by
 have hh:=h;unfold rckB at hh;simp only [Bool.and_eq_true,beq_iff_eq] at hh;obtain ⟨⟨hc,hn⟩,hd⟩:=hh;obtain ⟨r,rfl,_⟩:=Znw hd;have cc:=Zbc hc;have cn:=Zcf hn;have e:rtxL b c n (40::r)=c++(if b then 58 else 46)::(n++40::r):=by rw [rtxL,h];rfl
 obtain ⟨x,hx⟩:∃ x:UInt8,x=(if b then 58 else 46):=⟨_,rfl⟩;rw [← hx] at e;have hxm:Yc x=false:=by rw [hx];cases b <;> decide
 have hxo:Z8 x=true:=by rw [hx];cases b <;> decide
 have hm:Xg (c++x::(n++40::r))=c.length:=Zfk Yc c _ x (fun y hy=>by
  obtain ⟨_,h2,h3,_⟩:=cc y hy;simp [Yc,h2,h3]) hxm
 have ho:Xf (c++x::(n++40::r))=c.length+1+n.length:=by
  rw [Xf,hm,List.drop_left];have:=Zfk Z8 (x::n) r 40 (fun y hy=>by
   rcases List.mem_cons.1 hy with rfl|hy
   ·exact hxo
   ·obtain ⟨_,_,_,h4⟩:=cn y hy;simp [Z8,h4]) (by decide)
  rw [List.cons_append] at this;rw [this];simp;omega
 have hC:rfC (c++x::(n++40::r))=c:=by rw [rfC,hm];simp
 have hN:rfN (c++x::(n++40::r))=n:=by
  rw [rfN,hm,ho];have:(c++x::(n++40::r)).drop (c.length+1)=n++40::r:=by
   rw [show c++x::(n++40::r)=(c++[x])++(n++40::r) by simp,List.drop_left' (by simp)]
  rw [this];simp
 have hD:rfD (c++x::(n++40::r))=40::r:=by
  rw [rfD,ho,show c++x::(n++40::r)=(c++x::n)++40::r by simp,List.drop_left' (by simp;omega)]
 have hB:rfB (c++x::(n++40::r))=b:=by
  rw [rfB,hm,List.drop_left];simp only [List.head?_cons];rw [hx]
  cases b <;> decide
 rw [e];refine ⟨?_,hB,hC,hN,hD⟩;rw [rfOK,ho,hC,hN,hD,h];simp;omega
theorem Zc3 (p:UInt8→Bool) (l:List UInt8) (x:UInt8) (t:List UInt8) (h:l.drop (Z5 p l)=x::t):p x=false:=by
 induction l with
 | nil=>simp at h
 | cons c l ih =>
   by_cases hc:p c=true
   ·rw [show Z5 p (c::l)=Z5 p l+1 by simp [Z5,hc]] at h;exact ih (by simpa using h)
   ·rw [show Z5 p (c::l)=0 by simp [Z5,hc]] at h;simp at h;rw [← h.1];simpa using hc
theorem Znn {l:List UInt8} (h:rfOK l=true):rckB (rfC l) (rfN l) (rfD l)=true∧rtxL (rfB l) (rfC l) (rfN l) (rfD l)=l:=by
 unfold rfOK at h;simp only [Bool.and_eq_true,decide_eq_true_eq] at h;obtain ⟨h1,h2⟩:=h;refine ⟨h2,?_⟩;rw [rtxL,h2,if_pos rfl];have hml:Xg l<l.length:=by
  have:Xg l≤Xf l:=by unfold Xf;omega
  omega
 obtain ⟨x,t,ht⟩:∃ x t,l.drop (Xg l)=x::t:=by
  cases e:l.drop (Xg l) with
  | nil=>have:=List.drop_eq_nil_iff.1 e;omega
  | cons x t=>exact ⟨x,t,rfl⟩
 have hx:Yc x=false:=Zc3 Yc l x t ht;have hx2:x=if rfB l then 58 else 46:=by
  have hb:rfB l=decide (x=58):=by
   rw [rfB,ht];rw [Bool.eq_iff_iff];simp
  have h3:x=46∨x=58:=by
   simp only [Yc,Bool.and_eq_false_iff,Bool.not_eq_false',decide_eq_true_eq] at hx;exact hx
  rcases h3 with rfl|rfl
  ·rw [hb];decide
  ·rw [hb];decide
 have ho:Xf l=Xg l+1+Z5 Z8 t:=by
  rw [Xf,ht];have hxo:Z8 x=true:=by
   rw [hx2];cases rfB l <;> decide
  simp only [Z5,List.takeWhile_cons,hxo,if_true,List.length_cons];omega
 have ht2:l.drop (Xg l+1)=t:=by
  have:=congrArg (List.drop 1) ht;rw [List.drop_drop] at this
  simpa using this
 rw [← hx2];have e1:rfN l++rfD l=t:=by
  rw [rfN,rfD,ht2,ho,show Xg l+1+Z5 Z8 t - (Xg l+1)=Z5 Z8 t by omega];have:l.drop (Xg l+1+Z5 Z8 t)=t.drop (Z5 Z8 t):=by rw [← ht2,List.drop_drop]
  rw [this,List.take_append_drop]
 rw [e1,rfC,← ht,List.take_append_drop]
def Z4 (op:Int):List UInt8:=wordsL.getD op.toNat []
def X1 (k n:Int) (t:List UInt8) (r:List UInt8):List UInt8 :=
 if k=1∨k=2∨k=3 then 32::Lib.itoa n else if k=4∨k=5∨k=6 then 32::t else if k=7 then 32::(Lib.itoa n++32::t) else if k=8 then 32::r else []
def prtL (op n:Int) (t:ByteArray) (b:Bool) (c m d:ByteArray):List UInt8 :=
 if ickE op n t b c m d=0 then Z4 op++X1 (opdI op) n t.data.toList (rtxL b c.data.toList m.data.toList d.data.toList) else []
theorem Xm (op:Int):(Z4 op).length≤20:=by
 have h:∀ x∈wordsL,x.length≤20:=by decide
 unfold Z4;rw [List.getD_eq_getElem?_getD]
 cases e:wordsL[op.toNat]? with
 | none=>simp
 | some x=>exact h x (List.mem_of_getElem? e)
theorem Xt {op n:Int} {t:ByteArray} {b:Bool} {c m d:ByteArray} (h:ickE op n t b c m d=0):t.size≤2000:=by
 have hlen:t.data.toList.length=t.size:=by simp
 have he:t.toList.isEmpty=true→t.size≤2000:=fun h=>by
  rw [Lib.toList_data] at h;rw [← hlen,List.isEmpty_iff.1 h];simp
 have hv:Zl t.data.toList=true→t.size≤2000:=fun h=>by
  unfold Zl at h;rw [Bool.and_eq_true,decide_eq_true_eq] at h;omega
 have hp:prfE t.data.toList=0→t.size≤2000:=fun h=>by have:=Znv h;omega
 have hq:parE t.data.toList=0→t.size≤2000:=fun h=>by
  by_cases h1:2000<t.data.toList.length
  ·rw [parE,if_pos h1] at h;exact absurd h (by decide)
  ·omega
 have h2:insB (opdI op) n t.toList.isEmpty t.data.toList (Yk b c m d) (rckB c.data.toList m.data.toList d.data.toList)=true:=by
  unfold ickE at h
  split at h
  ·assumption
  ·exact absurd h (by decide)
 unfold insB at h2;rcases Yw op with e|e|e|e|e|e|e|e|e|e <;> rw [e] at h2 <;> simp at h2
 ·exact he (by simpa using h2.2)
 ·exact he (by simpa using h2.1.1.2)
 ·exact he (by simpa using h2.1.1.2)
 ·exact he (by simpa using h2.1.1.2)
 ·exact hv h2.2
 ·exact hp h2.2
 ·exact hq h2.1.2
 ·exact hp h2.1.1.2
 ·exact he (by simpa using h2.1.2)
theorem J6 {op n:Int} {t:ByteArray} {b:Bool} {c m d:ByteArray} (h:ickE op n t b c m d=0):1≤op∧op≤40:=by
 by_cases ho:op<1∨40<op
 ·have:opdI op=-1:=by rw [opdI,if_pos ho]
  rw [ickE,this] at h;simp [insB] at h
 ·omega
theorem Xx (n:Int) (h1:-9223372036854775808≤n) (h2:n≤9223372036854775807):(⟨(Lib.itoa n).toArray⟩:ByteArray).size≤21:=by
 rw [Zk];exact Lib.itoa_length_le n h1 h2
theorem Zkm (b:Bool) (c n d:List UInt8):(⟨(rtxL b c n d).toArray⟩:ByteArray).size≤5000:=by
 rw [Zk,rtxL]
 split
 ·rename_i h
  obtain ⟨h1,h2,h3⟩:=Zir h;simp;omega
 ·simp
def Zhf (c:UInt8):Bool:=!decide (c=32)
def Zam (l:List UInt8):Nat:=Z5 Zhf l
def cutA (l:List UInt8):List UInt8:=l.take (Zam l)
def cutB (l:List UInt8):List UInt8:=l.drop (Zam l+1)
theorem Zh8 {a b:List UInt8} (h:(32:UInt8) ∉ a):Zam (a++32::b)=a.length :=
 Zfk Zhf a b 32 (fun c hc=>by simp only [Zhf,Bool.not_eq_true',decide_eq_false_iff_not];rintro rfl;exact h hc) (by decide)
theorem Zfa {a:List UInt8} (h:(32:UInt8) ∉ a):Zam a=a.length:=by
 induction a with
 | nil=>rfl
 | cons c a ih =>
   have hc:Zhf c=true:=by simp only [Zhf,Bool.not_eq_true',decide_eq_false_iff_not];rintro rfl;exact h (List.mem_cons_self ..)
   have:=ih (fun m=>h (List.mem_cons_of_mem _ m));simp only [Zam,Z5,List.takeWhile_cons,hc,if_true,List.length_cons] at this ⊢;omega
theorem Zbp {a b:List UInt8} (h:(32:UInt8) ∉ a):cutA (a++32::b)=a:=by rw [cutA,Zh8 h];simp
theorem Zbo {a b:List UInt8} (h:(32:UInt8) ∉ a):cutB (a++32::b)=b:=by
 rw [cutB,Zh8 h,show a++32::b=(a++[32])++b by simp,List.drop_left' (by simp)]
theorem Zo1 {a:List UInt8} (h:(32:UInt8) ∉ a):cutA a=a:=by rw [cutA,Zfa h];simp
theorem Zo0 {a:List UInt8} (h:(32:UInt8) ∉ a):cutB a=[]:=by rw [cutB,Zfa h];simp
def rdN (l:List UInt8):Int:=match Lib.atoiAll l with
 | .ok v=>v
 | _=>0
theorem Zoq:∀ (l:List UInt8) (acc:Nat),acc≤l.foldl (fun n c=>n * 10+(c.toNat - 48)) acc
 | [],acc=>Nat.le_refl _
 | c::r,acc=>by
   have:=Zoq r (acc * 10+(c.toNat - 48));rw [List.foldl_cons];omega
theorem Zcw:∀ (l:List UInt8) (acc:Nat),l.all Yz=true→l.foldl (fun n c=>n * 10+(c.toNat - 48)) acc<1000000000000000000→Lib.parseUint10 acc l=.ok (l.foldl (fun n c=>n * 10+(c.toNat - 48)) acc)
 | [],acc,_,_=>rfl
 | c::r,acc,h,hl=>by
   rw [List.all_cons,Bool.and_eq_true] at h;have h2:=h.1;simp only [Yz,Bool.and_eq_true,decide_eq_true_eq] at h2;rw [List.foldl_cons] at hl ⊢;have hg:=Zoq r (acc * 10+(c.toNat - 48));rw [Lib.parseUint10,if_pos h2,if_neg (by omega),if_neg (by omega)];exact Zcw r _ h.2 hl
theorem dec_head (u:Nat):∃ c r,Lib.decDigits u=c::r∧Yz c=true:=by
 cases h:Lib.decDigits u with
 | nil=>exact absurd h (Zle u)
 | cons c r =>
   have:=(Xk u).1;rw [h,List.all_cons,Bool.and_eq_true] at this;exact ⟨c,r,rfl,this.1⟩
theorem Zoc (u:Nat) (h:u<1000000000000000000):Lib.parseMag (Lib.decDigits u)=.ok u:=by
 obtain ⟨a,b⟩:=Xk u;rw [Lib.parseMag,if_neg (Zle u)];have:=Zcw (Lib.decDigits u) 0 a (by have e:digV (Lib.decDigits u)=u:=b;unfold digV at e;rw [e];exact h);rw [this];exact congrArg _ b
theorem Zf0 (n:Int) (h1:-2147483648≤n) (h2:n≤2147483647):rdN (Lib.itoa n)=n:=by
 by_cases hn:n<0
 ·have e:Lib.itoa n=45::Lib.decDigits n.natAbs:=by rw [Lib.itoa,if_pos hn]
  have hm:=Zoc n.natAbs (by omega);have h45:(45:UInt8).toNat=45:=rfl;have ha:Lib.atoiAll (45::Lib.decDigits n.natAbs)=.ok n:=by
   unfold Lib.atoiAll;simp only [h45,or_true,if_true,hm,not_true,false_and,if_false,true_and];rw [if_neg (by omega)]
   congr 1;omega
  rw [rdN,e,ha]
 ·have e:Lib.itoa n=Lib.decDigits n.toNat:=by rw [Lib.itoa,if_neg hn]
  have hm:=Zoc n.toNat (by omega);obtain ⟨c,r,hd,hc⟩:=dec_head n.toNat;simp only [Yz,Bool.and_eq_true,decide_eq_true_eq] at hc;have ha:Lib.atoiAll (Lib.decDigits n.toNat)=.ok n:=by
   rw [hd] at hm ⊢;unfold Lib.atoiAll;have h43:¬ c.toNat=43:=by omega
   have h45:¬ c.toNat=45:=by omega
   simp only [h43,h45,or_self,if_false,hm,not_false_eq_true,true_and,false_and];rw [if_neg (by omega)]
   congr 1;omega
  rw [rdN,e,ha]
theorem par_dims {l:List UInt8} (h:parE l=0):(parT l).1≤255:=by
 rw [parT,if_pos h];unfold parE at h
 split at h
 ·simp at h
 ·split at h
  ·rename_i t e
   split at h
   ·simp at h
   ·rw [e];simp only;omega
  ·simp at h
theorem prf_dims {l:List UInt8} (h:prfE l=0):(prfT l).1≤255:=by
 unfold prfE at h;unfold prfT
 split at h
 ·simp at h
 ·rename_i h1
  rw [if_neg h1]
  split at h
  ·rename_i h2
   rw [if_pos h2];exact par_dims h
  ·rename_i h2
   rw [if_neg h2]
   split <;> simp
theorem Zni {b:Bool} {c n d:List UInt8} (h:rckB c n d=true):(32:UInt8) ∉ rtxL b c n d:=by
 rw [rtxL,h,if_pos rfl];unfold rckB at h;simp only [Bool.and_eq_true,beq_iff_eq] at h;obtain ⟨⟨hc,hn⟩,hd⟩:=h;obtain ⟨r,_,hb⟩:=Znw hd;intro m;rcases List.mem_append.1 m with m|m
 ·exact Y6 (Zbc hc) m
 ·rcases List.mem_cons.1 m with m|m
  ·revert m;cases b <;> decide
  ·rcases List.mem_append.1 m with m|m
   ·exact Y6 (Zcf hn) m
   ·exact hb m
theorem Zf6 {k:Int} {o:Nat} {p0:List UInt8} {ps:List (List UInt8)} {j:Ins} {l:List UInt8} (hc:Zv k o (p0::ps)=some j) (hg:gl (p0::ps)=l) (hk:k=1∨k=2∨k=3) (t r:List UInt8):p0++X1 k j.n t r=l:=by
 rw [Zv,if_neg (by omega),if_pos hk] at hc
 split at hc
 ·rename_i hh
  obtain ⟨p1,rfl⟩:∃ p1,ps=[p1]:=by
   cases ps with
   | nil=>simp at hh
   | cons a q=>cases q with
     | nil=>exact ⟨a,rfl⟩
     | cons b q=>simp at hh
  rw [← Option.some.inj hc,X1,if_pos hk];have h2:(numR p1).2=true:=hh.2;show p0++32::Lib.itoa (numR p1).1=l;rw [Zf7 h2];exact hg
 ·cases hc
theorem Zfe {k:Int} {o:Nat} {p0:List UInt8} {ps:List (List UInt8)} {j:Ins} {l:List UInt8} (hc:Zv k o (p0::ps)=some j) (hg:gl (p0::ps)=l) (hk:k=4∨k=5∨k=6) (n:Int) (r:List UInt8):p0++X1 k n j.t.data.toList r=l:=by
 rw [Zv,if_neg (by omega),if_neg (by omega),if_pos hk] at hc
 split at hc
 ·rename_i hh
  obtain ⟨p1,rfl⟩:∃ p1,ps=[p1]:=by
   cases ps with
   | nil=>simp at hh
   | cons a q=>cases q with
     | nil=>exact ⟨a,rfl⟩
     | cons b q=>simp at hh
  rw [← Option.some.inj hc,X1,if_neg (by omega),if_pos hk];exact hg
 ·cases hc
theorem arr_case {o:Nat} {p0:List UInt8} {ps:List (List UInt8)} {j:Ins} {l:List UInt8} (hc:Zv 7 o (p0::ps)=some j) (hg:gl (p0::ps)=l) (r:List UInt8):p0++X1 7 j.n j.t.data.toList r=l:=by
 rw [Zv,if_neg (by omega),if_neg (by omega),if_neg (by omega),if_pos rfl] at hc
 split at hc
 ·rename_i hh
  obtain ⟨p1,p2,rfl⟩:∃ p1 p2,ps=[p1,p2]:=by
   cases ps with
   | nil=>simp at hh
   | cons a q=>cases q with
     | nil=>simp at hh
     | cons b q=>cases q with
       | nil=>exact ⟨a,b,rfl⟩
       | cons c q=>simp at hh
  rw [← Option.some.inj hc];have h2:(numR p1).2=true:=hh.2;show p0++32::(Lib.itoa (numR p1).1++32::p2)=l;rw [Zf7 h2];exact hg
 ·cases hc
theorem ref_case {o:Nat} {p0:List UInt8} {ps:List (List UInt8)} {j:Ins} {l:List UInt8} (hc:Zv 8 o (p0::ps)=some j) (hg:gl (p0::ps)=l) (n:Int) (t:List UInt8):p0++X1 8 n t (rtxL j.b j.c.data.toList j.m.data.toList j.d.data.toList)=l:=by
 rw [Zv,if_neg (by omega),if_neg (by omega),if_neg (by omega),if_neg (by omega)] at hc
 split at hc
 ·rename_i hh
  obtain ⟨p1,rfl⟩:∃ p1,ps=[p1]:=by
   cases ps with
   | nil=>simp at hh
   | cons a q=>cases q with
     | nil=>exact ⟨a,rfl⟩
     | cons b q=>simp at hh
  rw [← Option.some.inj hc];have h2:rfOK p1=true:=hh.2;show p0++32::rtxL (rfB p1) (rfC p1) (rfN p1) (rfD p1)=l;rw [(Znn h2).2];exact hg
 ·cases hc
def rdI (o:Int) (l:List UInt8):Ins :=
 if opdI o=1∨opdI o=2∨opdI o=3 then ⟨o,rdN l,⟨#[]⟩,false,⟨#[]⟩,⟨#[]⟩,⟨#[]⟩⟩
 else if opdI o=4∨opdI o=5∨opdI o=6 then ⟨o,0,⟨l.toArray⟩,false,⟨#[]⟩,⟨#[]⟩,⟨#[]⟩⟩
 else if opdI o=7 then ⟨o,rdN (cutA l),⟨(cutB l).toArray⟩,false,⟨#[]⟩,⟨#[]⟩,⟨#[]⟩⟩
 else if opdI o=8 then ⟨o,0,⟨#[]⟩,rfOK l&&rfB l,if rfOK l then ⟨(rfC l).toArray⟩ else ⟨#[]⟩,if rfOK l then ⟨(rfN l).toArray⟩ else ⟨#[]⟩,if rfOK l then ⟨(rfD l).toArray⟩ else ⟨#[]⟩⟩
 else ⟨o,0,⟨#[]⟩,false,⟨#[]⟩,⟨#[]⟩,⟨#[]⟩⟩
def prtI (i:Ins):List UInt8:=prtL i.op i.n i.t i.b i.c i.m i.d
def ownR (l:List UInt8):Ins:=rdI (opOf (cutA l)) (cutB l)
def ownP (l:List UInt8):Option Ins:=if ickI (ownR l)=0∧prtI (ownR l)=l then some (ownR l) else none
def docP (l:List UInt8):Option Ins:=parI (opdI (opOf ((cutL 32 l).headD []))) (opOf ((cutL 32 l).headD [])) (cutL 32 l)
theorem Y9 {t:ByteArray} (h:t.toList.isEmpty=true):t=⟨#[]⟩:=by
 rw [Lib.toList_data,List.isEmpty_iff] at h;apply Zf;rw [h]
theorem Y7 {b:Bool} {c m d:ByteArray} (h:Yk b c m d=true):b=false∧c=⟨#[]⟩∧m=⟨#[]⟩∧d=⟨#[]⟩:=by
 unfold Yk at h;simp only [Bool.and_eq_true,Bool.not_eq_true'] at h;exact ⟨h.1.1.1,Y9 h.1.1.2,Y9 h.1.2,Y9 h.2⟩
theorem Zoi {i:Ins} (h:ickI i=0):insB (opdI i.op) i.n i.t.toList.isEmpty i.t.data.toList (Yk i.b i.c i.m i.d) (rckB i.c.data.toList i.m.data.toList i.d.data.toList)=true:=by
 unfold ickI ickE at h
 split at h
 ·assumption
 ·exact absurd h (by decide)
theorem Yp (t:ByteArray):(⟨t.data.toList.toArray⟩:ByteArray)=t:=by apply Zf;simp
theorem Zar {i:Ins} (h:ickI i=0) :
 (opdI i.op=0∧i=⟨i.op,0,⟨#[]⟩,false,⟨#[]⟩,⟨#[]⟩,⟨#[]⟩⟩) ∨
 ((opdI i.op=1∨opdI i.op=2∨opdI i.op=3)∧(-2147483648≤i.n∧i.n≤2147483647)∧i=⟨i.op,i.n,⟨#[]⟩,false,⟨#[]⟩,⟨#[]⟩,⟨#[]⟩⟩) ∨
 ((opdI i.op=4∨opdI i.op=5∨opdI i.op=6)∧clean i.t.data.toList∧i=⟨i.op,0,i.t,false,⟨#[]⟩,⟨#[]⟩,⟨#[]⟩⟩) ∨
 (opdI i.op=7∧(1≤i.n∧i.n≤255)∧clean i.t.data.toList∧i=⟨i.op,i.n,i.t,false,⟨#[]⟩,⟨#[]⟩,⟨#[]⟩⟩) ∨
 (opdI i.op=8∧rckB i.c.data.toList i.m.data.toList i.d.data.toList=true∧i=⟨i.op,0,⟨#[]⟩,i.b,i.c,i.m,i.d⟩):=by
 have hi:=Zoi h;clear h;obtain ⟨o,n,t,b,c,m,d⟩:=i;simp only at hi ⊢;unfold insB at hi;rcases Yw o with e|e|e|e|e|e|e|e|e|e <;> rw [e] at hi ⊢ <;> simp only [Bool.and_eq_true,beq_iff_eq,decide_eq_true_eq,Int.reduceEq,if_true,if_false,Int.reduceNeg] at hi
 ·exact absurd hi (by decide)
 ·obtain ⟨⟨hz,hn⟩,ht⟩:=hi;obtain ⟨rfl,rfl,rfl,rfl⟩:=Y7 hz;obtain rfl:=Y9 ht;subst hn;exact .inl ⟨rfl,rfl⟩
 ·obtain ⟨⟨⟨hz,ht⟩,h1⟩,h2⟩:=hi;obtain ⟨rfl,rfl,rfl,rfl⟩:=Y7 hz;obtain rfl:=Y9 ht;exact .inr (.inl ⟨.inl rfl,⟨h1,h2⟩,rfl⟩)
 ·obtain ⟨⟨⟨hz,ht⟩,h1⟩,h2⟩:=hi;obtain ⟨rfl,rfl,rfl,rfl⟩:=Y7 hz;obtain rfl:=Y9 ht;exact .inr (.inl ⟨.inr (.inl rfl),⟨by omega,by omega⟩,rfl⟩)
 ·obtain ⟨⟨⟨hz,ht⟩,h1⟩,h2⟩:=hi;obtain ⟨rfl,rfl,rfl,rfl⟩:=Y7 hz;obtain rfl:=Y9 ht;exact .inr (.inl ⟨.inr (.inr rfl),⟨by omega,by omega⟩,rfl⟩)
 ·obtain ⟨⟨hz,hn⟩,ht⟩:=hi;obtain ⟨rfl,rfl,rfl,rfl⟩:=Y7 hz;subst hn;exact .inr (.inr (.inl ⟨.inl rfl,Zao ht,rfl⟩))
 ·obtain ⟨⟨hz,hn⟩,ht⟩:=hi;obtain ⟨rfl,rfl,rfl,rfl⟩:=Y7 hz;subst hn;exact .inr (.inr (.inl ⟨.inr (.inl rfl),Zbc ht,rfl⟩))
 ·obtain ⟨⟨⟨hz,hn⟩,ht⟩,_⟩:=hi;obtain ⟨rfl,rfl,rfl,rfl⟩:=Y7 hz;subst hn;exact .inr (.inr (.inl ⟨.inr (.inr rfl),Zhd ht,rfl⟩))
 ·obtain ⟨⟨⟨hz,ht⟩,h1⟩,h2⟩:=hi;obtain ⟨rfl,rfl,rfl,rfl⟩:=Y7 hz;have h3:=prf_dims ht;exact .inr (.inr (.inr (.inl ⟨rfl,⟨h1,by omega⟩,Zbc ht,rfl⟩)))
 ·obtain ⟨⟨hn,ht⟩,hr⟩:=hi;obtain rfl:=Y9 ht;subst hn;exact .inr (.inr (.inr (.inr ⟨rfl,hr,rfl⟩)))
theorem Qn {i:Ins} (h:ickI i=0):prtI i=Z4 i.op++X1 (opdI i.op) i.n i.t.data.toList (rtxL i.b i.c.data.toList i.m.data.toList i.d.data.toList):=by
 unfold prtI prtL;rw [if_pos (show ickE i.op i.n i.t i.b i.c i.m i.d=0 from h)]
theorem op_nat {i:Ins} (h:ickI i=0):∃ o:Nat,i.op=o∧opOf (Z4 i.op)=o∧(32:UInt8) ∉ Z4 i.op:=by
 obtain ⟨h1,h2⟩:=J6 h;have:=Zm7 ⟨i.op.toNat,by omega⟩ (by show 1≤i.op.toNat;omega);exact ⟨i.op.toNat,by omega,this.1,this.2⟩
theorem own_read {i:Ins} (h:ickI i=0):ownR (prtI i)=i:=by
 obtain ⟨o,ho,hw,hb⟩:=op_nat h;rw [Qn h];rcases Zar h with ⟨hk,e⟩|⟨hk,hn,e⟩|⟨hk,hc,e⟩|⟨hk,hn,hc,e⟩|⟨hk,hr,e⟩
 ·have hr0:∀ n t r,X1 (opdI i.op) n t r=[]:=fun n t r=>by rw [hk];rfl
  rw [hr0,List.append_nil,ownR,Zo1 hb,Zo0 hb,hw,← ho,rdI,hk]
  conv=>rhs;rw [e]
  rfl
 ·have hr0:∀ t r,X1 (opdI i.op) i.n t r=32::Lib.itoa i.n:=fun t r=>by rw [X1,if_pos hk]
  rw [hr0,ownR,Zbp hb,Zbo hb,hw,← ho,rdI,if_pos hk,Zf0 i.n hn.1 hn.2];exact e.symm
 ·have hk':¬ (opdI i.op=1∨opdI i.op=2∨opdI i.op=3):=by omega
  have hr0:∀ n t r,X1 (opdI i.op) n t r=32::t:=fun n t r=>by rw [X1,if_neg hk',if_pos hk]
  rw [hr0,ownR,Zbp hb,Zbo hb,hw,← ho,rdI,if_neg hk',if_pos hk,Yp];exact e.symm
 ·have hr0:∀ n t r,X1 (opdI i.op) n t r=32::(Lib.itoa n++32::t):=fun n t r=>by rw [hk];rfl
  have hb2:(32:UInt8) ∉ Lib.itoa i.n:=Y6 (Zb7 _);rw [hr0,ownR,Zbp hb,Zbo hb,hw,← ho,rdI,if_neg (by omega),if_neg (by omega),if_pos hk,Zbp hb2,Zbo hb2,Zf0 i.n (by omega) (by omega),Yp];exact e.symm
 ·have hr0:∀ n t r,X1 (opdI i.op) n t r=32::r:=fun n t r=>by rw [hk];rfl
  obtain ⟨h1,h2,h3,h4,h5⟩:=Zkp (b:=i.b) hr;rw [hr0,ownR,Zbp hb,Zbo hb,hw,← ho,rdI,if_neg (by omega),if_neg (by omega),if_neg (by omega),if_pos hk,h1,h2,h3,h4,h5,if_pos rfl,if_pos rfl,if_pos rfl,Bool.true_and,Yp,Yp,Yp];exact e.symm
theorem own_back {i:Ins} (h:ickI i=0):ownP (prtI i)=some i:=by
 rw [ownP,own_read h,if_pos ⟨h,rfl⟩]
theorem Zn3 {l:List UInt8} {i:Ins} (h:ownP l=some i):ickI i=0∧prtI i=l:=by
 unfold ownP at h
 split at h
 ·rename_i hh
  obtain rfl:=Option.some.inj h;exact hh
 ·cases h
theorem doc_back {i:Ins} (h:ickI i=0):docP (prtI i)=some i:=by
 obtain ⟨o,ho,hw,hb⟩:=op_nat h;have fin:∀ ps:List (List UInt8),cutL 32 (prtI i)=Z4 i.op::ps→Zv (opdI i.op) o (Z4 i.op::ps)=some i→docP (prtI i)=some i:=by
  intro ps hps hc;rw [docP,hps,List.headD_cons,hw,← ho,parI,ho,← ho];rw [ho] at hc ⊢;rw [hc];simp only;rw [if_pos h]
 rcases Zar h with ⟨hk,e⟩|⟨hk,hn,e⟩|⟨hk,hc,e⟩|⟨hk,hn,hc,e⟩|⟨hk,hr,e⟩
 ·refine fin [] ?_ ?_
  ·rw [Qn h,hk];exact (congrArg _ (List.append_nil _)).trans (J8 32 _ hb)
  ·rw [Zv,if_pos (by omega),if_pos (show [Z4 i.op].length=1 from rfl),← ho,← e]
 ·refine fin [Lib.itoa i.n] ?_ ?_
  ·rw [Qn h,X1,if_pos hk];exact cut2 hb (Y6 (Zb7 _))
  ·have hx:numR (Lib.itoa i.n)=(i.n,true):=Zf5 i.n (by omega) (by omega);rw [Zv,if_neg (by omega),if_pos hk];show (if [Z4 i.op,Lib.itoa i.n].length=2∧(numR (Lib.itoa i.n)).2=true then some (⟨o,(numR (Lib.itoa i.n)).1,⟨#[]⟩,false,⟨#[]⟩,⟨#[]⟩,⟨#[]⟩⟩:Ins) else none)=_;rw [hx,if_pos ⟨rfl,rfl⟩,← ho,← e]
 ·refine fin [i.t.data.toList] ?_ ?_
  ·rw [Qn h,X1,if_neg (by omega),if_pos hk];exact cut2 hb (Y6 hc)
  ·rw [Zv,if_neg (by omega),if_neg (by omega),if_pos hk];show (if [Z4 i.op,i.t.data.toList].length=2 then some (⟨o,0,⟨i.t.data.toList.toArray⟩,false,⟨#[]⟩,⟨#[]⟩,⟨#[]⟩⟩:Ins) else none)=_;rw [if_pos (show [Z4 i.op,i.t.data.toList].length=2 from rfl),Yp,← ho,← e]
 ·refine fin [Lib.itoa i.n,i.t.data.toList] ?_ ?_
  ·rw [Qn h,X1,if_neg (by omega),if_neg (by omega),if_pos hk];exact cut3 hb (Y6 (Zb7 _)) (Y6 hc)
  ·have hx:numR (Lib.itoa i.n)=(i.n,true):=Zf5 i.n (by omega) (by omega);rw [Zv,if_neg (by omega),if_neg (by omega),if_neg (by omega),if_pos hk];show (if [Z4 i.op,Lib.itoa i.n,i.t.data.toList].length=3∧(numR (Lib.itoa i.n)).2=true then some (⟨o,(numR (Lib.itoa i.n)).1,⟨i.t.data.toList.toArray⟩,false,⟨#[]⟩,⟨#[]⟩,⟨#[]⟩⟩:Ins) else none)=_;rw [hx,if_pos ⟨rfl,rfl⟩,Yp,← ho,← e]
 ·obtain ⟨h1,h2,h3,h4,h5⟩:=Zkp (b:=i.b) hr;have hbr:(32:UInt8) ∉ rtxL i.b i.c.data.toList i.m.data.toList i.d.data.toList:=Zni hr;refine fin [rtxL i.b i.c.data.toList i.m.data.toList i.d.data.toList] ?_ ?_
  ·rw [Qn h,X1,if_neg (by omega),if_neg (by omega),if_neg (by omega),if_pos hk];exact cut2 hb hbr
  ·rw [Zv,if_neg (by omega),if_neg (by omega),if_neg (by omega),if_neg (by omega)];generalize rtxL i.b i.c.data.toList i.m.data.toList i.d.data.toList=x at *;show (if [Z4 i.op,x].length=2∧rfOK x=true then some (⟨o,0,⟨#[]⟩,rfB x,⟨(rfC x).toArray⟩,⟨(rfN x).toArray⟩,⟨(rfD x).toArray⟩⟩:Ins) else none)=_;rw [if_pos ⟨rfl,h1⟩,h2,h3,h4,h5,Yp,Yp,Yp,← ho,← e]
theorem Zov {l:List UInt8} {i:Ins} (h:docP l=some i):ickI i=0∧prtI i=l:=by
 have hg:=Zhl l;unfold docP at h
 cases hps:cutL 32 l with
 | nil=>exact absurd hps (Z1 32 l)
 | cons p0 ps =>
   rw [hps] at h hg;rw [List.headD_cons] at h;unfold parI at h
   cases hc:Zv (opdI (opOf p0)) (opOf p0) (p0::ps) with
   | none=>rw [hc] at h;cases h
   | some j =>
     rw [hc] at h;simp only at h;by_cases hj:ickI j=0
     ·rw [if_pos hj] at h;obtain rfl:=Option.some.inj h;refine ⟨hj,?_⟩;rw [Qn hj];have hop:j.op=(opOf p0:Int):=by
       unfold Zv at hc
       split at hc
       ·split at hc
        ·rw [← Option.some.inj hc]
        ·cases hc
       ·split at hc
        ·split at hc
         ·rw [← Option.some.inj hc]
         ·cases hc
        ·split at hc
         ·split at hc
          ·rw [← Option.some.inj hc]
          ·cases hc
         ·split at hc
          ·split at hc
           ·rw [← Option.some.inj hc]
           ·cases hc
          ·split at hc
           ·rw [← Option.some.inj hc]
           ·cases hc
      have hne:opOf p0≠0:=by
       have:=(J6 hj).1;omega
      have hword:Z4 j.op=p0:=by
       rw [hop,Z4,Int.toNat_natCast];exact Zn4 hne
      rw [hword];rw [hop];rcases Yw (opOf p0) with e|e|e|e|e|e|e|e|e|e
      ·have:=Zoi hj;rw [hop,e] at this;simp [insB] at this
      ·rw [e] at hc ⊢;have hl:ps=[]:=by
        simp only [Zv] at hc
        split at hc
        ·split at hc
         ·rename_i hlen;simpa using hlen
         ·cases hc
        ·rename_i hq;exact absurd (Or.inr trivial) hq
       subst hl;rw [← hg];simp [X1,gl]
      ·rw [e] at hc ⊢;exact Zf6 hc hg (by omega) _ _
      ·rw [e] at hc ⊢;exact Zf6 hc hg (by omega) _ _
      ·rw [e] at hc ⊢;exact Zf6 hc hg (by omega) _ _
      ·rw [e] at hc ⊢;exact Zfe hc hg (by omega) _ _
      ·rw [e] at hc ⊢;exact Zfe hc hg (by omega) _ _
      ·rw [e] at hc ⊢;exact Zfe hc hg (by omega) _ _
      ·rw [e] at hc ⊢;exact arr_case hc hg _
      ·rw [e] at hc ⊢;exact ref_case hc hg _ _
     ·rw [if_neg hj] at h;cases h
theorem Zjy (l:List UInt8):ownP l=docP l:=by
 cases hd:docP l with
 | some i =>
   obtain ⟨h1,h2⟩:=Zov hd;rw [← h2];exact own_back h1
 | none =>
   cases ho:ownP l with
   | none=>rfl
   | some i =>
     obtain ⟨h1,h2⟩:=Zn3 ho;rw [← h2,doc_back h1] at hd
     cases hd
def IB (w:World) (b:Nat) (i:Ins):Prop:=w.heap[b]?=some (.cells (insC i).toArray 73 (0,0))
theorem IB.keep {w w':World} {N b:Nat} {i:Ins} (h:IB w b i) (hb:Below N w w') (hlt:b<N):IB w' b i:=by
 unfold IB;rw [hb.block _ hlt];exact h
theorem IB.facts {w:World} {b:Nat} {i:Ins} (h:IB w b i):w.cell? ⟨b,0,none⟩=some (.int .i64 i.op)∧w.cell? ⟨b,1,none⟩=some (.int .i64 i.n)∧w.cell? ⟨b,2,none⟩=some (.string i.t)∧w.cell? ⟨b,3,none⟩=some (.bool i.b)∧w.cell? ⟨b,4,none⟩=some (.string i.c)∧w.cell? ⟨b,5,none⟩=some (.string i.m)∧w.cell? ⟨b,6,none⟩=some (.string i.d) ∧
 w.frozen? ⟨b,0,none⟩=false∧w.frozen? ⟨b,1,none⟩=false∧w.frozen? ⟨b,2,none⟩=false∧w.frozen? ⟨b,3,none⟩=false∧w.frozen? ⟨b,4,none⟩=false∧w.frozen? ⟨b,5,none⟩=false∧w.frozen? ⟨b,6,none⟩=false:=by
 unfold IB at h;refine ⟨?_,?_,?_,?_,?_,?_,?_,?_,?_,?_,?_,?_,?_,?_⟩
 ·rw [cell_of_row _ b 0 _ 73 (0,0) h];rfl
 ·rw [cell_of_row _ b 1 _ 73 (0,0) h];rfl
 ·rw [cell_of_row _ b 2 _ 73 (0,0) h];rfl
 ·rw [cell_of_row _ b 3 _ 73 (0,0) h];rfl
 ·rw [cell_of_row _ b 4 _ 73 (0,0) h];rfl
 ·rw [cell_of_row _ b 5 _ 73 (0,0) h];rfl
 ·rw [cell_of_row _ b 6 _ 73 (0,0) h];rfl
 all_goals simp [World.frozen?,h]
theorem Zek {w:World} {b k:Nat} {cs:Array Value} {t:TypeId} {v:Value} (h:w.heap[b]?=some (.cells cs t (0,0))):(w.setCell ⟨b,k,none⟩ v).heap[b]?=some (.cells (cs.setIfInBounds k v) t (0,0)):=by
 simp only [World.setCell,Array.getElem?_modify,h,if_true]
 rfl
theorem IB.setN {w:World} {b:Nat} {i:Ins} (h:IB w b i) (n:Int):IB (w.setCell ⟨b,1,none⟩ (.int .i64 n)) b ⟨i.op,n,i.t,i.b,i.c,i.m,i.d⟩:=Zek h
theorem IB.setT {w:World} {b:Nat} {i:Ins} (h:IB w b i) (t:ByteArray):IB (w.setCell ⟨b,2,none⟩ (.string t)) b ⟨i.op,i.n,t,i.b,i.c,i.m,i.d⟩:=Zek h
theorem IB.setR {w:World} {b:Nat} {i:Ins} (h:IB w b i) (r:Bool) (c m d:ByteArray) :
 IB ((((w.setCell ⟨b,3,none⟩ (.bool r)).setCell ⟨b,4,none⟩ (.string c)).setCell ⟨b,5,none⟩ (.string m)).setCell ⟨b,6,none⟩ (.string d)) b ⟨i.op,i.n,i.t,r,c,m,d⟩:=Zek (Zek (Zek (Zek h)))
theorem ZB.set {w:World} {b p k:Nat} {v:Value} (h:ZB w b) (hne:b≠p):ZB (w.setCell ⟨p,k,none⟩ v) b:=(Below.heap_setCell _ _ _ _ hne).trans h
theorem ZB.new {w:World} {b:Nat} {o:Obj} (h:ZB w b) (hlt:b<w.heap.size):ZB (w.alloc o) b:=(Below.heap_alloc w o b hlt).trans h
theorem IB.new {w:World} {b:Nat} {i:Ins} {o:Obj} (h:IB w b i) (hlt:b<w.heap.size):IB (w.alloc o) b i:=(Below.heap_alloc w o b hlt).trans h
theorem Zh2 (c:UInt8) (l p:List UInt8) (h:p∈cutL c l):p.length≤l.length:=by
 induction l generalizing p with
 | nil=>simp [cutL] at h;simp [h]
 | cons x l ih =>
   unfold cutL at h
   split at h
   ·rcases List.mem_cons.1 h with rfl|h
    ·simp
    ·have:=ih p h;simp;omega
   ·split at h
    ·rename_i e
     exact absurd e (Z1 c l)
    ·rename_i t ts e
     rcases List.mem_cons.1 h with rfl|h
     ·have:=ih t (by rw [e];exact List.mem_cons_self ..);simp;omega
     ·have:=ih p (by rw [e];exact List.mem_cons_of_mem _ h);simp;omega
theorem Ys {s:ByteArray} {ps:List (List UInt8)} {j:Nat} {p:List UInt8} (hs:s.size≤1099511627776) (h:cutL 32 s.data.toList=ps) (hj:ps[j]?=some p):(⟨p.toArray⟩:ByteArray).size≤1099511627776:=by
 have:=Zh2 32 s.data.toList p (by rw [h];exact List.mem_of_getElem? hj);have e:s.data.toList.length=s.size:=by simp
 show p.toArray.size≤_;simp;omega
theorem Zko {l:List UInt8} (h:rfOK l=true):Zd3 l=.tuple #[.agg #[.bool (rfB l),.string ⟨(rfC l).toArray⟩,.string ⟨(rfN l).toArray⟩,.string ⟨(rfD l).toArray⟩],.int .i64 0]:=by rw [Zd3,h];rfl
theorem rf_len {l:List UInt8} (h:rfOK l=true):(⟨(rfC l).toArray⟩:ByteArray).size≤maxLen∧(⟨(rfN l).toArray⟩:ByteArray).size≤maxLen∧(⟨(rfD l).toArray⟩:ByteArray).size≤maxLen:=by
 unfold rfOK at h;simp only [Bool.and_eq_true] at h;have:=Zir h.2;unfold maxLen;refine ⟨?_,?_,?_⟩
 ·show (rfC l).toArray.size≤_;simp;omega
 ·show (rfN l).toArray.size≤_;simp;omega
 ·show (rfD l).toArray.size≤_;simp;omega
end Go.Proofs.YtfbhjfpkhofifaaGreatDoor
