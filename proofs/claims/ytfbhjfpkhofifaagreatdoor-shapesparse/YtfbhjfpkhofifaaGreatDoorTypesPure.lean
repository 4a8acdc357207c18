import Derived.Lib.IndexBytes
import Derived.Lib.PathFns
namespace Go.Proofs.YtfbhjfpkhofifaaGreatDoor
def digI (c:Int):Bool:=decide (48≤c)&&decide (c≤57)
def ltrI (c:Int):Bool:=decide (97≤c)&&decide (c≤122)||(decide (65≤c)&&decide (c≤90))||c == 95||c == 36
def Js (c:UInt8):Bool:=ltrI c.toNat||digI c.toNat
def Xb (l:List UInt8):Bool:=match l with
 | []=>false
 | c::r=>!digI c.toNat&&(c::r).all Js
def Z0:List UInt8→List (List UInt8)
 | []=>[[]]
 | c::l=>if c=47 then []::Z0 l else match Z0 l with
   | []=>[[c]]
   | p::ps=>(c::p)::ps
def Zl (l:List UInt8):Bool:=decide (l.length≤60)&&(Z0 l).all Xb
def initL:List UInt8:=[60,105,110,105,116,62]
def Yd (l:List UInt8):Bool:=l == initL||(decide (l.length≤60)&&Xb l)
theorem J0 (l:List UInt8):Z0 l≠[]:=by
 cases l with
 | nil=>simp [Z0]
 | cons c l =>
   unfold Z0
   split
   ·simp
   ·split <;> simp
theorem Zdh (l:List UInt8) (h:(47:UInt8) ∉ l):Z0 l=[l]:=by
 induction l with
 | nil=>rfl
 | cons c l ih =>
   have hc:c≠47:=fun e=>h (by simp [e]);have:=ih (fun m=>h (List.mem_cons_of_mem _ m));simp [Z0,hc,this]
theorem Zep (a b:List UInt8) (h:(47:UInt8) ∉ a):Z0 (a++47::b)=a::Z0 b:=by
 induction a with
 | nil=>simp [Z0]
 | cons c l ih =>
   have hc:c≠47:=fun e=>h (by simp [e]);have:=ih (fun m=>h (List.mem_cons_of_mem _ m));simp [Z0,hc,this]
theorem X5 (l:List UInt8):(Z0 l).length≤l.length+1:=by
 induction l with
 | nil=>simp [Z0]
 | cons c l ih =>
   have hn:=J0 l;unfold Z0
   split
   ·simp;omega
   ·split
    ·contradiction
    ·rename_i p ps e
     rw [e] at ih;simp at ih ⊢;omega
theorem Xs (l:List UInt8) (h:Lib.indexByte l 47=-1):(47:UInt8) ∉ l:=by
 induction l with
 | nil=>simp
 | cons b l ih =>
   unfold Lib.indexByte at h
   split at h
   ·simp at h
   ·rename_i hb
    have hb':b≠47:=by simpa using hb
    split at h
    ·rename_i h1
     have:=ih (by simpa using h1);simp [hb'.symm,this]
    ·rename_i h1
     have:=Lib.indexByte_ge l 47;have h1':Lib.indexByte l 47≠-1:=by simpa using h1
     omega
theorem X7 (l:List UInt8) (h:Lib.indexByte l 47≠-1):∃ a b,l=a++47::b∧(47:UInt8) ∉ a∧Lib.indexByte l 47=(a.length:Int):=by
 induction l with
 | nil=>simp [Lib.indexByte] at h
 | cons b l ih =>
   unfold Lib.indexByte at h ⊢;by_cases hb:(b == 47)=true
   ·have hb':b=47:=by simpa using hb
    exact ⟨[],l,by simp [hb'],by simp,by simp [hb]⟩
   ·have hb':(b == 47)=false:=by simpa using hb
    have hb'':b≠47:=by simpa using hb
    simp only [hb',Bool.false_eq_true,if_false] at h ⊢;by_cases h1:(Lib.indexByte l 47 == -1)=true
    ·simp [h1] at h
    ·have h1':Lib.indexByte l 47≠-1:=by simpa using h1
     obtain ⟨x,y,e,hx,hi⟩:=ih h1';refine ⟨b::x,y,by simp [e],by simp [hb''.symm,hx],?_⟩;simp only [h1,if_false,Bool.false_eq_true];rw [hi];simp
theorem Zkw {p:List UInt8} (h:Xb p=true):∀ c∈p,Js c=true:=by
 cases p with
 | nil=>simp [Xb] at h
 | cons c r =>
   have h2:(c::r).all Js=true:=by unfold Xb at h;exact (Bool.and_eq_true_iff.1 h).2
   exact List.all_eq_true.1 h2
theorem Zob (l:List UInt8):∀ c∈l,c=47∨∃ p∈Z0 l,c∈p:=by
 induction l with
 | nil=>simp
 | cons d l ih =>
   intro c hc;by_cases hd:d=47
   ·rcases List.mem_cons.1 hc with rfl|h
    ·exact .inl hd
    ·rcases ih c h with h|⟨p,hp,hcp⟩
     ·exact .inl h
     ·exact .inr ⟨p,by simp [Z0,hd,hp],hcp⟩
   ·have hn:=J0 l
    cases e:Z0 l with
    | nil=>contradiction
    | cons q qs =>
      have e2:Z0 (d::l)=(d::q)::qs:=by simp [Z0,hd,e]
      rw [e2];rcases List.mem_cons.1 hc with rfl|h
      ·exact .inr ⟨c::q,by simp,by simp⟩
      ·rcases ih c h with h|⟨p,hp,hcp⟩
       ·exact .inl h
       ·rw [e] at hp;rcases List.mem_cons.1 hp with rfl|hp
        ·exact .inr ⟨d::p,by simp,by simp [hcp]⟩
        ·exact .inr ⟨p,by simp [hp],hcp⟩
theorem Zie {l:List UInt8} (h:Zl l=true):∀ p∈Z0 l,Xb p=true:=by
 unfold Zl at h;exact List.all_eq_true.1 (Bool.and_eq_true_iff.1 h).2
theorem Zif {l:List UInt8} (h:Zl l=true):∀ c∈l,c=47∨Js c=true:=by
 intro c hc;rcases Zob l c hc with h1|⟨p,hp,hcp⟩
 ·exact .inl h1
 ·exact .inr (Zkw (Zie h p hp) c hcp)
theorem valid_ne {l:List UInt8} (h:Zl l=true):1≤l.length:=by
 cases l with
 | nil=>revert h;decide
 | cons c r=>simp
def Z6:List UInt8→Nat×List UInt8
 | []=>(0,[])
 | c::l=>if c=91 then ((Z6 l).1+1,(Z6 l).2) else (0,c::l)
def semi:List UInt8→Option (List UInt8×List UInt8)
 | []=>none
 | c::l=>if c=59 then some ([],l) else match semi l with
   | none=>none
   | some (a,b)=>some (c::a,b)
def Yi (l:List UInt8):Option ((Nat×List UInt8)×List UInt8) :=
 match (Z6 l).2 with
 | []=>none
 | c::r=>if c=73 then some (((Z6 l).1,[]),r)
   else if c=76 then match semi r with
    | none=>none
    | some (a,b)=>if Zl a then some (((Z6 l).1,a),b) else none
   else none
def Qz (t:Nat×List UInt8):List UInt8:=List.replicate t.1 91++(if t.2=[] then [73] else 76::(t.2++[59]))
def J4 (t:Nat×List UInt8):Bool:=t.2 == []||Zl t.2
theorem Zo7 (l:List UInt8):l=List.replicate (Z6 l).1 91++(Z6 l).2:=by
 induction l with
 | nil=>rfl
 | cons c l ih =>
   unfold Z6;by_cases h:c=91
   ·simp only [h,if_true,List.replicate_succ,List.cons_append];rw [← ih]
   ·simp [h]
theorem Zkl (a b:List UInt8) (h:(59:UInt8) ∉ a):semi (a++59::b)=some (a,b):=by
 induction a with
 | nil=>simp [semi]
 | cons c l ih =>
   have hc:c≠59:=fun e=>h (by simp [e]);have:=ih (fun m=>h (List.mem_cons_of_mem _ m));simp [semi,hc,this]
theorem Zfn {l a b:List UInt8} (h:semi l=some (a,b)):l=a++59::b∧(59:UInt8) ∉ a:=by
 induction l generalizing a b with
 | nil=>simp [semi] at h
 | cons c l ih =>
   unfold semi at h;by_cases hc:c=59
   ·simp [hc] at h;obtain ⟨rfl,rfl⟩:=h;simp [hc]
   ·simp only [hc,if_false] at h
    cases e:semi l with
    | none=>rw [e] at h;simp at h
    | some p =>
      obtain ⟨x,y⟩:=p;rw [e] at h;simp at h;obtain ⟨rfl,rfl⟩:=h;obtain ⟨q1,q2⟩:=ih e;exact ⟨by rw [q1];rfl,by simp [q2];exact fun z=>hc z.symm⟩
theorem Zm8:Zl []=false:=by decide
theorem Qy {l:List UInt8} {t:Nat×List UInt8} {r:List UInt8} (h:Yi l=some (t,r)):l=Qz t++r∧J4 t=true:=by
 have hb:=Zo7 l;unfold Yi at h
 cases e:(Z6 l).2 with
 | nil=>rw [e] at h;simp at h
 | cons c s =>
   rw [e] at h hb;simp only at h;by_cases h1:c=73
   ·simp [h1] at h;obtain ⟨rfl,rfl⟩:=h;refine ⟨?_,by simp [J4]⟩
    conv=>lhs;rw [hb]
    simp [Qz,h1]
   ·by_cases h2:c=76
    ·subst h2;simp only [h1,if_false,if_true] at h
     cases e2:semi s with
     | none=>rw [e2] at h;simp at h
     | some p =>
       obtain ⟨x,y⟩:=p;rw [e2] at h;simp only at h;by_cases hv:Zl x=true
       ·simp [hv] at h;obtain ⟨rfl,rfl⟩:=h;have hx:x≠[]:=fun z=>by rw [z,Zm8] at hv;simp at hv
        refine ⟨?_,by simp [J4,hv]⟩
        conv=>lhs;rw [hb]
        rw [(Zfn e2).1];simp [Qz,hx]
       ·simp [hv] at h
    ·simp [h1,h2] at h
theorem Zfc (t:Nat×List UInt8):(Qz t).length=t.1+(if t.2=[] then 1 else t.2.length+2):=by
 unfold Qz
 split <;> simp
theorem Q7 {l:List UInt8} {t:Nat×List UInt8} {r:List UInt8} (h:Yi l=some (t,r)):r.length<l.length:=by
 rw [(Qy h).1,List.length_append,Zfc]
 split <;> omega
def Yh:Nat→List UInt8→Option (List (Nat×List UInt8)×List UInt8)
 | 0,_=>none
 | _+1,[]=>none
 | f+1,c::l=>if c=41 then some ([],l) else match Yi (c::l) with
   | none=>none
   | some (t,r)=>match Yh f r with
     | none=>none
     | some (ts,r2)=>some (t::ts,r2)
def Qd (ts:List (Nat×List UInt8)):List UInt8:=(ts.map Qz).flatten
theorem Zee {f:Nat} {l:List UInt8} {ts:List (Nat×List UInt8)} {r:List UInt8} (h:Yh f l=some (ts,r)):l=Qd ts++41::r∧∀ t∈ts,J4 t=true:=by
 induction f generalizing l ts r with
 | zero=>simp [Yh] at h
 | succ f ih =>
   cases l with
   | nil=>simp [Yh] at h
   | cons c l =>
     rw [Yh] at h;by_cases hc:c=41
     ·simp [hc] at h;obtain ⟨rfl,rfl⟩:=h;simp [hc,Qd]
     ·rw [if_neg hc] at h
      cases e:Yi (c::l) with
      | none=>rw [e] at h;simp at h
      | some p =>
        obtain ⟨t,r1⟩:=p;rw [e] at h;simp only at h
        cases e2:Yh f r1 with
        | none=>rw [e2] at h;simp at h
        | some p2 =>
          obtain ⟨us,r2⟩:=p2;rw [e2] at h;simp at h;obtain ⟨rfl,rfl⟩:=h;obtain ⟨q1,q2⟩:=ih e2;obtain ⟨p1,p2⟩:=Qy e;refine ⟨?_,fun x hx=>?_⟩
          ·rw [p1,q1];simp [Qd]
          ·rcases List.mem_cons.1 hx with rfl|hx
           ·exact p2
           ·exact q2 x hx
def Zby (l:List UInt8):Option (Option (Nat×List UInt8)) :=
 if l=[86] then some none else match Yi l with
  | some (t,[])=>some (some t)
  | _=>none
def Zfd:Option (Nat×List UInt8)→List UInt8
 | none=>[86]
 | some t=>Qz t
def Zba (l:List UInt8):Option (List (Nat×List UInt8)×Option (Nat×List UInt8)) :=
 match l with
 | 40::r=>match Yh (r.length+1) r with
   | none=>none
   | some (ts,q)=>match Zby q with
     | none=>none
     | some x=>some (ts,x)
 | _=>none
def writeD (d:List (Nat×List UInt8)×Option (Nat×List UInt8)):List UInt8:=40::(Qd d.1++41::Zfd d.2)
def namedD (d:List (Nat×List UInt8)×Option (Nat×List UInt8)):Prop:=(∀ t∈d.1,J4 t=true)∧∀ t,d.2=some t→J4 t=true
theorem Zm1 {l:List UInt8} {x:Option (Nat×List UInt8)} (h:Zby l=some x):l=Zfd x∧∀ t,x=some t→J4 t=true:=by
 unfold Zby at h;by_cases hl:l=[86]
 ·simp [hl] at h;subst h;exact ⟨hl,fun t z=>by simp at z⟩
 ·rw [if_neg hl] at h
  cases e:Yi l with
  | none=>rw [e] at h;simp at h
  | some p =>
    obtain ⟨t,r⟩:=p;rw [e] at h
    cases r with
    | cons a b=>simp at h
    | nil =>
      simp at h;subst h;obtain ⟨q1,q2⟩:=Qy e;refine ⟨by rw [q1];simp [Zfd],fun u z=>?_⟩;simp at z;rw [← z];exact q2
theorem Zid {l:List UInt8} {d:List (Nat×List UInt8)×Option (Nat×List UInt8)} (h:Zba l=some d):l=writeD d∧namedD d:=by
 unfold Zba at h
 split at h
 ·rename_i r
  cases e:Yh (r.length+1) r with
  | none=>rw [e] at h;simp at h
  | some p =>
    obtain ⟨ts,q⟩:=p;rw [e] at h;simp only at h
    cases e2:Zby q with
    | none=>rw [e2] at h;simp at h
    | some x =>
      rw [e2] at h;simp at h;subst h;obtain ⟨a1,a2⟩:=Zee e;obtain ⟨b1,b2⟩:=Zm1 e2;exact ⟨by rw [a1,b1];rfl,a2,b2⟩
 ·simp at h
end Go.Proofs.YtfbhjfpkhofifaaGreatDoor
