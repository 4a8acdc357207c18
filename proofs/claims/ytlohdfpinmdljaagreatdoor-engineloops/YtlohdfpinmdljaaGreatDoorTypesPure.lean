import Derived.Lib.Strings
import Derived.Lib.IndexBytes
import Derived.Lib.PathFns
import Derived.Lib.Bytealg
namespace Go.Proofs.YtlohdfpinmdljaaGreatDoor
def digI (c:Int):Bool:=decide (48≤c)&&decide (c≤57)
def ltrI (c:Int):Bool:=decide (97≤c)&&decide (c≤122)||(decide (65≤c)&&decide (c≤90))||c == 95||c == 36
def wordB (c:UInt8):Bool:=ltrI c.toNat||digI c.toNat
def partL (l:List UInt8):Bool:=match l with
  | []=>false
  | c::r=>!digI c.toNat&&(c::r).all wordB
def partsL:List UInt8→List (List UInt8)
  | []=>[[]]
  | c::l=>if c=47 then []::partsL l else match partsL l with
    | []=>[[c]]
    | p::ps=>(c::p)::ps
def validL (l:List UInt8):Bool:=decide (l.length≤60)&&(partsL l).all partL
def initL:List UInt8:=[60,105,110,105,116,62]
def memberL (l:List UInt8):Bool:=l == initL||(decide (l.length≤60)&&partL l)
def lastL (l:List UInt8):Int:=Lib.Pa.lastIndexByte l 47
def pkgL (l:List UInt8):List UInt8:=l.take (lastL l).toNat
theorem partsL_ne (l:List UInt8):partsL l≠[]:=by
  cases l with
  | nil=>simp [partsL]
  | cons c l =>
    unfold partsL
    split
    · simp
    · split <;> simp
theorem partsL_free (l:List UInt8) (h:(47:UInt8) ∉ l):partsL l=[l]:=by
  induction l with
  | nil=>rfl
  | cons c l ih =>
    have hc:c≠47:=fun e=>h (by simp [e])
    have:=ih (fun m=>h (List.mem_cons_of_mem _ m))
    simp [partsL,hc,this]
theorem partsL_cut (a b:List UInt8) (h:(47:UInt8) ∉ a):partsL (a++47::b)=a::partsL b:=by
  induction a with
  | nil=>simp [partsL]
  | cons c l ih =>
    have hc:c≠47:=fun e=>h (by simp [e])
    have:=ih (fun m=>h (List.mem_cons_of_mem _ m))
    simp [partsL,hc,this]
theorem partsL_length (l:List UInt8):(partsL l).length≤l.length+1:=by
  induction l with
  | nil=>simp [partsL]
  | cons c l ih =>
    have hn:=partsL_ne l
    unfold partsL
    split
    · simp;omega
    · split
      · contradiction
      · rename_i p ps e
        rw [e] at ih
        simp at ih ⊢
        omega
theorem indexByte_miss (l:List UInt8) (h:Lib.indexByte l 47=-1):(47:UInt8) ∉ l:=by
  induction l with
  | nil=>simp
  | cons b l ih =>
    unfold Lib.indexByte at h
    split at h
    · simp at h
    · rename_i hb
      have hb':b≠47:=by simpa using hb
      split at h
      · rename_i h1
        have:=ih (by simpa using h1)
        simp [hb'.symm,this]
      · rename_i h1
        have:=Lib.indexByte_ge l 47
        have h1':Lib.indexByte l 47≠-1:=by simpa using h1
        omega
theorem indexByte_hit (l:List UInt8) (h:Lib.indexByte l 47≠-1):∃ a b,l=a++47::b∧(47:UInt8) ∉ a∧Lib.indexByte l 47=(a.length:Int):=by
  induction l with
  | nil=>simp [Lib.indexByte] at h
  | cons b l ih =>
    unfold Lib.indexByte at h ⊢
    by_cases hb:(b == 47)=true
    · have hb':b=47:=by simpa using hb
      exact ⟨[],l,by simp [hb'],by simp,by simp [hb]⟩
    · have hb':(b == 47)=false:=by simpa using hb
      have hb'':b≠47:=by simpa using hb
      simp only [hb',Bool.false_eq_true,if_false] at h ⊢
      by_cases h1:(Lib.indexByte l 47 == -1)=true
      · simp [h1] at h
      · have h1':Lib.indexByte l 47≠-1:=by simpa using h1
        obtain ⟨x,y,e,hx,hi⟩:=ih h1'
        refine ⟨b::x,y,by simp [e],by simp [hb''.symm,hx],?_⟩
        simp only [h1,if_false,Bool.false_eq_true]
        rw [hi];simp
theorem lastL_bounds (l:List UInt8):-1≤lastL l∧lastL l<l.length:=Lib.Pa.lastIndexByte_bounds l 47
def bracks:List UInt8→Nat×List UInt8
  | []=>(0,[])
  | c::l=>if c=91 then ((bracks l).1+1,(bracks l).2) else (0,c::l)
def semi:List UInt8→Option (List UInt8×List UInt8)
  | []=>none
  | c::l=>if c=59 then some ([],l) else match semi l with
    | none=>none
    | some (a,b)=>some (c::a,b)
def readT (l:List UInt8):Option ((Nat×List UInt8)×List UInt8) :=
  match (bracks l).2 with
  | []=>none
  | c::r=>if c=73 then some (((bracks l).1,[]),r)
    else if c=76 then match semi r with
      | none=>none
      | some (a,b)=>if validL a then some (((bracks l).1,a),b) else none
    else none
def writeT (t:Nat×List UInt8):List UInt8:=List.replicate t.1 91++(if t.2=[] then [73] else 76::(t.2++[59]))
def namedT (t:Nat×List UInt8):Bool:=t.2 == []||validL t.2
theorem bracks_eq (l:List UInt8):l=List.replicate (bracks l).1 91++(bracks l).2:=by
  induction l with
  | nil=>rfl
  | cons c l ih =>
    unfold bracks
    by_cases h:c=91
    · simp only [h,if_true,List.replicate_succ,List.cons_append]
      rw [← ih]
    · simp [h]
theorem semi_app (a b:List UInt8) (h:(59:UInt8) ∉ a):semi (a++59::b)=some (a,b):=by
  induction a with
  | nil=>simp [semi]
  | cons c l ih =>
    have hc:c≠59:=fun e=>h (by simp [e])
    have:=ih (fun m=>h (List.mem_cons_of_mem _ m))
    simp [semi,hc,this]
theorem semi_eq {l a b:List UInt8} (h:semi l=some (a,b)):l=a++59::b∧(59:UInt8) ∉ a:=by
  induction l generalizing a b with
  | nil=>simp [semi] at h
  | cons c l ih =>
    unfold semi at h
    by_cases hc:c=59
    · simp [hc] at h
      obtain ⟨rfl,rfl⟩:=h
      simp [hc]
    · simp only [hc,if_false] at h
      cases e:semi l with
      | none=>rw [e] at h;simp at h
      | some p =>
        obtain ⟨x,y⟩:=p
        rw [e] at h
        simp at h
        obtain ⟨rfl,rfl⟩:=h
        obtain ⟨q1,q2⟩:=ih e
        exact ⟨by rw [q1];rfl,by simp [q2];exact fun z=>hc z.symm⟩
theorem valid_nil:validL []=false:=by decide
theorem write_read {l:List UInt8} {t:Nat×List UInt8} {r:List UInt8} (h:readT l=some (t,r)):l=writeT t++r∧namedT t=true:=by
  have hb:=bracks_eq l
  unfold readT at h
  cases e:(bracks l).2 with
  | nil=>rw [e] at h;simp at h
  | cons c s =>
    rw [e] at h hb
    simp only at h
    by_cases h1:c=73
    · simp [h1] at h
      obtain ⟨rfl,rfl⟩:=h
      refine ⟨?_,by simp [namedT]⟩
      conv=>lhs;rw [hb]
      simp [writeT,h1]
    · by_cases h2:c=76
      · subst h2
        simp only [h1,if_false,if_true] at h
        cases e2:semi s with
        | none=>rw [e2] at h;simp at h
        | some p =>
          obtain ⟨x,y⟩:=p
          rw [e2] at h
          simp only at h
          by_cases hv:validL x=true
          · simp [hv] at h
            obtain ⟨rfl,rfl⟩:=h
            have hx:x≠[]:=fun z=>by rw [z,valid_nil] at hv;simp at hv
            refine ⟨?_,by simp [namedT,hv]⟩
            conv=>lhs;rw [hb]
            rw [(semi_eq e2).1]
            simp [writeT,hx]
          · simp [hv] at h
      · simp [h1,h2] at h
theorem writeT_length (t:Nat×List UInt8):(writeT t).length=t.1+(if t.2=[] then 1 else t.2.length+2):=by
  unfold writeT
  split <;> simp
theorem readT_less {l:List UInt8} {t:Nat×List UInt8} {r:List UInt8} (h:readT l=some (t,r)):r.length<l.length:=by
  rw [(write_read h).1,List.length_append,writeT_length]
  split <;> omega
def readArgs:Nat→List UInt8→Option (List (Nat×List UInt8)×List UInt8)
  | 0,_=>none
  | _+1,[]=>none
  | f+1,c::l=>if c=41 then some ([],l) else match readT (c::l) with
    | none=>none
    | some (t,r)=>match readArgs f r with
      | none=>none
      | some (ts,r2)=>some (t::ts,r2)
def writeArgs (ts:List (Nat×List UInt8)):List UInt8:=(ts.map writeT).flatten
theorem write_args {f:Nat} {l:List UInt8} {ts:List (Nat×List UInt8)} {r:List UInt8} (h:readArgs f l=some (ts,r)):l=writeArgs ts++41::r∧∀ t∈ts,namedT t=true:=by
  induction f generalizing l ts r with
  | zero=>simp [readArgs] at h
  | succ f ih =>
    cases l with
    | nil=>simp [readArgs] at h
    | cons c l =>
      rw [readArgs] at h
      by_cases hc:c=41
      · simp [hc] at h
        obtain ⟨rfl,rfl⟩:=h
        simp [hc,writeArgs]
      · rw [if_neg hc] at h
        cases e:readT (c::l) with
        | none=>rw [e] at h;simp at h
        | some p =>
          obtain ⟨t,r1⟩:=p
          rw [e] at h
          simp only at h
          cases e2:readArgs f r1 with
          | none=>rw [e2] at h;simp at h
          | some p2 =>
            obtain ⟨us,r2⟩:=p2
            rw [e2] at h
            simp at h
            obtain ⟨rfl,rfl⟩:=h
            obtain ⟨q1,q2⟩:=ih e2
            obtain ⟨p1,p2⟩:=write_read e
            refine ⟨?_,fun x hx=>?_⟩
            · rw [p1,q1];simp [writeArgs]
            · rcases List.mem_cons.1 hx with rfl|hx
              · exact p2
              · exact q2 x hx
def readRet (l:List UInt8):Option (Option (Nat×List UInt8)) :=
  if l=[86] then some none else match readT l with
    | some (t,[])=>some (some t)
    | _=>none
def readD (l:List UInt8):Option (List (Nat×List UInt8)×Option (Nat×List UInt8)) :=
  match l with
  | 40::r=>match readArgs (r.length+1) r with
    | none=>none
    | some (ts,q)=>match readRet q with
      | none=>none
      | some x=>some (ts,x)
  | _=>none
end Go.Proofs.YtlohdfpinmdljaaGreatDoor
