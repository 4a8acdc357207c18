import Derived.Lib.Strings
import Derived.Lib.IndexBytes
import Derived.Lib.PathFns
import Derived.Lib.Bytealg
namespace Go.Proofs.YtjlfnelihbdhjaaGreat
def digI (c:Int):Bool:=decide (48≤c)&&decide (c≤57)
def ltrI (c:Int):Bool:=decide (97≤c)&&decide (c≤122)||(decide (65≤c)&&decide (c≤90))||c == 95||c == 36
def wordB (c:UInt8):Bool:=ltrI c.toNat||digI c.toNat
def partL (l:List UInt8):Bool:=match l with
  | []=>false
  | c::r=>!digI c.toNat&&(c::r).all wordB
def partsL:List UInt8→List (List UInt8)
  | []=>[[]]
  | c::l=>if c=47 then []::partsL l else match partsL l with
    | []=>[[c]]
    | p::ps=>(c::p)::ps
def validL (l:List UInt8):Bool:=decide (l.length≤60)&&(partsL l).all partL
def initL:List UInt8:=[60,105,110,105,116,62]
def memberL (l:List UInt8):Bool:=l == initL||(decide (l.length≤60)&&partL l)
def lastL (l:List UInt8):Int:=Lib.Pa.lastIndexByte l 47
def pkgL (l:List UInt8):List UInt8:=l.take (lastL l).toNat
theorem partsL_ne (l:List UInt8):partsL l≠[]:=by
  cases l with
  | nil=>simp [partsL]
  | cons c l =>
    unfold partsL
    split
    · simp
    · split <;> simp
theorem partsL_free (l:List UInt8) (h:(47:UInt8) ∉ l):partsL l=[l]:=by
  induction l with
  | nil=>rfl
  | cons c l ih =>
    have hc:c≠47:=fun e=>h (by simp [e])
    have:=ih (fun m=>h (List.mem_cons_of_mem _ m))
    simp [partsL,hc,this]
theorem partsL_cut (a b:List UInt8) (h:(47:UInt8) ∉ a):partsL (a++47::b)=a::partsL b:=by
  induction a with
  | nil=>simp [partsL]
  | cons c l ih =>
    have hc:c≠47:=fun e=>h (by simp [e])
    have:=ih (fun m=>h (List.mem_cons_of_mem _ m))
    simp [partsL,hc,this]
theorem partsL_length (l:List UInt8):(partsL l).length≤l.length+1:=by
  induction l with
  | nil=>simp [partsL]
  | cons c l ih =>
    have hn:=partsL_ne l
    unfold partsL
    split
    · simp;omega
    · split
      · contradiction
      · rename_i p ps e
        rw [e] at ih
        simp at ih ⊢
        omega
theorem indexByte_miss (l:List UInt8) (h:Lib.indexByte l 47=-1):(47:UInt8) ∉ l:=by
  induction l with
  | nil=>simp
  | cons b l ih =>
    unfold Lib.indexByte at h
    split at h
    · simp at h
    · rename_i hb
      have hb':b≠47:=by simpa using hb
      split at h
      · rename_i h1
        have:=ih (by simpa using h1)
        simp [hb'.symm,this]
      · rename_i h1
        have:=Lib.indexByte_ge l 47
        have h1':Lib.indexByte l 47≠-1:=by simpa using h1
        omega
theorem indexByte_hit (l:List UInt8) (h:Lib.indexByte l 47≠-1):∃ a b,l=a++47::b∧(47:UInt8) ∉ a∧Lib.indexByte l 47=(a.length:Int):=by
  induction l with
  | nil=>simp [Lib.indexByte] at h
  | cons b l ih =>
    unfold Lib.indexByte at h ⊢
    by_cases hb:(b == 47)=true
    · have hb':b=47:=by simpa using hb
      exact ⟨[],l,by simp [hb'],by simp,by simp [hb]⟩
    · have hb':(b == 47)=false:=by simpa using hb
      have hb'':b≠47:=by simpa using hb
      simp only [hb',Bool.false_eq_true,if_false] at h ⊢
      by_cases h1:(Lib.indexByte l 47 == -1)=true
      · simp [h1] at h
      · have h1':Lib.indexByte l 47≠-1:=by simpa using h1
        obtain ⟨x,y,e,hx,hi⟩:=ih h1'
        refine ⟨b::x,y,by simp [e],by simp [hb''.symm,hx],?_⟩
        simp only [h1,if_false,Bool.false_eq_true]
        rw [hi];simp
theorem lastL_bounds (l:List UInt8):-1≤lastL l∧lastL l<l.length:=Lib.Pa.lastIndexByte_bounds l 47
end Go.Proofs.YtjlfnelihbdhjaaGreat
