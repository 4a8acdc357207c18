import Derived.Test.YtfbhjfpkhofifaaGreatDoorFOwnR
set_option maxHeartbeats 1000000
set_option maxRecDepth 100000
namespace Go.Proofs.YtfbhjfpkhofifaaGreatDoor.Fl
open Go.RowKit
theorem Zc1 (q:Int×List UInt8) (ps:List (Int×List UInt8)) (t:List UInt8) (ts:List (List UInt8)):subW (q::ps) (t::ts)=if q.2=t then (subW ps ts).map (q.1 + ·) else subW ps (t::ts):=by
 rw [subW]
theorem Zgt {ps:List (Int×List UInt8)} {t:List UInt8} {ts:List (List UInt8)} (h:∀ p∈ps,p.2≠t):subW ps (t::ts)=none:=by
 induction ps with
 | nil=>rfl
 | cons p ps ih =>
   rw [Zc1,if_neg (h p (List.mem_cons_self ..))];exact ih (fun q hq=>h q (List.mem_cons_of_mem _ hq))
theorem subW_hit {ps:List (Int×List UInt8)} {j:Nat} {p:Int×List UInt8} {ts:List (List UInt8)} (hj:ps[j]?=some p) (hd:∀ i q,i<j→ps[i]?=some q→q.2≠p.2) :
 subW ps (p.2::ts)=(subW (ps.drop (j+1)) ts).map (p.1 + ·):=by
 induction ps generalizing j with
 | nil=>simp at hj
 | cons q ps ih =>
   cases j with
   | zero =>
     simp at hj;subst hj;rw [Zc1,if_pos rfl];rfl
   | succ j =>
     rw [Zc1,if_neg (hd 0 q (by omega) rfl)];exact ih (by simpa using hj) (fun i r hi hr=>hd (i+1) r (by omega) (by simpa using hr))
def Za1 (ps:List (Int×List UInt8)):Nat→List Int
 | 0=>[0]
 | k+1=>(sums (ps.take k)).map (fun q=>q.1+(ps[k]?.map (·.1)).getD 0)
structure Rises (kn:Int) (ps:List (Int×List UInt8)):Prop where
 flag:∀ p∈ps,bits .and .i64 (Xj p.2) kn=p.1
 other:∀ t,(∀ p∈ps,p.2≠t)→bits .and .i64 (Xj t) kn=0
 dist:∀ (i j:Nat) (p q:Int×List UInt8),i<j→ps[i]?=some p→ps[j]?=some q→p.2≠q.2
 low:∀ (k:Nat) (f:Int),k≤ps.length→f∈Za1 ps k→0≤f∧∀ (j:Nat) (p:Int×List UInt8),j<k→ps[j]?=some p→p.1≤f
 high:∀ (k:Nat) (f:Int),k≤ps.length→f∈Za1 ps k→∀ (j:Nat) (p:Int×List UInt8),k≤j→ps[j]?=some p→¬ p.1≤f∧bits .or .i64 f p.1=f+p.1∧f+p.1∈Za1 ps (j+1)
theorem Znh {kn:Int} {ps:List (Int×List UInt8)} (R:Rises kn ps) (ts:List (List UInt8)) (k:Nat) (f:Int) (hk:k≤ps.length) (hf:f∈Za1 ps k) :
 runT kn ts f=(subW (ps.drop k) ts).map (f + ·):=by
 induction ts generalizing k f with
 | nil=>cases e:ps.drop k <;> simp [runT,subW]
 | cons t ts ih =>
   by_cases hin:∃ (j:Nat) (p:Int×List UInt8),ps[j]?=some p∧p.2=t
   ·obtain ⟨j,p,hj,rfl⟩:=hin;have hjl:j<ps.length:=(List.getElem?_eq_some_iff.1 hj).1;have hfl:=R.flag p (List.mem_of_getElem? hj);by_cases hjk:k≤j
    ·obtain ⟨h1,h2,h3⟩:=R.high k f hk hf j p hjk hj;show (stepT kn f p.2).bind _=_;rw [Zej (by rw [hfl];exact h1),hfl,h2];show runT kn ts (f+p.1)=_;rw [ih (j+1) (f+p.1) (by omega) h3];rw [subW_hit (j:=j - k) (p:=p) (by rw [List.getElem?_drop];rw [show k+(j - k)=j by omega];exact hj) (fun i q hi hq=>by
      rw [List.getElem?_drop] at hq;exact R.dist _ j q p (by omega) hq hj)]
     rw [List.drop_drop,show k+(j - k+1)=j+1 by omega,Option.map_map]
     congr 1
     funext x;show f+p.1+x=f+(p.1+x);omega
    ·obtain ⟨_,hlow⟩:=R.low k f hk hf;show (stepT kn f p.2).bind _=_;rw [Zbw (by rw [hfl];exact hlow j p (by omega) hj)];rw [Zgt (fun q hq e=>by
      obtain ⟨i,hi⟩:=List.mem_iff_getElem?.1 hq;rw [List.getElem?_drop] at hi;exact R.dist j _ p q (by omega) hj hi e.symm)]
     rfl
   ·have hno:∀ p∈ps,p.2≠t:=fun p hp e=>by
     obtain ⟨i,hi⟩:=List.mem_iff_getElem?.1 hp;exact hin ⟨i,p,hi,e⟩
    show (stepT kn f t).bind _=_;rw [Zbw (by rw [R.other t hno];exact (R.low k f hk hf).1)];rw [Zgt (fun q hq=>hno q (List.mem_of_mem_drop hq))]
    rfl
theorem Zmp (t:List UInt8):Xj t=0∨∃ p∈wplP,p.2≠[]∧p.2=t∧Xj t=p.1:=by
 by_cases h:∃ p∈wplP,p.2≠[]∧p.2=t
 ·obtain ⟨p,hp,hn,rfl⟩:=h;refine .inr ⟨p,hp,hn,rfl,?_⟩;have:∀ p∈wplP,p.2≠[]→Xj p.2=p.1:=by decide
  exact this p hp hn
 ·refine .inl ?_;have hh:∀ p∈wplP,p.2≠[]→t≠p.2:=fun p hp hn e=>h ⟨p,hp,hn,e.symm⟩;unfold Xj;rw [if_neg (hh (1,wPublic) (by decide) (by decide)),if_neg (hh (2,wPrivate) (by decide) (by decide)),if_neg (hh (4,wProtected) (by decide) (by decide)),if_neg (hh (8,wStatic) (by decide) (by decide)),if_neg (hh (16,wFinal) (by decide) (by decide)),if_neg (hh (32,wSuper) (by decide) (by decide)),if_neg (hh (512,wInterface) (by decide) (by decide)),if_neg (hh (1024,wAbstract) (by decide) (by decide))]
theorem Zkn {kn:Int} {ps:List (Int×List UInt8)} {n:Nat} (hn:ps.length=n)
 (h1:∀ p∈ps,bits .and .i64 (Xj p.2) kn=p.1)
 (h2:∀ q∈wplP,q.2≠[]→(∀ p∈ps,p.2≠q.2)→bits .and .i64 q.1 kn=0) (h20:bits .and .i64 0 kn=0)
 (h3:∀ i j:Fin n,i.val<j.val→(ps[i.val]?.map (·.2))≠(ps[j.val]?.map (·.2)))
 (h4:∀ k:Fin (n+1),∀ f∈Za1 ps k.val,0≤f∧∀ j:Fin n,j.val<k.val→(ps[j.val]?.map (·.1)).getD 0≤f)
 (h5:∀ k:Fin (n+1),∀ f∈Za1 ps k.val,∀ j:Fin n,k.val≤j.val→¬ (ps[j.val]?.map (·.1)).getD 0≤f∧bits .or .i64 f ((ps[j.val]?.map (·.1)).getD 0)=f+(ps[j.val]?.map (·.1)).getD 0∧f+(ps[j.val]?.map (·.1)).getD 0∈Za1 ps (j.val+1)):Rises kn ps:=by
 refine ⟨h1,?_,?_,?_,?_⟩
 ·intro t ht;rcases Zmp t with e|⟨q,hq,hqn,rfl,e⟩
  ·rw [e];exact h20
  ·rw [e];exact h2 q hq hqn ht
 ·intro i j p q hij hi hj e;have hjl:j<n:=by rw [← hn];exact (List.getElem?_eq_some_iff.1 hj).1
  have:=h3 ⟨i,by omega⟩ ⟨j,hjl⟩ hij;simp only [hi,hj] at this;exact this (by rw [Option.map_some,Option.map_some,e])
 ·intro k f hk hf;obtain ⟨a,b⟩:=h4 ⟨k,by omega⟩ f hf;refine ⟨a,fun j p hjk hj=>?_⟩;have hjl:j<n:=by rw [← hn];exact (List.getElem?_eq_some_iff.1 hj).1
  have:=b ⟨j,hjl⟩ hjk;simp only [hj] at this;exact this
 ·intro k f hk hf j p hjk hj;have hjl:j<n:=by rw [← hn];exact (List.getElem?_eq_some_iff.1 hj).1
  have:=h5 ⟨k,by omega⟩ f hf ⟨j,hjl⟩ hjk;simp only [hj] at this;exact this
theorem Znl:Rises 1585 clsP:=Zkn (n:=5) rfl (by decide) (by decide) (by decide) (by decide) (by decide +kernel) (by decide +kernel)
theorem Znk:Rises 1055 mthP:=Zkn (n:=6) rfl (by decide) (by decide) (by decide) (by decide) (by decide +kernel) (by decide +kernel)
theorem Zgz (ts:List (List UInt8)):runT 1585 ts 0=subW clsP ts:=by
 rw [Znh Znl ts 0 0 (Nat.zero_le _) (by simp [Za1])];simp
theorem Zgy (ts:List (List UInt8)):runT 1055 ts 0=subW mthP ts:=by
 rw [Znh Znk ts 0 0 (Nat.zero_le _) (by simp [Za1])];simp
theorem Zlu (s:ByteArray) (kn:Int) (he:s.toList.isEmpty=true) (w:World) :
 Calls Tryz.prog 197 #[.string s,.int .i64 kn] w fun e w'=>e=.returned (.tuple #[.int .i64 0,.int .i64 0])∧Bw w w':=by
 go_enter Tryz.func197,Tryz.ntmps197;go_wp2;refine bodyPost_ret (v:=.tuple #[.int .i64 0,.int .i64 0]) (by simp [results,Tryz.f197,go_sem]) rfl ?_;exact ⟨rfl,(((Below.refl _ w).alloc (Nat.le_refl _) _).alloc (by simp) _).alloc (by simp;omega) _⟩
theorem Zku (s:ByteArray) (hs:s.size≤9223372036854775800) (kn:Int) (ps:List (Int×List UInt8)) (hp:∀ ts,runT kn ts 0=subW ps ts) (w:World) (h:WordsIn w) :
 Calls Tryz.prog 197 #[.string s,.int .i64 kn] w fun e w'=>e=.returned (.tuple #[.int .i64 (parF ps s.data.toList),.int .i64 (parX ps s.data.toList)])∧Bw w w':=by
 have he:=Zds s;by_cases hem:s.data.toList=[]
 ·have e1:parF ps s.data.toList=0:=by simp [parF,Zb0,hem]
  have e2:parX ps s.data.toList=0:=by simp [parX,Zb0,hem]
  rw [e1,e2];exact Zlu s kn (by rw [he,hem];rfl) w
 ·have e:Zb0 ps s.data.toList=runT kn (toks s.data.toList) 0:=by rw [Zb0,if_neg hem,hp]
  have e1:parF ps s.data.toList=(runT kn (toks s.data.toList) 0).getD 0:=by rw [parF,e]
  have e2:parX ps s.data.toList=if (runT kn (toks s.data.toList) 0).isSome then 0 else 4:=by rw [parX,e]
  rw [e1,e2];exact callsIn_wide.1 (Jg s hs kn (by rw [he];simp [hem]) w h)
theorem ParseClass_any (s:ByteArray) (hs:s.size≤9223372036854775800) (w:World) (h:WordsIn w) :
 Calls Tryz.prog 183 #[.string s] w fun e w'=>e=.returned (.tuple #[.int .i64 (parF clsP s.data.toList),.int .i64 (parX clsP s.data.toList)])∧Bw w w':=by
 have HW:Hid (Calls Tryz.prog 197 _ w _):=Zku s hs 1585 clsP Zgz w h;generalize parF clsP s.data.toList=a at *;generalize parX clsP s.data.toList=b at *;go_enter Tryz.func183,Tryz.ntmps183;go_wp2_with (go_at_call 197;refine HW.out.mono ?_;rintro e w' ⟨rfl,hb⟩)
 go_ret2
 exact ⟨rfl,hb⟩
theorem ParseMethod_any (s:ByteArray) (hs:s.size≤9223372036854775800) (w:World) (h:WordsIn w) :
 Calls Tryz.prog 186 #[.string s] w fun e w'=>e=.returned (.tuple #[.int .i64 (parF mthP s.data.toList),.int .i64 (parX mthP s.data.toList)])∧Bw w w':=by
 have HW:Hid (Calls Tryz.prog 197 _ w _):=Zku s hs 1055 mthP Zgy w h;generalize parF mthP s.data.toList=a at *;generalize parX mthP s.data.toList=b at *;go_enter Tryz.func186,Tryz.ntmps186;go_wp2_with (go_at_call 197;refine HW.out.mono ?_;rintro e w' ⟨rfl,hb⟩)
 go_ret2
 exact ⟨rfl,hb⟩
end Go.Proofs.YtfbhjfpkhofifaaGreatDoor.Fl
