import Derived.Test.YtfbhjfpkhofifaaGreatDoorSoE
import Derived.Test.YtfbhjfpkhofifaaGreatDoorFIdxA
import Derived.Test.YtfbhjfpkhofifaaGreatDoorCodeX
import Derived.Test.YtfbhjfpkhofifaaGreatDoorOwnP
import Derived.Test.YtfbhjfpkhofifaaGreatDoorArgC
import Derived.Deep.RegionHeld3
set_option maxHeartbeats 2000000
set_option maxRecDepth 100000
namespace Go.Proofs.YtfbhjfpkhofifaaGreatDoor
open Go.RowKit
def Yg:List UInt8→List (List UInt8)→List UInt8
  | f,[]=>f
  | f,p::r=>Yg (if p=[] then f else f++32::p) r
theorem lineL_at {l:List (List UInt8)} (f:List UInt8) (k:Nat) (x:List UInt8) (h:l[k]?=some x):Yg f (l.drop k)=Yg (if x=[] then f else f++32::x) (l.drop (k+1)):=by
  obtain ⟨h1,h2⟩:=List.getElem?_eq_some_iff.1 h;rw [List.drop_eq_getElem_cons h1,h2,Yg]
def wClass:List UInt8:=[99,108,97,115,115]
def wSup:List UInt8:=[115,117,112,101,114]
def wIface:List UInt8:=[105,102,97,99,101]
def wFlags:List UInt8:=[102,108,97,103,115]
def wLoader:List UInt8:=[108,111,97,100,101,114]
def Zq:List UInt8:=[109,101,116,104,111,100]
def Zp:List UInt8:=[108,111,99,97,108,115]
def Z3:List UInt8:=[115,116,97,99,107]
def wEnd:List UInt8:=[101,110,100]
def X6 (m:Mth):List (List UInt8):=Yg Zq [m.nm.data.toList,m.ds.data.toList,Qv m.fl mthP]::Yg Zp [Lib.itoa m.lo]::Yg Z3 [Lib.itoa m.st]::m.code.map prtI
def Zec (c:Cls):List (List UInt8) :=
  [Yg wClass [c.nm.data.toList],Yg wSup [c.su.data.toList]]++c.ifs.map (fun p=>Yg wIface [p])++[Yg wFlags [Qv c.fl clsP],Yg wLoader [Lib.itoa c.ld]]++c.ms.flatMap X6++[wEnd]
def clsT (c:Cls):List UInt8:=(Zec c).flatMap (· ++ [10])
theorem jn_cons2 (x y:List UInt8) (r:List (List UInt8)) (sep:List UInt8):Lib.join (x::y::r) sep=x++sep++Lib.join (y::r) sep:=by
  simp [Lib.join,List.intercalate]
theorem Zof (L:List (List UInt8)):Lib.join (L++[[]]) [10]=L.flatMap (· ++ [10]):=by
  induction L with
  | nil=>rfl
  | cons x r ih =>
    cases r with
    | nil=>simp [Lib.join,List.intercalate]
    | cons y r =>
      rw [List.cons_append,List.cons_append,jn_cons2,← List.cons_append,ih];simp
theorem Za0 (f:Int) (ps:List (Int×List UInt8)) (h:∀ p∈ps,p.2.length≤20) (hl:ps.length≤100):(Qv f ps).length≤2100:=by
  unfold Qv
  split
  · have:=Zev f ps h;omega
  · simp
theorem prt_len {i:Ins} (h:ickI i=0):(prtI i).length≤9000:=by
  have h2:i.t.size≤2000:=Xt h;have hw:=Xm i.op;have hrx:=Zkm i.b i.c.data.toList i.m.data.toList i.d.data.toList;rw [Zk] at hrx;have hl:i.t.data.toList.length=i.t.size:=by simp
  have hr:(X1 (opdI i.op) i.n i.t.data.toList (rtxL i.b i.c.data.toList i.m.data.toList i.d.data.toList)).length≤8000:=by
    rcases Zar h with ⟨hk,_⟩|⟨hk,hn,_⟩|⟨hk,_,_⟩|⟨hk,hn,_,_⟩|⟨hk,_,_⟩
    · rw [hk];show ([]:List UInt8).length≤8000;simp
    · rw [X1,if_pos hk]
      have:=Lib.itoa_length_le i.n (by omega) (by omega);rw [List.length_cons];omega
    · rw [X1,if_neg (by omega),if_pos hk,List.length_cons];omega
    · rw [X1,if_neg (by omega),if_neg (by omega),if_pos hk]
      have:=Lib.itoa_length_le i.n (by omega) (by omega);rw [List.length_cons,List.length_append,List.length_cons];omega
    · rw [X1,if_neg (by omega),if_neg (by omega),if_neg (by omega),if_pos hk,List.length_cons];omega
  rw [Qn h,List.length_append];omega
theorem Qo (f:List UInt8) (l:List (List UInt8)):(Yg f l).length≤f.length+(l.map fun p=>p.length+1).sum:=by
  induction l generalizing f with
  | nil=>simp [Yg]
  | cons p r ih =>
    rw [Yg];refine Nat.le_trans (ih _) ?_
    split <;> simp <;> omega
structure MthS (m:Mth):Prop where
  mem:Yd m.nm.data.toList=true
  desc:pdE m.ds.data.toList=0
  lo:0≤m.lo∧m.lo≤40
  st:0≤m.st∧m.st≤40
  num:m.code.length≤200
  ins:∀ i∈m.code,ickI i=0
theorem all_ins {l:List Ins} {lo:Int} (h:(allE l lo == 0)=true):l.length≤200∧∀ i∈l,ickI i=0:=by
  unfold allE at h
  split at h
  · exact absurd h (by decide)
  · rename_i h1
    split at h
    · exact absurd h (by decide)
    · rename_i h2
      refine ⟨by omega,fun i hi=>?_⟩;simp only [Bool.not_eq_true,List.any_eq_false] at h2;have:=h2 i hi;simp [badI] at this;exact this.1.1
theorem Zlk (ds:List UInt8) (fl:Int):0≤wdsN ds fl:=by
  unfold wdsN
  split
  · split <;> omega
  · omega
theorem Zoa {m:Mth} {iface:Bool} (h:mthB m iface=true):MthS m:=by
  unfold mthB at h;simp only [Bool.and_eq_true] at h;obtain ⟨⟨⟨⟨h1,_⟩,h3⟩,_⟩,h5⟩:=h;have hd:pdE m.ds.data.toList=0:=by simpa using h3
  split at h5
  · simp only [Bool.and_eq_true,beq_iff_eq] at h5
    obtain ⟨⟨l0,s0⟩,c0⟩:=h5;have hc:m.code=[]:=List.eq_nil_of_length_eq_zero (by omega);exact ⟨h1,hd,by omega,by omega,by rw [hc];simp,fun i hi=>by rw [hc] at hi;simp at hi⟩
  · simp only [Bool.and_eq_true,Bool.not_eq_true',decide_eq_false_iff_not] at h5
    obtain ⟨⟨⟨⟨a1,a2⟩,a3⟩,a4⟩,a5⟩:=h5;have:=Zlk m.ds.data.toList m.fl;obtain ⟨b1,b2⟩:=all_ins a5;exact ⟨h1,hd,by omega,by omega,b1,b2⟩
theorem Zmg {iface:Bool} {all l:List Mth} {k:Nat} (h:Qf iface all l k=true):∀ m∈l,MthS m:=by
  induction l generalizing k with
  | nil=>intro m hm;simp at hm
  | cons x r ih =>
    rw [Qf] at h;simp only [Bool.and_eq_true] at h;intro m hm;rcases List.mem_cons.1 hm with rfl|hm
    · exact Zoa h.1.1
    · exact ih h.2 m hm
theorem Zog {nm:List UInt8} {pre l:List (List UInt8)} (h:ifsB nm pre l=true):∀ p∈l,Zl p=true:=by
  induction l generalizing pre with
  | nil=>intro p hp;simp at hp
  | cons x r ih =>
    rw [ifsB] at h;simp only [Bool.and_eq_true] at h;intro p hp;rcases List.mem_cons.1 hp with rfl|hp
    · exact h.1.1.1
    · exact ih h.2 p hp
structure ClsS (c:Cls):Prop where
  nm:Zl c.nm.data.toList=true
  su:Zl c.su.data.toList=true
  nif:c.ifs.length≤20
  ifs:∀ p∈c.ifs,Zl p=true
  ld:0≤c.ld∧c.ld≤9
  nms:c.ms.length≤40
  ms:∀ m∈c.ms,MthS m
theorem Zo4 {c:Cls} (h:clsB c=true):ClsS c:=by
  unfold clsB at h;simp only [Bool.and_eq_true,Bool.not_eq_true',decide_eq_false_iff_not] at h;obtain ⟨⟨⟨⟨⟨⟨⟨⟨⟨h1,h2⟩,_⟩,h4⟩,h5⟩,h6⟩,h7⟩,_⟩,h9⟩,h10⟩:=h;exact ⟨h1,h2,by omega,Zog h9,by omega,by omega,Zmg h10⟩
theorem Zeh {l:List UInt8} (h:Zl l=true):l≠[]∧l.length≤60:=by
  unfold Zl at h;rw [Bool.and_eq_true,decide_eq_true_eq] at h;refine ⟨?_,h.1⟩;rintro rfl;exact absurd h.2 (by decide)
theorem flat_len (L:List (List UInt8)) (B:Nat) (h:∀ x∈L,x.length≤B):(L.flatMap (· ++ [10])).length≤L.length * (B+1):=by
  induction L with
  | nil=>simp
  | cons x r ih =>
    rw [List.flatMap_cons,List.length_append,List.length_append,List.length_cons,List.length_cons];have h1:=h x (List.mem_cons_self ..);have h2:=ih fun y hy=>h y (List.mem_cons_of_mem _ hy);rw [Nat.succ_mul];simp only [List.length_nil];omega
theorem Zex {n:Int} (h:0≤n∧n≤40):(Lib.itoa n).length≤21:=Lib.itoa_length_le n (by omega) (by omega)
theorem Zet:∀ p∈mthP,p.2.length≤20:=by decide
theorem Ze9:∀ p∈clsP,p.2.length≤20:=by decide
theorem Zdl {m:Mth} (h:MthS m):(X6 m).length≤203∧∀ x∈X6 m,x.length≤10000:=by
  constructor
  · have:=h.num;simp [X6];omega
  · intro x hx
    have e1:=Za0 m.fl mthP Zet (by decide);have e2:=Zb4 h.mem;have e3:=Znx h.desc;have e4:=Zex h.lo;have e5:=Zex h.st;rw [X6] at hx;rcases List.mem_cons.1 hx with rfl|hx
    · have:=Qo Zq [m.nm.data.toList,m.ds.data.toList,Qv m.fl mthP]
      simp [Zq] at this;simp at e1 e2 e3;have h6:m.nm.data.toList.length=m.nm.data.size:=by simp
      have h7:m.ds.data.toList.length=m.ds.data.size:=by simp
      simp only [Zq];omega
    rcases List.mem_cons.1 hx with rfl|hx
    · have:=Qo Zp [Lib.itoa m.lo]
      simp [Zp] at this;simp only [Zp];omega
    rcases List.mem_cons.1 hx with rfl|hx
    · have:=Qo Z3 [Lib.itoa m.st]
      simp [Z3] at this;simp only [Z3];omega
    · obtain ⟨i,hi,rfl⟩:=List.mem_map.1 hx
      have:=prt_len (h.ins i hi);omega
theorem Zj8 {α β:Type} (l:List α) (f:α→List β) (B:Nat) (h:∀ a∈l,(f a).length≤B):(l.flatMap f).length≤l.length * B:=by
  induction l with
  | nil=>simp
  | cons x r ih =>
    rw [List.flatMap_cons,List.length_append,List.length_cons,Nat.succ_mul];have h1:=h x (List.mem_cons_self ..);have h2:=ih fun y hy=>h y (List.mem_cons_of_mem _ hy);omega
theorem Zh4 {c:Cls} (h:ClsS c):(Zec c).length≤9000∧∀ x∈Zec c,x.length≤10000:=by
  have hm:(c.ms.flatMap X6).length≤c.ms.length * 203:=Zj8 _ _ _ fun m hm=>(Zdl (h.ms m hm)).1;have hn:=h.nms;have hi:=h.nif;constructor
  · simp [Zec] at hm ⊢
    omega
  · intro x hx
    have e1:=Za0 c.fl clsP Ze9 (by decide);have e2:=(Zeh h.nm).2;have e3:=(Zeh h.su).2;have e4:(Lib.itoa c.ld).length≤21:=Lib.itoa_length_le c.ld (by have:=h.ld;omega) (by have:=h.ld;omega);simp only [Zec,List.mem_append,List.mem_cons,List.not_mem_nil,or_false,List.mem_map,List.mem_flatMap] at hx;rcases hx with ((((rfl|rfl)|⟨p,hp,rfl⟩)|(rfl|rfl))|⟨m,hm,hx⟩)|rfl
    · have:=Qo wClass [c.nm.data.toList]
      simp only [List.map_cons,List.map_nil,List.sum_cons,List.sum_nil] at this;have hw:wClass.length=5:=rfl;omega
    · have:=Qo wSup [c.su.data.toList]
      simp only [List.map_cons,List.map_nil,List.sum_cons,List.sum_nil] at this;have hw:wSup.length=5:=rfl;omega
    · have:=Qo wIface [p]
      simp only [List.map_cons,List.map_nil,List.sum_cons,List.sum_nil] at this;have hw:wIface.length=5:=rfl;have:=(Zeh (h.ifs p hp)).2;omega
    · have:=Qo wFlags [Qv c.fl clsP]
      simp only [List.map_cons,List.map_nil,List.sum_cons,List.sum_nil] at this;have hw:wFlags.length=5:=rfl;omega
    · have:=Qo wLoader [Lib.itoa c.ld]
      simp only [List.map_cons,List.map_nil,List.sum_cons,List.sum_nil] at this;have hw:wLoader.length=6:=rfl;omega
    · exact (Zdl (h.ms m hm)).2 x hx
    · decide
theorem clsT_len {c:Cls} (h:ClsS c):(clsT c).length≤100000000:=by
  obtain ⟨h1,h2⟩:=Zh4 h;have:=flat_len (Zec c) 10000 h2;have:(Zec c).length * (10000+1)≤9000 * (10000+1):=Nat.mul_le_mul_right _ h1;unfold clsT;omega
def fstW (l:List UInt8):List UInt8:=l.takeWhile (· != 32)
def Z2 (l:List UInt8):List UInt8:=l.dropWhile (· != 32)
theorem Jl (l:List UInt8):fstW l++Z2 l=l:=List.takeWhile_append_dropWhile
theorem Zk9 (l:List UInt8):(32:UInt8) ∉ fstW l:=by
  induction l with
  | nil=>simp [fstW]
  | cons x l ih =>
    rw [fstW,List.takeWhile_cons]
    split
    · rename_i h
      intro m;rcases List.mem_cons.1 m with e|m
      · rw [← e] at h;simp at h
      · exact ih m
    · simp
theorem Ye (l:List UInt8):Z2 l=[]∨∃ r,Z2 l=32::r:=by
  induction l with
  | nil=>exact .inl rfl
  | cons x l ih =>
    rw [Z2,List.dropWhile_cons]
    split
    · exact ih
    · rename_i h
      simp at h;exact .inr ⟨l,by rw [h]⟩
theorem Xu {l:List UInt8} (h:Z2 l=[]):cutL 32 l=[l]:=by
  apply J8;have:=Jl l;rw [h,List.append_nil] at this;rw [← this];exact Zk9 l
theorem Zcv {l:List UInt8} (h:Z2 l=[]):fstW l=l:=by
  have:=Jl l
  rwa [h,List.append_nil] at this
theorem X8 {l r:List UInt8} (h:Z2 l=32::r):cutL 32 l=fstW l::cutL 32 r:=by
  have:=Jl l;rw [h] at this
  conv=>lhs;rw [← this]
  exact Zbn 32 _ _ (Zk9 l)
theorem fst_app {w:List UInt8} (hw:(32:UInt8) ∉ w) (r:List UInt8):fstW (w++32::r)=w∧Z2 (w++32::r)=32::r:=by
  induction w with
  | nil=>simp [fstW,Z2]
  | cons x w ih =>
    have hx:x≠32:=fun e=>hw (by simp [e]);obtain ⟨h1,h2⟩:=ih (fun m=>hw (List.mem_cons_of_mem _ m));constructor
    · rw [List.cons_append,fstW,List.takeWhile_cons,if_pos (by simpa using hx)]
      exact congrArg (x :: ·) h1
    · rw [List.cons_append,Z2,List.dropWhile_cons,if_pos (by simpa using hx)]
      exact h2
theorem Zoo {w:List UInt8} (hw:(32:UInt8) ∉ w):fstW w=w∧Z2 w=[]:=by
  induction w with
  | nil=>exact ⟨rfl,rfl⟩
  | cons x w ih =>
    have hx:x≠32:=fun e=>hw (by simp [e]);obtain ⟨h1,h2⟩:=ih (fun m=>hw (List.mem_cons_of_mem _ m));constructor
    · rw [fstW,List.takeWhile_cons,if_pos (by simpa using hx)]
      exact congrArg (x :: ·) h1
    · rw [Z2,List.dropWhile_cons,if_pos (by simpa using hx)]
      exact h2
def cwB (l w:List UInt8):Bool:=w.isPrefixOf l&&((l.drop w.length).isEmpty||((l.drop w.length).head? == some 32))
theorem cw_fst {w:List UInt8} (hw:(32:UInt8) ∉ w) (l:List UInt8):cwB l w=(fstW l == w):=by
  rw [Bool.eq_iff_iff];constructor
  · intro h
    simp only [cwB,Bool.and_eq_true,Bool.or_eq_true,List.isPrefixOf_iff_prefix,List.isEmpty_iff,beq_iff_eq] at h;obtain ⟨⟨r,rfl⟩,h2⟩:=h;rw [List.drop_left] at h2;rw [beq_iff_eq];rcases h2 with rfl|h2
    · rw [List.append_nil];exact (Zoo hw).1
    · cases r with
      | nil=>simp at h2
      | cons x r=>simp at h2;subst h2;exact (fst_app hw r).1
  · intro h
    rw [beq_iff_eq] at h;have e:=Jl l;rw [h] at e;simp only [cwB,Bool.and_eq_true,Bool.or_eq_true,List.isPrefixOf_iff_prefix,List.isEmpty_iff,beq_iff_eq];refine ⟨⟨_,e⟩,?_⟩;rw [← e,List.drop_left];rcases Ye l with h2|⟨r,h2⟩
    · exact .inl h2
    · exact .inr (by rw [h2];rfl)
theorem cw_rest {l w:List UInt8} (h:fstW l=w):l.drop w.length=Z2 l:=by
  have e:=Jl l;rw [h] at e;rw [← e,List.drop_left];rw [e]
def rnB (l w:List UInt8):Bool:=(fstW l == w)&&!((Z2 l).drop 1 == [])&&(Z2 ((Z2 l).drop 1) == [])
def rnS (l w:List UInt8):List UInt8:=if rnB l w then (Z2 l).drop 1 else []
theorem cut_one (l:List UInt8):((cutL 32 l).length == 1)=(Z2 l == []):=by
  rcases Ye l with h|⟨r,h⟩
  · rw [Xu h,h];rfl
  · have:=List.length_pos_iff.2 (Z1 32 r)
    rw [X8 h,h,List.length_cons,show ((cutL 32 r).length+1 == 1)=false by rw [beq_eq_false_iff_ne];omega]
    rfl
theorem Jq (l w:List UInt8):rnB l w=nmdB (cutL 32 l) w∧rnS l w=nmdS (cutL 32 l) w:=by
  have h1:rnB l w=nmdB (cutL 32 l) w:=by
    rcases Ye l with h|⟨r,h⟩
    · rw [rnB,nmdB,Xu h,h]
      simp
    · rw [rnB,nmdB,X8 h,h]
      simp only [List.drop_succ_cons,List.drop_zero,List.length_cons,List.getD_cons_zero,List.getD_cons_succ];have h2:((cutL 32 r).length+1 == 2)=(Z2 r == []):=by rw [← cut_one r];simp
      rw [h2];rcases Ye r with h3|⟨q,h3⟩
      · rw [Xu h3,h3];simp [Bool.and_comm]
      · rw [h3];simp
  refine ⟨h1,?_⟩;rw [rnS,nmdS,h1];by_cases hb:nmdB (cutL 32 l) w=true
  · rw [if_pos hb,if_pos hb]
    rcases Ye l with h|⟨r,h⟩
    · rw [nmdB,Xu h] at hb;simp at hb
    · rw [← h1,rnB,h] at hb
      simp only [List.drop_succ_cons,List.drop_zero,Bool.and_eq_true,beq_iff_eq] at hb;rw [X8 h,h,Xu hb.2]
      rfl
  · rw [if_neg hb,if_neg hb]
def fgB (ps:List (Int×List UInt8)) (rest:List UInt8):Bool:=(rest == [])||(!(rest.drop 1 == [])&&(parX ps (rest.drop 1) == 0))
def fgN (ps:List (Int×List UInt8)) (rest:List UInt8):Int:=if rest == [] then 0 else parF ps (rest.drop 1)
def flB (ps:List (Int×List UInt8)) (l:List (List UInt8)) (k:Nat):Bool:=(l.length == k)||(decide (k<l.length)&&!(gl (l.drop k) == [])&&(parX ps (gl (l.drop k)) == 0))
def flN (ps:List (Int×List UInt8)) (l:List (List UInt8)) (k:Nat):Int:=if l.length == k then 0 else parF ps (gl (l.drop k))
theorem Xl (l:List UInt8):1≤(cutL 32 l).length:=List.length_pos_iff.2 (Z1 32 l)
theorem Zbi (l:List UInt8):(cutL 32 l).getD 0 []=fstW l∧(cutL 32 l).headD []=fstW l:=by
  rcases Ye l with h|⟨r,h⟩
  · rw [Xu h,Zcv h];exact ⟨rfl,rfl⟩
  · rw [X8 h];exact ⟨rfl,rfl⟩
theorem Zj9 (ps:List (Int×List UInt8)) (l:List UInt8):flB ps (cutL 32 l) 1=fgB ps (Z2 l)∧(fgB ps (Z2 l)=true→flN ps (cutL 32 l) 1=fgN ps (Z2 l)):=by
  rcases Ye l with h|⟨r,h⟩
  · rw [flB,fgB,flN,fgN,Xu h,h];exact ⟨rfl,fun _=>rfl⟩
  · have h1:=Xl r
    have e1:((cutL 32 r).length+1 == 1)=false:=by rw [beq_eq_false_iff_ne];omega
    have e2:decide (1<(cutL 32 r).length+1)=true:=decide_eq_true (by omega);rw [flB,fgB,flN,fgN,X8 h,h];simp only [List.length_cons,e1,e2,List.drop_succ_cons,List.drop_zero,Zhl];exact ⟨rfl,fun _=>rfl⟩
def mlN (l:List UInt8):List UInt8:=fstW ((Z2 l).drop 1)
def mlR (l:List UInt8):List UInt8:=Z2 ((Z2 l).drop 1)
def mlD (l:List UInt8):List UInt8:=fstW ((mlR l).drop 1)
def mlF (l:List UInt8):List UInt8:=Z2 ((mlR l).drop 1)
def mlB (l:List UInt8):Bool:=!(mlN l == [])&&!(mlD l == [])&&fgB mthP (mlF l)
def dmB (l:List (List UInt8)):Bool:=decide (3≤l.length)&&!(l.getD 1 [] == [])&&!(l.getD 2 [] == [])&&flB mthP l 3
theorem Zj1 (l:List UInt8):dmB (cutL 32 l)=mlB l∧(mlB l=true→(cutL 32 l).getD 1 []=mlN l∧(cutL 32 l).getD 2 []=mlD l∧flN mthP (cutL 32 l) 3=fgN mthP (mlF l)):=by
  rcases Ye l with h|⟨r,h⟩
  · have e:mlN l=[]:=by rw [mlN,h];rfl
    rw [dmB,mlB,e,Xu h];exact ⟨by simp,fun h=>by simp at h⟩
  · have e0:(Z2 l).drop 1=r:=by rw [h];rfl
    rcases Ye r with h2|⟨q,h2⟩
    · have e:mlD l=[]:=by rw [mlD,mlR,e0,h2];rfl
      rw [dmB,mlB,e,X8 h,Xu h2];exact ⟨by simp,fun h=>by simp at h⟩
    · have e1:mlN l=fstW r:=by rw [mlN,e0]
      have e2:(mlR l).drop 1=q:=by rw [mlR,e0,h2];rfl
      have e3:mlD l=fstW q:=by rw [mlD,e2]
      have e4:mlF l=Z2 q:=by rw [mlF,e2]
      have hq:=Xl q;obtain ⟨f1,f2⟩:=Zj9 mthP q;have g0:(cutL 32 q).getD 0 []=fstW q:=(Zbi q).1;have e5:flB mthP (fstW l::fstW r::cutL 32 q) 3=flB mthP (cutL 32 q) 1:=by
        have a1:((cutL 32 q).length+1+1 == 3)=((cutL 32 q).length == 1):=by simp
        have a2:decide (3<(cutL 32 q).length+1+1)=decide (1<(cutL 32 q).length):=by simp;omega
        rw [flB,flB];simp only [List.length_cons,a1,a2,List.drop_succ_cons]
      have e6:flN mthP (fstW l::fstW r::cutL 32 q) 3=flN mthP (cutL 32 q) 1:=by
        have a1:((cutL 32 q).length+1+1 == 3)=((cutL 32 q).length == 1):=by simp
        rw [flN,flN];simp only [List.length_cons,a1,List.drop_succ_cons]
      rw [dmB,mlB,e1,e3,e4,X8 h,X8 h2,e5,e6,f1];have e7:decide (3≤(fstW l::fstW r::cutL 32 q).length)=true:=decide_eq_true (by simp;omega);have e8:(fstW l::fstW r::cutL 32 q).getD 2 []=fstW q:=g0;have e9:(fstW l::fstW r::cutL 32 q).getD 1 []=fstW r:=rfl;rw [e7,e8,e9];refine ⟨by simp,fun hh=>⟨rfl,rfl,f2 ?_⟩⟩;simp only [Bool.and_eq_true] at hh;exact hh.2
theorem no_op {l w:List UInt8} (h:fstW l=w) (h0:opOf w=0):docP l=none:=by
  rw [docP,(Zbi l).2,h,h0,show opdI ((0:Nat):Int)=-1 by decide +kernel,parI,Zv,if_pos (.inl rfl)];by_cases hl:(cutL 32 l).length=1
  · rw [if_pos hl]
    exact if_neg (by decide +kernel)
  · rw [if_neg hl]
theorem Zn5:opOf Zq=0:=by decide +kernel
theorem op_end:opOf wEnd=0:=by decide +kernel
def Ym (f:Mth→Mth):List Mth→List Mth
  | []=>[]
  | [m]=>[f m]
  | m::r=>m::Ym f r
def Jr (c:Cls) (l:List UInt8):Option (Nat×Cls) :=
  if l == wEnd then some (8,c) else if (fstW l == Zq)&&mlB l then some (5,{ c with ms:=c.ms++[⟨⟨(mlN l).toArray⟩,⟨(mlD l).toArray⟩,fgN mthP (mlF l),0,0,[]⟩] }) else none
def Zt (st:Nat) (c:Cls) (l:List UInt8):Option (Nat×Cls) :=
  if st=0 then (if rnB l wClass then some (1,{ c with nm:=⟨(rnS l wClass).toArray⟩ }) else none)
  else if st=1 then (if rnB l wSup then some (2,{ c with su:=⟨(rnS l wSup).toArray⟩ }) else none)
  else if st=2 then (if rnB l wIface then some (2,{ c with ifs:=c.ifs++[rnS l wIface] }) else if (fstW l == wFlags)&&fgB clsP (Z2 l) then some (3,{ c with fl:=fgN clsP (Z2 l) }) else none)
  else if st=3 then (if rnB l wLoader&&num9 (rnS l wLoader) then some (4,{ c with ld:=(numR (rnS l wLoader)).1 }) else none)
  else if st=4 then Jr c l
  else if st=5 then (if rnB l Zp&&num9 (rnS l Zp) then some (6,{ c with ms:=Ym (fun m=>{ m with lo:=(numR (rnS l Zp)).1 }) c.ms }) else none)
  else if st=6 then (if rnB l Z3&&num9 (rnS l Z3) then some (7,{ c with ms:=Ym (fun m=>{ m with st:=(numR (rnS l Z3)).1 }) c.ms }) else none)
  else if st=7 then (match docP l with
    | some i=>some (7,{ c with ms:=Ym (fun m=>{ m with code:=m.code++[i] }) c.ms })
    | none=>Jr c l)
  else none
def Y2:Cls:=⟨⟨#[]⟩,⟨#[]⟩,[],0,0,[]⟩
def runL:Nat→Cls→List (List UInt8)→Nat→Option Cls×Nat
  | _,_,[],n=>(none,n)
  | st,c,[x],n=>if (st == 8)&&(x == []) then (some c,0) else (none,n)
  | st,c,l::r,n=>match Zt st c l with
    | none=>(none,n)
    | some (st',c')=>runL st' c' r (n+1)
def parC (s:List UInt8):Cls×Nat×Int :=
  if 40000<s.length then (Y2,0,5) else match runL 0 Y2 (cutL 10 s) 1 with
    | (none,n)=>(Y2,n,4)
    | (some c,_)=>if clsB c then (c,0,0) else (Y2,0,1)
theorem Za6 {st:Nat} {c:Cls} {l:List UInt8} {r:List (List UInt8)} {n:Nat} (hr:r≠[]):runL st c (l::r) n=match Zt st c l with
    | none=>(none,n)
    | some (st',c')=>runL st' c' r (n+1):=by
  cases r with
  | nil=>exact absurd rfl hr
  | cons x r=>rfl
theorem Yt {st st':Nat} {c c':Cls} {l:List UInt8} {r:List (List UInt8)} {n:Nat} (hr:r≠[]) (h:Zt st c l=some (st',c')):runL st c (l::r) n=runL st' c' r (n+1):=by
  rw [Za6 hr,h]
theorem Zk5 (f:Mth→Mth) (l:List Mth) (m:Mth):Ym f (l++[m])=l++[f m]:=by
  induction l with
  | nil=>rfl
  | cons x l ih =>
    cases l with
    | nil=>rfl
    | cons y l =>
      show x::Ym f (y::(l++[m]))=_;rw [← List.cons_append,ih];rfl
theorem Zkx {l:List UInt8} (h:num9 l=true):Lib.itoa (numR l).1=l:=by
  simp only [num9,Bool.and_eq_true] at h;exact Zf7 h.1.1
theorem Zkg (s P:ByteArray) (k:Nat) (hk:k≤P.size) (_hP:P.size≤9223372036854775807) (HT:∀ w:World,Calls Tryz.prog 180 #[.string s,.string ⟨#[32]⟩] w fun e w'=>e=.returned (.string P)∧w'=w) (HI:∀ w:World,Calls Tryz.prog 181 #[.string P,.string ⟨#[32]⟩] w fun e w'=>e=.returned (.int .i64 (k:Int))∧w'=w) (w:World) :
    Calls Tryz.prog 156 #[.string s] w fun e w'=>e=.returned (.tuple #[.string (P.extract 0 k),.string (P.extract k P.size)])∧∃ n,w'=w.drewN n:=by
  have HT:Hid (∀ w:World,_):=HT;have HI:Hid (∀ w:World,_):=HI;go_enter Tryz.func156,Tryz.ntmps156;go_wp2_with (first
    | (go_at_call 180;refine (HT.out _).mono ?_;rintro e w1 ⟨rfl,hw1⟩;rw [hw1];clear hw1 HT)
    | (go_at_call 181;refine (HI.out _).mono ?_;rintro e w1 ⟨rfl,hw1⟩;rw [hw1];clear hw1 HI))
  all_goals (try go_region)
  all_goals (try go_wp2)
  all_goals exact bodyPost_ret (v:=.tuple #[.string (P.extract 0 k),.string (P.extract k P.size)]) (by simp [results,Tryz.results156,go_sem, *]) rfl ⟨rfl,1,rfl⟩
theorem Zmt (s P:ByteArray) (HT:∀ w:World,Calls Tryz.prog 180 #[.string s,.string ⟨#[32]⟩] w fun e w'=>e=.returned (.string P)∧w'=w) (HI:∀ w:World,Calls Tryz.prog 181 #[.string P,.string ⟨#[32]⟩] w fun e w'=>e=.returned (.int .i64 (-1))∧w'=w) (w:World) :
    Calls Tryz.prog 156 #[.string s] w fun e w'=>e=.returned (.tuple #[.string P,.string ⟨#[]⟩])∧w'=w:=by
  have HT:Hid (∀ w:World,_):=HT;have HI:Hid (∀ w:World,_):=HI;go_enter Tryz.func156,Tryz.ntmps156;go_wp2_with (first
    | (go_at_call 180;refine (HT.out _).mono ?_;rintro e w1 ⟨rfl,hw1⟩;rw [hw1];clear hw1 HT)
    | (go_at_call 181;refine (HI.out _).mono ?_;rintro e w1 ⟨rfl,hw1⟩;rw [hw1];clear hw1 HI))
  go_ret2
  exact ⟨rfl,rfl⟩
theorem sum_at {l:List (List UInt8)} (k:Nat) (x:List UInt8) (h:l[k]?=some x):x.length+1+((l.drop (k+1)).map fun p=>p.length+1).sum=((l.drop k).map fun p=>p.length+1).sum:=by
  obtain ⟨h1,h2⟩:=List.getElem?_eq_some_iff.1 h;rw [List.drop_eq_getElem_cons h1,h2,List.map_cons,List.sum_cons]
theorem Zk2 (f:ByteArray) (v:Value) (l:List (List UInt8)) (W:World) (h:IsStrs W v l) (hL:f.size+(l.map fun p=>p.length+1).sum≤1000000) :
    Calls Tryz.prog 34 #[.string f,v] W fun e w'=>e=.returned (.string ⟨(Yg f.data.toList l).toArray⟩)∧Bw W w':=by
  obtain ⟨ao,cap,rfl,h1,h2,h3⟩:=h;obtain ⟨N,hN⟩:∃ N,l.length=N:=⟨_,rfl⟩;unfold maxLen at h2;rw [hN] at h1 ⊢;have HN1:Hid (l.length=N):=hN;have HA:Hid _:=h3;have HL:Hid _:=hL;clear hN h3 hL;go_enter Tryz.func34,Tryz.ntmps34;go_wp2;go_loopw [0,9] (fun sv iv wr=>∃ (i:Nat) (acc:ByteArray),sv=.string acc∧iv=.int .i64 i∧i≤N∧Hid (Bw W wr)∧Hid (acc.size+((l.drop i).map fun p=>p.length+1).sum≤1000000)∧Hid (Yg acc.data.toList (l.drop i)=Yg f.data.toList l)) (fun _ iv _=>N - (intOf iv).toNat)
  case atStart=>exact ⟨0,f,rfl,rfl,Nat.zero_le _,Below.refl _ _,HL,rfl⟩
  case round =>
    obtain ⟨i,acc,rfl,rfl,hi,hb,hm,hs⟩:=hrel;by_cases hlt:i<N
    · obtain ⟨bk,o,hao,hbk,hc⟩:=HA.out (by intro e;have:=HN1.out;rw [e] at this;simp at this;omega)
      obtain ⟨x,hx⟩:∃ x,l[i]?=some x:=⟨_,List.getElem?_eq_getElem (by rw [HN1.out];exact hlt)⟩;subst hao;have hst:=lineL_at acc.data.toList i x hx;have hsum:=sum_at i x hx;rw [← hsum] at hm;have HM1:acc.size+(x.length+1+((l.drop (i+1)).map fun p=>p.length+1).sum)≤1000000:=hm.out;clear hsum hm;rw [hs.out] at hst;have p0:=(hb.out.cell hbk).trans (hc i x hx);obtain ⟨X,hX⟩:∃ X:ByteArray,X=⟨x.toArray⟩:=⟨_,rfl⟩;have hxe:X.toList.isEmpty=(x == []):=by rw [Lib.toList_data,hX];cases x <;> rfl
      have HX:Hid (X.data.toList=x):=by rw [hX];exact rfl
      have hXs:X.size=x.length:=by rw [hX];simp [ByteArray.size]
      have hb1:¬ 9223372036854775807<1+X.size:=by omega
      have hb2:¬ 9223372036854775807<acc.size+(1+X.size):=by omega
      have HM2:Hid (acc.size+((l.drop (i+1)).map fun p=>p.length+1).sum≤1000000):=by unfold Hid;omega
      have HM3:Hid (acc.size+(1+X.size)+((l.drop (i+1)).map fun p=>p.length+1).sum≤1000000):=by unfold Hid;omega
      clear HM1 hXs;rw [← hX] at p0;clear hc hs HA hx hX;by_cases q:x=[]
      · have HZ:Hid (Yg acc.data.toList (l.drop (i+1))=Yg f.data.toList l):=by rw [Hid,hst,if_pos q]
        rw [show (x == [])=true by rw [q];rfl] at hxe;clear hst q;go_wp2;go_roundw
        case rel=>exact ⟨i+1,acc,rfl,by go_num,by omega,hb,HM2,HZ⟩
        case measure=>simp [intOf];omega
      · rw [show (x == [])=false by rw [beq_eq_false_iff_ne];exact q] at hxe
        have HZ:Hid (Yg (acc.data.toList++32::x) (l.drop (i+1))=Yg f.data.toList l):=by rw [Hid,hst,if_neg q]
        clear hst q;go_wp2;go_roundw
        case rel=>exact ⟨i+1,_,rfl,by go_num,by omega,hb,by unfold Hid;simpa [Nat.add_assoc,show (⟨#[32]⟩:ByteArray).size=1 from rfl] using HM3.out,by rw [Hid,← HZ.out,← HX.out];simp⟩
        case measure=>simp [intOf];omega
    · have e:i=N:=by omega
      subst e;have HZ:Hid (acc.data.toList=Yg f.data.toList l):=by rw [Hid,← hs.out,List.drop_of_length_le (by rw [HN1.out];exact Nat.le_refl _)];rfl
      clear hs HA hm HL hlt hi;go_wp2;go_ret
      exact ⟨by rw [← HZ.out];simp,hb.out⟩
theorem Zmi {w:World} {B:Nat} {v:Value} {L:List (List UInt8)} (h:w.ownsRow B 9 1 v L.length (L.map txtV)) (hl:(Lib.join L [10]).length≤140737488355328) (hL:L.length≤100000) :
    Calls Tryz.prog 38 #[v,.string ⟨#[10]⟩] w fun e w'=>e=.returned (.string ⟨(Lib.join L [10]).toArray⟩)∧Bw w w':=by
  rcases h.2 with ⟨rfl,hn⟩|⟨g,cap,cur,rfl,_,hg,hc1,hc2,_⟩
  · obtain rfl:L=[]:=List.eq_nil_of_length_eq_zero hn
    refine (Fl.Tryz.strings_Join_none none 0 ⟨#[10]⟩ w).mono ?_;rintro e w' ⟨rfl,rfl⟩;exact ⟨rfl,Below.refl _ _⟩
  · have hlt:g<w.heap.size:=(Array.getElem?_eq_some_iff.1 hg).1
    have hcell:∀ j t,L[j]?=some t→w.cell? ⟨g,0+j,none⟩=some (txtV t):=by
      intro j t ht;have hj:j<L.length:=(List.getElem?_eq_some_iff.1 ht).1;rw [Nat.zero_add,h.cellAt j (by simpa using hj),List.getElem?_map,ht];rfl
    have:=Fl.Tryz.strings_Join g 0 cap (L.map fun p=>⟨p.toArray⟩) ⟨#[10]⟩ w (fun j x hj=>by
      rw [List.getElem?_map] at hj
      cases e:L[j]? with
      | none=>rw [e] at hj;simp at hj
      | some p=>rw [e] at hj;simp at hj;subst hj;exact hcell j p e) hlt (by simp;omega) (by simpa using hc1)
    simp only [List.map_map,List.length_map] at this;have e2:L.map ((fun x:ByteArray=>x.data.toList) ∘ fun p=>⟨p.toArray⟩)=L:=by
      conv=>rhs;rw [← List.map_id L]
      apply List.map_congr_left;intro a _;simp
    rw [e2] at this;exact this hl
theorem strs1 {w:World} {g:Nat} {x:ByteArray} (h:w.cell? ⟨g,0,none⟩=some (.string x)) (hg:g<w.heap.size):IsStrs w (.slice (some ⟨g,0,none⟩) 1 1) [x.data.toList] :=
  ⟨some ⟨g,0,none⟩,1,rfl,by simp,by unfold maxLen;omega,fun _=>⟨g,0,rfl,hg,fun k p hk=>by
    match k,hk with
    | 0,hk=>simp at hk;subst hk;simpa using h⟩⟩
theorem strs3 {w:World} {g:Nat} {x y z:ByteArray} (h0:w.cell? ⟨g,0,none⟩=some (.string x)) (h1:w.cell? ⟨g,1,none⟩=some (.string y)) (h2:w.cell? ⟨g,2,none⟩=some (.string z)) (hg:g<w.heap.size):IsStrs w (.slice (some ⟨g,0,none⟩) 3 3) [x.data.toList,y.data.toList,z.data.toList] :=
  ⟨some ⟨g,0,none⟩,3,rfl,by simp,by unfold maxLen;omega,fun _=>⟨g,0,rfl,hg,fun k p hk=>by
    match k,hk with
    | 0,hk=>simp at hk;subst hk;simpa using h0
    | 1,hk=>simp at hk;subst hk;simpa using h1
    | 2,hk=>simp at hk;subst hk;simpa using h2⟩⟩
theorem Qg (f x:ByteArray) (g:Nat) (w:World) (h:w.cell? ⟨g,0,none⟩=some (.string x)) (hg:g<w.heap.size) (hL:f.size+x.size≤100000) :
    Calls Tryz.prog 34 #[.string f,.slice (some ⟨g,0,none⟩) 1 1] w fun e w'=>e=.returned (.string ⟨(Yg f.data.toList [x.data.toList]).toArray⟩)∧Bw w w' :=
  Zk2 f _ _ w (strs1 h hg) (by have:x.data.toList.length=x.size:=(by rw [Array.length_toList];rfl);simp only [List.map_cons,List.map_nil,List.sum_cons,List.sum_nil];omega)
theorem Zod (f x y z:ByteArray) (g:Nat) (w:World) (h0:w.cell? ⟨g,0,none⟩=some (.string x)) (h1:w.cell? ⟨g,1,none⟩=some (.string y)) (h2:w.cell? ⟨g,2,none⟩=some (.string z)) (hg:g<w.heap.size) (hL:f.size+x.size+y.size+z.size≤100000) :
    Calls Tryz.prog 34 #[.string f,.slice (some ⟨g,0,none⟩) 3 3] w fun e w'=>e=.returned (.string ⟨(Yg f.data.toList [x.data.toList,y.data.toList,z.data.toList]).toArray⟩)∧Bw w w' :=
  Zk2 f _ _ w (strs3 h0 h1 h2 hg) (by have e1 : x.data.toList.length = x.size :=(by rw [Array.length_toList];rfl);have e2:y.data.toList.length=y.size:=(by rw [Array.length_toList];rfl);have e3:z.data.toList.length=z.size:=(by rw [Array.length_toList];rfl);simp only [List.map_cons,List.map_nil,List.sum_cons,List.sum_nil];omega)
def GAll (w:World):Prop:=GIn w∧Fl.WordsIn w
theorem GAll.keep {w w':World} (h:GAll w) (hb:Bw w w'):GAll w':=⟨h.1.keep hb,h.2.keep hb⟩
theorem Jj {w w':World} {base:Nat} {e:TypeId} {size:Nat} {v:Value} {n:Nat} {xs:List Value} (h:w.ownsRow base e size v n xs) (hb:Bw w w'):w'.ownsRow base e size v n xs:=by
  rcases h with ⟨h1,h2|⟨g,cap,cur,e1,e2,e3,e4⟩⟩
  · exact ⟨h1,.inl h2⟩
  · exact ⟨h1,.inr ⟨g,cap,cur,e1,e2,(hb.block g (Array.getElem?_eq_some_iff.1 e3).1).trans e3,e4⟩⟩
theorem Zdn (nm ds:ByteArray) (fl lo st:Int) (vc:Value) (code:List Ins) (hf:-9223372036854775808≤fl∧fl≤9223372036854775807) (W:World) (hI:IsInss W vc code) (hG:GAll W) (hn:nm.size≤60) (hd:ds.size≤2000) (hlo:0≤lo∧lo≤40) (hst:0≤st∧st≤40) (hw:∀ i∈code,InsW i) (hcl:code.length≤200) :
    Calls Tryz.prog 37 #[.agg #[.string nm,.string ds,.int .i64 fl,.int .i64 lo,.int .i64 st,vc]] W fun e w'=>∃ v,e=.returned v∧w'.ownsRow W.heap.size 9 1 v (X6 ⟨nm,ds,fl,lo,st,code⟩).length ((X6 ⟨nm,ds,fl,lo,st,code⟩).map txtV)∧Bw W w':=by
  have HP:Hid (∀ (i:Ins) (w':World),i∈code→Bw W w'→Calls Tryz.prog 74 #[.agg #[.int .i64 i.op,.int .i64 i.n,.string i.t,.bool i.b,.string i.c,.string i.m,.string i.d]] w' fun e w''=>e=.returned (.tuple #[.string ⟨(prtI i).toArray⟩,.int .i64 (ickI i)])∧Below w'.heap.size w' w''):=fun i w' hi h=>by
    obtain ⟨⟨n1,n2⟩,t1,t2,t3,t4⟩:=hw i hi;exact Zer i.op i.n n1 n2 i.t i.b i.c i.m i.d t1 t2 t3 t4 w' (hG.keep h).1
  obtain ⟨ao,cap,rfl,h1,h2,h3⟩:=hI;obtain ⟨K,hK⟩:∃ K,code.length=K:=⟨_,rfl⟩;unfold maxLen at h2;rw [hK] at h1 hcl ⊢;have HK:Hid (code.length=K):=hK;have HA:Hid _:=h3;have HMS:Hid (X6 ⟨nm,ds,fl,lo,st,code⟩=[Yg Zq [nm.data.toList,ds.data.toList,Qv fl mthP],Yg Zp [Lib.itoa lo],Yg Z3 [Lib.itoa st]]++code.map prtI):=rfl;obtain ⟨i0,hi9,hz0,hz1,hz2⟩:=info_parts Tryz.info9;clear hK h3 hw;obtain ⟨T,hT⟩:∃ T:ByteArray,T=⟨(Qv fl mthP).toArray⟩:=⟨_,rfl⟩;have hTs:T.size≤2100:=by rw [hT];have:=Za0 fl mthP Zet (by decide);simpa [ByteArray.size] using this
  have HMT:Hid (∀ w',Bw W w'→Calls Tryz.prog 73 #[.int .i64 fl] w' fun e w''=>e=.returned (.tuple #[.string T,.int .i64 (Zbt fl mthP)])∧Below w'.heap.size w' w''):=fun w' h=>by rw [hT];exact Fl.MethodText_any fl hf w' (hG.keep h).2
  obtain ⟨D1,hD1⟩:∃ D:ByteArray,D=⟨(Lib.itoa lo).toArray⟩:=⟨_,rfl⟩;obtain ⟨D2,hD2⟩:∃ D:ByteArray,D=⟨(Lib.itoa st).toArray⟩:=⟨_,rfl⟩;have hD1s:D1.size≤21:=by rw [hD1];exact Xx lo (by omega) (by omega)
  have hD2s:D2.size≤21:=by rw [hD2];exact Xx st (by omega) (by omega)
  have HI1:Hid (∀ w',Bw W w'→Calls Tryz.prog 36 #[.int .i64 lo] w' fun e w''=>e=.returned (.string D1)∧Below w'.heap.size w' w''):=fun w' h=>by rw [hD1];exact Qq lo (by omega) (by omega) w' (hG.keep h).1.2
  have HI2:Hid (∀ w',Bw W w'→Calls Tryz.prog 36 #[.int .i64 st] w' fun e w''=>e=.returned (.string D2)∧Below w'.heap.size w' w''):=fun w' h=>by rw [hD2];exact Qq st (by omega) (by omega) w' (hG.keep h).1.2
  obtain ⟨L1,hL1⟩:∃ D:ByteArray,D=⟨(Yg Zq [nm.data.toList,ds.data.toList,T.data.toList]).toArray⟩:=⟨_,rfl⟩;obtain ⟨L2,hL2⟩:∃ D:ByteArray,D=⟨(Yg Zp [D1.data.toList]).toArray⟩:=⟨_,rfl⟩;obtain ⟨L3,hL3⟩:∃ D:ByteArray,D=⟨(Yg Z3 [D2.data.toList]).toArray⟩:=⟨_,rfl⟩;have HL1:Hid (∀ (g:Nat) (w':World),w'.cell? ⟨g,0,none⟩=some (.string nm)→w'.cell? ⟨g,1,none⟩=some (.string ds)→w'.cell? ⟨g,2,none⟩=some (.string T)→g<w'.heap.size→Calls Tryz.prog 34 #[.string ⟨#[109,101,116,104,111,100]⟩,.slice (some ⟨g,0,none⟩) 3 3] w' fun e w''=>e=.returned (.string L1)∧Below w'.heap.size w' w''):=fun g w' h0 h1 h2 hg=>by
    rw [hL1];exact Zod ⟨#[109,101,116,104,111,100]⟩ nm ds T g w' h0 h1 h2 hg (by have h9:(⟨#[109,101,116,104,111,100]⟩:ByteArray).size=6:=(rfl);omega)
  have HL2:Hid (∀ (g:Nat) (w':World),w'.cell? ⟨g,0,none⟩=some (.string D1)→g<w'.heap.size→Calls Tryz.prog 34 #[.string ⟨#[108,111,99,97,108,115]⟩,.slice (some ⟨g,0,none⟩) 1 1] w' fun e w''=>e=.returned (.string L2)∧Below w'.heap.size w' w''):=fun g w' h0 hg=>by
    rw [hL2];exact Qg ⟨#[108,111,99,97,108,115]⟩ D1 g w' h0 hg (by have h9:(⟨#[108,111,99,97,108,115]⟩:ByteArray).size=6:=(rfl);omega)
  have HL3:Hid (∀ (g:Nat) (w':World),w'.cell? ⟨g,0,none⟩=some (.string D2)→g<w'.heap.size→Calls Tryz.prog 34 #[.string ⟨#[115,116,97,99,107]⟩,.slice (some ⟨g,0,none⟩) 1 1] w' fun e w''=>e=.returned (.string L3)∧Below w'.heap.size w' w''):=fun g w' h0 hg=>by
    rw [hL3];exact Qg ⟨#[115,116,97,99,107]⟩ D2 g w' h0 hg (by have h9:(⟨#[115,116,97,99,107]⟩:ByteArray).size=5:=(rfl);omega)
  have hLL:Hid (X6 ⟨nm,ds,fl,lo,st,code⟩=[L1.data.toList,L2.data.toList,L3.data.toList]++code.map prtI):=by
    rw [Hid,HMS.out,hL1,hL2,hL3,hT,hD1,hD2]
  generalize X6 ⟨nm,ds,fl,lo,st,code⟩=ML at *;clear hn hd hlo hst hT hD1 hD2 hL1 hL2 hL3 hTs hD1s hD2s hf hG HMS;generalize Zbt fl mthP=te at *;go_enter Tryz.func37,Tryz.ntmps37;go_wp2_with (go_at_call 73;refine (HMT.out _ ((Below.refl _ _).alloc (Nat.le_refl _) _)).mono ?_;rintro e w1 ⟨rfl,hb1⟩;have hs1:W.heap.size<w1.heap.size:=sqS hb1;have a0:w1.cell? ⟨W.heap.size,0,none⟩=some (.string nm):=(hb1.cell (p:=⟨W.heap.size,0,none⟩) (by simp)).trans (by simp [go_sem]);have a1:w1.cell? ⟨W.heap.size,1,none⟩=some (.string ds):=(hb1.cell (p:=⟨W.heap.size,1,none⟩) (by simp)).trans (by simp [go_sem]);have a3:w1.cell? ⟨W.heap.size,3,none⟩=some (.int .i64 lo):=(hb1.cell (p:=⟨W.heap.size,3,none⟩) (by simp)).trans (by simp [go_sem]);have a4:w1.cell? ⟨W.heap.size,4,none⟩=some (.int .i64 st):=(hb1.cell (p:=⟨W.heap.size,4,none⟩) (by simp)).trans (by simp [go_sem]);have a5:w1.cell? ⟨W.heap.size,5,none⟩=some (.slice ao K cap):=(hb1.cell (p:=⟨W.heap.size,5,none⟩) (by simp)).trans (by simp [go_sem]);have B1:Hid (Bw W w1):=sqT hb1;clear hb1)
  go_region_held3 (fun w'=>w'.cell? ⟨W.heap.size,0,none⟩=some (.string nm)∧w'.cell? ⟨W.heap.size,1,none⟩=some (.string ds)∧w'.cell? ⟨W.heap.size,3,none⟩=some (.int .i64 lo)∧w'.cell? ⟨W.heap.size,4,none⟩=some (.int .i64 st)) (go_keep)
    (first
      | (go_at_call 34;refine (HL1.out _ _ ?_ ?_ ?_ ?_).mono ?_;(simp [go_sem]);(simp [go_sem]);(simp [go_sem]);(simp);rintro e w2 ⟨rfl,hb2⟩;have hs2:W.heap.size<w2.heap.size:=sqS hb2;have b0:w2.cell? ⟨W.heap.size,0,none⟩=some (.string nm):=(hb2.cell (p:=⟨W.heap.size,0,none⟩) (by simp;omega)).trans (by simp [go_sem, *]);have b1:w2.cell? ⟨W.heap.size,1,none⟩=some (.string ds):=(hb2.cell (p:=⟨W.heap.size,1,none⟩) (by simp;omega)).trans (by simp [go_sem, *]);have b3:w2.cell? ⟨W.heap.size,3,none⟩=some (.int .i64 lo):=(hb2.cell (p:=⟨W.heap.size,3,none⟩) (by simp;omega)).trans (by simp [go_sem, *]);have b4:w2.cell? ⟨W.heap.size,4,none⟩=some (.int .i64 st):=(hb2.cell (p:=⟨W.heap.size,4,none⟩) (by simp;omega)).trans (by simp [go_sem, *]);have b5:w2.cell? ⟨W.heap.size,5,none⟩=some (.slice ao K cap):=(hb2.cell (p:=⟨W.heap.size,5,none⟩) (by simp;omega)).trans (by simp [go_sem, *]);have B2:Hid (Bw W w2):=Below.step ((B1.out.alloc B1.out.size _).drew) hb2;clear hb2 a0 a1 a3 a4 a5 HL1)
      | (go_at_call 36;refine (HI1.out _ B2.out).mono ?_;rintro e w3 ⟨rfl,hb3⟩;have hs3:W.heap.size<w3.heap.size:=(by have:=hb3.size;omega);have c0:=sqB hb3 W.heap.size 0 (.string nm) hs2;have c1:=sqB hb3 W.heap.size 1 (.string ds) hs2;have c3:=sqB hb3 W.heap.size 3 (.int .i64 lo) hs2;have c4:=sqB hb3 W.heap.size 4 (.int .i64 st) hs2;have c5:=sqB hb3 W.heap.size 5 (.slice ao K cap) hs2;have B3:Hid (Bw W w3):=Below.step B2.out hb3;clear hb3 b0 b1 b3 b4 b5 HI1)
      | (go_at_call 34;refine (HL2.out _ _ ?_ ?_).mono ?_;(simp [go_sem]);(simp);rintro e w4 ⟨rfl,hb4⟩;have hs4:W.heap.size<w4.heap.size:=sqS hb4;have d0:w4.cell? ⟨W.heap.size,0,none⟩=some (.string nm):=(hb4.cell (p:=⟨W.heap.size,0,none⟩) (by simp;omega)).trans (by simp [go_sem, *]);have d1:w4.cell? ⟨W.heap.size,1,none⟩=some (.string ds):=(hb4.cell (p:=⟨W.heap.size,1,none⟩) (by simp;omega)).trans (by simp [go_sem, *]);have d3:w4.cell? ⟨W.heap.size,3,none⟩=some (.int .i64 lo):=(hb4.cell (p:=⟨W.heap.size,3,none⟩) (by simp;omega)).trans (by simp [go_sem, *]);have d4:w4.cell? ⟨W.heap.size,4,none⟩=some (.int .i64 st):=(hb4.cell (p:=⟨W.heap.size,4,none⟩) (by simp;omega)).trans (by simp [go_sem, *]);have d5:w4.cell? ⟨W.heap.size,5,none⟩=some (.slice ao K cap):=(hb4.cell (p:=⟨W.heap.size,5,none⟩) (by simp;omega)).trans (by simp [go_sem, *]);have B4:Hid (Bw W w4):=Below.step (B3.out.alloc B3.out.size _) hb4;clear hb4 c0 c1 c3 c4 c5 HL2)
      | (go_at_call 36;refine (HI2.out _ B4.out).mono ?_;rintro e w5 ⟨rfl,hb5⟩;have hs5:W.heap.size<w5.heap.size:=(by have:=hb5.size;omega);have e0:=sqB hb5 W.heap.size 0 (.string nm) hs4;have e1:=sqB hb5 W.heap.size 1 (.string ds) hs4;have e3:=sqB hb5 W.heap.size 3 (.int .i64 lo) hs4;have e4:=sqB hb5 W.heap.size 4 (.int .i64 st) hs4;have e5:=sqB hb5 W.heap.size 5 (.slice ao K cap) hs4;have B5:Hid (Bw W w5):=Below.step B4.out hb5;clear hb5 d0 d1 d3 d4 d5 HI2)
      | (go_at_call 34;refine (HL3.out _ _ ?_ ?_).mono ?_;(simp [go_sem]);(simp);rintro e w6 ⟨rfl,hb6⟩;have hs6:W.heap.size<w6.heap.size:=sqS hb6;have f0:w6.cell? ⟨W.heap.size,0,none⟩=some (.string nm):=(hb6.cell (p:=⟨W.heap.size,0,none⟩) (by simp;omega)).trans (by simp [go_sem, *]);have f1:w6.cell? ⟨W.heap.size,1,none⟩=some (.string ds):=(hb6.cell (p:=⟨W.heap.size,1,none⟩) (by simp;omega)).trans (by simp [go_sem, *]);have f3:w6.cell? ⟨W.heap.size,3,none⟩=some (.int .i64 lo):=(hb6.cell (p:=⟨W.heap.size,3,none⟩) (by simp;omega)).trans (by simp [go_sem, *]);have f4:w6.cell? ⟨W.heap.size,4,none⟩=some (.int .i64 st):=(hb6.cell (p:=⟨W.heap.size,4,none⟩) (by simp;omega)).trans (by simp [go_sem, *]);have f5:w6.cell? ⟨W.heap.size,5,none⟩=some (.slice ao K cap):=(hb6.cell (p:=⟨W.heap.size,5,none⟩) (by simp;omega)).trans (by simp [go_sem, *]);have B6:Hid (Bw W w6):=Below.step (B5.out.alloc B5.out.size _) hb6;clear hb6 e0 e1 e3 e4 e5 HL3))
  go_wp2;have HO0:Hid ((w6.alloc (.cells #[.string L1,.string L2,.string L3] 9)).ownsRow W.heap.size 9 1 (.slice (some ⟨w6.heap.size,0,none⟩) 3 3) 3 ([L1.data.toList,L2.data.toList,L3.data.toList].map txtV)):=by
    refine ⟨rfl,.inr ⟨w6.heap.size,3,#[.string L1,.string L2,.string L3],rfl,B6.out.size,heap_alloc_new w6 _,Nat.le_refl _,by unfold maxLen;omega,rfl,?_⟩⟩;simp [txtV]
  have B7:Hid (Bw W (w6.alloc (.cells #[.string L1,.string L2,.string L3] 9))):=B6.out.alloc B6.out.size _;clear f0 f1 f3 f4 f5 B1 B2 B3 B4 B5 B6 hs1 hs2 hs3 hs4 hs5 hs6;go_loopw [5,37] (fun sv iv wr=>∃ (i:Nat) (done:List (List UInt8)),iv=.int .i64 i∧i≤K∧done.length=3+i∧Hid (done=[L1.data.toList,L2.data.toList,L3.data.toList]++(code.take i).map prtI)∧Hid (wr.ownsRow W.heap.size 9 1 sv done.length (done.map txtV))∧Hid (Bw W wr)) (fun _ iv _=>K - (intOf iv).toNat)
  case atStart=>exact ⟨0,[L1.data.toList,L2.data.toList,L3.data.toList],rfl,Nat.zero_le _,rfl,by simp [Hid],HO0,B7⟩
  case round =>
    obtain ⟨i,done,rfl,hi,hdl,hD,hown,hb⟩:=hrel;clear HO0 B7;by_cases hlt:i<K
    · obtain ⟨bk,o,hao,hbk,hc⟩:=HA.out (by intro e;have:=HK.out;rw [e] at this;simp at this;omega)
      obtain ⟨x,hx⟩:∃ x,code[i]?=some x:=⟨_,List.getElem?_eq_getElem (by rw [HK.out];exact hlt)⟩;subst hao;have HPX:Hid (∀ w',Bw W w'→Calls Tryz.prog 74 #[.agg #[.int .i64 x.op,.int .i64 x.n,.string x.t,.bool x.b,.string x.c,.string x.m,.string x.d]] w' fun e w''=>e=.returned (.tuple #[.string ⟨(prtI x).toArray⟩,.int .i64 (ickI x)])∧Below w'.heap.size w' w''):=fun w' h=>HP.out x w' (List.mem_of_getElem? hx) h;have HN:Hid (done++[prtI x]=[L1.data.toList,L2.data.toList,L3.data.toList]++(code.take (i+1)).map prtI):=by
        rw [Hid,hD.out,List.take_add_one,hx];simp
      obtain ⟨p0,p1,p2,p3,p4,p5,p6⟩:=hc i x hx;replace p0:=(hb.out.cell hbk).trans p0;replace p1:=(hb.out.cell hbk).trans p1;replace p2:=(hb.out.cell hbk).trans p2;replace p3:=(hb.out.cell hbk).trans p3;replace p4:=(hb.out.cell hbk).trans p4;replace p5:=(hb.out.cell hbk).trans p5;replace p6:=(hb.out.cell hbk).trans p6;generalize ickI x=xe at *;obtain ⟨P,hP⟩:∃ P:ByteArray,P=⟨(prtI x).toArray⟩:=⟨_,rfl⟩;rw [← hP] at HPX;have HPP:Hid (txtV (prtI x)=.string P):=by rw [Hid,hP];rfl
      obtain ⟨xo,xn,xt,xb,xc,xm,xd⟩:=x;simp only at p0 p1 p2 p3 p4 p5 p6 HPX;generalize prtI ⟨xo,xn,xt,xb,xc,xm,xd⟩=PL at *;clear hc hD hP hx HA HP;go_wp2_with (first
        | (go_at_call 74;refine (HPX.out _ (hb.out.alloc hb.out.size _)).mono ?_;rintro e w2 ⟨rfl,hb2⟩;have B2:Hid (Bw W w2):=Below.step (hb.out.alloc hb.out.size _) hb2;have O2:Hid (w2.ownsRow W.heap.size 9 1 u5 done.length (done.map txtV)):=Jj hown.out (((Below.refl _ _).alloc (Nat.le_refl _) _).trans (hb2.mono (by simp)));have z2:=B2.out.size;clear hb2)
        | (at_builtin;refine wpList_append_own _ rfl _ _ 22 rfl W.heap.size 9 i0 (.string ⟨#[]⟩) 1 16 Tryz.underlying22 hi9 hz0 hz1 hz2 rfl (by decide) _ _ _ rfl (O2.out.alloc _) ⟨w2.heap.size,0,none⟩ 1 1 [.string P] rfl rfl ?c1 ?c2 ?c3 ?c4 ?c5 ?_))
      case c1=>exact cell_one_new _ _ _
      case c2=>intro u hu;simp at hu;subst hu;rfl
      case c3=>unfold maxLen;omega
      case c4=>omega
      case c5=>simp;omega
      · intro v' w3 hown' hgrow _
        have R:=Fl.said_rel (t:=PL) z2 O2.out B2.out (by rw [HPP.out,hdl];exact hown') hgrow;have R1:Hid _:=R.1;have R2:Hid _:=R.2;clear hown' hgrow hown O2 B2 R;go_wp2;go_roundw
        case rel=>exact ⟨i+1,done++[PL],by go_num,by omega,by simp;omega,HN,R1,R2⟩
        case measure=>simp [intOf];omega
    · have e:i=K:=by omega
      subst e;have hd:done=ML:=by rw [hLL.out,hD.out,List.take_of_length_le (by rw [HK.out];exact Nat.le_refl _)]
      have HR:Hid (wr.ownsRow W.heap.size 9 1 u5 ML.length (ML.map txtV)):=by rw [Hid,← hd];exact hown.out
      clear hD hown HA HP hd hdl done;go_wp2;go_ret
      exact ⟨_,rfl,HR.out,hb.out⟩
end Go.Proofs.YtfbhjfpkhofifaaGreatDoor
