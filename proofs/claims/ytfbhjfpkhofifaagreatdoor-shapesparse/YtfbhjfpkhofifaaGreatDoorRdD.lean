import Derived.Test.YtfbhjfpkhofifaaGreatDoorSoF
import Derived.Test.YtfbhjfpkhofifaaGreatDoorOwnU
import Derived.Test.YtfbhjfpkhofifaaGreatDoorShpG
set_option maxHeartbeats 2000000
set_option maxRecDepth 100000
namespace Go.Proofs.YtfbhjfpkhofifaaGreatDoor
open Go.RowKit
theorem Zdk {l:List UInt8} (h:num9 l=true):0≤(numR l).1∧(numR l).1≤999999999:=by
 simp only [num9,Bool.and_eq_true,decide_eq_true_eq] at h;obtain ⟨⟨_,h2⟩,h3⟩:=h;refine ⟨h2,?_⟩;unfold numR at h2 ⊢
 split
 ·rename_i hb
  simp only [numB,Bool.and_eq_true] at hb;have h4:=Zkc _ hb.2;have h5:(l.drop (minB l)).length≤9:=by rw [List.length_drop];omega
  have h6:(10:Nat) ^ (l.drop (minB l)).length≤10 ^ 9:=Nat.pow_le_pow_right (by omega) h5;unfold numN
  split
  ·omega
  ·rename_i hm
   have:minB l=0:=by unfold minB at hm ⊢;split at hm <;> simp_all
   rw [this,List.drop_zero] at h4 h6;have h7:(10:Nat) ^ 9=1000000000:=by decide
   simp only;omega
 ·simp
theorem itoa_lt {n:Int} (h0:0≤n) (h:(Lib.itoa n).length≤9):n≤999999999:=by
 have e:Lib.itoa n=Lib.decDigits n.toNat:=by rw [Lib.itoa,if_neg (by omega)]
 obtain ⟨a,b⟩:=Xk n.toNat;have h4:=Zkc _ a;rw [e] at h;rw [b] at h4;have h6:(10:Nat) ^ (Lib.decDigits n.toNat).length≤10 ^ 9:=Nat.pow_le_pow_right (by omega) h;have h7:(10:Nat) ^ 9=1000000000:=by decide
 omega
def pkgN (l:List UInt8):Bool:=!(decide (rdN l<0))&&!(decide (9<(l.length:Int)))&&(Lib.itoa (rdN l) == l)
theorem rd_num9 (l:List UInt8):num9 l=pkgN l∧(num9 l=true→(numR l).1=rdN l):=by
 have k:num9 l=true→(numR l).1=rdN l:=fun h=>by
  obtain ⟨h1,h2⟩:=Zdk h;have h3:=Zkx h;have:=Zf0 (numR l).1 (by omega) (by omega);rw [h3] at this;exact this.symm
 refine ⟨?_,k⟩;rw [Bool.eq_iff_iff];constructor
 ·intro h;have h1:=Zdk h;have h3:=Zkx h;rw [k h] at h1 h3;simp only [num9,Bool.and_eq_true,decide_eq_true_eq] at h;simp only [pkgN,Bool.and_eq_true,Bool.not_eq_true',decide_eq_false_iff_not,beq_iff_eq];exact ⟨⟨by omega,by omega⟩,h3⟩
 ·intro h;simp only [pkgN,Bool.and_eq_true,Bool.not_eq_true',decide_eq_false_iff_not,beq_iff_eq] at h;obtain ⟨⟨h1,h2⟩,h3⟩:=h;have h4:rdN l≤999999999:=itoa_lt (by omega) (by rw [h3];omega);have h5:=Zf5 (rdN l) (by omega) (by omega);rw [h3] at h5;simp only [num9,h5,Bool.and_eq_true,decide_eq_true_eq];exact ⟨⟨trivial,by omega⟩,by omega⟩
theorem Zno {l:List UInt8} (h:∀ v,Lib.atoiAll l≠.ok v):pkgN l=false:=by
 have e:rdN l=0:=by
  unfold rdN
  cases ha:Lib.atoiAll l with
  | ok v=>exact absurd ha (h v)
  | «syntax»=>rfl
  | range=>rfl
 have h1:(Lib.itoa 0 == l)=false:=by
  rw [beq_eq_false_iff_ne];intro h2;rw [← h2] at h;exact h 0 (by decide +kernel)
 rw [pkgN,e,h1,Bool.and_false]
theorem X4 (l:List UInt8):(Z2 l).length≤l.length∧(fstW l).length≤l.length:=by
 have:=congrArg List.length (Jl l);rw [List.length_append] at this;omega
theorem Zft (l w:List UInt8):(rnS l w).length≤l.length:=by
 unfold rnS
 split
 ·have:=(X4 l).1;rw [List.length_drop];omega
 ·simp
theorem ml_len (l:List UInt8):(mlN l).length≤l.length∧(mlD l).length≤l.length∧(mlF l).length≤l.length:=by
 have h1:=(X4 l).1;have h2:=X4 ((Z2 l).drop 1);have h3:=X4 ((mlR l).drop 1);rw [List.length_drop] at h2 h3;have h4:(mlR l).length≤l.length:=by unfold mlR;omega
 refine ⟨by unfold mlN;omega,by unfold mlD;omega,by unfold mlF;omega⟩
theorem Zmd {f:Int} {ps:List (Int×List UInt8)} (hb:∀ x∈flagsOf ps,0≤x∧x≤2048) (hl:ps.length≤100) (h:Y4 f ps=true):-9223372036854775808≤f∧f≤9223372036854775807:=by
 unfold Y4 at h;have e:=of_decide_eq_true h;have:=Zcg f (flagsOf ps) hb;rw [e] at this;simp only [flagsOf,List.length_map] at this;omega
theorem Zl2 {s:List UInt8} {ps:List (Int×List UInt8)} (g:Good ps) (hb:∀ x∈flagsOf ps,0≤x∧x≤2048) (hl:ps.length≤100):-9223372036854775808≤parF ps s∧parF ps s≤9223372036854775807:=by
 cases hr:Zb0 ps s with
 | none=>rw [parF,hr];simp
 | some f =>
   obtain ⟨h1,h2⟩:=Zm9 g hr;have e:parF ps s=f:=by rw [parF,hr];rfl
   rw [e];exact Zmd hb hl h1
theorem Zhy {s:List UInt8} {ps:List (Int×List UInt8)} (g:Good ps) (hb:∀ x∈flagsOf ps,0≤x∧x≤2048) (hl:ps.length≤100):-9223372036854775808≤fgN ps s∧fgN ps s≤9223372036854775807:=by
 unfold fgN
 split
 ·omega
 ·exact Zl2 g hb hl
theorem doc_w {l:List UInt8} {i:Ins} (h:docP l=some i) (hl:l.length≤40000):InsW i:=by
 rw [← Zjy] at h;have e:i=ownR l:=by
  unfold ownP at h
  split at h
  ·exact (Option.some.inj h).symm
  ·cases h
 have h2:=rdI_ok ((opOf (cutA l):Nat):Int) ⟨(cutB l).toArray⟩ (by have:=Zgo l;rw [Zk];unfold maxLen;omega);rw [e];exact h2
structure Fit (st:Nat) (c:Cls) (K:Nat):Prop where
 ifs:c.ifs.length≤K
 ms:c.ms.length≤K
 code:∀ m∈c.ms,m.code.length≤K
 st:5≤st→st≤7→c.ms≠[]
 w:ClsW c
theorem Fit.zero (K:Nat):Fit 0 Y2 K:=⟨Nat.zero_le _,Nat.zero_le _,fun m hm=>(by cases hm),fun h=>absurd h (by omega),by decide,by decide,fun p hp=>(by cases hp),by decide,by decide,fun m hm=>(by cases hm)⟩
theorem Zk3 {f:Mth→Mth} {l:List Mth} {x:Mth} (h:x∈Ym f l):x∈l∨∃ y∈l,x=f y:=by
 induction l with
 | nil=>cases h
 | cons m r ih =>
   cases r with
   | nil=>simp [Ym] at h;exact .inr ⟨m,by simp,h⟩
   | cons y r =>
     rw [Ym] at h
     ·rcases List.mem_cons.1 h with e|h
      ·exact .inl (by simp [e])
      ·rcases ih h with h|⟨y,h1,h2⟩
       ·exact .inl (List.mem_cons_of_mem _ h)
       ·exact .inr ⟨y,List.mem_cons_of_mem _ h1,h2⟩
     ·simp
theorem Zk4 (f:Mth→Mth) (l:List Mth):(Ym f l).length=l.length:=by
 induction l with
 | nil=>rfl
 | cons m r ih =>
   cases r with
   | nil=>rfl
   | cons y r => rw [Ym]; · simp [ih]
                 ·simp
theorem Fit.lastm {st st':Nat} {c:Cls} {K:Nat} (h:Fit st c K) (f:Mth→Mth) (h5:5≤st) (h7:st≤7) (hc:∀ m∈c.ms,(f m).code.length≤K+1) (hw:∀ m,MthW m→MthW (f m)):Fit st' { c with ms:=Ym f c.ms } (K+1) where
 ifs:=by have:=h.ifs;simp only;omega
 ms:=by have:=h.ms;simp only [Zk4];omega
 code:=fun m hm=>by
  rcases Zk3 hm with h1|⟨y,h1,rfl⟩
  ·have:=h.code m h1;omega
  ·exact hc y h1
 st:=fun _ _ e=>by
  have h1:=congrArg List.length e;simp only [Zk4,List.length_nil] at h1;exact h.st h5 h7 (List.length_eq_zero_iff.1 h1)
 w:=by
  obtain ⟨w1,w2,w3,w4,w5,w6⟩:=h.w;refine ⟨w1,w2,w3,w4,w5,fun m hm=>?_⟩;rcases Zk3 hm with h1|⟨y,h1,rfl⟩
  ·exact w6 m h1
  ·exact hw y (w6 y h1)
theorem Zgu {st st':Nat} {c c':Cls} {l:List UInt8} {K:Nat} (h:Fit st c K) (hl:l.length≤40000) (hs:Jr c l=some (st',c')):Fit st' c' (K+1):=by
 unfold Jr at hs;obtain ⟨w1,w2,w3,w4,w5,w6⟩:=h.w;have:=h.ifs;have:=h.ms
 split at hs
 ·cases hs;exact ⟨by omega,by omega,fun m hm=>(by have:=h.code m hm;omega),fun _ h=>absurd h (by omega),h.w⟩
 ·split at hs
  ·cases hs;have hm:=ml_len l;refine ⟨by simp only;omega,by simp;omega,fun m hm=>?_,fun _ _ e=>by simp at e,w1,w2,w3,w4,w5,fun m hm=>?_⟩
   ·rcases List.mem_append.1 hm with h1|h1
    ·have:=h.code m h1;omega
    ·simp at h1;subst h1;simp
   ·rcases List.mem_append.1 hm with h1|h1
    ·exact w6 m h1
    ·simp at h1;subst h1;refine ⟨by rw [Zk];unfold maxLen;omega,by rw [Zk];unfold maxLen;omega,Zhy goodM Zc4 (by decide),by simp only;omega,by simp only;omega,fun i hi=>by cases hi⟩
  ·cases hs
theorem Yy {st st':Nat} {c c':Cls} {l:List UInt8} {K:Nat} (h:Fit st c K) (hl:l.length≤40000) (hs:Zt st c l=some (st',c')):Fit st' c' (K+1):=by
 obtain ⟨w1,w2,w3,w4,w5,w6⟩:=h.w;have i1:=h.ifs;have i2:=h.ms;have i3:∀ m∈c.ms,m.code.length≤K+1:=fun m hm=>by have:=h.code m hm;omega
 unfold Zt at hs
 split at hs
 ·split at hs
  ·cases hs;exact ⟨by simp only;omega,by simp only;omega,i3,fun h=>absurd h (by omega),by have:=Zft l wClass;rw [Zk];unfold maxLen;omega,w2,w3,w4,w5,w6⟩
  ·cases hs
 split at hs
 ·split at hs
  ·cases hs;exact ⟨by simp only;omega,by simp only;omega,i3,fun h=>absurd h (by omega),w1,by have:=Zft l wSup;rw [Zk];unfold maxLen;omega,w3,w4,w5,w6⟩
  ·cases hs
 split at hs
 ·split at hs
  ·cases hs;refine ⟨by simp;omega,by simp only;omega,i3,fun h=>absurd h (by omega),w1,w2,fun p hp=>?_,w4,w5,w6⟩;rcases List.mem_append.1 hp with h1|h1
   ·exact w3 p h1
   ·simp at h1;subst h1;have:=Zft l wIface;unfold maxLen;omega
  ·split at hs
   ·cases hs;exact ⟨by simp only;omega,by simp only;omega,i3,fun h=>absurd h (by omega),w1,w2,w3,Zhy goodC Zc5 (by decide),w5,w6⟩
   ·cases hs
 split at hs
 ·split at hs
  ·rename_i e
   cases hs;simp only [Bool.and_eq_true] at e;have:=Zdk e.2;exact ⟨by simp only;omega,by simp only;omega,i3,fun h=>absurd h (by omega),w1,w2,w3,w4,by simp only;omega,w6⟩
  ·cases hs
 split at hs
 ·exact Zgu h hl hs
 split at hs
 ·rename_i e5
  split at hs
  ·rename_i e
   cases hs;simp only [Bool.and_eq_true] at e;have:=Zdk e.2;exact h.lastm _ (by omega) (by omega) (fun m hm=>i3 m hm) (fun m hm=>⟨hm.1,hm.2.1,hm.2.2.1,by simp only;omega,hm.2.2.2.2⟩)
  ·cases hs
 split at hs
 ·split at hs
  ·rename_i e
   cases hs;simp only [Bool.and_eq_true] at e;have:=Zdk e.2;exact h.lastm _ (by omega) (by omega) (fun m hm=>i3 m hm) (fun m hm=>⟨hm.1,hm.2.1,hm.2.2.1,hm.2.2.2.1,by simp only;omega,hm.2.2.2.2.2⟩)
  ·cases hs
 split at hs
 ·split at hs
  ·rename_i i hi
   cases hs;have hw:=doc_w hi hl;refine h.lastm _ (by omega) (by omega) (fun m hm=>by have:=h.code m hm;simp;omega) (fun m hm=>⟨hm.1,hm.2.1,hm.2.2.1,hm.2.2.2.1,hm.2.2.2.2.1,fun j hj=>?_⟩);rcases List.mem_append.1 hj with h1|h1
   ·exact hm.2.2.2.2.2 j h1
   ·simp at h1;subst h1;exact hw
  ·exact Zgu h hl hs
 ·cases hs
theorem hp_pre (s p:ByteArray):hpB s p=p.data.toList.isPrefixOf s.data.toList:=by
 have e1:p.data.toList.length=p.size:=by rw [Array.length_toList];rfl
 have e2:s.data.toList.length=s.size:=by rw [Array.length_toList];rfl
 rw [Bool.eq_iff_iff,List.isPrefixOf_iff_prefix,List.prefix_iff_eq_take,hpB,Bool.and_eq_true,decide_eq_true_eq,beq_iff_eq,Lib.toList_data,Lib.toList_data,Jn,e1];constructor
 ·intro h;exact h.2.symm
 ·intro h;refine ⟨?_,h.symm⟩;have:=congrArg List.length h;rw [List.length_take,e1,e2] at this;omega
theorem Zon (l:List UInt8) (s:ByteArray) (h:s.data.toList=l):hpB s ⟨#[32]⟩=(l.head? == some 32):=by
 rw [hp_pre,h]
 cases l with
 | nil=>rfl
 | cons x l =>
   rw [Bool.eq_iff_iff];simp [List.isPrefixOf];exact eq_comm
theorem cwOK_fst (s p:ByteArray) (hp:(32:UInt8) ∉ p.data.toList):cwOK s p=(fstW s.data.toList == p.data.toList):=by
 have e1:p.data.toList.length=p.size:=by rw [Array.length_toList];rfl
 have e3:(s.extract p.size s.size).data.toList=s.data.toList.drop p.size:=Lib.extract_to_end _ _;rw [← cw_fst hp,cwOK,cwB,hp_pre,Zon _ _ e3,Lib.toList_data,e3,e1]
theorem Zmr (s p:ByteArray) (h:fstW s.data.toList=p.data.toList):s.extract p.size s.size=⟨(Z2 s.data.toList).toArray⟩:=by
 have e1:p.data.toList.length=p.size:=by rw [Array.length_toList];rfl
 apply Zf;rw [Lib.extract_to_end,← e1,cw_rest h]
theorem fst_take (l:List UInt8):l.take (fstW l).length=fstW l∧l.drop (fstW l).length=Z2 l:=by
 have h:=Jl l;have h1:∀ a b:List UInt8,a++b=l→l.take a.length=a∧l.drop a.length=b:=fun a b e=>by
  rw [← e];exact ⟨List.take_left' rfl,List.drop_left' rfl⟩
 exact h1 _ _ h
theorem span_fst (l:List UInt8):Z5 (fun x=>!decide (x=32)) l=(fstW l).length:=rfl
theorem Zaw (s:ByteArray) (hs:s.size≤9223372036854775807) (h:s.data.toList=[]∨∃ r,s.data.toList=32::r) (w:World) :
 Calls Tryz.prog 156 #[.string s] w fun e w'=>e=.returned (.tuple #[.string ⟨(fstW (s.data.toList.drop 1)).toArray⟩,.string ⟨(Z2 (s.data.toList.drop 1)).toArray⟩])∧∃ n,w'=w.drewN n:=by
 obtain ⟨P,hP⟩:∃ P:ByteArray,P=⟨(s.data.toList.drop 1).toArray⟩:=⟨_,rfl⟩;have hPd:P.data.toList=s.data.toList.drop 1:=by rw [hP]
 have hPs:P.size≤9223372036854775807:=by
  rw [hP,Zk,List.length_drop];have e2:s.data.toList.length=s.size:=by rw [Array.length_toList];rfl
  omega
 have HT:∀ w:World,Calls Tryz.prog 180 #[.string s,.string ⟨#[32]⟩] w fun e w'=>e=.returned (.string P)∧w'=w:=fun w=>by
  have h1:=Zap s ⟨#[32]⟩ w;have e:(if hpB s ⟨#[32]⟩ then s.extract (⟨#[32]⟩:ByteArray).size s.size else s)=P:=by
   rcases h with h|⟨r,h⟩
   ·rw [Zon _ _ h,if_neg (by simp)];apply Zf;rw [hPd,h];rfl
   ·rw [Zon _ _ h,if_pos (by simp)];apply Zf;rw [hPd,Lib.extract_to_end];rfl
  rw [e] at h1;exact h1
 have HI:=Fl.index_any P;rw [Zbh,span_fst] at HI;obtain ⟨t1,t2⟩:=fst_take P.data.toList;have hl:P.data.toList.length=P.size:=by rw [Array.length_toList];rfl
 rw [← hPd];by_cases hk:(fstW P.data.toList).length<P.data.toList.length
 ·rw [if_pos hk] at HI;have e1:(⟨(fstW P.data.toList).toArray⟩:ByteArray)=P.extract 0 (fstW P.data.toList).length:=by apply Zf;rw [Jn,t1]
  have e2:(⟨(Z2 P.data.toList).toArray⟩:ByteArray)=P.extract (fstW P.data.toList).length P.size:=by apply Zf;rw [Lib.extract_to_end,t2]
  rw [e1,e2];exact Zkg s P _ (by omega) hPs HT HI w
 ·rw [if_neg hk] at HI;have hr:Z2 P.data.toList=[]:=by rw [← t2];exact List.drop_of_length_le (by omega)
  have e1:(⟨(fstW P.data.toList).toArray⟩:ByteArray)=P:=by apply Zf;exact Zcv hr
  have e2:(⟨(Z2 P.data.toList).toArray⟩:ByteArray)=⟨#[]⟩:=by rw [hr]
  rw [e1,e2];exact (Zmt s P HT HI w).mono fun e w' ⟨h1,h2⟩=>⟨h1,0,h2⟩
def PartIn (w:World):Prop:=5<w.heap.size∧∃ tp a,w.cell? ⟨5,0,none⟩=some (.iface tp (.pointer a))
def OpenIn (w:World):Prop:=0<w.heap.size∧∃ tp a,w.cell? ⟨0,0,none⟩=some (.iface tp (.pointer a))
def SIn (w:World):Prop:=OrdIn w∧PartIn w∧OpenIn w
theorem SIn.keep {w w':World} (h:SIn w) (hb:Bw w w'):SIn w':=by
 obtain ⟨⟨h1,t1,a1,c1⟩,⟨h2,t2,a2,c2⟩,h3,t3,a3,c3⟩:=h;have:=hb.size;exact ⟨⟨by omega,t1,a1,(hb.cell h1).trans c1⟩,⟨by omega,t2,a2,(hb.cell h2).trans c2⟩,by omega,t3,a3,(hb.cell h3).trans c3⟩
def ErrV (er:Value):Prop:=∃ tp a,er=.iface tp (.pointer a)
theorem Zbm (s p:ByteArray) (hp:(32:UInt8) ∉ p.data.toList) (w:World) (hO:OrdIn w):Calls Tryz.prog 155 #[.string s,.string p] w fun e w'=>(∃ er,e=.returned (.tuple #[.string (if fstW s.data.toList == p.data.toList then ⟨(Z2 s.data.toList).toArray⟩ else ⟨#[]⟩),er])∧if fstW s.data.toList == p.data.toList then er=.nilIface else ErrV er)∧Bw w w':=by
 have h:=Zkf s p w hO;rw [cwOK_fst s p hp] at h
 cases hq:(fstW s.data.toList == p.data.toList) with
 | false=>rw [hq] at h;exact h
 | true =>
   rw [hq,Zmr s p (eq_of_beq hq)] at h;exact h
theorem Xe {w w1:World} (n:Nat) (h:Bw w w1):Bw w (w1.drewN n):=⟨h.os,h.tape,h.output,h.size,h.block⟩
theorem Ziq (s p R:ByteArray) (w:World) (HW:Calls Tryz.prog 155 #[.string s,.string p] w fun e w'=>(∃ er,e=.returned (.tuple #[.string R,er])∧ErrV er)∧Bw w w') :
 Calls Tryz.prog 124 #[.string s,.string p] w fun e w'=>(∃ er,e=.returned (.tuple #[.string ⟨#[]⟩,er])∧ErrV er)∧Bw w w':=by
 have HW:Hid (Calls Tryz.prog 155 _ w _):=HW;go_enter Tryz.func124,Tryz.ntmps124;go_wp2_with (go_at_call 155;refine HW.out.mono ?_;rintro e w1 ⟨⟨er,rfl,tp,a,rfl⟩,hb1⟩;clear HW)
 go_ret2
 exact ⟨⟨_,rfl,tp,a,rfl⟩,hb1⟩
theorem Zg2 (s p R A B:ByteArray) (w:World) (hS:SIn w) (HW:Calls Tryz.prog 155 #[.string s,.string p] w fun e w'=>e=.returned (.tuple #[.string R,.nilIface])∧Bw w w')
 (HP:∀ w,Calls Tryz.prog 156 #[.string R] w fun e w'=>e=.returned (.tuple #[.string A,.string B])∧∃ n,w'=w.drewN n) (q:Bool) (hq:q=(!A.toList.isEmpty&&B.toList.isEmpty)) :
 Calls Tryz.prog 124 #[.string s,.string p] w fun e w'=>(∃ er,e=.returned (.tuple #[.string (if q then A else ⟨#[]⟩),er])∧if q then er=.nilIface else ErrV er)∧Bw w w':=by
 have HW:Hid (Calls Tryz.prog 155 _ w _):=HW;have HP:Hid (∀ w:World,_):=HP;have HS:Hid (SIn w):=hS;clear hS;generalize hA:A.toList.isEmpty=qa at *;generalize hB:B.toList.isEmpty=qb at *
 cases qa with
 | true =>
   obtain rfl:q=false:=by rw [hq];rfl
   clear hq;go_enter Tryz.func124,Tryz.ntmps124;go_wp2_with (first
    | (go_at_call 155;refine HW.out.mono ?_;rintro e w1 ⟨rfl,hb1⟩;obtain ⟨_,⟨h5,tp,a,hc⟩,_⟩:=HS.out.keep hb1;clear HW HS)
    | (go_at_call 156;refine (HP.out _).mono ?_;rintro e w2 ⟨rfl,n,rfl⟩;clear HP))
   all_goals (try go_region)
   all_goals (try go_wp2)
   all_goals go_ret2
   all_goals first
    | exact ⟨⟨_,rfl,tp,a,rfl⟩,Xe _ hb1⟩
    | exact ⟨⟨_,rfl,tp,a,rfl⟩,(Xe n hb1).drew⟩
 | false =>
   cases qb with
   | true =>
     obtain rfl:q=true:=by rw [hq];rfl
     clear hq;go_enter Tryz.func124,Tryz.ntmps124;go_wp2_with (first
      | (go_at_call 155;refine HW.out.mono ?_;rintro e w1 ⟨rfl,hb1⟩;obtain ⟨_,⟨h5,tp,a,hc⟩,_⟩:=HS.out.keep hb1;clear HW HS)
      | (go_at_call 156;refine (HP.out _).mono ?_;rintro e w2 ⟨rfl,n,rfl⟩;clear HP))
     all_goals go_ret2
     all_goals first
      | exact ⟨⟨_,rfl,rfl⟩,Xe _ hb1⟩
      | exact ⟨rfl,Xe _ hb1⟩
   | false =>
     obtain rfl:q=false:=by rw [hq];rfl
     clear hq;go_enter Tryz.func124,Tryz.ntmps124;go_wp2_with (first
      | (go_at_call 155;refine HW.out.mono ?_;rintro e w1 ⟨rfl,hb1⟩;obtain ⟨_,⟨h5,tp,a,hc⟩,_⟩:=HS.out.keep hb1;clear HW HS)
      | (go_at_call 156;refine (HP.out _).mono ?_;rintro e w2 ⟨rfl,n,rfl⟩;clear HP))
     all_goals (try go_region)
     all_goals (try go_wp2)
     all_goals go_ret2
     all_goals first
      | exact ⟨⟨_,rfl,tp,a,rfl⟩,Xe _ hb1⟩
      | exact ⟨⟨_,rfl,tp,a,rfl⟩,(Xe n hb1).drew⟩
theorem Ql (s:ByteArray):s.data.toList.length=s.size:=by rw [Array.length_toList];rfl
theorem Zaa (s p:ByteArray) (hs:s.size≤40000) (hp:(32:UInt8) ∉ p.data.toList) (w:World) (hS:SIn w) :
 Calls Tryz.prog 124 #[.string s,.string p] w fun e w'=>(∃ er,e=.returned (.tuple #[.string ⟨(rnS s.data.toList p.data.toList).toArray⟩,er])∧if rnB s.data.toList p.data.toList then er=.nilIface else ErrV er)∧Bw w w':=by
 have HW:=Zbm s p hp w hS.1
 cases hq:(fstW s.data.toList == p.data.toList) with
 | false =>
   have hb:rnB s.data.toList p.data.toList=false:=by rw [rnB,hq];rfl
   simp only [hq] at HW;have:=Ziq s p _ w HW;rw [rnS,hb];exact this
 | true =>
   have hr:=(X4 s.data.toList).1;rw [Ql] at hr;have hd:(⟨(Z2 s.data.toList).toArray⟩:ByteArray).data.toList=Z2 s.data.toList:=by simp
   have HP:=Zaw ⟨(Z2 s.data.toList).toArray⟩ (by rw [Zk];omega) (by rw [hd];exact Ye _);rw [hd] at HP;rw [hq] at HW;simp only [if_true] at HW;have HW2:Calls Tryz.prog 155 #[.string s,.string p] w fun e w'=>e=.returned (.tuple #[.string ⟨(Z2 s.data.toList).toArray⟩,.nilIface])∧Bw w w':=HW.mono fun e w' ⟨⟨er,h1,h2⟩,h3⟩=>⟨by rw [h1,h2],h3⟩;have hb:rnB s.data.toList p.data.toList=(!((⟨(fstW ((Z2 s.data.toList).drop 1)).toArray⟩:ByteArray).toList.isEmpty)&&(⟨(Z2 ((Z2 s.data.toList).drop 1)).toArray⟩:ByteArray).toList.isEmpty):=by
    rw [Lib.toList_data,Lib.toList_data];simp only [rnB,hq,Bool.true_and];generalize (Z2 s.data.toList).drop 1=P
    cases hr:Z2 P with
    | cons x r=>simp
    | nil =>
      rw [Zcv hr]
      cases P <;> rfl
   have:=Zg2 s p _ _ _ w hS HW2 HP _ hb;have hn:(if rnB s.data.toList p.data.toList then (⟨(fstW ((Z2 s.data.toList).drop 1)).toArray⟩:ByteArray) else ⟨#[]⟩)=⟨(rnS s.data.toList p.data.toList).toArray⟩:=by
    rw [rnS]
    cases h:rnB s.data.toList p.data.toList with
    | false=>rfl
    | true =>
      simp only [rnB,Bool.and_eq_true,beq_iff_eq] at h;simp only [if_true];rw [Zcv h.2]
   rw [hn] at this;exact this
theorem Zfv (s p R:ByteArray) (w:World) (HW:Calls Tryz.prog 124 #[.string s,.string p] w fun e w'=>(∃ er,e=.returned (.tuple #[.string R,er])∧ErrV er)∧Bw w w') :
 Calls Tryz.prog 126 #[.string s,.string p] w fun e w'=>(∃ er,e=.returned (.tuple #[.int .i64 0,er])∧ErrV er)∧Bw w w':=by
 have HW:Hid (Calls Tryz.prog 124 _ w _):=HW;go_enter Tryz.func126,Tryz.ntmps126;go_wp2_with (go_at_call 124;refine HW.out.mono ?_;rintro e w1 ⟨⟨er,rfl,tp,a,rfl⟩,hb1⟩;clear HW)
 go_ret2
 exact ⟨⟨_,rfl,tp,a,rfl⟩,hb1⟩
theorem Zai (s p R:ByteArray) (w:World) (hS:SIn w) (HW:Calls Tryz.prog 124 #[.string s,.string p] w fun e w'=>e=.returned (.tuple #[.string R,.nilIface])∧Bw w w')
 (HA:∀ w',Bw w w'→Calls Tryz.prog 159 #[.string R] w' fun e w''=>(∃ n er,e=.returned (.tuple #[.int .i64 n,er])∧ErrV er)∧Below w'.heap.size w' w'') :
 Calls Tryz.prog 126 #[.string s,.string p] w fun e w'=>(∃ er,e=.returned (.tuple #[.int .i64 0,er])∧ErrV er)∧Bw w w':=by
 have HW:Hid (Calls Tryz.prog 124 _ w _):=HW;have HA:Hid (∀ w':World,_→_):=HA;have HS:Hid (SIn w):=hS;clear hS;go_enter Tryz.func126,Tryz.ntmps126;go_wp2_with (first
  | (go_at_call 124;refine HW.out.mono ?_;rintro e w1 ⟨rfl,hb1⟩;clear HW)
  | (go_at_call 159;refine (HA.out _ hb1).mono ?_;rintro e w2 ⟨⟨n,er,rfl,tp0,a0,rfl⟩,hb2⟩;have B2:Hid (Bw w w2):=Below.step hb1 hb2;clear hb1 hb2 HA;obtain ⟨_,⟨h5,tp,a,hc⟩,_⟩:=HS.out.keep B2.out;clear HS))
 all_goals (try go_region)
 all_goals (try go_wp2)
 all_goals go_ret2
 all_goals first
  | exact ⟨⟨_,rfl,tp,a,rfl⟩,B2.out⟩
  | exact ⟨⟨_,rfl,tp,a,rfl⟩,B2.out.drew⟩
theorem Zfu (s p R I:ByteArray) (n:Int) (w:World) (hS:SIn w) (HW:Calls Tryz.prog 124 #[.string s,.string p] w fun e w'=>e=.returned (.tuple #[.string R,.nilIface])∧Bw w w')
 (HA:∀ w',Bw w w'→Calls Tryz.prog 159 #[.string R] w' fun e w''=>e=.returned (.tuple #[.int .i64 n,.nilIface])∧Below w'.heap.size w' w'')
 (HI:∀ w',Bw w w'→Calls Tryz.prog 36 #[.int .i64 n] w' fun e w''=>e=.returned (.string I)∧Below w'.heap.size w' w'') (q:Bool) (hq:q=(!(decide (n<0))&&!(decide (9<(R.size:Int)))&&(I.toList == R.toList))) :
 Calls Tryz.prog 126 #[.string s,.string p] w fun e w'=>(∃ er,e=.returned (.tuple #[.int .i64 (if q then n else 0),er])∧if q then er=.nilIface else ErrV er)∧Bw w w':=by
 have HW:Hid (Calls Tryz.prog 124 _ w _):=HW;have HA:Hid (∀ w':World,_→_):=HA;have HI:Hid (∀ w':World,_→_):=HI;have HS:Hid (SIn w):=hS;clear hS;by_cases h1:n<0
 ·obtain rfl:q=false:=by rw [hq,decide_eq_true h1];rfl
  clear hq;go_enter Tryz.func126,Tryz.ntmps126;go_wp2_with (first
   | (go_at_call 124;refine HW.out.mono ?_;rintro e w1 ⟨rfl,hb1⟩;clear HW)
   | (go_at_call 159;refine (HA.out _ hb1).mono ?_;rintro e w2 ⟨rfl,hb2⟩;have B2:Hid (Bw w w2):=Below.step hb1 hb2;clear hb1 hb2 HA;obtain ⟨_,⟨h5,tp,a,hc⟩,_⟩:=HS.out.keep B2.out;clear HS))
  all_goals (try go_region)
  all_goals (try go_wp2)
  all_goals go_ret2
  all_goals first
   | exact ⟨⟨_,rfl,tp,a,rfl⟩,B2.out⟩
   | exact ⟨⟨_,rfl,tp,a,rfl⟩,B2.out.drew⟩
 ·by_cases h2:9<(R.size:Int)
  ·obtain rfl:q=false:=by rw [hq,decide_eq_true h2];simp
   clear hq;go_enter Tryz.func126,Tryz.ntmps126;go_wp2_with (first
    | (go_at_call 124;refine HW.out.mono ?_;rintro e w1 ⟨rfl,hb1⟩;clear HW)
    | (go_at_call 159;refine (HA.out _ hb1).mono ?_;rintro e w2 ⟨rfl,hb2⟩;have B2:Hid (Bw w w2):=Below.step hb1 hb2;clear hb1 hb2 HA;obtain ⟨_,⟨h5,tp,a,hc⟩,_⟩:=HS.out.keep B2.out;clear HS))
   all_goals (try go_region)
   all_goals (try go_wp2)
   all_goals go_ret2
   all_goals first
    | exact ⟨⟨_,rfl,tp,a,rfl⟩,B2.out⟩
    | exact ⟨⟨_,rfl,tp,a,rfl⟩,B2.out.drew⟩
  ·generalize h3:(I.toList == R.toList)=q3 at *
   cases q3 with
   | true =>
     obtain rfl:q=true:=by rw [hq,decide_eq_false h1,decide_eq_false h2];rfl
     have h4:(I.toList != R.toList)=!true:=by rw [bne,h3]
     clear hq;go_enter Tryz.func126,Tryz.ntmps126;go_wp2_with (first
      | (go_at_call 124;refine HW.out.mono ?_;rintro e w1 ⟨rfl,hb1⟩;clear HW)
      | (go_at_call 159;refine (HA.out _ hb1).mono ?_;rintro e w2 ⟨rfl,hb2⟩;have B2:Hid (Bw w w2):=Below.step hb1 hb2;clear hb1 hb2 HA)
      | (go_at_call 36;refine (HI.out _ B2.out).mono ?_;rintro e w3 ⟨rfl,hb3⟩;have B3:Hid (Bw w w3):=Below.step B2.out hb3;clear hb3 HI;obtain ⟨_,⟨h5,tp,a,hc⟩,_⟩:=HS.out.keep B3.out;clear HS))
     all_goals go_ret2
     all_goals first
      | exact ⟨⟨_,rfl,rfl⟩,B3.out⟩
      | exact ⟨rfl,B3.out⟩
   | false =>
     obtain rfl:q=false:=by rw [hq];simp
     have h4:(I.toList != R.toList)=!false:=by rw [bne,h3]
     clear hq;go_enter Tryz.func126,Tryz.ntmps126;go_wp2_with (first
      | (go_at_call 124;refine HW.out.mono ?_;rintro e w1 ⟨rfl,hb1⟩;clear HW)
      | (go_at_call 159;refine (HA.out _ hb1).mono ?_;rintro e w2 ⟨rfl,hb2⟩;have B2:Hid (Bw w w2):=Below.step hb1 hb2;clear hb1 hb2 HA)
      | (go_at_call 36;refine (HI.out _ B2.out).mono ?_;rintro e w3 ⟨rfl,hb3⟩;have B3:Hid (Bw w w3):=Below.step B2.out hb3;clear hb3 HI;obtain ⟨_,⟨h5,tp,a,hc⟩,_⟩:=HS.out.keep B3.out;clear HS))
     all_goals (try go_region)
     all_goals (try go_wp2)
     all_goals go_ret2
     all_goals first
      | exact ⟨⟨_,rfl,tp,a,rfl⟩,B3.out⟩
      | exact ⟨⟨_,rfl,tp,a,rfl⟩,B3.out.drew⟩
def GP (w:World):Prop:=GAll w∧WordsRow w∧EIn w∧SIn w
theorem GP.keep {w w':World} (h:GP w) (hb:Bw w w'):GP w':=⟨h.1.keep hb,h.2.1.keep hb,h.2.2.1.keep hb,h.2.2.2.keep hb⟩
theorem Jz (s p:ByteArray) (hs:s.size≤40000) (hp:(32:UInt8) ∉ p.data.toList) (w:World) (hG:GP w) :
 Calls Tryz.prog 126 #[.string s,.string p] w fun e w'=>(∃ n er,e=.returned (.tuple #[.int .i64 n,er])∧if rnB s.data.toList p.data.toList&&num9 (rnS s.data.toList p.data.toList) then er=.nilIface∧n=(numR (rnS s.data.toList p.data.toList)).1 else ErrV er)∧Bw w w':=by
 have HW:=Zaa s p hs hp w hG.2.2.2;have hlen:=Zft s.data.toList p.data.toList;rw [Ql] at hlen
 cases hb:rnB s.data.toList p.data.toList with
 | false =>
   simp only [hb] at HW;exact (Zfv s p _ w HW).mono fun e w' ⟨⟨er,h1,h2⟩,h3⟩=>⟨⟨0,er,h1,h2⟩,h3⟩
 | true =>
   rw [hb] at HW;simp only [if_true] at HW;obtain ⟨e1,e2⟩:=rd_num9 (rnS s.data.toList p.data.toList);obtain ⟨R,hR⟩:∃ R:ByteArray,R=⟨(rnS s.data.toList p.data.toList).toArray⟩:=⟨_,rfl⟩;have hRd:R.data.toList=rnS s.data.toList p.data.toList:=by rw [hR]
   have hRs:R.size≤40000:=by rw [hR,Zk];omega
   rw [← hR] at HW;rw [← hRd] at e1 e2 ⊢;have HW2:Calls Tryz.prog 124 #[.string s,.string p] w fun e w'=>e=.returned (.tuple #[.string R,.nilIface])∧Bw w w':=HW.mono fun e w' ⟨⟨er,h1,h2⟩,h3⟩=>⟨by rw [h1,h2],h3⟩;obtain ⟨⟨t1,p1,h1⟩,t2,p2,h2⟩:=hG.2.2.1
   cases ha:Lib.atoiAll R.data.toList with
   | ok v =>
     have hv:rdN R.data.toList=v:=by rw [rdN,ha]
     have hvb:=Zb2 R.data.toList;rw [hv] at hvb;have HA:∀ w',Bw w w'→Calls Tryz.prog 159 #[.string R] w' fun e w''=>e=.returned (.tuple #[.int .i64 v,.nilIface])∧Below w'.heap.size w' w'':=fun w' _ =>
      (Tryz.strconv_Atoi_ok R (by omega) v ha w').mono fun e w'' ⟨he,hw⟩=>⟨he,by
       rcases hw with rfl|⟨t,rfl⟩
       ·exact Below.refl _ _
       ·exact Zdy _ _ _⟩
     have HI:∀ w',Bw w w'→Calls Tryz.prog 36 #[.int .i64 v] w' fun e w''=>e=.returned (.string ⟨(Lib.itoa v).toArray⟩)∧Below w'.heap.size w' w'':=fun w' h=>Qq v (by omega) (by omega) w' (hG.1.1.2.keep h);have hq:num9 R.data.toList=(!(decide (v<0))&&!(decide (9<(R.size:Int)))&&((⟨(Lib.itoa v).toArray⟩:ByteArray).toList == R.toList)):=by
      rw [e1,pkgN,hv,Lib.toList_data,Lib.toList_data,Ql]
     refine (Zfu s p R _ v w hG.2.2.2 HW2 HA HI _ hq).mono fun e w' ⟨⟨er,h3,h4⟩,h5⟩=>⟨⟨_,er,h3,?_⟩,h5⟩
     cases h6:num9 R.data.toList with
     | false=>rw [h6] at h4;exact h4
     | true=>rw [h6] at h4;exact ⟨h4,by rw [e2 h6,hv];rfl⟩
   | «syntax» =>
     have hz:num9 R.data.toList=false:=by rw [e1];exact Zno (fun v hv=>by rw [ha] at hv;cases hv)
     rw [hz];refine (Zai s p R w hG.2.2.2 HW2 (fun w' hb=>?_)).mono fun e w' ⟨⟨er,h3,h4⟩,h5⟩=>⟨⟨0,er,h3,h4⟩,h5⟩;exact (Tryz.strconv_Atoi_syntax_var R (by omega) ha t1 p1 w' (Joins.var_stays Tryz.synG h1 hb (Nat.le_refl _))).mono fun e w'' ⟨N,he,_,_,hb⟩=>⟨⟨0,_,he,_,_,rfl⟩,hb⟩
   | range =>
     have hz:num9 R.data.toList=false:=by rw [e1];exact Zno (fun v hv=>by rw [ha] at hv;cases hv)
     rw [hz];refine (Zai s p R w hG.2.2.2 HW2 (fun w' hb=>?_)).mono fun e w' ⟨⟨er,h3,h4⟩,h5⟩=>⟨⟨0,er,h3,h4⟩,h5⟩;exact (Tryz.strconv_Atoi_range_var R (by omega) ha t2 p2 w' (Joins.var_stays Tryz.rngG h2 hb (Nat.le_refl _))).mono fun e w'' ⟨N,he,_,_,hb⟩=>⟨⟨_,_,he,_,_,rfl⟩,hb⟩
theorem Zlo (s:ByteArray) (w:World):Calls Tryz.prog 154 #[.string s,.string ⟨#[10]⟩] w fun e w'=>e=.returned (.int .i64 (Lib.indexByte s.data.toList 10))∧w'=w:=by
 have HB:Hid (∀ w:World,Calls Tryz.prog 175 #[.string s,.int .u8 10] w fun e w'=>e=.returned (.int .i64 (Lib.indexByte s.data.toList 10))∧w'=w):=fun w=>Tryz.stringslite_IndexByte s 10 w;have HR:Hid (([10] == s.toList)=true→Lib.indexByte s.data.toList 10=0):=fun h=>by
  have e:s.data.toList=[10]:=by rw [← Lib.toList_data];exact (eq_of_beq h).symm
  rw [e];rfl
 generalize Lib.indexByte s.data.toList 10=r at *;go_enter Tryz.func154,Tryz.ntmps154;go_wp2_with (go_at_call 175;refine (HB.out _).mono ?_;rintro e w1 ⟨rfl,rfl⟩)
 ·rename_i hc
  go_ret
  exact ⟨Zg (HR.out hc).symm,rfl⟩
 ·go_ret
  exact ⟨rfl,rfl⟩
theorem Zo2 (s:ByteArray) (k:Nat) (hs:s.size≤9223372036854775807) (hk:k<s.size) (HI:∀ w:World,Calls Tryz.prog 154 #[.string s,.string ⟨#[10]⟩] w fun e w'=>e=.returned (.int .i64 (k:Int))∧w'=w) (w:World) :
 Calls Tryz.prog 123 #[.string s,.string ⟨#[10]⟩] w fun e w'=>e=.returned (.tuple #[.string (s.extract 0 k),.string (s.extract (k+1) s.size),.bool true])∧Bw w w':=by
 have HI:Hid (∀ w:World,_):=HI;go_enter Tryz.func123,Tryz.ntmps123;go_wp2_with (go_at_call 154;refine (HI.out _).mono ?_;rintro e w1 ⟨rfl,hw1⟩;rw [hw1];clear hw1 HI)
 go_region
 all_goals go_wp2
 all_goals exact bodyPost_ret (v:=.tuple #[.string (s.extract 0 k),.string (s.extract (k+1) s.size),.bool true]) (by simp [results,Tryz.results123,go_sem, *]) rfl ⟨rfl,(Below.refl _ _).drew⟩
theorem cut10_no (s:ByteArray) (HI:∀ w:World,Calls Tryz.prog 154 #[.string s,.string ⟨#[10]⟩] w fun e w'=>e=.returned (.int .i64 (-1))∧w'=w) (w:World) :
 Calls Tryz.prog 123 #[.string s,.string ⟨#[10]⟩] w fun e w'=>e=.returned (.tuple #[.string s,.string ⟨#[]⟩,.bool false])∧Bw w w':=by
 have HI:Hid (∀ w:World,_):=HI;go_enter Tryz.func123,Tryz.ntmps123;go_wp2_with (go_at_call 154;refine (HI.out _).mono ?_;rintro e w1 ⟨rfl,hw1⟩;rw [hw1];clear hw1 HI)
 exact bodyPost_ret (v:=.tuple #[.string s,.string ⟨#[]⟩,.bool false]) (by simp [results,Tryz.results123,go_sem, *]) rfl ⟨rfl,Below.refl _ _⟩
def lnN (l:List UInt8):Nat:=Z5 (fun x=>!decide (x=10)) l
theorem tw_free (l:List UInt8):(10:UInt8) ∉ l.takeWhile (fun x=>!decide (x=10)):=by
 induction l with
 | nil=>simp
 | cons x l ih =>
   rw [List.takeWhile_cons]
   split
   ·rename_i h
    intro m;rcases List.mem_cons.1 m with e|m
    ·rw [← e] at h;simp at h
    ·exact ih m
   ·simp
theorem ln_take (l:List UInt8):l.take (lnN l)=l.takeWhile (fun x=>!decide (x=10)):=by
 have h:=List.takeWhile_append_dropWhile (p:=fun x:UInt8=>!decide (x=10)) (l:=l);have h1:∀ a b:List UInt8,a++b=l→l.take a.length=a:=fun a b e=>by rw [← e];exact List.take_left' rfl
 exact h1 _ _ h
theorem cut_ten (l:List UInt8):cutL 10 l=if lnN l<l.length then l.take (lnN l)::cutL 10 (l.drop (lnN l+1)) else [l]:=by
 have hfree:(10:UInt8) ∉ l.take (lnN l):=by rw [ln_take];exact tw_free l
 by_cases hk:lnN l<l.length
 ·rw [if_pos hk];have h1:l.drop (lnN l)=l[lnN l]::l.drop (lnN l+1):=List.drop_eq_getElem_cons hk;have h2:l[lnN l]=10:=by
   have:=Zc3 _ _ _ _ h1
   simpa using this
  have h3:l=l.take (lnN l)++10::l.drop (lnN l+1):=by
   rw [← h2,← h1,List.take_append_drop]
  conv=>lhs;rw [h3]
  exact Zbn 10 _ _ hfree
 ·rw [if_neg hk];rw [List.take_of_length_le (by omega)] at hfree;exact J8 10 l hfree
theorem Zo3 (s:ByteArray) (hs:s.size≤maxLen) (w:World):Calls Tryz.prog 123 #[.string s,.string ⟨#[10]⟩] w fun e w'=>e=.returned (.tuple #[.string (if lnN s.data.toList<s.size then ⟨(s.data.toList.take (lnN s.data.toList)).toArray⟩ else s),.string (if lnN s.data.toList<s.size then ⟨(s.data.toList.drop (lnN s.data.toList+1)).toArray⟩ else ⟨#[]⟩),.bool (decide (lnN s.data.toList<s.size))])∧Bw w w':=by
 have HI:=Zlo s;rw [Zbh,Ql] at HI;by_cases hk:lnN s.data.toList<s.size
 ·have hk':Z5 (fun x=>!decide (x=10)) s.data.toList<s.size:=hk;rw [if_pos hk'] at HI;rw [if_pos hk,if_pos hk,decide_eq_true hk];have e1:(⟨(s.data.toList.take (lnN s.data.toList)).toArray⟩:ByteArray)=s.extract 0 (lnN s.data.toList):=by apply Zf;rw [Jn]
  have e2:(⟨(s.data.toList.drop (lnN s.data.toList+1)).toArray⟩:ByteArray)=s.extract (lnN s.data.toList+1) s.size:=by apply Zf;rw [Lib.extract_to_end]
  rw [e1,e2];exact Zo2 s _ (by unfold maxLen at hs;omega) hk HI w
 ·have hk':¬ Z5 (fun x=>!decide (x=10)) s.data.toList<s.size:=hk;rw [if_neg hk'] at HI;rw [if_neg hk,if_neg hk,decide_eq_false hk];exact cut10_no s HI w
theorem Zga (s:ByteArray) (hs:s.size≤maxLen) (w:World):Calls Tryz.prog 86 #[.string s,.string ⟨#[10]⟩] w fun e w'=>e=.returned (.tuple #[.string (if lnN s.data.toList<s.size then ⟨(s.data.toList.take (lnN s.data.toList)).toArray⟩ else s),.string (if lnN s.data.toList<s.size then ⟨(s.data.toList.drop (lnN s.data.toList+1)).toArray⟩ else ⟨#[]⟩),.bool (decide (lnN s.data.toList<s.size))])∧Bw w w':=by
 have HC:Hid (∀ w:World,_):=Zo3 s hs;generalize (if lnN s.data.toList<s.size then (⟨(s.data.toList.take (lnN s.data.toList)).toArray⟩:ByteArray) else s)=A at *;generalize (if lnN s.data.toList<s.size then (⟨(s.data.toList.drop (lnN s.data.toList+1)).toArray⟩:ByteArray) else ⟨#[]⟩)=B at *;generalize decide (lnN s.data.toList<s.size)=q at *;go_enter Tryz.func86,Tryz.ntmps86;go_wp2_with (go_at_call 123;refine (HC.out _).mono ?_;rintro e w1 ⟨rfl,hb1⟩)
 exact bodyPost_ret (v:=.tuple #[.string A,.string B,.bool q]) (by simp [results,Tryz.results86,go_sem, *]) rfl ⟨rfl,hb1⟩
end Go.Proofs.YtfbhjfpkhofifaaGreatDoor
