import Derived.Test.YtfbhjfpkhofifaaGreatDoorCodeF
set_option maxHeartbeats 8000000
set_option maxRecDepth 100000
namespace Go.Proofs.YtfbhjfpkhofifaaGreatDoor
open Go.RowKit
def Yz (c:UInt8):Bool:=decide (48≤c.toNat)&&decide (c.toNat≤57)
def digV (l:List UInt8):Nat:=l.foldl (fun n c=>n * 10+(c.toNat - 48)) 0
def minB (l:List UInt8):Nat:=if l.head?=some 45 then 1 else 0
def numN (l:List UInt8):Int:=if minB l=1 then -(digV (l.drop 1):Int) else digV l
def numB (l:List UInt8):Bool:=decide (minB l<l.length)&&decide (l.length≤minB l+10)&&(l.drop (minB l)).all Yz
def numR (l:List UInt8):Int×Bool:=if numB l then (numN l,Lib.itoa (numN l) == l) else (0,false)
theorem Zdu (l:List UInt8) (c:UInt8):digV (l++[c])=digV l * 10+(c.toNat - 48):=by simp [digV]
theorem Zkc (l:List UInt8) (h:l.all Yz=true):digV l<10 ^ l.length:=by
 have hg:∀ (r:List UInt8) (n:Nat) (k:Nat),n<10 ^ k→r.all Yz=true→r.foldl (fun n c=>n * 10+(c.toNat - 48)) n<10 ^ (k+r.length):=by
  intro r
  induction r with
  | nil=>intro n k hn _;simpa using hn
  | cons c r ih =>
    intro n k hn hr;rw [List.all_cons,Bool.and_eq_true] at hr;have h2:=hr.1;simp only [Yz,Bool.and_eq_true,decide_eq_true_eq] at h2;have:=ih (n * 10+(c.toNat - 48)) (k+1) (by rw [Nat.pow_succ];omega) hr.2;rw [List.foldl_cons,List.length_cons,show k+(r.length+1)=k+1+r.length by omega];exact this
 have:=hg l 0 0 (by simp) h
 simpa [digV] using this
theorem Zow (l:List UInt8) (h:l.all Yz=true) (hl:l.length≤10):digV l≤9999999999:=by
 have h1:=Zkc l h;have h2:10 ^ l.length≤10 ^ 10:=Nat.pow_le_pow_right (by omega) hl;omega
theorem Zcz (s:ByteArray) (a k:Nat) (h:a≤k) (hk:k<s.size):(s.data.toList.drop a).take (k+1 - a)=(s.data.toList.drop a).take (k - a)++[s[k]]:=by
 have hl:k - a<(s.data.toList.drop a).length:=by rw [List.length_drop];simp;omega
 rw [show k+1 - a=(k - a)+1 by omega,List.take_succ_eq_append_getElem hl,List.getElem_drop]
 congr 2
 have e3:=Lib.Pa.at_eq s k hk;rw [List.getElem?_eq_getElem (by simpa using hk)] at e3;have e4:=Option.some.inj e3;rw [← e4]
 congr 1
 omega
theorem Zpd (s:ByteArray) (a k:Nat) (h:a≤k) (hk:k<s.size) (hd:Yz s[k]=false):(s.data.toList.drop a).all Yz=false:=by
 have h1:=Zcz s a k h hk
 cases e:(s.data.toList.drop a).all Yz with
 | false=>rfl
 | true =>
   have h2:s[k]∈s.data.toList.drop a:=by
    have:s[k]∈(s.data.toList.drop a).take (k+1 - a):=by rw [h1];simp
    exact List.mem_of_mem_take this
   rw [List.all_eq_true] at e;rw [e _ h2] at hd;exact absurd hd (by decide)
theorem Zmf (s:ByteArray) (h0:0<s.size) (hm:minB s.data.toList=1) (q45:(((s[0]).toNat:Int) == 45)=true) (h1:1<s.size) (h2:s.size≤1+10) (w:World):Calls Tryz.prog 95 #[.string s] w fun e w'=>e=.returned (.tuple #[.int .i64 (numR s.data.toList).1,.bool (numR s.data.toList).2])∧Bw w w':=by
 have hlen:s.data.toList.length=s.size:=by simp
 have HNO:Hid ((s.data.toList.drop 1).all Yz=false→numR s.data.toList=(0,false)):=by
  intro h;rw [numR,numB,hm,h];simp
 have HYES:Hid ((s.data.toList.drop 1).all Yz=true→numR s.data.toList=(numN s.data.toList,Lib.itoa (numN s.data.toList) == s.data.toList)):=by
  intro h;rw [numR,numB,hm,h,hlen];simp;omega
 have HV:Hid (numN s.data.toList=-(digV (s.data.toList.drop 1):Int)):=by
  rw [Hid,numN,hm];rfl
 have hne:((s.size:Int) == 1)=false:=by rw [beq_eq_false_iff_ne];omega
 have hgt:¬ (1+10:Int)<s.size:=by omega
 have hgt2:¬ (11:Int)<s.size:=by omega
 generalize numR s.data.toList=z at *;clear hm;go_enter Tryz.func95,Tryz.ntmps95;go_wp2
 go_loop [5,6] (fun nv iv=>∃ (n k:Nat),nv=.int .i64 n∧iv=.int .i64 k∧1≤k∧k≤s.size∧n≤9999999999∧Hid (((s.data.toList.drop 1).take (k - 1)).all Yz=true∧n=digV ((s.data.toList.drop 1).take (k - 1)))) (fun _ iv=>s.size - (intOf iv).toNat)
 case atStart=>exact ⟨0,1,rfl,rfl,Nat.le_refl _,by omega,by omega,by simp [Hid,digV]⟩
 case round =>
  obtain ⟨n,k,rfl,rfl,hk1,hk,hn,hD⟩:=hrel;by_cases hlt:k<s.size
  ·cases hd:Yz s[k] with
   | false =>
     have HZ:Hid (z=(0,false)):=HNO.out (Zpd s 1 k hk1 hlt hd);have hd2:¬ (48≤(s[k]).toNat∧(s[k]).toNat≤57):=fun h=>by rw [Yz] at hd;simp [h.1,h.2] at hd
     clear HNO HYES HV hD hd;by_cases hlo:(s[k]).toNat<48
     ·have hlo2:((s[k]).toNat:Int)<48:=by omega
      clear hd2;go_wp2;refine bodyPost_ret (v:=.tuple #[.int .i64 0,.bool false]) (by simp [results,Tryz.results95,go_sem, *]) rfl ⟨by rw [HZ.out],Below.refl _ _⟩
     ·have hhi:57<(s[k]).toNat:=by omega
      have hlo2:¬ ((s[k]).toNat:Int)<48:=by omega
      have hhi2:(57:Int)<((s[k]).toNat:Int):=by omega
      clear hd2;go_wp2;refine bodyPost_ret (v:=.tuple #[.int .i64 0,.bool false]) (by simp [results,Tryz.results95,go_sem, *]) rfl ⟨by rw [HZ.out],Below.refl _ _⟩
   | true =>
     have hd2:48≤(s[k]).toNat∧(s[k]).toNat≤57:=by rw [Yz] at hd;simpa using hd
     have hts:=Zcz s 1 k hk1 hlt;have hall:((s.data.toList.drop 1).take (k+1 - 1)).all Yz=true:=by rw [hts,List.all_append,hD.out.1];simp [hd]
     have hval:n * 10+((s[k]).toNat - 48)=digV ((s.data.toList.drop 1).take (k+1 - 1)):=by rw [hts,Zdu,← hD.out.2]
     have HLE:Hid (n * 10+((s[k]).toNat - 48)≤9999999999):=by
      rw [Hid,hval];exact Zow _ hall (by rw [List.length_take];omega)
     have HN:Hid (((s.data.toList.drop 1).take (k+1 - 1)).all Yz=true∧n * 10+((s[k]).toNat - 48)=digV ((s.data.toList.drop 1).take (k+1 - 1))):=⟨hall,hval⟩;obtain ⟨dg,hdg⟩:∃ dg:Nat,(s[k]).toNat=48+dg:=⟨(s[k]).toNat - 48,by omega⟩;have hlo2:¬ ((s[k]).toNat:Int)<48:=by omega
     have hhi2:¬ (57:Int)<((s[k]).toNat:Int):=by omega
     have hdb:dg≤9:=by omega
     have hsub:((s[k]).toNat:Int) - 48=dg:=by omega
     clear hval hall hts HNO HYES HV hD hd hd2;go_wp2
     go_round
     case rel=>exact ⟨n * 10+((s[k]).toNat - 48),k+1,by go_num,by go_num,by omega,by omega,HLE.out,HN⟩
     case measure=>simp [intOf];omega
  ·have hk':k=s.size:=by omega
   have hall:(s.data.toList.drop 1).all Yz=true:=by
    have:=hD.out.1;rw [List.take_of_length_le (by rw [List.length_drop,hlen];omega)] at this;exact this
   have hval:n=digV (s.data.toList.drop 1):=by
    have:=hD.out.2;rw [List.take_of_length_le (by rw [List.length_drop,hlen];omega)] at this;exact this
   have hz:=HYES.out hall;have hnn:numN s.data.toList=(-(n:Int)):=by rw [HV.out,hval]
   rw [hnn] at hz;have HD:Hid (∀ w,_):=Zce (-(n:Int)) (by omega) (by omega);obtain ⟨X,hX⟩:∃ X:ByteArray,X=⟨(Lib.itoa (-(n:Int))).toArray⟩:=⟨_,rfl⟩;have hbe:(X.toList == s.toList)=(Lib.itoa (-(n:Int)) == s.data.toList):=by rw [Zik,hX]
   rw [← hbe] at hz;rw [← hX] at HD;have HZ:Hid _:=hz;subst hk';clear hbe hX hnn hval hall hz HNO HYES HV hD;generalize hq:(X.toList == s.toList)=qq at *;go_wp2_with (go_at_call 40;refine (HD.out _).mono ?_;rintro e w1 ⟨rfl,hb1⟩)
   refine bodyPost_ret (v:=.tuple #[.int .i64 (-(n:Int)),.bool qq]) (by simp [results,Tryz.results95,go_sem, *]) rfl ⟨by rw [HZ.out],hb1⟩
theorem Zme (s:ByteArray) (h0:0<s.size) (hm:minB s.data.toList=0) (q45:(((s[0]).toNat:Int) == 45)=false) (h2:s.size≤0+10) (w:World):Calls Tryz.prog 95 #[.string s] w fun e w'=>e=.returned (.tuple #[.int .i64 (numR s.data.toList).1,.bool (numR s.data.toList).2])∧Bw w w':=by
 have hlen:s.data.toList.length=s.size:=by simp
 have HNO:Hid ((s.data.toList.drop 0).all Yz=false→numR s.data.toList=(0,false)):=by
  intro h;rw [numR,numB,hm,h];simp
 have HYES:Hid ((s.data.toList.drop 0).all Yz=true→numR s.data.toList=(numN s.data.toList,Lib.itoa (numN s.data.toList) == s.data.toList)):=by
  intro h;rw [numR,numB,hm,h,hlen];simp;omega
 have HV:Hid (numN s.data.toList=(digV (s.data.toList.drop 0):Int)):=by
  rw [Hid,numN,hm];rfl
 have hne:((s.size:Int) == 0)=false:=by rw [beq_eq_false_iff_ne];omega
 have hgt:¬ (0+10:Int)<s.size:=by omega
 have hgt2:¬ (10:Int)<s.size:=by omega
 generalize numR s.data.toList=z at *;clear hm;go_enter Tryz.func95,Tryz.ntmps95;go_wp2
 go_loop [5,6] (fun nv iv=>∃ (n k:Nat),nv=.int .i64 n∧iv=.int .i64 k∧0≤k∧k≤s.size∧n≤9999999999∧Hid (((s.data.toList.drop 0).take (k - 0)).all Yz=true∧n=digV ((s.data.toList.drop 0).take (k - 0)))) (fun _ iv=>s.size - (intOf iv).toNat)
 case atStart=>exact ⟨0,0,rfl,rfl,Nat.le_refl _,by omega,by omega,by simp [Hid,digV]⟩
 case round =>
  obtain ⟨n,k,rfl,rfl,hk1,hk,hn,hD⟩:=hrel;by_cases hlt:k<s.size
  ·cases hd:Yz s[k] with
   | false =>
     have HZ:Hid (z=(0,false)):=HNO.out (Zpd s 0 k hk1 hlt hd);have hd2:¬ (48≤(s[k]).toNat∧(s[k]).toNat≤57):=fun h=>by rw [Yz] at hd;simp [h.1,h.2] at hd
     clear HNO HYES HV hD hd;by_cases hlo:(s[k]).toNat<48
     ·have hlo2:((s[k]).toNat:Int)<48:=by omega
      clear hd2;go_wp2;refine bodyPost_ret (v:=.tuple #[.int .i64 0,.bool false]) (by simp [results,Tryz.results95,go_sem, *]) rfl ⟨by rw [HZ.out],Below.refl _ _⟩
     ·have hhi:57<(s[k]).toNat:=by omega
      have hlo2:¬ ((s[k]).toNat:Int)<48:=by omega
      have hhi2:(57:Int)<((s[k]).toNat:Int):=by omega
      clear hd2;go_wp2;refine bodyPost_ret (v:=.tuple #[.int .i64 0,.bool false]) (by simp [results,Tryz.results95,go_sem, *]) rfl ⟨by rw [HZ.out],Below.refl _ _⟩
   | true =>
     have hd2:48≤(s[k]).toNat∧(s[k]).toNat≤57:=by rw [Yz] at hd;simpa using hd
     have hts:=Zcz s 0 k hk1 hlt;have hall:((s.data.toList.drop 0).take (k+1 - 0)).all Yz=true:=by rw [hts,List.all_append,hD.out.1];simp [hd]
     have hval:n * 10+((s[k]).toNat - 48)=digV ((s.data.toList.drop 0).take (k+1 - 0)):=by rw [hts,Zdu,← hD.out.2]
     have HLE:Hid (n * 10+((s[k]).toNat - 48)≤9999999999):=by
      rw [Hid,hval];exact Zow _ hall (by rw [List.length_take];omega)
     have HN:Hid (((s.data.toList.drop 0).take (k+1 - 0)).all Yz=true∧n * 10+((s[k]).toNat - 48)=digV ((s.data.toList.drop 0).take (k+1 - 0))):=⟨hall,hval⟩;obtain ⟨dg,hdg⟩:∃ dg:Nat,(s[k]).toNat=48+dg:=⟨(s[k]).toNat - 48,by omega⟩;have hlo2:¬ ((s[k]).toNat:Int)<48:=by omega
     have hhi2:¬ (57:Int)<((s[k]).toNat:Int):=by omega
     have hdb:dg≤9:=by omega
     have hsub:((s[k]).toNat:Int) - 48=dg:=by omega
     clear hval hall hts HNO HYES HV hD hd hd2;go_wp2
     go_round
     case rel=>exact ⟨n * 10+((s[k]).toNat - 48),k+1,by go_num,by go_num,by omega,by omega,HLE.out,HN⟩
     case measure=>simp [intOf];omega
  ·have hk':k=s.size:=by omega
   have hall:(s.data.toList.drop 0).all Yz=true:=by
    have:=hD.out.1;rw [List.take_of_length_le (by rw [List.length_drop,hlen];omega)] at this;exact this
   have hval:n=digV (s.data.toList.drop 0):=by
    have:=hD.out.2;rw [List.take_of_length_le (by rw [List.length_drop,hlen];omega)] at this;exact this
   have hz:=HYES.out hall;have hnn:numN s.data.toList=(n:Int):=by rw [HV.out,hval]
   rw [hnn] at hz;have HD:Hid (∀ w,_):=Zce (n:Int) (by omega) (by omega);obtain ⟨X,hX⟩:∃ X:ByteArray,X=⟨(Lib.itoa (n:Int)).toArray⟩:=⟨_,rfl⟩;have hbe:(X.toList == s.toList)=(Lib.itoa (n:Int) == s.data.toList):=by rw [Zik,hX]
   rw [← hbe] at hz;rw [← hX] at HD;have HZ:Hid _:=hz;subst hk';clear hbe hX hnn hval hall hz HNO HYES HV hD;generalize hq:(X.toList == s.toList)=qq at *;go_wp2_with (go_at_call 40;refine (HD.out _).mono ?_;rintro e w1 ⟨rfl,hb1⟩)
   refine bodyPost_ret (v:=.tuple #[.int .i64 (n:Int),.bool qq]) (by simp [results,Tryz.results95,go_sem, *]) rfl ⟨by rw [HZ.out],hb1⟩
theorem J3 (s:ByteArray) (h:numR s.data.toList=(0,false)) (hq:s.size=0∨(∃ h0:0<s.size,(((s[0]).toNat:Int) == 45)=true∧(s.size=1∨11<s.size))∨(∃ h0:0<s.size,(((s[0]).toNat:Int) == 45)=false∧10<s.size)) (w:World):Calls Tryz.prog 95 #[.string s] w fun e w'=>e=.returned (.tuple #[.int .i64 (numR s.data.toList).1,.bool (numR s.data.toList).2])∧Bw w w':=by
 rw [h];clear h;rcases hq with hq|⟨h0,q45,hq|hq⟩|⟨h0,q45,hq⟩
 ·go_enter Tryz.func95,Tryz.ntmps95;go_wp2;exact bodyPost_ret (v:=.tuple #[.int .i64 0,.bool false]) (by simp [results,Tryz.results95,go_sem, *]) rfl ⟨rfl,Below.refl _ _⟩
 ·have hne:((s.size:Int) == 1)=true:=by rw [beq_iff_eq];omega
  go_enter Tryz.func95,Tryz.ntmps95;go_wp2;exact bodyPost_ret (v:=.tuple #[.int .i64 0,.bool false]) (by simp [results,Tryz.results95,go_sem, *]) rfl ⟨rfl,Below.refl _ _⟩
 ·have hne:((s.size:Int) == 1)=false:=by rw [beq_eq_false_iff_ne];omega
  have hgt:(11:Int)<s.size:=by omega
  go_enter Tryz.func95,Tryz.ntmps95;go_wp2;exact bodyPost_ret (v:=.tuple #[.int .i64 0,.bool false]) (by simp [results,Tryz.results95,go_sem, *]) rfl ⟨rfl,Below.refl _ _⟩
 ·have hne:((s.size:Int) == 0)=false:=by rw [beq_eq_false_iff_ne];omega
  have hgt:(10:Int)<s.size:=by omega
  go_enter Tryz.func95,Tryz.ntmps95;go_wp2;exact bodyPost_ret (v:=.tuple #[.int .i64 0,.bool false]) (by simp [results,Tryz.results95,go_sem, *]) rfl ⟨rfl,Below.refl _ _⟩
theorem Z9 (s:ByteArray) (w:World):Calls Tryz.prog 95 #[.string s] w fun e w'=>e=.returned (.tuple #[.int .i64 (numR s.data.toList).1,.bool (numR s.data.toList).2])∧Bw w w':=by
 have hlen:s.data.toList.length=s.size:=by simp
 by_cases h0:s.size=0
 ·refine J3 s ?_ (.inl h0) w;rw [numR,numB,hlen,h0];simp
 ·have hp:0<s.size:=by omega
  have hh:=Zgd s hp;by_cases h45:s[0]=45
  ·have hm:minB s.data.toList=1:=by rw [minB,hh,h45];rfl
   have q45:(((s[0]).toNat:Int) == 45)=true:=by rw [h45];rfl
   by_cases hs:s.size=1∨11<s.size
   ·refine J3 s ?_ (.inr (.inl ⟨hp,q45,hs⟩)) w;rw [numR,numB,hlen,hm];rcases hs with hs|hs
    ·simp [hs]
    ·have:decide (s.size≤1+10)=false:=by simp;omega
     simp [this]
   ·exact Zmf s hp hm q45 (by omega) (by omega) w
  ·have hm:minB s.data.toList=0:=by rw [minB,hh,if_neg (by simpa using h45)]
   have q45:(((s[0]).toNat:Int) == 45)=false:=by have:=Xd s 0 hp 45;simp only [h45,decide_false] at this;exact this
   by_cases hs:10<s.size
   ·refine J3 s ?_ (.inr (.inr ⟨hp,q45,hs⟩)) w;rw [numR,numB,hlen,hm];have:decide (s.size≤0+10)=false:=by simp;omega
    simp [this]
   ·exact Zme s hp hm q45 (by omega) w
def Znf (a b:Mth):Bool:=(a.nm.toList == b.nm.toList)&&(a.ds.toList == b.ds.toList)&&(a.fl == b.fl)&&(a.lo == b.lo)&&(a.st == b.st)&&Jf a.code b.code
theorem Zdb (a b:Mth) (va vb:Value) (w:World) (ha:IsInss w va a.code) (hb:IsInss w vb b.code) :
 Calls Tryz.prog 51 #[.agg #[.string a.nm,.string a.ds,.int .i64 a.fl,.int .i64 a.lo,.int .i64 a.st,va],.agg #[.string b.nm,.string b.ds,.int .i64 b.fl,.int .i64 b.lo,.int .i64 b.st,vb]] w fun e w'=>e=.returned (.bool (Znf a b))∧Bw w w':=by
 have HS:Hid (∀ w',IsInss w' va a.code→IsInss w' vb b.code→_):=fun w' h1 h2=>Zf1 va vb a.code b.code w' h1 h2;have HR:Hid (Znf a b=((a.nm.toList == b.nm.toList)&&(a.ds.toList == b.ds.toList)&&(a.fl == b.fl)&&(a.lo == b.lo)&&(a.st == b.st)&&Jf a.code b.code)):=rfl;have HA:Hid (IsInss w va a.code):=ha;have HB:Hid (IsInss w vb b.code):=hb;obtain ⟨aa,ca,rfl,_,_,_⟩:=ha;obtain ⟨ab,cb,rfl,_,_,_⟩:=hb;generalize Znf a b=z at *;generalize Jf a.code b.code=q6 at *;obtain ⟨an,ad,af,al,at1,ac⟩:=a;obtain ⟨bn,bd,bf,bl,bs,bc⟩:=b;simp only at HS HR HA HB ⊢;generalize h1:(an.toList == bn.toList)=q1 at *;generalize h2:(ad.toList == bd.toList)=q2 at *;generalize h3:(af == bf)=q3 at *;generalize h4:(al == bl)=q4 at *;generalize h5:(at1 == bs)=q5 at *;by_cases hall:(q1&&q2&&q3&&q4&&q5)=true
 ·simp only [Bool.and_eq_true] at hall;obtain ⟨⟨⟨⟨rfl,rfl⟩,rfl⟩,rfl⟩,rfl⟩:=hall;go_enter Tryz.func51,Tryz.ntmps51;go_wp2_with (go_at_call 98;refine (HS.out _ (HA.out.keep (((Below.refl _ _).alloc (Nat.le_refl _) _).alloc (by simp) _)) (HB.out.keep (((Below.refl _ _).alloc (Nat.le_refl _) _).alloc (by simp) _))).mono ?_;rintro e w1 ⟨rfl,hb1⟩)
  go_ret
  exact ⟨Zb (by rw [HR.out];simp),Below.step (((Below.refl _ _).alloc (Nat.le_refl _) _).alloc (by simp) _) hb1⟩
 ·have hz:Hid (z=false):=by rw [Hid,HR.out];cases q1 <;> cases q2 <;> cases q3 <;> cases q4 <;> cases q5 <;> simp_all
  clear HR HS HA HB
  cases q1
  all_goals (try cases q2)
  all_goals (try cases q3)
  all_goals (try cases q4)
  all_goals (try cases q5)
  all_goals first
   | exact absurd rfl hall
   | (clear hall;go_enter Tryz.func51,Tryz.ntmps51;go_wp2;go_ret;exact ⟨Zb hz.out.symm,((Below.refl _ _).alloc (Nat.le_refl _) _).alloc (by simp) _⟩)
def num9 (l:List UInt8):Bool:=(numR l).2&&decide (0≤(numR l).1)&&decide ((l.length:Int)≤9)
theorem Zde (s:ByteArray) (w:World):Calls Tryz.prog 48 #[.string s] w fun e w'=>e=.returned (.tuple #[.int .i64 (numR s.data.toList).1,.bool (num9 s.data.toList)])∧Bw w w':=by
 have HN:Hid (∀ w,_):=Z9 s;have hlen:(s.data.toList.length:Int)=s.size:=by simp
 have HR:Hid (num9 s.data.toList=((numR s.data.toList).2&&decide (0≤(numR s.data.toList).1)&&decide ((s.size:Int)≤9))):=by rw [Hid,num9,hlen]
 clear hlen;generalize num9 s.data.toList=z at *;generalize (numR s.data.toList).1=n at *;generalize (numR s.data.toList).2=ok at *
 cases ok with
 | false =>
   go_enter Tryz.func48,Tryz.ntmps48;go_wp2_with (go_at_call 95;refine (HN.out _).mono ?_;rintro e w1 ⟨rfl,hb1⟩)
   go_ret2
   exact ⟨by rw [HR.out];rfl,hb1⟩
 | true =>
   by_cases h0:0≤n
   ·by_cases h9:(s.size:Int)≤9
    ·go_enter Tryz.func48,Tryz.ntmps48;go_wp2_with (go_at_call 95;refine (HN.out _).mono ?_;rintro e w1 ⟨rfl,hb1⟩)
     go_ret2
     exact ⟨by rw [HR.out];simp [h0,h9],hb1⟩
    ·go_enter Tryz.func48,Tryz.ntmps48;go_wp2_with (go_at_call 95;refine (HN.out _).mono ?_;rintro e w1 ⟨rfl,hb1⟩)
     go_ret2
     exact ⟨by rw [HR.out];simp [h0],hb1⟩
   ·go_enter Tryz.func48,Tryz.ntmps48;go_wp2_with (go_at_call 95;refine (HN.out _).mono ?_;rintro e w1 ⟨rfl,hb1⟩)
    go_ret2
    exact ⟨by rw [HR.out];simp;omega,hb1⟩
def nmdB (ls:List (List UInt8)) (wd:List UInt8):Bool:=(ls.length == 2)&&(ls.getD 0 [] == wd)&&!(ls.getD 1 [] == [])
def nmdS (ls:List (List UInt8)) (wd:List UInt8):List UInt8:=if nmdB ls wd then ls.getD 1 [] else []
theorem Qc (v:Value) (ls:List (List UInt8)) (wd:ByteArray) (w:World) (h:IsStrs w v ls):Calls Tryz.prog 46 #[v,.string wd] w fun e w'=>e=.returned (.tuple #[.string ⟨(nmdS ls wd.data.toList).toArray⟩,.bool (nmdB ls wd.data.toList)])∧w'=w:=by
 obtain ⟨ao,cap,rfl,h1,h2,h3⟩:=h;unfold maxLen at h2;by_cases hl:ls.length=2
 ·match ls,hl with
  | [a,b],_ =>
    obtain ⟨bk,o,rfl,hbk,hc⟩:=h3 (by simp);have f0:=hc 0 a rfl;have f1:=hc 1 b rfl;simp only [Nat.add_zero] at f0;have e0:((⟨a.toArray⟩:ByteArray).toList == wd.toList)=(a == wd.data.toList):=by rw [Lib.toList_data,Lib.toList_data]
    have e1:(⟨b.toArray⟩:ByteArray).toList.isEmpty=(b == []):=by rw [Lib.toList_data];cases b <;> rfl
    have HB:Hid (nmdB [a,b] wd.data.toList=((a == wd.data.toList)&&!(b == []))):=by rw [Hid,nmdB];simp
    have HS:Hid (nmdS [a,b] wd.data.toList=if ((a == wd.data.toList)&&!(b == [])) then b else []):=by rw [Hid,nmdS,HB.out];simp
    generalize nmdB [a,b] wd.data.toList=zb at *;generalize nmdS [a,b] wd.data.toList=zs at *;have hn:((2:Nat):Int)=2:=rfl;simp only [List.length_cons,List.length_nil,Nat.zero_add,Nat.reduceAdd] at h1 ⊢;generalize q0:(a == wd.data.toList)=c0 at *;generalize q1:(b == [])=c1 at *;obtain ⟨A,hA⟩:∃ A:ByteArray,A=⟨a.toArray⟩:=⟨_,rfl⟩;obtain ⟨B,hB⟩:∃ B:ByteArray,B=⟨b.toArray⟩:=⟨_,rfl⟩;rw [← hA] at f0 e0;rw [← hB] at f1 e1;have HBB:Hid (B=⟨b.toArray⟩):=hB;clear hA hB hc h3 q0 q1
    cases c0 with
    | false =>
      go_enter Tryz.func46,Tryz.ntmps46;go_wp2
      go_ret2
      exact ⟨by rw [HB.out,HS.out];rfl,rfl⟩
    | true =>
      cases c1 with
      | true =>
        go_enter Tryz.func46,Tryz.ntmps46;go_wp2
        go_ret2
        exact ⟨by rw [HB.out,HS.out];rfl,rfl⟩
      | false =>
        go_enter Tryz.func46,Tryz.ntmps46;go_wp2
        go_ret2
        exact ⟨by rw [HB.out,HS.out,HBB.out];rfl,rfl⟩
 ·have HB:Hid (nmdB ls wd.data.toList=false):=by rw [Hid,nmdB,show (ls.length == 2)=false by rw [beq_eq_false_iff_ne];exact hl];rfl
  have HS:Hid (nmdS ls wd.data.toList=[]):=by rw [Hid,nmdS,HB.out];rfl
  generalize nmdB ls wd.data.toList=zb at *;generalize nmdS ls wd.data.toList=zs at *;have hne:((ls.length:Int) != 2)=true:=by rw [bne_iff_ne];omega
  clear h3;go_enter Tryz.func46,Tryz.ntmps46;go_wp2
  go_ret2
  exact ⟨by rw [HB.out,HS.out];rfl,rfl⟩
theorem Zeg (n a b:Int) (w:World):Calls Tryz.prog 24 #[.int .i64 n,.int .i64 a,.int .i64 b] w fun e w'=>e=.returned (.bool (decide (a≤n)&&decide (n≤b)))∧w'=w:=by
 go_enter Tryz.func24,Tryz.ntmps24;by_cases h1:a≤n
 ·by_cases h2:n≤b
  ·go_wp2;go_ret
   exact ⟨Zb (by simp [h1,h2]),rfl⟩
  ·go_wp2;go_ret
   exact ⟨Zb (by simp;omega),rfl⟩
 ·go_wp2;go_ret
  exact ⟨Zb (by simp;omega),rfl⟩
theorem isM_any (xn xd nm ds:ByteArray) (xf xl xs:Int) (vc:Value) (b1 b2:Nat) (w:World) (g1:w.cell? ⟨b1,0,none⟩=some (.string nm)) (g2:w.cell? ⟨b2,0,none⟩=some (.string ds)) (l1:b1<w.heap.size) (l2:b2<w.heap.size) :
 Calls Tryz.prog 31 #[.agg #[.string xn,.string xd,.int .i64 xf,.int .i64 xl,.int .i64 xs,vc],.pointer (some ⟨b1,0,none⟩),.pointer (some ⟨b2,0,none⟩)] w fun e w'=>e=.returned (.bool ((xn.toList == nm.toList)&&(xd.toList == ds.toList)))∧Bw w w':=by
 generalize hz:((xn.toList == nm.toList)&&(xd.toList == ds.toList))=z;have HZ:Hid _:=hz;clear hz
 cases q1:(xn.toList == nm.toList) with
 | false =>
   go_enter Tryz.func31,Tryz.ntmps31;go_wp2;go_ret
   exact ⟨Zb (by rw [← HZ.out,q1];rfl),(Below.refl _ _).alloc (Nat.le_refl _) _⟩
 | true =>
   cases q2:(xd.toList == ds.toList) with
   | false =>
     go_enter Tryz.func31,Tryz.ntmps31;go_wp2;go_ret
     exact ⟨Zb (by rw [← HZ.out,q1,q2];rfl),(Below.refl _ _).alloc (Nat.le_refl _) _⟩
   | true =>
     go_enter Tryz.func31,Tryz.ntmps31;go_wp2;go_ret
     exact ⟨Zb (by rw [← HZ.out,q1,q2];rfl),(Below.refl _ _).alloc (Nat.le_refl _) _⟩
theorem idxM_any (nm ds:ByteArray) (vm:Value) (ms:List Mth) (W:World) (b1 b2:Nat) (h:IsMths W vm ms) (g1:W.cell? ⟨b1,0,none⟩=some (.string nm)) (g2:W.cell? ⟨b2,0,none⟩=some (.string ds)) (l1:b1<W.heap.size) (l2:b2<W.heap.size) :
 Calls Tryz.prog 30 #[vm,.func (.func 31) #[] #[.pointer (some ⟨b1,0,none⟩),.pointer (some ⟨b2,0,none⟩)]] W fun e w'=>e=.returned (.int .i64 (Xz nm ds ms 0))∧Bw W w':=by
 obtain ⟨ao,cap,rfl,h1,h2,h3⟩:=h;obtain ⟨N,hN⟩:∃ N,ms.length=N:=⟨_,rfl⟩;unfold maxLen at h2;rw [hN] at h1 ⊢;have HN1:Hid (ms.length=N):=hN;have HA:Hid _:=h3;have G1:Hid _:=g1;have G2:Hid _:=g2;clear hN h3 g1 g2;go_enter Tryz.func30,Tryz.ntmps30;go_wp2;go_loopw [8] (fun iv wr=>∃ i:Nat,iv=.int .i64 i∧i≤N∧Hid (Bw W wr)∧Hid (Xz nm ds (ms.drop i) i=Xz nm ds ms 0)) (fun iv _=>N - (intOf iv).toNat)
 case atStart=>exact ⟨0,rfl,Nat.zero_le _,Below.refl _ _,rfl⟩
 case round =>
  obtain ⟨i,rfl,hi,hb,hs⟩:=hrel;by_cases hlt:i<N
  ·obtain ⟨bk,o,hao,hbk,hc⟩:=HA.out (by intro e;have:=HN1.out;rw [e] at this;simp at this;omega);obtain ⟨x,hx⟩:∃ x,ms[i]?=some x:=⟨_,List.getElem?_eq_getElem (by rw [HN1.out];exact hlt)⟩;subst hao;have hst:=Zlc (nm:=nm) (ds:=ds) i x hx;rw [hs.out] at hst;have hcx:=(hc i x hx).keep hb.out hbk;obtain ⟨xn,xd,xf,xl,xs,xc⟩:=x;obtain ⟨p0,p1,p2,p3,p4,vc,p5,hI⟩:=hcx;obtain ⟨va,vcap,rfl,_,_,_⟩:=hI;simp only at p0 p1 p2 p3 p4 p5 hst;have k1:=(hb.out.cell l1).trans G1.out;have k2:=(hb.out.cell l2).trans G2.out;have HC:Hid (Calls Tryz.prog 31 #[.agg #[.string xn,.string xd,.int .i64 xf,.int .i64 xl,.int .i64 xs,.slice va xc.length vcap],.pointer (some ⟨b1,0,none⟩),.pointer (some ⟨b2,0,none⟩)] wr fun e w'=>e=.returned (.bool ((xn.toList == nm.toList)&&(xd.toList == ds.toList)))∧Bw wr w'):=isM_any xn xd nm ds xf xl xs (.slice va xc.length vcap) b1 b2 wr k1 k2 (Nat.lt_of_lt_of_le l1 hb.out.size) (Nat.lt_of_lt_of_le l2 hb.out.size);generalize ((xn.toList == nm.toList)&&(xd.toList == ds.toList))=q at *;clear hc hs HA hx k1 k2
   cases q with
   | true =>
     have HZ:Hid (Xz nm ds ms 0=(i:Int)):=by rw [Hid,hst];rfl
     clear hst;go_wp2_with (go_at_call 31;refine (HC.out).mono ?_;rintro e w1 ⟨rfl,hb1⟩)
     go_ret
     exact ⟨Zg HZ.out.symm,Below.step hb.out hb1⟩
   | false =>
     have HZ:Hid (Xz nm ds (ms.drop (i+1)) (i+1)=Xz nm ds ms 0):=by rw [Hid,hst];rfl
     clear hst;go_wp2_with (go_at_call 31;refine (HC.out).mono ?_;rintro e w1 ⟨rfl,hb1⟩;have hb2:Hid (Bw W w1):=Below.step hb.out hb1;clear hb1)
     go_roundw
     case rel=>exact ⟨i+1,by go_num,by omega,hb2,HZ⟩
     case measure=>simp [intOf];omega
  ·have e:i=N:=by omega
   subst e;have HZ:Hid (Xz nm ds ms 0=-1):=by rw [Hid,← hs.out,List.drop_of_length_le (by rw [HN1.out];exact Nat.le_refl _)];rfl
   clear hs HA;go_wp2;go_ret
   exact ⟨Zg HZ.out.symm,hb.out⟩
theorem find_any (cn cs:ByteArray) (vi:Value) (cf cl:Int) (vm:Value) (ms:List Mth) (nm ds:ByteArray) (W:World) (h:IsMths W vm ms) :
 Calls Tryz.prog 10 #[.agg #[.string cn,.string cs,vi,.int .i64 cf,.int .i64 cl,vm],.string nm,.string ds] W fun e w'=>e=.returned (.int .i64 (Xz nm ds ms 0))∧Bw W w':=by
 have H:Hid (IsMths W vm ms):=h;have hB:Hid (∀ o1 o2 o3,Bw W (((W.alloc o1).alloc o2).alloc o3)):=fun o1 o2 o3=>(((Below.refl _ _).alloc (Nat.le_refl _) _).alloc (by simp) _).alloc (by simp;omega) _;obtain ⟨ao,cap,rfl,_,_,_⟩:=h;go_enter Tryz.func10,Tryz.ntmps10;go_wp2_with (go_at_call 30;(refine (idxM_any nm ds _ ms _ (W.heap.size+1) (W.heap.size+1+1) ?_ ?_ ?_ ?_ ?_).mono ?_;exact H.out.keep (hB.out _ _ _);simp [go_sem];simp [go_sem];simp [go_sem];simp [go_sem];rintro e w1 ⟨rfl,hb1⟩))
 go_ret
 exact ⟨rfl,Below.step (hB.out _ _ _) hb1⟩
def opB (op:Int):Bool:=decide (0<op)&&decide (op<41)
theorem Zcu (op:Int) (r:Bool) (hr:opB op=r) (w:World):Calls Tryz.prog 150 #[.int .i64 op] w fun e w'=>e=.returned (.bool r)∧w'=w:=by
 have HR:Hid (r=(decide (0<op)&&decide (op<41))):=hr.symm;clear hr;go_enter Tryz.func150,Tryz.ntmps150;go_wp2
 all_goals
  go_ret
  exact ⟨Zb (by rw [HR.out];first|(simp [*];done)|(simp [*];omega)),rfl⟩
theorem Zc (op:Int) (w:World):Calls Tryz.prog 115 #[.int .i64 op] w fun e w'=>e=.returned (.int .i64 (opdI op))∧w'=w:=by
 by_cases h:op<1∨40<op
 ·have HO:Hid (opdI op=-1):=by rw [Hid,opdI,if_pos h]
  have HB:Hid (∀ w,_):=Zcu op false (by unfold opB;rw [Bool.and_eq_false_iff];rcases h with h|h;exact .inl (decide_eq_false (by omega));exact .inr (decide_eq_false (by omega)));have hk:∀ k:Int,1≤k→k≤40→(op == k)=false:=fun k h1 h2=>by rw [beq_eq_false_iff_ne];omega
  have e1:=hk 1 (by omega) (by omega);have e2:=hk 2 (by omega) (by omega);have e3:=hk 3 (by omega) (by omega);have e4:=hk 4 (by omega) (by omega);have e5:=hk 5 (by omega) (by omega);have e11:=hk 11 (by omega) (by omega);have e12:=hk 12 (by omega) (by omega);have e13:=hk 13 (by omega) (by omega);have e14:=hk 14 (by omega) (by omega);have e15:=hk 15 (by omega) (by omega);have e16:=hk 16 (by omega) (by omega);have e17:=hk 17 (by omega) (by omega);have e18:=hk 18 (by omega) (by omega);have e22:=hk 22 (by omega) (by omega);have e30:=hk 30 (by omega) (by omega);have e31:=hk 31 (by omega) (by omega);have e23:=hk 23 (by omega) (by omega);have e24:=hk 24 (by omega) (by omega);have e32:=hk 32 (by omega) (by omega);have e33:=hk 33 (by omega) (by omega);have e34:=hk 34 (by omega) (by omega);have e35:=hk 35 (by omega) (by omega);clear hk h;go_enter Tryz.func115,Tryz.ntmps115;go_wp2_with (go_at_call 150;refine ((HB.out) _).mono ?_;rintro e w1 ⟨rfl,hw1⟩;rw [hw1])
  go_ret
  exact ⟨Zg HO.out.symm,rfl⟩
 ·obtain ⟨k,rfl⟩:∃ k:Nat,op=k:=⟨op.toNat,by omega⟩;have hk:k=1∨k=2∨k=3∨k=4∨k=5∨k=6∨k=7∨k=8∨k=9∨k=10∨k=11∨k=12∨k=13∨k=14∨k=15∨k=16∨k=17∨k=18∨k=19∨k=20∨k=21∨k=22∨k=23∨k=24∨k=25∨k=26∨k=27∨k=28∨k=29∨k=30∨k=31∨k=32∨k=33∨k=34∨k=35∨k=36∨k=37∨k=38∨k=39∨k=40:=by omega
  clear h;rcases hk with rfl|rfl|rfl|rfl|rfl|rfl|rfl|rfl|rfl|rfl|rfl|rfl|rfl|rfl|rfl|rfl|rfl|rfl|rfl|rfl|rfl|rfl|rfl|rfl|rfl|rfl|rfl|rfl|rfl|rfl|rfl|rfl|rfl|rfl|rfl|rfl|rfl|rfl|rfl|rfl
  all_goals
   go_enter Tryz.func115,Tryz.ntmps115;go_wp2_with (go_at_call 150;refine (Zcu _ true (by decide) _).mono ?_;rintro e w1 ⟨rfl,hw1⟩;rw [hw1])
   go_ret
   exact ⟨rfl,rfl⟩
def inB (n l h:Int):Bool:=decide (l≤n)&&decide (n≤h)
theorem Qr (n l h:Int) (w:World):Calls Tryz.prog 171 #[.int .i64 n,.int .i64 l,.int .i64 h] w fun e w'=>e=.returned (.bool (inB n l h))∧w'=w:=by
 have HR:Hid (inB n l h=(decide (l≤n)&&decide (n≤h))):=rfl;generalize inB n l h=r at *;go_enter Tryz.func171,Tryz.ntmps171;go_wp2
 all_goals
  go_ret
  exact ⟨Zb (by rw [HR.out];first|(simp [*];done)|(simp [*];omega)),rfl⟩
def fmB (k n locals size:Int):Bool:=if k=2 then decide (n<locals) else if k=3 then decide (n<size) else true
def ownI (i:Ins):Ins :=
 if opdI i.op=1∨opdI i.op=2∨opdI i.op=3 then ⟨i.op,i.n,⟨#[]⟩,false,⟨#[]⟩,⟨#[]⟩,⟨#[]⟩⟩
 else if opdI i.op=4∨opdI i.op=5∨opdI i.op=6 then ⟨i.op,0,i.t,false,⟨#[]⟩,⟨#[]⟩,⟨#[]⟩⟩
 else if opdI i.op=7 then ⟨i.op,i.n,i.t,false,⟨#[]⟩,⟨#[]⟩,⟨#[]⟩⟩
 else if opdI i.op=8 then ⟨i.op,0,⟨#[]⟩,i.b,i.c,i.m,i.d⟩
 else ⟨i.op,0,⟨#[]⟩,false,⟨#[]⟩,⟨#[]⟩,⟨#[]⟩⟩
theorem Zf3 (op n:Int) (hk:opdI op=-1) (t:ByteArray) (b:Bool) (c m d:ByteArray) (w:World):Calls Tryz.prog 148 #[.agg #[.int .i64 op,.int .i64 n,.string t,.bool b,.string c,.string m,.string d]] w fun e w'=>e=.returned (insV (ownI ⟨op,n,t,b,c,m,d⟩))∧Bw w w':=by
 have HO:=Zc op;rw [hk] at HO;have HO:Hid (∀ w,_):=HO;have HR:insV (ownI ⟨op,n,t,b,c,m,d⟩)=.agg #[.int .i64 op,.int .i64 0,.string ⟨#[]⟩,.bool false,.string ⟨#[]⟩,.string ⟨#[]⟩,.string ⟨#[]⟩]:=by unfold ownI;simp only [hk];rfl
 rw [HR];clear hk HR;go_enter Tryz.func148,Tryz.ntmps148;go_wp2_with (go_at_call 115;refine ((HO.out) _).mono ?_;rintro e w0 ⟨rfl,hw0⟩;rw [hw0];clear hw0 HO)
 refine bodyPost_ret (v:=.agg #[.int .i64 op,.int .i64 0,.string ⟨#[]⟩,.bool false,.string ⟨#[]⟩,.string ⟨#[]⟩,.string ⟨#[]⟩]) (by simp [results,Tryz.results148,go_sem, *]) rfl ⟨rfl,?_⟩;exact ((Below.refl _ _).alloc (Nat.le_refl _) _).alloc (by simp) _
theorem Zdr (op n locals size:Int) (hk:opdI op=-1) (t:ByteArray) (b:Bool) (c m d:ByteArray) (w:World):Calls Tryz.prog 164 #[.agg #[.int .i64 op,.int .i64 n,.string t,.bool b,.string c,.string m,.string d],.int .i64 locals,.int .i64 size] w fun e w'=>e=.returned (.bool (fmB (opdI op) n locals size))∧Bw w w':=by
 have HO:=Zc op;rw [hk] at HO;have HO:Hid (∀ w,_):=HO;have HR:fmB (opdI op) n locals size=true:=by rw [hk];rfl
 rw [HR];clear hk HR;go_enter Tryz.func164,Tryz.ntmps164;go_wp2_with (go_at_call 115;refine ((HO.out) _).mono ?_;rintro e w0 ⟨rfl,hw0⟩;rw [hw0];clear hw0 HO)
 go_ret
 exact ⟨Zb rfl,(Below.refl _ _).alloc (Nat.le_refl _) _⟩
theorem Zmb (op n:Int) (hk:opdI op=0) (t:ByteArray) (b:Bool) (c m d:ByteArray) (w:World):Calls Tryz.prog 148 #[.agg #[.int .i64 op,.int .i64 n,.string t,.bool b,.string c,.string m,.string d]] w fun e w'=>e=.returned (insV (ownI ⟨op,n,t,b,c,m,d⟩))∧Bw w w':=by
 have HO:=Zc op;rw [hk] at HO;have HO:Hid (∀ w,_):=HO;have HR:insV (ownI ⟨op,n,t,b,c,m,d⟩)=.agg #[.int .i64 op,.int .i64 0,.string ⟨#[]⟩,.bool false,.string ⟨#[]⟩,.string ⟨#[]⟩,.string ⟨#[]⟩]:=by unfold ownI;simp only [hk];rfl
 rw [HR];clear hk HR;go_enter Tryz.func148,Tryz.ntmps148;go_wp2_with (go_at_call 115;refine ((HO.out) _).mono ?_;rintro e w0 ⟨rfl,hw0⟩;rw [hw0];clear hw0 HO)
 refine bodyPost_ret (v:=.agg #[.int .i64 op,.int .i64 0,.string ⟨#[]⟩,.bool false,.string ⟨#[]⟩,.string ⟨#[]⟩,.string ⟨#[]⟩]) (by simp [results,Tryz.results148,go_sem, *]) rfl ⟨rfl,?_⟩;exact ((Below.refl _ _).alloc (Nat.le_refl _) _).alloc (by simp) _
theorem Zhw (op n locals size:Int) (hk:opdI op=0) (t:ByteArray) (b:Bool) (c m d:ByteArray) (w:World):Calls Tryz.prog 164 #[.agg #[.int .i64 op,.int .i64 n,.string t,.bool b,.string c,.string m,.string d],.int .i64 locals,.int .i64 size] w fun e w'=>e=.returned (.bool (fmB (opdI op) n locals size))∧Bw w w':=by
 have HO:=Zc op;rw [hk] at HO;have HO:Hid (∀ w,_):=HO;have HR:fmB (opdI op) n locals size=true:=by rw [hk];rfl
 rw [HR];clear hk HR;go_enter Tryz.func164,Tryz.ntmps164;go_wp2_with (go_at_call 115;refine ((HO.out) _).mono ?_;rintro e w0 ⟨rfl,hw0⟩;rw [hw0];clear hw0 HO)
 go_ret
 exact ⟨Zb rfl,(Below.refl _ _).alloc (Nat.le_refl _) _⟩
theorem Zma (op n:Int) (hk:opdI op=1) (t:ByteArray) (b:Bool) (c m d:ByteArray) (w:World):Calls Tryz.prog 148 #[.agg #[.int .i64 op,.int .i64 n,.string t,.bool b,.string c,.string m,.string d]] w fun e w'=>e=.returned (insV (ownI ⟨op,n,t,b,c,m,d⟩))∧Bw w w':=by
 have HO:=Zc op;rw [hk] at HO;have HO:Hid (∀ w,_):=HO;have HR:insV (ownI ⟨op,n,t,b,c,m,d⟩)=.agg #[.int .i64 op,.int .i64 n,.string ⟨#[]⟩,.bool false,.string ⟨#[]⟩,.string ⟨#[]⟩,.string ⟨#[]⟩]:=by unfold ownI;simp only [hk];rfl
 rw [HR];clear hk HR;go_enter Tryz.func148,Tryz.ntmps148;go_wp2_with (go_at_call 115;refine ((HO.out) _).mono ?_;rintro e w0 ⟨rfl,hw0⟩;rw [hw0];clear hw0 HO)
 refine bodyPost_ret (v:=.agg #[.int .i64 op,.int .i64 n,.string ⟨#[]⟩,.bool false,.string ⟨#[]⟩,.string ⟨#[]⟩,.string ⟨#[]⟩]) (by simp [results,Tryz.results148,go_sem, *]) rfl ⟨rfl,?_⟩;exact ((Below.refl _ _).alloc (Nat.le_refl _) _).alloc (by simp) _
theorem Zhv (op n locals size:Int) (hk:opdI op=1) (t:ByteArray) (b:Bool) (c m d:ByteArray) (w:World):Calls Tryz.prog 164 #[.agg #[.int .i64 op,.int .i64 n,.string t,.bool b,.string c,.string m,.string d],.int .i64 locals,.int .i64 size] w fun e w'=>e=.returned (.bool (fmB (opdI op) n locals size))∧Bw w w':=by
 have HO:=Zc op;rw [hk] at HO;have HO:Hid (∀ w,_):=HO;have HR:fmB (opdI op) n locals size=true:=by rw [hk];rfl
 rw [HR];clear hk HR;go_enter Tryz.func164,Tryz.ntmps164;go_wp2_with (go_at_call 115;refine ((HO.out) _).mono ?_;rintro e w0 ⟨rfl,hw0⟩;rw [hw0];clear hw0 HO)
 go_ret
 exact ⟨Zb rfl,(Below.refl _ _).alloc (Nat.le_refl _) _⟩
theorem Zl9 (op n:Int) (hk:opdI op=2) (t:ByteArray) (b:Bool) (c m d:ByteArray) (w:World):Calls Tryz.prog 148 #[.agg #[.int .i64 op,.int .i64 n,.string t,.bool b,.string c,.string m,.string d]] w fun e w'=>e=.returned (insV (ownI ⟨op,n,t,b,c,m,d⟩))∧Bw w w':=by
 have HO:=Zc op;rw [hk] at HO;have HO:Hid (∀ w,_):=HO;have HR:insV (ownI ⟨op,n,t,b,c,m,d⟩)=.agg #[.int .i64 op,.int .i64 n,.string ⟨#[]⟩,.bool false,.string ⟨#[]⟩,.string ⟨#[]⟩,.string ⟨#[]⟩]:=by unfold ownI;simp only [hk];rfl
 rw [HR];clear hk HR;go_enter Tryz.func148,Tryz.ntmps148;go_wp2_with (go_at_call 115;refine ((HO.out) _).mono ?_;rintro e w0 ⟨rfl,hw0⟩;rw [hw0];clear hw0 HO)
 refine bodyPost_ret (v:=.agg #[.int .i64 op,.int .i64 n,.string ⟨#[]⟩,.bool false,.string ⟨#[]⟩,.string ⟨#[]⟩,.string ⟨#[]⟩]) (by simp [results,Tryz.results148,go_sem, *]) rfl ⟨rfl,?_⟩;exact ((Below.refl _ _).alloc (Nat.le_refl _) _).alloc (by simp) _
theorem Zhu (op n locals size:Int) (hk:opdI op=2) (t:ByteArray) (b:Bool) (c m d:ByteArray) (w:World):Calls Tryz.prog 164 #[.agg #[.int .i64 op,.int .i64 n,.string t,.bool b,.string c,.string m,.string d],.int .i64 locals,.int .i64 size] w fun e w'=>e=.returned (.bool (fmB (opdI op) n locals size))∧Bw w w':=by
 have HO:=Zc op;rw [hk] at HO;have HO:Hid (∀ w,_):=HO;have HR:fmB (opdI op) n locals size=decide (n<locals):=by rw [hk];rfl
 rw [HR];clear hk HR;go_enter Tryz.func164,Tryz.ntmps164;go_wp2_with (go_at_call 115;refine ((HO.out) _).mono ?_;rintro e w0 ⟨rfl,hw0⟩;rw [hw0];clear hw0 HO)
 go_ret
 exact ⟨Zb rfl,(Below.refl _ _).alloc (Nat.le_refl _) _⟩
theorem Zl8 (op n:Int) (hk:opdI op=3) (t:ByteArray) (b:Bool) (c m d:ByteArray) (w:World):Calls Tryz.prog 148 #[.agg #[.int .i64 op,.int .i64 n,.string t,.bool b,.string c,.string m,.string d]] w fun e w'=>e=.returned (insV (ownI ⟨op,n,t,b,c,m,d⟩))∧Bw w w':=by
 have HO:=Zc op;rw [hk] at HO;have HO:Hid (∀ w,_):=HO;have HR:insV (ownI ⟨op,n,t,b,c,m,d⟩)=.agg #[.int .i64 op,.int .i64 n,.string ⟨#[]⟩,.bool false,.string ⟨#[]⟩,.string ⟨#[]⟩,.string ⟨#[]⟩]:=by unfold ownI;simp only [hk];rfl
 rw [HR];clear hk HR;go_enter Tryz.func148,Tryz.ntmps148;go_wp2_with (go_at_call 115;refine ((HO.out) _).mono ?_;rintro e w0 ⟨rfl,hw0⟩;rw [hw0];clear hw0 HO)
 refine bodyPost_ret (v:=.agg #[.int .i64 op,.int .i64 n,.string ⟨#[]⟩,.bool false,.string ⟨#[]⟩,.string ⟨#[]⟩,.string ⟨#[]⟩]) (by simp [results,Tryz.results148,go_sem, *]) rfl ⟨rfl,?_⟩;exact ((Below.refl _ _).alloc (Nat.le_refl _) _).alloc (by simp) _
theorem Zht (op n locals size:Int) (hk:opdI op=3) (t:ByteArray) (b:Bool) (c m d:ByteArray) (w:World):Calls Tryz.prog 164 #[.agg #[.int .i64 op,.int .i64 n,.string t,.bool b,.string c,.string m,.string d],.int .i64 locals,.int .i64 size] w fun e w'=>e=.returned (.bool (fmB (opdI op) n locals size))∧Bw w w':=by
 have HO:=Zc op;rw [hk] at HO;have HO:Hid (∀ w,_):=HO;have HR:fmB (opdI op) n locals size=decide (n<size):=by rw [hk];rfl
 rw [HR];clear hk HR;go_enter Tryz.func164,Tryz.ntmps164;go_wp2_with (go_at_call 115;refine ((HO.out) _).mono ?_;rintro e w0 ⟨rfl,hw0⟩;rw [hw0];clear hw0 HO)
 go_ret
 exact ⟨Zb rfl,(Below.refl _ _).alloc (Nat.le_refl _) _⟩
theorem Zl7 (op n:Int) (hk:opdI op=4) (t:ByteArray) (b:Bool) (c m d:ByteArray) (w:World):Calls Tryz.prog 148 #[.agg #[.int .i64 op,.int .i64 n,.string t,.bool b,.string c,.string m,.string d]] w fun e w'=>e=.returned (insV (ownI ⟨op,n,t,b,c,m,d⟩))∧Bw w w':=by
 have HO:=Zc op;rw [hk] at HO;have HO:Hid (∀ w,_):=HO;have HR:insV (ownI ⟨op,n,t,b,c,m,d⟩)=.agg #[.int .i64 op,.int .i64 0,.string t,.bool false,.string ⟨#[]⟩,.string ⟨#[]⟩,.string ⟨#[]⟩]:=by unfold ownI;simp only [hk];rfl
 rw [HR];clear hk HR;go_enter Tryz.func148,Tryz.ntmps148;go_wp2_with (go_at_call 115;refine ((HO.out) _).mono ?_;rintro e w0 ⟨rfl,hw0⟩;rw [hw0];clear hw0 HO)
 refine bodyPost_ret (v:=.agg #[.int .i64 op,.int .i64 0,.string t,.bool false,.string ⟨#[]⟩,.string ⟨#[]⟩,.string ⟨#[]⟩]) (by simp [results,Tryz.results148,go_sem, *]) rfl ⟨rfl,?_⟩;exact ((Below.refl _ _).alloc (Nat.le_refl _) _).alloc (by simp) _
theorem Zhs (op n locals size:Int) (hk:opdI op=4) (t:ByteArray) (b:Bool) (c m d:ByteArray) (w:World):Calls Tryz.prog 164 #[.agg #[.int .i64 op,.int .i64 n,.string t,.bool b,.string c,.string m,.string d],.int .i64 locals,.int .i64 size] w fun e w'=>e=.returned (.bool (fmB (opdI op) n locals size))∧Bw w w':=by
 have HO:=Zc op;rw [hk] at HO;have HO:Hid (∀ w,_):=HO;have HR:fmB (opdI op) n locals size=true:=by rw [hk];rfl
 rw [HR];clear hk HR;go_enter Tryz.func164,Tryz.ntmps164;go_wp2_with (go_at_call 115;refine ((HO.out) _).mono ?_;rintro e w0 ⟨rfl,hw0⟩;rw [hw0];clear hw0 HO)
 go_ret
 exact ⟨Zb rfl,(Below.refl _ _).alloc (Nat.le_refl _) _⟩
theorem Zl6 (op n:Int) (hk:opdI op=5) (t:ByteArray) (b:Bool) (c m d:ByteArray) (w:World):Calls Tryz.prog 148 #[.agg #[.int .i64 op,.int .i64 n,.string t,.bool b,.string c,.string m,.string d]] w fun e w'=>e=.returned (insV (ownI ⟨op,n,t,b,c,m,d⟩))∧Bw w w':=by
 have HO:=Zc op;rw [hk] at HO;have HO:Hid (∀ w,_):=HO;have HR:insV (ownI ⟨op,n,t,b,c,m,d⟩)=.agg #[.int .i64 op,.int .i64 0,.string t,.bool false,.string ⟨#[]⟩,.string ⟨#[]⟩,.string ⟨#[]⟩]:=by unfold ownI;simp only [hk];rfl
 rw [HR];clear hk HR;go_enter Tryz.func148,Tryz.ntmps148;go_wp2_with (go_at_call 115;refine ((HO.out) _).mono ?_;rintro e w0 ⟨rfl,hw0⟩;rw [hw0];clear hw0 HO)
 refine bodyPost_ret (v:=.agg #[.int .i64 op,.int .i64 0,.string t,.bool false,.string ⟨#[]⟩,.string ⟨#[]⟩,.string ⟨#[]⟩]) (by simp [results,Tryz.results148,go_sem, *]) rfl ⟨rfl,?_⟩;exact ((Below.refl _ _).alloc (Nat.le_refl _) _).alloc (by simp) _
theorem Zhr (op n locals size:Int) (hk:opdI op=5) (t:ByteArray) (b:Bool) (c m d:ByteArray) (w:World):Calls Tryz.prog 164 #[.agg #[.int .i64 op,.int .i64 n,.string t,.bool b,.string c,.string m,.string d],.int .i64 locals,.int .i64 size] w fun e w'=>e=.returned (.bool (fmB (opdI op) n locals size))∧Bw w w':=by
 have HO:=Zc op;rw [hk] at HO;have HO:Hid (∀ w,_):=HO;have HR:fmB (opdI op) n locals size=true:=by rw [hk];rfl
 rw [HR];clear hk HR;go_enter Tryz.func164,Tryz.ntmps164;go_wp2_with (go_at_call 115;refine ((HO.out) _).mono ?_;rintro e w0 ⟨rfl,hw0⟩;rw [hw0];clear hw0 HO)
 go_ret
 exact ⟨Zb rfl,(Below.refl _ _).alloc (Nat.le_refl _) _⟩
theorem Zl5 (op n:Int) (hk:opdI op=6) (t:ByteArray) (b:Bool) (c m d:ByteArray) (w:World):Calls Tryz.prog 148 #[.agg #[.int .i64 op,.int .i64 n,.string t,.bool b,.string c,.string m,.string d]] w fun e w'=>e=.returned (insV (ownI ⟨op,n,t,b,c,m,d⟩))∧Bw w w':=by
 have HO:=Zc op;rw [hk] at HO;have HO:Hid (∀ w,_):=HO;have HR:insV (ownI ⟨op,n,t,b,c,m,d⟩)=.agg #[.int .i64 op,.int .i64 0,.string t,.bool false,.string ⟨#[]⟩,.string ⟨#[]⟩,.string ⟨#[]⟩]:=by unfold ownI;simp only [hk];rfl
 rw [HR];clear hk HR;go_enter Tryz.func148,Tryz.ntmps148;go_wp2_with (go_at_call 115;refine ((HO.out) _).mono ?_;rintro e w0 ⟨rfl,hw0⟩;rw [hw0];clear hw0 HO)
 refine bodyPost_ret (v:=.agg #[.int .i64 op,.int .i64 0,.string t,.bool false,.string ⟨#[]⟩,.string ⟨#[]⟩,.string ⟨#[]⟩]) (by simp [results,Tryz.results148,go_sem, *]) rfl ⟨rfl,?_⟩;exact ((Below.refl _ _).alloc (Nat.le_refl _) _).alloc (by simp) _
theorem Zhq (op n locals size:Int) (hk:opdI op=6) (t:ByteArray) (b:Bool) (c m d:ByteArray) (w:World):Calls Tryz.prog 164 #[.agg #[.int .i64 op,.int .i64 n,.string t,.bool b,.string c,.string m,.string d],.int .i64 locals,.int .i64 size] w fun e w'=>e=.returned (.bool (fmB (opdI op) n locals size))∧Bw w w':=by
 have HO:=Zc op;rw [hk] at HO;have HO:Hid (∀ w,_):=HO;have HR:fmB (opdI op) n locals size=true:=by rw [hk];rfl
 rw [HR];clear hk HR;go_enter Tryz.func164,Tryz.ntmps164;go_wp2_with (go_at_call 115;refine ((HO.out) _).mono ?_;rintro e w0 ⟨rfl,hw0⟩;rw [hw0];clear hw0 HO)
 go_ret
 exact ⟨Zb rfl,(Below.refl _ _).alloc (Nat.le_refl _) _⟩
theorem Zl4 (op n:Int) (hk:opdI op=7) (t:ByteArray) (b:Bool) (c m d:ByteArray) (w:World):Calls Tryz.prog 148 #[.agg #[.int .i64 op,.int .i64 n,.string t,.bool b,.string c,.string m,.string d]] w fun e w'=>e=.returned (insV (ownI ⟨op,n,t,b,c,m,d⟩))∧Bw w w':=by
 have HO:=Zc op;rw [hk] at HO;have HO:Hid (∀ w,_):=HO;have HR:insV (ownI ⟨op,n,t,b,c,m,d⟩)=.agg #[.int .i64 op,.int .i64 n,.string t,.bool false,.string ⟨#[]⟩,.string ⟨#[]⟩,.string ⟨#[]⟩]:=by unfold ownI;simp only [hk];rfl
 rw [HR];clear hk HR;go_enter Tryz.func148,Tryz.ntmps148;go_wp2_with (go_at_call 115;refine ((HO.out) _).mono ?_;rintro e w0 ⟨rfl,hw0⟩;rw [hw0];clear hw0 HO)
 refine bodyPost_ret (v:=.agg #[.int .i64 op,.int .i64 n,.string t,.bool false,.string ⟨#[]⟩,.string ⟨#[]⟩,.string ⟨#[]⟩]) (by simp [results,Tryz.results148,go_sem, *]) rfl ⟨rfl,?_⟩;exact ((Below.refl _ _).alloc (Nat.le_refl _) _).alloc (by simp) _
theorem Zhp (op n locals size:Int) (hk:opdI op=7) (t:ByteArray) (b:Bool) (c m d:ByteArray) (w:World):Calls Tryz.prog 164 #[.agg #[.int .i64 op,.int .i64 n,.string t,.bool b,.string c,.string m,.string d],.int .i64 locals,.int .i64 size] w fun e w'=>e=.returned (.bool (fmB (opdI op) n locals size))∧Bw w w':=by
 have HO:=Zc op;rw [hk] at HO;have HO:Hid (∀ w,_):=HO;have HR:fmB (opdI op) n locals size=true:=by rw [hk];rfl
 rw [HR];clear hk HR;go_enter Tryz.func164,Tryz.ntmps164;go_wp2_with (go_at_call 115;refine ((HO.out) _).mono ?_;rintro e w0 ⟨rfl,hw0⟩;rw [hw0];clear hw0 HO)
 go_ret
 exact ⟨Zb rfl,(Below.refl _ _).alloc (Nat.le_refl _) _⟩
theorem Zl3 (op n:Int) (hk:opdI op=8) (t:ByteArray) (b:Bool) (c m d:ByteArray) (w:World):Calls Tryz.prog 148 #[.agg #[.int .i64 op,.int .i64 n,.string t,.bool b,.string c,.string m,.string d]] w fun e w'=>e=.returned (insV (ownI ⟨op,n,t,b,c,m,d⟩))∧Bw w w':=by
 have HO:=Zc op;rw [hk] at HO;have HO:Hid (∀ w,_):=HO;have HR:insV (ownI ⟨op,n,t,b,c,m,d⟩)=.agg #[.int .i64 op,.int .i64 0,.string ⟨#[]⟩,.bool b,.string c,.string m,.string d]:=by unfold ownI;simp only [hk];rfl
 rw [HR];clear hk HR;go_enter Tryz.func148,Tryz.ntmps148;go_wp2_with (go_at_call 115;refine ((HO.out) _).mono ?_;rintro e w0 ⟨rfl,hw0⟩;rw [hw0];clear hw0 HO)
 refine bodyPost_ret (v:=.agg #[.int .i64 op,.int .i64 0,.string ⟨#[]⟩,.bool b,.string c,.string m,.string d]) (by simp [results,Tryz.results148,go_sem, *]) rfl ⟨rfl,?_⟩;exact ((Below.refl _ _).alloc (Nat.le_refl _) _).alloc (by simp) _
theorem Zho (op n locals size:Int) (hk:opdI op=8) (t:ByteArray) (b:Bool) (c m d:ByteArray) (w:World):Calls Tryz.prog 164 #[.agg #[.int .i64 op,.int .i64 n,.string t,.bool b,.string c,.string m,.string d],.int .i64 locals,.int .i64 size] w fun e w'=>e=.returned (.bool (fmB (opdI op) n locals size))∧Bw w w':=by
 have HO:=Zc op;rw [hk] at HO;have HO:Hid (∀ w,_):=HO;have HR:fmB (opdI op) n locals size=true:=by rw [hk];rfl
 rw [HR];clear hk HR;go_enter Tryz.func164,Tryz.ntmps164;go_wp2_with (go_at_call 115;refine ((HO.out) _).mono ?_;rintro e w0 ⟨rfl,hw0⟩;rw [hw0];clear hw0 HO)
 go_ret
 exact ⟨Zb rfl,(Below.refl _ _).alloc (Nat.le_refl _) _⟩
end Go.Proofs.YtfbhjfpkhofifaaGreatDoor
