import Derived.Test.YtfbhjfpkhofifaaGreatDoorFlagsText
import Derived.Lib.PathFns
set_option maxHeartbeats 8000000
namespace Go.Proofs.YtfbhjfpkhofifaaGreatDoor
open Go.RowKit
theorem run_step (s:List UInt8) (ps:List (Int×List UInt8)) (i:Nat) (p:Int×List UInt8) (h:ps[i]?=some p) (st:Int×Nat):Yv s (ps.take (i+1)) st=Yu s (Yv s (ps.take i) st) p:=by
 have hlt:i<ps.length:=(List.getElem?_eq_some_iff.1 h).1;rw [List.take_succ_eq_append_getElem hlt];rw [List.getElem?_eq_getElem hlt] at h;rw [Option.some.inj h];simp [Yv]
def Yj (a:Nat) (wd:List UInt8):List UInt8:=if 0<a then 32::wd else wd
theorem Zcr {s:List UInt8} {n:Int} {a:Nat} {p:Int×List UInt8} (h1:a+(Yj a p.2).length≤s.length) (h2:(s.drop a).take (Yj a p.2).length=Yj a p.2)
 (h3:a+(Yj a p.2).length=s.length∨s[a+(Yj a p.2).length]?=some 32):Yu s (n,a) p=(n+p.1,a+(Yj a p.2).length):=by
 unfold Yj at *;unfold Yu;exact if_pos ⟨h1,h2,h3⟩
theorem Zbv {s:List UInt8} {n:Int} {a:Nat} {p:Int×List UInt8} (h:¬ (a+(Yj a p.2).length≤s.length∧(s.drop a).take (Yj a p.2).length=Yj a p.2 ∧
 (a+(Yj a p.2).length=s.length∨s[a+(Yj a p.2).length]?=some 32))):Yu s (n,a) p=(n,a):=by
 unfold Yj at h;unfold Yu;exact if_neg h
theorem cut_eq (s tw:ByteArray) (a e:Nat) (h:e=a+tw.size):((s.extract a e).toList == tw.toList)=decide ((s.data.toList.drop a).take tw.data.toList.length=tw.data.toList):=by
 rw [Lib.toList_data,Lib.toList_data,Lib.extract_data,Bool.eq_iff_iff];have e1:e - a=tw.data.toList.length:=by simp;omega
 rw [e1];simp
theorem Zpa (s:ByteArray) (e:Nat) (h:e<s.size):(((s[e]).toNat:Int) == 32)=decide (s.data.toList[e]?=some 32):=by
 rw [Bool.eq_iff_iff];have h2:s.data.toList[e]?=some s[e]:=Lib.Pa.at_eq s e h;rw [h2];simp only [beq_iff_eq,decide_eq_true_eq,Option.some.injEq];constructor
 ·intro q;have:(s[e]).toNat=(32:UInt8).toNat:=by have:=Int.ofNat_inj.1 q;exact this
  exact UInt8.toNat_inj.1 this
 ·intro q;rw [q];rfl
set_option maxRecDepth 10000 in
theorem Zdo (s:ByteArray) (hs:s.size≤140737488351232) (ps:List (Int×List UInt8)) (hb:∀ x∈flagsOf ps,0≤x∧x≤2048) (hl:ps.length≤100) (hw:∀ p∈ps,p.2≠[]∧p.2.length≤20∧(32:UInt8) ∉ p.2) (v1 v2:Value) (w:World)
 (h1:IsRow w v1 ((flagsOf ps).map intV)) (h2:IsRow w v2 (ps.map (fun p=>txtV p.2))) :
 Calls Tryz.prog 133 #[.string s,v1,v2] w fun e w'=>e=.returned (.tuple #[.int .i64 (parF ps s.data.toList),.int .i64 (parX ps s.data.toList)])∧w'=w:=by
 have hfl:(flagsOf ps).length=ps.length:=by simp [flagsOf]
 have hrun:=run_read s.data.toList ps (fun p hp=>⟨(hw p hp).1,(hw p hp).2.2⟩);have hlen:s.data.toList.length=s.size:=by simp
 obtain ⟨b1,o1,cap1,rfl,g1,g2,g3,g4⟩:=h1;obtain ⟨b2,o2,cap2,rfl,k1,k2,k3,k4⟩:=h2;rw [List.length_map] at *;rw [hfl] at *;unfold maxLen at g2 k2;have HC1:Hid _:=g4;have HC2:Hid _:=k4;have HW:Hid _:=hw;have HB:Hid _:=hb;have HLEN:Hid _:=hlen;have HRUN:Hid _:=hrun;clear g4 k4 hw hb hlen hrun;go_enter Tryz.func133,Tryz.ntmps133;go_wp2
 go_loop [8,9,10] (fun nv av iv=>∃ (i:Nat) (n:Int) (a:Nat),nv=.int .i64 n∧av=.int .i64 a∧iv=.int .i64 i∧i≤ps.length∧0≤n∧n≤2048 * i∧a≤s.size∧Hid ((n,a)=Yv s.data.toList (ps.take i) (0,0))) (fun _ _ iv=>ps.length - (intOf iv).toNat)
 case atStart=>exact ⟨0,0,0,rfl,rfl,rfl,Nat.zero_le _,by omega,by omega,Nat.zero_le _,rfl⟩
 case round =>
  obtain ⟨i,n,a,rfl,rfl,rfl,hi,hn0,hn1,ha,hN⟩:=hrel;by_cases hlt:i<ps.length
  ·obtain ⟨⟨x,wd⟩,hx⟩:∃ p,ps[i]?=some p:=⟨_,List.getElem?_eq_getElem hlt⟩;have c1:w.cell? ⟨b1,o1+i,none⟩=some (.int .i64 x):=HC1.out i (intV x) (by rw [List.getElem?_map,flagsOf,List.getElem?_map,hx];rfl);have c2:w.cell? ⟨b2,o2+i,none⟩=some (.string ⟨wd.toArray⟩):=HC2.out i (txtV wd) (by rw [List.getElem?_map,hx];rfl);have hwd:=HW.out (x,wd) (List.mem_of_getElem? hx);obtain ⟨x0,x1⟩:=HB.out x (by rw [flagsOf];exact List.mem_map.2 ⟨(x,wd),List.mem_of_getElem? hx,rfl⟩);have hst:=run_step s.data.toList ps i (x,wd) hx (0,0);rw [← hN.out] at hst;obtain ⟨tw,htw⟩:∃ tw:ByteArray,tw=⟨wd.toArray⟩:=⟨_,rfl⟩;have htd:tw.data.toList=wd:=by rw [htw]
   have htz:tw.size≤20:=by rw [Zfm,htd];exact hwd.2.1
   have HTD:Hid _:=htd;rw [← htw] at c2;clear htw htd;by_cases ha0:0<a
   ·skip
    have hwa:Yj a wd=(⟨#[32]⟩++tw:ByteArray).data.toList:=by rw [Yj,if_pos ha0];simp [ByteArray.data_append,HTD.out]
    have hws:(⟨#[32]⟩++tw:ByteArray).size=1+tw.size:=by rw [ByteArray.size_append];rfl
    obtain ⟨e,he⟩:∃ e,e=a+(⟨#[32]⟩++tw:ByteArray).size:=⟨_,rfl⟩;have hwl:(Yj a wd).length=(⟨#[32]⟩++tw:ByteArray).size:=by rw [hwa,← Zfm]
    have hcut:=cut_eq s (⟨#[32]⟩++tw:ByteArray) a e he;rw [← hwa] at hcut;have hel:a+(Yj a wd).length=e:=by rw [hwl,he]
    rw [hws] at he;have hE:(a:Int)+(1+(tw.size:Int))=(e:Int):=by omega
    have hai:(0:Int)<(a:Int):=by omega
    have hae:a≤e:=by omega
    have hei:e≤140737488351300:=by omega
    have HE:Hid _:=he;clear he;by_cases hle:e≤s.size
    ·cases hq:decide ((s.data.toList.drop a).take (Yj a wd).length=Yj a wd) with
     | false =>
       have hq':¬ (s.data.toList.drop a).take (Yj a wd).length=Yj a wd:=of_decide_eq_false hq;rw [hq] at hcut;have HN:Hid ((n,a)=Yv s.data.toList (ps.take (i+1)) (0,0)):=by rw [Hid,hst];exact (Zbv (by exact fun h=>hq' h.2.1)).symm
       have hcut':((s.extract a e).toList == (⟨#[32]⟩++tw:ByteArray).toList)=false:=hcut;clear hst hwa hwl hcut hel hwd HC1 HC2 HW HB HLEN HRUN hN hx HE HTD hq hq';go_wp2
       go_round
       case rel=>exact ⟨i+1,n,a,by go_num,by go_num,by go_num,by omega,by omega,by omega,by omega,HN⟩
       case measure=>simp [intOf];omega
     | true =>
       have hq':=of_decide_eq_true hq;rw [hq] at hcut;have hcut':((s.extract a e).toList == (⟨#[32]⟩++tw:ByteArray).toList)=true:=hcut;by_cases hend:e=s.size
       ·have HN:Hid ((n+x,e)=Yv s.data.toList (ps.take (i+1)) (0,0)):=by rw [Hid,hst];have:=Zcr (n:=n) (p:=(x,wd)) (s:=s.data.toList) (a:=a) (by rw [hel,HLEN.out];exact hle) hq' (.inl (by rw [hel,HLEN.out];exact hend));rw [hel] at this;exact this.symm
        have hq2:((e:Int) == (s.size:Int))=true:=by rw [beq_iff_eq];omega
        clear hst hwa hwl hcut hel hwd HC1 HC2 HW HB HLEN HRUN hN hx HE HTD hq hq' hend;go_wp2
        go_round
        case rel=>exact ⟨i+1,n+x,e,by go_num,by go_num,by go_num,by omega,by omega,by omega,by omega,HN⟩
        case measure=>simp [intOf];omega
       ·have helt:e<s.size:=by omega
        have hq2:((e:Int) == (s.size:Int))=false:=by rw [beq_eq_false_iff_ne];omega
        have hbt:=Zpa s e helt
        cases hb32:decide (s.data.toList[e]?=some 32) with
        | true =>
          rw [hb32] at hbt;have HN:Hid ((n+x,e)=Yv s.data.toList (ps.take (i+1)) (0,0)):=by rw [Hid,hst];have:=Zcr (n:=n) (p:=(x,wd)) (s:=s.data.toList) (a:=a) (by rw [hel,HLEN.out];exact hle) hq' (.inr (by rw [hel];exact of_decide_eq_true hb32));rw [hel] at this;exact this.symm
          clear hst hwa hwl hcut hel hwd HC1 HC2 HW HB HLEN HRUN hN hx HE HTD hq hq' hend hb32;go_wp2
          go_round
          case rel=>exact ⟨i+1,n+x,e,by go_num,by go_num,by go_num,by omega,by omega,by omega,by omega,HN⟩
          case measure=>simp [intOf];omega
        | false =>
          rw [hb32] at hbt;have HN:Hid ((n,a)=Yv s.data.toList (ps.take (i+1)) (0,0)):=by rw [Hid,hst];exact (Zbv (by rintro ⟨_,_,h3⟩;exact h3.elim (fun q=>hend (by rw [hel,HLEN.out] at q;exact q)) (fun q=>of_decide_eq_false hb32 (by rw [hel] at q;exact q)))).symm
          clear hst hwa hwl hcut hel hwd HC1 HC2 HW HB HLEN HRUN hN hx HE HTD hq hq' hend hb32;go_wp2
          go_round
          case rel=>exact ⟨i+1,n,a,by go_num,by go_num,by go_num,by omega,by omega,by omega,by omega,HN⟩
          case measure=>simp [intOf];omega
    ·have hgi:¬ (e:Int)≤(s.size:Int):=by omega
     have HN:Hid ((n,a)=Yv s.data.toList (ps.take (i+1)) (0,0)):=by rw [Hid,hst];exact (Zbv (by rintro ⟨h1,_⟩;rw [hel,HLEN.out] at h1;exact hle h1)).symm
     clear hst hwa hwl hcut hel hwd HC1 HC2 HW HB HLEN HRUN hN hx HE HTD hle;go_wp2
     go_round
     case rel=>exact ⟨i+1,n,a,by go_num,by go_num,by go_num,by omega,by omega,by omega,by omega,HN⟩
     case measure=>simp [intOf];omega
   ·skip
    have hwa:Yj a wd=tw.data.toList:=by rw [Yj,if_neg ha0];exact HTD.out.symm
    obtain ⟨e,he⟩:∃ e,e=a+tw.size:=⟨_,rfl⟩;have hwl:(Yj a wd).length=tw.size:=by rw [hwa,← Zfm]
    have hcut:=cut_eq s tw a e he;rw [← hwa] at hcut;have hel:a+(Yj a wd).length=e:=by rw [hwl,he]
    have hE:(a:Int)+(tw.size:Int)=(e:Int):=by omega
    have hai:¬ (0:Int)<(a:Int):=by omega
    have hae:a≤e:=by omega
    have hei:e≤140737488351300:=by omega
    have HE:Hid _:=he;clear he;by_cases hle:e≤s.size
    ·cases hq:decide ((s.data.toList.drop a).take (Yj a wd).length=Yj a wd) with
     | false =>
       have hq':¬ (s.data.toList.drop a).take (Yj a wd).length=Yj a wd:=of_decide_eq_false hq;rw [hq] at hcut;have HN:Hid ((n,a)=Yv s.data.toList (ps.take (i+1)) (0,0)):=by rw [Hid,hst];exact (Zbv (by exact fun h=>hq' h.2.1)).symm
       have hcut':((s.extract a e).toList == tw.toList)=false:=hcut;clear hst hwa hwl hcut hel hwd HC1 HC2 HW HB HLEN HRUN hN hx HE HTD hq hq';go_wp2
       go_round
       case rel=>exact ⟨i+1,n,a,by go_num,by go_num,by go_num,by omega,by omega,by omega,by omega,HN⟩
       case measure=>simp [intOf];omega
     | true =>
       have hq':=of_decide_eq_true hq;rw [hq] at hcut;have hcut':((s.extract a e).toList == tw.toList)=true:=hcut;by_cases hend:e=s.size
       ·have HN:Hid ((n+x,e)=Yv s.data.toList (ps.take (i+1)) (0,0)):=by rw [Hid,hst];have:=Zcr (n:=n) (p:=(x,wd)) (s:=s.data.toList) (a:=a) (by rw [hel,HLEN.out];exact hle) hq' (.inl (by rw [hel,HLEN.out];exact hend));rw [hel] at this;exact this.symm
        have hq2:((e:Int) == (s.size:Int))=true:=by rw [beq_iff_eq];omega
        clear hst hwa hwl hcut hel hwd HC1 HC2 HW HB HLEN HRUN hN hx HE HTD hq hq' hend;go_wp2
        go_round
        case rel=>exact ⟨i+1,n+x,e,by go_num,by go_num,by go_num,by omega,by omega,by omega,by omega,HN⟩
        case measure=>simp [intOf];omega
       ·have helt:e<s.size:=by omega
        have hq2:((e:Int) == (s.size:Int))=false:=by rw [beq_eq_false_iff_ne];omega
        have hbt:=Zpa s e helt
        cases hb32:decide (s.data.toList[e]?=some 32) with
        | true =>
          rw [hb32] at hbt;have HN:Hid ((n+x,e)=Yv s.data.toList (ps.take (i+1)) (0,0)):=by rw [Hid,hst];have:=Zcr (n:=n) (p:=(x,wd)) (s:=s.data.toList) (a:=a) (by rw [hel,HLEN.out];exact hle) hq' (.inr (by rw [hel];exact of_decide_eq_true hb32));rw [hel] at this;exact this.symm
          clear hst hwa hwl hcut hel hwd HC1 HC2 HW HB HLEN HRUN hN hx HE HTD hq hq' hend hb32;go_wp2
          go_round
          case rel=>exact ⟨i+1,n+x,e,by go_num,by go_num,by go_num,by omega,by omega,by omega,by omega,HN⟩
          case measure=>simp [intOf];omega
        | false =>
          rw [hb32] at hbt;have HN:Hid ((n,a)=Yv s.data.toList (ps.take (i+1)) (0,0)):=by rw [Hid,hst];exact (Zbv (by rintro ⟨_,_,h3⟩;exact h3.elim (fun q=>hend (by rw [hel,HLEN.out] at q;exact q)) (fun q=>of_decide_eq_false hb32 (by rw [hel] at q;exact q)))).symm
          clear hst hwa hwl hcut hel hwd HC1 HC2 HW HB HLEN HRUN hN hx HE HTD hq hq' hend hb32;go_wp2
          go_round
          case rel=>exact ⟨i+1,n,a,by go_num,by go_num,by go_num,by omega,by omega,by omega,by omega,HN⟩
          case measure=>simp [intOf];omega
    ·have hgi:¬ (e:Int)≤(s.size:Int):=by omega
     have HN:Hid ((n,a)=Yv s.data.toList (ps.take (i+1)) (0,0)):=by rw [Hid,hst];exact (Zbv (by rintro ⟨h1,_⟩;rw [hel,HLEN.out] at h1;exact hle h1)).symm
     clear hst hwa hwl hcut hel hwd HC1 HC2 HW HB HLEN HRUN hN hx HE HTD hle;go_wp2
     go_round
     case rel=>exact ⟨i+1,n,a,by go_num,by go_num,by go_num,by omega,by omega,by omega,by omega,HN⟩
     case measure=>simp [intOf];omega
  ·have HN:Hid ((n,a)=Yv s.data.toList ps (0,0)):=by have:=hN.out;rw [List.take_of_length_le (by omega)] at this;exact this
   by_cases hend:a=s.size
   ·have HR:Hid (parF ps s.data.toList=n∧parX ps s.data.toList=0):=by
     rcases HRUN.out with ⟨h1,h2⟩|⟨h1,_⟩
     ·rw [Hid,parF,parX,h2,← HN.out];exact ⟨rfl,rfl⟩
     ·rw [← HN.out,HLEN.out] at h1;exact absurd hend h1
    have hq2:((a:Int) != (s.size:Int))=false:=by rw [hend];simp
    clear HC1 HC2 HW HB HLEN HRUN hN HN hend;go_wp2
    go_ret2
    exact ⟨by rw [HR.out.1,HR.out.2];rfl,rfl⟩
   ·have HR:Hid (parF ps s.data.toList=0∧parX ps s.data.toList=4):=by
     rcases HRUN.out with ⟨h1,_⟩|⟨_,h2⟩
     ·rw [← HN.out,HLEN.out] at h1;exact absurd h1 hend
     ·rw [Hid,parF,parX,h2];exact ⟨rfl,rfl⟩
    have hq2:((a:Int) != (s.size:Int))=true:=by rw [bne_iff_ne];omega
    clear HC1 HC2 HW HB HLEN HRUN hN HN hend;go_wp2
    go_ret2
    exact ⟨by rw [HR.out.1,HR.out.2];rfl,rfl⟩
theorem Zk8:∀ p∈clsP,p.2≠[]∧p.2.length≤20∧(32:UInt8) ∉ p.2:=by decide
theorem Zk7:∀ p∈mthP,p.2≠[]∧p.2.length≤20∧(32:UInt8) ∉ p.2:=by decide
theorem Zdc (s:ByteArray) (hs:s.size≤140737488351232) (w:World):Calls Tryz.prog 94 #[.string s] w fun e w'=>e=.returned (.tuple #[.int .i64 (parF clsP s.data.toList),.int .i64 (parX clsP s.data.toList)])∧Bw w w':=by
 have HF:Hid (∀ w,_):=Zal;have HW:Hid (∀ w,_):=Zed;have HT:Hid (∀ (v1 v2:Value) (w:World),IsRow w v1 ((flagsOf clsP).map intV)→IsRow w v2 (clsP.map (fun p=>txtV p.2))→_):=fun v1 v2 w=>Zdo s hs clsP Zc5 (by decide) Zk8 v1 v2 w;generalize parF clsP s.data.toList=tf at *;generalize parX clsP s.data.toList=te at *;go_enter Tryz.func94,Tryz.ntmps94;go_wp2_with (first
  | (go_at_call 61;refine (HF.out _).mono ?_;rintro e w1 ⟨⟨v1,rfl,hv1⟩,hb1⟩)
  | (go_at_call 79;refine (HW.out _).mono ?_;rintro e w2 ⟨⟨v2,rfl,hv2⟩,hb2⟩)
  | (go_at_call 133;refine (HT.out _ _ _ (hv1.keep hb2) hv2).mono ?_;rintro e w3 ⟨rfl,rfl⟩))
 go_ret2
 exact ⟨rfl,Below.fstep hb1 hb2⟩
theorem Zcm (s:ByteArray) (hs:s.size≤140737488351232) (w:World):Calls Tryz.prog 93 #[.string s] w fun e w'=>e=.returned (.tuple #[.int .i64 (parF mthP s.data.toList),.int .i64 (parX mthP s.data.toList)])∧Bw w w':=by
 have HF:Hid (∀ w,_):=J5;have HW:Hid (∀ w,_):=Zdm;have HT:Hid (∀ (v1 v2:Value) (w:World),IsRow w v1 ((flagsOf mthP).map intV)→IsRow w v2 (mthP.map (fun p=>txtV p.2))→_):=fun v1 v2 w=>Zdo s hs mthP Zc4 (by decide) Zk7 v1 v2 w;generalize parF mthP s.data.toList=tf at *;generalize parX mthP s.data.toList=te at *;go_enter Tryz.func93,Tryz.ntmps93;go_wp2_with (first
  | (go_at_call 80;refine (HF.out _).mono ?_;rintro e w1 ⟨⟨v1,rfl,hv1⟩,hb1⟩)
  | (go_at_call 81;refine (HW.out _).mono ?_;rintro e w2 ⟨⟨v2,rfl,hv2⟩,hb2⟩)
  | (go_at_call 133;refine (HT.out _ _ _ (hv1.keep hb2) hv2).mono ?_;rintro e w3 ⟨rfl,rfl⟩))
 go_ret2
 exact ⟨rfl,Below.fstep hb1 hb2⟩
end Go.Proofs.YtfbhjfpkhofifaaGreatDoor
