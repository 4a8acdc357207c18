import Derived.Test.YtfbhjfpkhofifaaGreatDoorOwnX
set_option maxHeartbeats 4000000
set_option maxRecDepth 100000
namespace Go.Proofs.YtfbhjfpkhofifaaGreatDoor
open Go.RowKit
def Z5 (p:UInt8→Bool) (l:List UInt8):Nat:=(l.takeWhile p).length
def Yc (c:UInt8):Bool:=!decide (c=46)&&!decide (c=58)
def Z8 (c:UInt8):Bool:=!decide (c=40)
def Xg (l:List UInt8):Nat:=Z5 Yc l
def Xf (l:List UInt8):Nat:=Xg l+Z5 Z8 (l.drop (Xg l))
theorem Zaq (p:UInt8→Bool) (s:ByteArray) (k:Nat) (h:k<s.size):Z5 p (s.data.toList.drop k)=if p s[k] then 1+Z5 p (s.data.toList.drop (k+1)) else 0:=by
 rw [Zx s k h,Z5,List.takeWhile_cons]
 split
 ·rw [List.length_cons,Z5];omega
 ·rfl
theorem Zcs (p:UInt8→Bool) (s:ByteArray) (k:Nat) (h:s.size≤k):Z5 p (s.data.toList.drop k)=0:=by
 rw [List.drop_of_length_le (by simpa using h)];rfl
def rfC (l:List UInt8):List UInt8:=l.take (Xg l)
def rfN (l:List UInt8):List UInt8:=(l.drop (Xg l+1)).take (Xf l - (Xg l+1))
def rfD (l:List UInt8):List UInt8:=l.drop (Xf l)
def rfB (l:List UInt8):Bool:=(l.drop (Xg l)).head? == some 58
def rfOK (l:List UInt8):Bool:=decide (Xf l<l.length)&&rckB (rfC l) (rfN l) (rfD l)
theorem Jn (s:ByteArray) (m:Nat):(s.extract 0 m).data.toList=s.data.toList.take m:=by rw [Lib.extract_data];simp
theorem Ze4 (s:ByteArray) (a b:Nat):(s.extract a b).data.toList=(s.data.toList.drop a).take (b - a):=Lib.extract_data _ _ _
def Zd3 (l:List UInt8):Value:=.tuple #[.agg #[.bool (rfOK l&&rfB l),.string (if rfOK l then ⟨(rfC l).toArray⟩ else ⟨#[]⟩),.string (if rfOK l then ⟨(rfN l).toArray⟩ else ⟨#[]⟩),.string (if rfOK l then ⟨(rfD l).toArray⟩ else ⟨#[]⟩)],.int .i64 (if rfOK l then 0 else 4)]
theorem X3 {l:List UInt8} (h:rfOK l=false):Zd3 l=.tuple #[.agg #[.bool false,.string ⟨#[]⟩,.string ⟨#[]⟩,.string ⟨#[]⟩],.int .i64 4]:=by rw [Zd3,h];rfl
theorem Zc9 (s:ByteArray) (m o:Nat) (q:Bool) (hm:Xg s.data.toList=m) (ho:Xf s.data.toList=o) (h:rfOK s.data.toList=true) (hq:rfB s.data.toList=q) :
 Zd3 s.data.toList=.tuple #[.agg #[.bool q,.string (s.extract 0 m),.string (s.extract (m+1) o),.string (s.extract o s.size)],.int .i64 0]:=by
 rw [Zd3,h,hq];have e1:(⟨(rfC s.data.toList).toArray⟩:ByteArray)=s.extract 0 m:=by apply Zf;rw [Jn,rfC,hm]
 have e2:(⟨(rfN s.data.toList).toArray⟩:ByteArray)=s.extract (m+1) o:=by apply Zf;rw [Ze4,rfN,hm,ho]
 have e3:(⟨(rfD s.data.toList).toArray⟩:ByteArray)=s.extract o s.size:=by apply Zf;rw [Lib.extract_to_end,rfD,ho]
 rw [e1,e2,e3];rfl
theorem Xi (s:ByteArray) (hs:s.size≤maxLen) (w:World):Calls Tryz.prog 97 #[.string s] w fun e w'=>e=.returned (Zd3 s.data.toList)∧Bw w w':=by
 have hlen:s.data.toList.length=s.size:=by simp
 have HRC:Hid (∀ (b:Bool) (c n d:ByteArray),c.size≤maxLen→n.size≤maxLen→d.size≤maxLen→∀ w,_):=Zbb;have HEX:Hid (∀ a b,(s.extract a b).size≤maxLen):=fun a b=>by simp [ByteArray.size_extract];omega
 unfold maxLen at hs;go_enter Tryz.func97,Tryz.ntmps97;go_wp2
 go_loop [4] (fun kv=>∃ (k:Nat),kv=.int .i64 k∧k≤s.size∧Hid (Xg s.data.toList=k+Z5 Yc (s.data.toList.drop k))) (fun kv=>s.size - (intOf kv).toNat)
 case atStart=>exact ⟨0,rfl,Nat.zero_le _,by simp [Hid,Xg]⟩
 case round =>
  obtain ⟨m,rfl,hm,hM⟩:=hrel;by_cases hlt:m<s.size
  ·cases hnm:Yc s[m] with
   | true =>
     have HN:Hid (Xg s.data.toList=(m+1)+Z5 Yc (s.data.toList.drop (m+1))):=by rw [Hid,hM.out,Zaq _ s m hlt,hnm];simp;omega
     have h46:s[m]≠46:=fun e=>by rw [e] at hnm;exact absurd hnm (by decide)
     have h58:s[m]≠58:=fun e=>by rw [e] at hnm;exact absurd hnm (by decide)
     have n46:(((s[m]).toNat:Int) != 46)=true:=by have:=Zcc s m hlt 46;simp only [h46,decide_false] at this;exact this
     have n58:(((s[m]).toNat:Int) != 58)=true:=by have:=Zcc s m hlt 58;simp only [h58,decide_false] at this;exact this
     clear hM HRC HEX hnm h46 h58 hlen;go_wp2
     go_round
     case rel=>exact ⟨m+1,by go_num,by omega,HN⟩
     case measure=>simp [intOf];omega
   | false =>
     have hch:s[m]=46∨s[m]=58:=by
      simp only [Yc,Bool.and_eq_false_iff,Bool.not_eq_false',decide_eq_true_eq] at hnm;exact hnm
     rcases hch with hch|hch
     ·have HM:Hid (Xg s.data.toList=m):=by rw [Hid,hM.out,Zaq _ s m hlt,hnm];rfl
      have hq:rfB s.data.toList=false:=by rw [rfB,HM.out,Zx s m hlt,hch];rfl
      have n46:(((s[m]).toNat:Int) != 46)=false:=by rw [hch];rfl
      have n58:(((s[m]).toNat:Int) != 58)=true:=by rw [hch];rfl
      have e58:(((s[m]).toNat:Int) == 58)=false:=by rw [hch];rfl
      have hn40:s[m]≠40:=by rw [hch];decide
      have HQ:Hid (rfB s.data.toList=false):=hq;have HO:Hid (Xf s.data.toList=m+Z5 Z8 (s.data.toList.drop m)):=by rw [Hid,Xf,HM.out]
      clear hM hnm hq;go_wp2
      go_loop [5] (fun kv=>∃ (k:Nat),kv=.int .i64 k∧m≤k∧k≤s.size∧Hid (Xf s.data.toList=k+Z5 Z8 (s.data.toList.drop k))) (fun kv=>s.size - (intOf kv).toNat)
      case atStart=>exact ⟨m,rfl,Nat.le_refl _,hm,HO⟩
      case round =>
       obtain ⟨k,rfl,hmk,hk,hK⟩:=hrel;by_cases hlk:k<s.size
       ·by_cases h40:s[k]=40
        ·have hKo:Xf s.data.toList=k:=by rw [hK.out,Zaq _ s k hlk,show Z8 s[k]=false by rw [h40];rfl];rfl
         have hne:k≠m:=fun e=>hn40 (by subst e;exact h40);have hm1:m+1≤k:=by omega
         have q40:(((s[k]).toNat:Int) != 40)=false:=by rw [h40];rfl
         have HC:=HRC.out false (s.extract 0 m) (s.extract (m+1) k) (s.extract k s.size) (HEX.out _ _) (HEX.out _ _) (HEX.out _ _);have hrk:rckE (s.extract 0 m).data.toList (s.extract (m+1) k).data.toList (s.extract k s.size).data.toList=if rfOK s.data.toList then 0 else 1:=by
          rw [rckE,Jn,Ze4,Lib.extract_to_end,rfOK,rfC,rfN,rfD,HM.out,hKo,hlen];simp [hlk]
         rw [hrk] at HC;clear hrk HRC HEX hK hn40 h40 hlen hch
         cases hok:rfOK s.data.toList with
         | true =>
           have HR:Hid _:=Zc9 s m k false HM.out hKo hok HQ.out;rw [hok] at HC;have HC:Hid (∀ w,_):=HC;clear hok hKo HQ HM HO;go_wp2
           go_region
           go_wp2_with (go_at_call 122;refine (HC.out _).mono ?_;rintro e w1 ⟨rfl,hb1⟩;have hc0:=sqA hb1 (w.heap.size+1) 0 (.bool false);have hc1:=sqA hb1 (w.heap.size+1) 1 (.string (s.extract 0 m));have hc2:w1.cell? ⟨w.heap.size+1,2,none⟩=some (.string (s.extract (m+1) k)):=(hb1.cell (p:=⟨w.heap.size+1,2,none⟩) (by simp)).trans (by simp [go_sem, *]);have hc3:=sqA hb1 (w.heap.size+1) 3 (.string (s.extract k s.size));have hz0:w1.cell? ⟨w.heap.size,0,none⟩=some (.bool false):=(hb1.cell (p:=⟨w.heap.size,0,none⟩) (by simp;omega)).trans (by simp [go_sem, *]);have hf0:w1.frozen? ⟨w.heap.size,0,none⟩=false:=(hb1.frozen (p:=⟨w.heap.size,0,none⟩) (by simp;omega)).trans (by simp [go_sem, *]);have hz1:w1.cell? ⟨w.heap.size,1,none⟩=some (.string ⟨#[]⟩):=(hb1.cell (p:=⟨w.heap.size,1,none⟩) (by simp;omega)).trans (by simp [go_sem, *]);have hf1:w1.frozen? ⟨w.heap.size,1,none⟩=false:=(hb1.frozen (p:=⟨w.heap.size,1,none⟩) (by simp;omega)).trans (by simp [go_sem, *]);have hz2:w1.cell? ⟨w.heap.size,2,none⟩=some (.string ⟨#[]⟩):=(hb1.cell (p:=⟨w.heap.size,2,none⟩) (by simp;omega)).trans (by simp [go_sem, *]);have hf2:w1.frozen? ⟨w.heap.size,2,none⟩=false:=(hb1.frozen (p:=⟨w.heap.size,2,none⟩) (by simp;omega)).trans (by simp [go_sem, *]);have hz3:w1.cell? ⟨w.heap.size,3,none⟩=some (.string ⟨#[]⟩):=(hb1.cell (p:=⟨w.heap.size,3,none⟩) (by simp;omega)).trans (by simp [go_sem, *]);have hf3:w1.frozen? ⟨w.heap.size,3,none⟩=false:=(hb1.frozen (p:=⟨w.heap.size,3,none⟩) (by simp;omega)).trans (by simp [go_sem, *]);have hB1:Hid (Bw w w1):=Below.step ((((Below.refl _ _).alloc (Nat.le_refl _) _).alloc (by simp) _).drew) hb1;clear hb1)
           refine bodyPost_ret (v:=.tuple #[.agg #[.bool false,.string (s.extract 0 m),.string (s.extract (m+1) k),.string (s.extract k s.size)],.int .i64 0]) (by simp [results,Tryz.results97,go_sem, *]) rfl ⟨by rw [HR.out],?_⟩;exact (((hB1.out.setCell (Nat.le_refl _) _).setCell (Nat.le_refl _) _).setCell (Nat.le_refl _) _).setCell (Nat.le_refl _) _
         | false =>
           have HR:Hid _:=X3 hok;rw [hok] at HC;have HC:Hid (∀ w,_):=HC;clear hok hKo HQ HM HO;go_wp2
           go_region
           go_wp2_with (go_at_call 122;refine (HC.out _).mono ?_;rintro e w1 ⟨rfl,hb1⟩;have hz0:w1.cell? ⟨w.heap.size,0,none⟩=some (.bool false):=(hb1.cell (p:=⟨w.heap.size,0,none⟩) (by simp;omega)).trans (by simp [go_sem, *]);have hf0:w1.frozen? ⟨w.heap.size,0,none⟩=false:=(hb1.frozen (p:=⟨w.heap.size,0,none⟩) (by simp;omega)).trans (by simp [go_sem, *]);have hz1:w1.cell? ⟨w.heap.size,1,none⟩=some (.string ⟨#[]⟩):=(hb1.cell (p:=⟨w.heap.size,1,none⟩) (by simp;omega)).trans (by simp [go_sem, *]);have hf1:w1.frozen? ⟨w.heap.size,1,none⟩=false:=(hb1.frozen (p:=⟨w.heap.size,1,none⟩) (by simp;omega)).trans (by simp [go_sem, *]);have hz2:w1.cell? ⟨w.heap.size,2,none⟩=some (.string ⟨#[]⟩):=(hb1.cell (p:=⟨w.heap.size,2,none⟩) (by simp;omega)).trans (by simp [go_sem, *]);have hf2:w1.frozen? ⟨w.heap.size,2,none⟩=false:=(hb1.frozen (p:=⟨w.heap.size,2,none⟩) (by simp;omega)).trans (by simp [go_sem, *]);have hz3:w1.cell? ⟨w.heap.size,3,none⟩=some (.string ⟨#[]⟩):=(hb1.cell (p:=⟨w.heap.size,3,none⟩) (by simp;omega)).trans (by simp [go_sem, *]);have hf3:w1.frozen? ⟨w.heap.size,3,none⟩=false:=(hb1.frozen (p:=⟨w.heap.size,3,none⟩) (by simp;omega)).trans (by simp [go_sem, *]);have hB1:Hid (Bw w w1):=Below.step ((((Below.refl _ _).alloc (Nat.le_refl _) _).alloc (by simp) _).drew) hb1;clear hb1)
           refine bodyPost_ret (v:=.tuple #[.agg #[.bool false,.string ⟨#[]⟩,.string ⟨#[]⟩,.string ⟨#[]⟩],.int .i64 4]) (by simp [results,Tryz.results97,go_sem, *]) rfl ⟨by rw [HR.out],?_⟩;exact (((hB1.out.setCell (Nat.le_refl _) _).setCell (Nat.le_refl _) _).setCell (Nat.le_refl _) _).setCell (Nat.le_refl _) _
        ·have q40:(((s[k]).toNat:Int) != 40)=true:=by have:=Zcc s k hlk 40;simp only [h40,decide_false] at this;exact this
         have HN:Hid (Xf s.data.toList=(k+1)+Z5 Z8 (s.data.toList.drop (k+1))):=by rw [Hid,hK.out,Zaq _ s k hlk,show Z8 s[k]=true by simp [Z8,h40]];simp;omega
         clear hK HRC HEX HQ HM HO hn40 h40 hlen hch;go_wp2
         go_round
         case rel=>exact ⟨k+1,by go_num,by omega,by omega,HN⟩
         case measure=>simp [intOf];omega
       ·have hok:rfOK s.data.toList=false:=by
         have:Xf s.data.toList=k:=by rw [hK.out,Zcs _ s k (by omega)];omega
         rw [rfOK,this,hlen,show decide (k<s.size)=false by simpa using hlk];rfl
        have HR:Hid _:=X3 hok;clear hK HRC HEX HQ HM HO hn40 hlen hok hch;go_wp2;exact bodyPost_ret (v:=.tuple #[.agg #[.bool false,.string ⟨#[]⟩,.string ⟨#[]⟩,.string ⟨#[]⟩],.int .i64 4]) (by simp [results,Tryz.results97,go_sem, *]) rfl ⟨by rw [HR.out],(Below.refl _ _).alloc (Nat.le_refl _) _⟩
     ·have HM:Hid (Xg s.data.toList=m):=by rw [Hid,hM.out,Zaq _ s m hlt,hnm];rfl
      have hq:rfB s.data.toList=true:=by rw [rfB,HM.out,Zx s m hlt,hch];rfl
      have n46:(((s[m]).toNat:Int) != 46)=true:=by rw [hch];rfl
      have n58:(((s[m]).toNat:Int) != 58)=false:=by rw [hch];rfl
      have e58:(((s[m]).toNat:Int) == 58)=true:=by rw [hch];rfl
      have hn40:s[m]≠40:=by rw [hch];decide
      have HQ:Hid (rfB s.data.toList=true):=hq;have HO:Hid (Xf s.data.toList=m+Z5 Z8 (s.data.toList.drop m)):=by rw [Hid,Xf,HM.out]
      clear hM hnm hq;go_wp2
      go_loop [5] (fun kv=>∃ (k:Nat),kv=.int .i64 k∧m≤k∧k≤s.size∧Hid (Xf s.data.toList=k+Z5 Z8 (s.data.toList.drop k))) (fun kv=>s.size - (intOf kv).toNat)
      case atStart=>exact ⟨m,rfl,Nat.le_refl _,hm,HO⟩
      case round =>
       obtain ⟨k,rfl,hmk,hk,hK⟩:=hrel;by_cases hlk:k<s.size
       ·by_cases h40:s[k]=40
        ·have hKo:Xf s.data.toList=k:=by rw [hK.out,Zaq _ s k hlk,show Z8 s[k]=false by rw [h40];rfl];rfl
         have hne:k≠m:=fun e=>hn40 (by subst e;exact h40);have hm1:m+1≤k:=by omega
         have q40:(((s[k]).toNat:Int) != 40)=false:=by rw [h40];rfl
         have HC:=HRC.out true (s.extract 0 m) (s.extract (m+1) k) (s.extract k s.size) (HEX.out _ _) (HEX.out _ _) (HEX.out _ _);have hrk:rckE (s.extract 0 m).data.toList (s.extract (m+1) k).data.toList (s.extract k s.size).data.toList=if rfOK s.data.toList then 0 else 1:=by
          rw [rckE,Jn,Ze4,Lib.extract_to_end,rfOK,rfC,rfN,rfD,HM.out,hKo,hlen];simp [hlk]
         rw [hrk] at HC;clear hrk HRC HEX hK hn40 h40 hlen hch
         cases hok:rfOK s.data.toList with
         | true =>
           have HR:Hid _:=Zc9 s m k true HM.out hKo hok HQ.out;rw [hok] at HC;have HC:Hid (∀ w,_):=HC;clear hok hKo HQ HM HO;go_wp2
           go_region
           go_wp2_with (go_at_call 122;refine (HC.out _).mono ?_;rintro e w1 ⟨rfl,hb1⟩;have hc0:=sqA hb1 (w.heap.size+1) 0 (.bool true);have hc1:=sqA hb1 (w.heap.size+1) 1 (.string (s.extract 0 m));have hc2:w1.cell? ⟨w.heap.size+1,2,none⟩=some (.string (s.extract (m+1) k)):=(hb1.cell (p:=⟨w.heap.size+1,2,none⟩) (by simp)).trans (by simp [go_sem, *]);have hc3:=sqA hb1 (w.heap.size+1) 3 (.string (s.extract k s.size));have hz0:w1.cell? ⟨w.heap.size,0,none⟩=some (.bool false):=(hb1.cell (p:=⟨w.heap.size,0,none⟩) (by simp;omega)).trans (by simp [go_sem, *]);have hf0:w1.frozen? ⟨w.heap.size,0,none⟩=false:=(hb1.frozen (p:=⟨w.heap.size,0,none⟩) (by simp;omega)).trans (by simp [go_sem, *]);have hz1:w1.cell? ⟨w.heap.size,1,none⟩=some (.string ⟨#[]⟩):=(hb1.cell (p:=⟨w.heap.size,1,none⟩) (by simp;omega)).trans (by simp [go_sem, *]);have hf1:w1.frozen? ⟨w.heap.size,1,none⟩=false:=(hb1.frozen (p:=⟨w.heap.size,1,none⟩) (by simp;omega)).trans (by simp [go_sem, *]);have hz2:w1.cell? ⟨w.heap.size,2,none⟩=some (.string ⟨#[]⟩):=(hb1.cell (p:=⟨w.heap.size,2,none⟩) (by simp;omega)).trans (by simp [go_sem, *]);have hf2:w1.frozen? ⟨w.heap.size,2,none⟩=false:=(hb1.frozen (p:=⟨w.heap.size,2,none⟩) (by simp;omega)).trans (by simp [go_sem, *]);have hz3:w1.cell? ⟨w.heap.size,3,none⟩=some (.string ⟨#[]⟩):=(hb1.cell (p:=⟨w.heap.size,3,none⟩) (by simp;omega)).trans (by simp [go_sem, *]);have hf3:w1.frozen? ⟨w.heap.size,3,none⟩=false:=(hb1.frozen (p:=⟨w.heap.size,3,none⟩) (by simp;omega)).trans (by simp [go_sem, *]);have hB1:Hid (Bw w w1):=Below.step ((((Below.refl _ _).alloc (Nat.le_refl _) _).alloc (by simp) _).drew) hb1;clear hb1)
           refine bodyPost_ret (v:=.tuple #[.agg #[.bool true,.string (s.extract 0 m),.string (s.extract (m+1) k),.string (s.extract k s.size)],.int .i64 0]) (by simp [results,Tryz.results97,go_sem, *]) rfl ⟨by rw [HR.out],?_⟩;exact (((hB1.out.setCell (Nat.le_refl _) _).setCell (Nat.le_refl _) _).setCell (Nat.le_refl _) _).setCell (Nat.le_refl _) _
         | false =>
           have HR:Hid _:=X3 hok;rw [hok] at HC;have HC:Hid (∀ w,_):=HC;clear hok hKo HQ HM HO;go_wp2
           go_region
           go_wp2_with (go_at_call 122;refine (HC.out _).mono ?_;rintro e w1 ⟨rfl,hb1⟩;have hz0:w1.cell? ⟨w.heap.size,0,none⟩=some (.bool false):=(hb1.cell (p:=⟨w.heap.size,0,none⟩) (by simp;omega)).trans (by simp [go_sem, *]);have hf0:w1.frozen? ⟨w.heap.size,0,none⟩=false:=(hb1.frozen (p:=⟨w.heap.size,0,none⟩) (by simp;omega)).trans (by simp [go_sem, *]);have hz1:w1.cell? ⟨w.heap.size,1,none⟩=some (.string ⟨#[]⟩):=(hb1.cell (p:=⟨w.heap.size,1,none⟩) (by simp;omega)).trans (by simp [go_sem, *]);have hf1:w1.frozen? ⟨w.heap.size,1,none⟩=false:=(hb1.frozen (p:=⟨w.heap.size,1,none⟩) (by simp;omega)).trans (by simp [go_sem, *]);have hz2:w1.cell? ⟨w.heap.size,2,none⟩=some (.string ⟨#[]⟩):=(hb1.cell (p:=⟨w.heap.size,2,none⟩) (by simp;omega)).trans (by simp [go_sem, *]);have hf2:w1.frozen? ⟨w.heap.size,2,none⟩=false:=(hb1.frozen (p:=⟨w.heap.size,2,none⟩) (by simp;omega)).trans (by simp [go_sem, *]);have hz3:w1.cell? ⟨w.heap.size,3,none⟩=some (.string ⟨#[]⟩):=(hb1.cell (p:=⟨w.heap.size,3,none⟩) (by simp;omega)).trans (by simp [go_sem, *]);have hf3:w1.frozen? ⟨w.heap.size,3,none⟩=false:=(hb1.frozen (p:=⟨w.heap.size,3,none⟩) (by simp;omega)).trans (by simp [go_sem, *]);have hB1:Hid (Bw w w1):=Below.step ((((Below.refl _ _).alloc (Nat.le_refl _) _).alloc (by simp) _).drew) hb1;clear hb1)
           refine bodyPost_ret (v:=.tuple #[.agg #[.bool false,.string ⟨#[]⟩,.string ⟨#[]⟩,.string ⟨#[]⟩],.int .i64 4]) (by simp [results,Tryz.results97,go_sem, *]) rfl ⟨by rw [HR.out],?_⟩;exact (((hB1.out.setCell (Nat.le_refl _) _).setCell (Nat.le_refl _) _).setCell (Nat.le_refl _) _).setCell (Nat.le_refl _) _
        ·have q40:(((s[k]).toNat:Int) != 40)=true:=by have:=Zcc s k hlk 40;simp only [h40,decide_false] at this;exact this
         have HN:Hid (Xf s.data.toList=(k+1)+Z5 Z8 (s.data.toList.drop (k+1))):=by rw [Hid,hK.out,Zaq _ s k hlk,show Z8 s[k]=true by simp [Z8,h40]];simp;omega
         clear hK HRC HEX HQ HM HO hn40 h40 hlen hch;go_wp2
         go_round
         case rel=>exact ⟨k+1,by go_num,by omega,by omega,HN⟩
         case measure=>simp [intOf];omega
       ·have hok:rfOK s.data.toList=false:=by
         have:Xf s.data.toList=k:=by rw [hK.out,Zcs _ s k (by omega)];omega
         rw [rfOK,this,hlen,show decide (k<s.size)=false by simpa using hlk];rfl
        have HR:Hid _:=X3 hok;clear hK HRC HEX HQ HM HO hn40 hlen hok hch;go_wp2;exact bodyPost_ret (v:=.tuple #[.agg #[.bool false,.string ⟨#[]⟩,.string ⟨#[]⟩,.string ⟨#[]⟩],.int .i64 4]) (by simp [results,Tryz.results97,go_sem, *]) rfl ⟨by rw [HR.out],(Below.refl _ _).alloc (Nat.le_refl _) _⟩
  ·have hok:rfOK s.data.toList=false:=by
    have h1:Xg s.data.toList=m:=by rw [hM.out,Zcs _ s m (by omega)];omega
    have:Xf s.data.toList=m:=by rw [Xf,h1,Zcs _ s m (by omega)];omega
    rw [rfOK,this,hlen,show decide (m<s.size)=false by simpa using hlt];rfl
   have HR:Hid _:=X3 hok;clear hM HRC HEX hlen hok;go_wp2
   go_loop [5] (fun kv=>kv=.int .i64 m) (fun _=>0)
   case atStart=>rfl
   case round =>
    subst hrel;go_wp2;exact bodyPost_ret (v:=.tuple #[.agg #[.bool false,.string ⟨#[]⟩,.string ⟨#[]⟩,.string ⟨#[]⟩],.int .i64 4]) (by simp [results,Tryz.results97,go_sem, *]) rfl ⟨by rw [HR.out],(Below.refl _ _).alloc (Nat.le_refl _) _⟩
def zero7:Array Value:=#[.int .i64 0,.int .i64 0,.string ⟨#[]⟩,.bool false,.string ⟨#[]⟩,.string ⟨#[]⟩,.string ⟨#[]⟩]
def ZB (w:World) (b:Nat):Prop:=w.heap[b]?=some (.cells zero7 73 (0,0))
theorem ZB.keep {w w':World} {N b:Nat} (h:ZB w b) (hb:Below N w w') (hlt:b<N):ZB w' b:=by
 unfold ZB;rw [hb.block _ hlt];exact h
theorem ZB.facts {w:World} {b:Nat} (h:ZB w b):w.cell? ⟨b,0,none⟩=some (.int .i64 0)∧w.cell? ⟨b,1,none⟩=some (.int .i64 0)∧w.cell? ⟨b,2,none⟩=some (.string ⟨#[]⟩)∧w.cell? ⟨b,3,none⟩=some (.bool false)∧w.cell? ⟨b,4,none⟩=some (.string ⟨#[]⟩)∧w.cell? ⟨b,5,none⟩=some (.string ⟨#[]⟩)∧w.cell? ⟨b,6,none⟩=some (.string ⟨#[]⟩) ∧
 w.frozen? ⟨b,0,none⟩=false∧w.frozen? ⟨b,1,none⟩=false∧w.frozen? ⟨b,2,none⟩=false∧w.frozen? ⟨b,3,none⟩=false∧w.frozen? ⟨b,4,none⟩=false∧w.frozen? ⟨b,5,none⟩=false∧w.frozen? ⟨b,6,none⟩=false:=by
 unfold ZB at h;refine ⟨?_,?_,?_,?_,?_,?_,?_,?_,?_,?_,?_,?_,?_,?_⟩
 ·rw [cell_of_row _ b 0 _ 73 (0,0) h];rfl
 ·rw [cell_of_row _ b 1 _ 73 (0,0) h];rfl
 ·rw [cell_of_row _ b 2 _ 73 (0,0) h];rfl
 ·rw [cell_of_row _ b 3 _ 73 (0,0) h];rfl
 ·rw [cell_of_row _ b 4 _ 73 (0,0) h];rfl
 ·rw [cell_of_row _ b 5 _ 73 (0,0) h];rfl
 ·rw [cell_of_row _ b 6 _ 73 (0,0) h];rfl
 all_goals simp [World.frozen?,h]
theorem Zj {w:World} {base:Nat} {v:Value} {ps:List (List UInt8)} (h:w.ownsRow base 9 1 v ps.length (ps.map strV)) (hne:ps≠[]) :
 ∃ g cap,v=.slice (some ⟨g,0,none⟩) ps.length cap∧ps.length≤cap∧cap≤maxLen∧base≤g∧g<w.heap.size∧∀ j p,ps[j]?=some p→w.cell? ⟨g,j,none⟩=some (.string ⟨p.toArray⟩):=by
 have h':=h;rcases h.2 with ⟨rfl,h0⟩|⟨g,cap,cur,rfl,hb,hg,hn,hm,_,_⟩
 ·exact absurd (List.length_eq_zero_iff.1 h0) hne
 ·refine ⟨g,cap,rfl,hn,hm,hb,(Array.getElem?_eq_some_iff.1 hg).1,fun j p hj=>?_⟩;have hlt:j<ps.length:=(List.getElem?_eq_some_iff.1 hj).1;rw [h'.cellAt j (by omega),List.getElem?_map,hj];rfl
def Zic:Ins:=⟨0,0,⟨#[]⟩,false,⟨#[]⟩,⟨#[]⟩,⟨#[]⟩⟩
def Zv (k:Int) (o:Nat) (ps:List (List UInt8)):Option Ins :=
 if k=-1∨k=0 then (if ps.length=1 then some ⟨o,0,⟨#[]⟩,false,⟨#[]⟩,⟨#[]⟩,⟨#[]⟩⟩ else none)
 else if k=1∨k=2∨k=3 then (if ps.length=2∧(numR (ps.getD 1 [])).2=true then some ⟨o,(numR (ps.getD 1 [])).1,⟨#[]⟩,false,⟨#[]⟩,⟨#[]⟩,⟨#[]⟩⟩ else none)
 else if k=4∨k=5∨k=6 then (if ps.length=2 then some ⟨o,0,⟨(ps.getD 1 []).toArray⟩,false,⟨#[]⟩,⟨#[]⟩,⟨#[]⟩⟩ else none)
 else if k=7 then (if ps.length=3∧(numR (ps.getD 1 [])).2=true then some ⟨o,(numR (ps.getD 1 [])).1,⟨(ps.getD 2 []).toArray⟩,false,⟨#[]⟩,⟨#[]⟩,⟨#[]⟩⟩ else none)
 else (if ps.length=2∧rfOK (ps.getD 1 [])=true then some ⟨o,0,⟨#[]⟩,rfB (ps.getD 1 []),⟨(rfC (ps.getD 1 [])).toArray⟩,⟨(rfN (ps.getD 1 [])).toArray⟩,⟨(rfD (ps.getD 1 [])).toArray⟩⟩ else none)
def parI (k:Int) (o:Nat) (ps:List (List UInt8)):Option Ins:=match Zv k o ps with
 | some i=>if ickI i=0 then some i else none
 | none=>none
def outI:Option Ins→Value
 | some i=>.tuple #[insV i,.int .i64 0]
 | none=>.tuple #[insV Zic,.int .i64 4]
theorem Y3 {k:Int} {o:Nat} {ps:List (List UInt8)} (h:Zv k o ps=none):outI (parI k o ps)=.tuple #[insV Zic,.int .i64 4]:=by rw [parI,h];rfl
theorem Xr {k:Int} {o:Nat} {ps:List (List UInt8)} {i:Ins} (h:Zv k o ps=some i) (hi:ickI i≠0):outI (parI k o ps)=.tuple #[insV Zic,.int .i64 4]:=by rw [parI,h];simp only;rw [if_neg hi];rfl
theorem Xq {k:Int} {o:Nat} {ps:List (List UInt8)} {i:Ins} (h:Zv k o ps=some i) (hi:ickI i=0):outI (parI k o ps)=.tuple #[insV i,.int .i64 0]:=by rw [parI,h];simp only;rw [if_pos hi];rfl
theorem Zn6 (l:List UInt8):∀ (ws:List (List UInt8)) (i:Nat),Xh l i ws≤i+ws.length:=by
 intro ws
 induction ws with
 | nil=>intro i;simp [Xh]
 | cons x r ih =>
   intro i;rw [Xh]
   split
   ·omega
   ·have:=ih (i+1);rw [List.length_cons];omega
theorem Yr (l:List UInt8):opOf l≤41:=by
 have:=Zn6 l (wordsL.drop 1) 1;rw [List.length_drop,X9] at this;exact this
theorem Zjw (s:ByteArray) (hs:s.size≤1099511627776) (p0:List UInt8) (rest:List (List UInt8)) (hps:cutL 32 s.data.toList=p0::rest) (hk:opdI (opOf p0)=0) (hc:(p0::rest).length≠1) (w:World):Calls Tryz.prog 49 #[.string s] w fun e w'=>e=.returned (outI (parI (0) (opOf p0) (p0::rest)))∧Bw w w':=by
 have HCUT0:=Zh 32 s hs;rw [hps] at HCUT0;have HOP0:=Zz ⟨p0.toArray⟩;have HO0:=Zd (opOf p0);rw [hk] at HO0;have hob:opOf p0≤41:=Yr p0;obtain ⟨P0,hP0⟩:∃ P:ByteArray,P=⟨p0.toArray⟩:=⟨_,rfl⟩;obtain ⟨o,ho⟩:∃ o,o=opOf p0:=⟨_,rfl⟩;simp only at HOP0;rw [← ho] at HOP0 HO0 hob ⊢;rw [← hP0] at HOP0;have HO:Hid (∀ w,_):=HO0;have HOP:Hid (∀ w,_):=HOP0;clear HO0 HOP0;obtain ⟨ps,hpe⟩:∃ ps,ps=p0::rest:=⟨_,rfl⟩;have hpn:ps≠[]:=by rw [hpe];simp
 have hp0:ps[0]?=some p0:=by rw [hpe];rfl
 rw [← hpe] at HCUT0 ⊢;obtain ⟨cnt,hcnt⟩:∃ cnt,ps.length=cnt:=⟨_,rfl⟩;have hcnt0:0<cnt:=by rw [← hcnt,hpe];simp
 rw [← hpe,hcnt] at hc;have HR:Hid _:=Y3 (k:=0) (o:=o) (ps:=ps) (by rw [Zv,if_pos (by decide),if_neg (by rw [hcnt];exact hc)]);have HCUT:Hid (∀ w,Calls Tryz.prog 45 #[.string s,.int .u8 32] w fun e w'=>∃ g cap,e=.returned (.slice (some ⟨g,0,none⟩) cnt cap)∧cnt≤cap∧cap≤9223372036854775807∧w.heap.size≤g∧g<w'.heap.size∧w'.cell? ⟨g,0,none⟩=some (.string P0)∧Hid (True)∧Bw w w'):=fun w=>(HCUT0 w).mono fun e w' ⟨v,he,ho1,hb⟩=>by
  obtain ⟨g,cap,rfl,h1,h2,h3,h4,h5⟩:=Zj ho1 hpn;rw [hcnt] at he h1;unfold maxLen at h2;exact ⟨g,cap,he,h1,h2,h3,h4,by rw [hP0];exact h5 0 p0 hp0,trivial,hb⟩
 clear HCUT0 hP0 hpe;have hcn:((cnt:Int) != 1)=true:=by rw [bne_iff_ne];omega
 clear hk hps ho hpn hp0 hcnt;go_enter Tryz.func49,Tryz.ntmps49;go_wp2_with (first
  | (go_at_call 45;refine (HCUT.out _).mono ?_;rintro e w1 ⟨g,cap,rfl,hcap1,hcap2,hg0,hg1,hc0,HJ,hb1⟩;simp at hg0;have hs1:w.heap.size<w1.heap.size:=sqS hb1;have zb1:Hid (ZB w1 w.heap.size):=ZB.keep (heap_alloc_new w _) hb1 (by simp);have hB1:Hid (Bw w w1):=sqT hb1;clear hb1 HCUT)
  | (go_at_call 96;refine (HOP.out _).mono ?_;rintro e w2 ⟨rfl,hb2⟩;have hs2:w.heap.size<w2.heap.size:=(by have:=hb2.size;omega);have hg2:g<w2.heap.size:=(by have:=hb2.size;omega);have zb2:Hid (ZB w2 w.heap.size):=zb1.out.keep hb2 hs1;obtain ⟨z0,z1,z2,z3,z4,z5,z6,zf0,zf1,zf2,zf3,zf4,zf5,zf6⟩:=zb2.out.facts;have hB2:Hid (Bw w w2):=Below.step hB1.out hb2;clear hb2 HOP)
  | (go_at_call 84;refine (HO.out _).mono ?_;rintro e w9 ⟨rfl,hw9⟩;rw [hw9];clear hw9 HO))
 refine bodyPost_ret (v:=.tuple #[.agg #[.int .i64 0,.int .i64 0,.string ⟨#[]⟩,.bool false,.string ⟨#[]⟩,.string ⟨#[]⟩,.string ⟨#[]⟩],.int .i64 4]) (by simp [results,Tryz.results49,go_sem, *]) rfl ⟨by rw [HR.out];rfl,Below.alloc ?_ ?_ _⟩
 ·exact ((((((hB2.out.setCell (Nat.le_refl _) _).setCell (Nat.le_refl _) _).setCell (Nat.le_refl _) _).setCell (Nat.le_refl _) _).setCell (Nat.le_refl _) _).setCell (Nat.le_refl _) _).setCell (Nat.le_refl _) _
 ·exact (((((((hB2.out.setCell (Nat.le_refl _) _).setCell (Nat.le_refl _) _).setCell (Nat.le_refl _) _).setCell (Nat.le_refl _) _).setCell (Nat.le_refl _) _).setCell (Nat.le_refl _) _).setCell (Nat.le_refl _) _).size
theorem Zjv (s:ByteArray) (hs:s.size≤1099511627776) (p0:List UInt8) (rest:List (List UInt8)) (hps:cutL 32 s.data.toList=p0::rest) (hk:opdI (opOf p0)=0) (hc:(p0::rest).length=1) (hi:ickI ⟨opOf p0,0,⟨#[]⟩,false,⟨#[]⟩,⟨#[]⟩,⟨#[]⟩⟩=0) (w:World):Calls Tryz.prog 49 #[.string s] w fun e w'=>e=.returned (outI (parI (0) (opOf p0) (p0::rest)))∧Bw w w':=by
 have HCUT0:=Zh 32 s hs;rw [hps] at HCUT0;have HOP0:=Zz ⟨p0.toArray⟩;have HO0:=Zd (opOf p0);rw [hk] at HO0;have hob:opOf p0≤41:=Yr p0;obtain ⟨P0,hP0⟩:∃ P:ByteArray,P=⟨p0.toArray⟩:=⟨_,rfl⟩;obtain ⟨o,ho⟩:∃ o,o=opOf p0:=⟨_,rfl⟩;simp only at HOP0;rw [← ho] at HOP0 HO0 hob ⊢;rw [← hP0] at HOP0;have HO:Hid (∀ w,_):=HO0;have HOP:Hid (∀ w,_):=HOP0;clear HO0 HOP0;obtain ⟨ps,hpe⟩:∃ ps,ps=p0::rest:=⟨_,rfl⟩;have hpn:ps≠[]:=by rw [hpe];simp
 have hp0:ps[0]?=some p0:=by rw [hpe];rfl
 rw [← hpe] at HCUT0 ⊢;obtain ⟨cnt,hcnt⟩:∃ cnt,ps.length=cnt:=⟨_,rfl⟩;have hcnt0:0<cnt:=by rw [← hcnt,hpe];simp
 rw [← hpe,hcnt] at hc;rw [← ho] at hi;have hcd:Zv (0) o ps=some ⟨o,0,⟨#[]⟩,false,⟨#[]⟩,⟨#[]⟩,⟨#[]⟩⟩:=by rw [Zv,if_pos (by decide),if_pos (by rw [hcnt];exact hc)]
 have HR:Hid _:=Xq hcd hi;have HCK0:=Zw o 0 ⟨#[]⟩ false ⟨#[]⟩ ⟨#[]⟩ ⟨#[]⟩ (by decide) (by decide) (by decide) (by decide);rw [show ickE (o:Int) 0 ⟨#[]⟩ false ⟨#[]⟩ ⟨#[]⟩ ⟨#[]⟩=0 from hi] at HCK0;have HCK:Hid (∀ w,_):=HCK0;clear HCK0;have HCUT:Hid (∀ w,Calls Tryz.prog 45 #[.string s,.int .u8 32] w fun e w'=>∃ g cap,e=.returned (.slice (some ⟨g,0,none⟩) cnt cap)∧cnt≤cap∧cap≤9223372036854775807∧w.heap.size≤g∧g<w'.heap.size∧w'.cell? ⟨g,0,none⟩=some (.string P0)∧Hid (True)∧Bw w w'):=fun w=>(HCUT0 w).mono fun e w' ⟨v,he,ho1,hb⟩=>by
  obtain ⟨g,cap,rfl,h1,h2,h3,h4,h5⟩:=Zj ho1 hpn;rw [hcnt] at he h1;unfold maxLen at h2;exact ⟨g,cap,he,h1,h2,h3,h4,by rw [hP0];exact h5 0 p0 hp0,trivial,hb⟩
 clear HCUT0 hP0 hpe;have hcn:((cnt:Int) != 1)=false:=by rw [hc];rfl
 clear hk hps ho hpn hp0 hcnt hcd hi;go_enter Tryz.func49,Tryz.ntmps49;go_wp2_with (first
  | (go_at_call 45;refine (HCUT.out _).mono ?_;rintro e w1 ⟨g,cap,rfl,hcap1,hcap2,hg0,hg1,hc0,HJ,hb1⟩;simp at hg0;have hs1:w.heap.size<w1.heap.size:=sqS hb1;have zb1:Hid (ZB w1 w.heap.size):=ZB.keep (heap_alloc_new w _) hb1 (by simp);have hB1:Hid (Bw w w1):=sqT hb1;clear hb1 HCUT)
  | (go_at_call 96;refine (HOP.out _).mono ?_;rintro e w2 ⟨rfl,hb2⟩;have hs2:w.heap.size<w2.heap.size:=(by have:=hb2.size;omega);have hg2:g<w2.heap.size:=(by have:=hb2.size;omega);have zb2:Hid (ZB w2 w.heap.size):=zb1.out.keep hb2 hs1;obtain ⟨z0,z1,z2,z3,z4,z5,z6,zf0,zf1,zf2,zf3,zf4,zf5,zf6⟩:=zb2.out.facts;have hB2:Hid (Bw w w2):=Below.step hB1.out hb2;clear hb2 HOP)
  | (go_at_call 84;refine (HO.out _).mono ?_;rintro e w9 ⟨rfl,hw9⟩;rw [hw9];clear hw9 HO)
  | (go_at_call 82;refine (HCK.out _).mono ?_;rintro e w4 ⟨rfl,hb4⟩;have hi0:w4.cell? ⟨w2.heap.size,0,none⟩=some (.int .i64 (o:Int)):=(hb4.cell (p:=⟨w2.heap.size,0,none⟩) (by simp [*])).trans (by simp [go_sem, *]);have hi1:w4.cell? ⟨w2.heap.size,1,none⟩=some (.int .i64 0):=(hb4.cell (p:=⟨w2.heap.size,1,none⟩) (by simp [*])).trans (by simp [go_sem, *]);have hi2:w4.cell? ⟨w2.heap.size,2,none⟩=some (.string ⟨#[]⟩):=(hb4.cell (p:=⟨w2.heap.size,2,none⟩) (by simp [*])).trans (by simp [go_sem, *]);have hi3:w4.cell? ⟨w2.heap.size,3,none⟩=some (.bool false):=(hb4.cell (p:=⟨w2.heap.size,3,none⟩) (by simp [*])).trans (by simp [go_sem, *]);have hi4:w4.cell? ⟨w2.heap.size,4,none⟩=some (.string ⟨#[]⟩):=(hb4.cell (p:=⟨w2.heap.size,4,none⟩) (by simp [*])).trans (by simp [go_sem, *]);have hi5:w4.cell? ⟨w2.heap.size,5,none⟩=some (.string ⟨#[]⟩):=(hb4.cell (p:=⟨w2.heap.size,5,none⟩) (by simp [*])).trans (by simp [go_sem, *]);have hi6:w4.cell? ⟨w2.heap.size,6,none⟩=some (.string ⟨#[]⟩):=(hb4.cell (p:=⟨w2.heap.size,6,none⟩) (by simp [*])).trans (by simp [go_sem, *]);have zb4:Hid (ZB w4 w.heap.size):=ZB.keep (zb2.out.keep ((Below.refl _ _).alloc (Nat.le_refl _) _) hs2) hb4 (by simp [*];omega);clear z0 z1 z2 z3 z4 z5 z6 zf0 zf1 zf2 zf3 zf4 zf5 zf6;obtain ⟨y0,y1,y2,y3,y4,y5,y6,yf0,yf1,yf2,yf3,yf4,yf5,yf6⟩:=zb4.out.facts;have hB4:Hid (Bw w w4):=Below.step (hB2.out.alloc hB2.out.size _) hb4;clear hb4 HCK))
 refine bodyPost_ret (v:=.tuple #[.agg #[.int .i64 (o:Int),.int .i64 0,.string ⟨#[]⟩,.bool false,.string ⟨#[]⟩,.string ⟨#[]⟩,.string ⟨#[]⟩],.int .i64 0]) (by simp [results,Tryz.results49,go_sem, *]) rfl ⟨by rw [HR.out];rfl,?_⟩;exact ((((((hB4.out.setCell (Nat.le_refl _) _).setCell (Nat.le_refl _) _).setCell (Nat.le_refl _) _).setCell (Nat.le_refl _) _).setCell (Nat.le_refl _) _).setCell (Nat.le_refl _) _).setCell (Nat.le_refl _) _
theorem Zjx (s:ByteArray) (hs:s.size≤1099511627776) (p0:List UInt8) (rest:List (List UInt8)) (hps:cutL 32 s.data.toList=p0::rest) (hk:opdI (opOf p0)=0) (hc:(p0::rest).length=1) (hi:ickI ⟨opOf p0,0,⟨#[]⟩,false,⟨#[]⟩,⟨#[]⟩,⟨#[]⟩⟩≠0) (w:World):Calls Tryz.prog 49 #[.string s] w fun e w'=>e=.returned (outI (parI (0) (opOf p0) (p0::rest)))∧Bw w w':=by
 have HCUT0:=Zh 32 s hs;rw [hps] at HCUT0;have HOP0:=Zz ⟨p0.toArray⟩;have HO0:=Zd (opOf p0);rw [hk] at HO0;have hob:opOf p0≤41:=Yr p0;obtain ⟨P0,hP0⟩:∃ P:ByteArray,P=⟨p0.toArray⟩:=⟨_,rfl⟩;obtain ⟨o,ho⟩:∃ o,o=opOf p0:=⟨_,rfl⟩;simp only at HOP0;rw [← ho] at HOP0 HO0 hob ⊢;rw [← hP0] at HOP0;have HO:Hid (∀ w,_):=HO0;have HOP:Hid (∀ w,_):=HOP0;clear HO0 HOP0;obtain ⟨ps,hpe⟩:∃ ps,ps=p0::rest:=⟨_,rfl⟩;have hpn:ps≠[]:=by rw [hpe];simp
 have hp0:ps[0]?=some p0:=by rw [hpe];rfl
 rw [← hpe] at HCUT0 ⊢;obtain ⟨cnt,hcnt⟩:∃ cnt,ps.length=cnt:=⟨_,rfl⟩;have hcnt0:0<cnt:=by rw [← hcnt,hpe];simp
 rw [← hpe,hcnt] at hc;rw [← ho] at hi;have hcd:Zv (0) o ps=some ⟨o,0,⟨#[]⟩,false,⟨#[]⟩,⟨#[]⟩,⟨#[]⟩⟩:=by rw [Zv,if_pos (by decide),if_pos (by rw [hcnt];exact hc)]
 have HR:Hid _:=Xr hcd hi;have HCK0:=Zw o 0 ⟨#[]⟩ false ⟨#[]⟩ ⟨#[]⟩ ⟨#[]⟩ (by decide) (by decide) (by decide) (by decide);rw [show ickE (o:Int) 0 ⟨#[]⟩ false ⟨#[]⟩ ⟨#[]⟩ ⟨#[]⟩=1 from (Qs _ _ _ _ _ _ _).resolve_left hi] at HCK0;have HCK:Hid (∀ w,_):=HCK0;clear HCK0;have HCUT:Hid (∀ w,Calls Tryz.prog 45 #[.string s,.int .u8 32] w fun e w'=>∃ g cap,e=.returned (.slice (some ⟨g,0,none⟩) cnt cap)∧cnt≤cap∧cap≤9223372036854775807∧w.heap.size≤g∧g<w'.heap.size∧w'.cell? ⟨g,0,none⟩=some (.string P0)∧Hid (True)∧Bw w w'):=fun w=>(HCUT0 w).mono fun e w' ⟨v,he,ho1,hb⟩=>by
  obtain ⟨g,cap,rfl,h1,h2,h3,h4,h5⟩:=Zj ho1 hpn;rw [hcnt] at he h1;unfold maxLen at h2;exact ⟨g,cap,he,h1,h2,h3,h4,by rw [hP0];exact h5 0 p0 hp0,trivial,hb⟩
 clear HCUT0 hP0 hpe;have hcn:((cnt:Int) != 1)=false:=by rw [hc];rfl
 clear hk hps ho hpn hp0 hcnt hcd hi;go_enter Tryz.func49,Tryz.ntmps49;go_wp2_with (first
  | (go_at_call 45;refine (HCUT.out _).mono ?_;rintro e w1 ⟨g,cap,rfl,hcap1,hcap2,hg0,hg1,hc0,HJ,hb1⟩;simp at hg0;have hs1:w.heap.size<w1.heap.size:=sqS hb1;have zb1:Hid (ZB w1 w.heap.size):=ZB.keep (heap_alloc_new w _) hb1 (by simp);have hB1:Hid (Bw w w1):=sqT hb1;clear hb1 HCUT)
  | (go_at_call 96;refine (HOP.out _).mono ?_;rintro e w2 ⟨rfl,hb2⟩;have hs2:w.heap.size<w2.heap.size:=(by have:=hb2.size;omega);have hg2:g<w2.heap.size:=(by have:=hb2.size;omega);have zb2:Hid (ZB w2 w.heap.size):=zb1.out.keep hb2 hs1;obtain ⟨z0,z1,z2,z3,z4,z5,z6,zf0,zf1,zf2,zf3,zf4,zf5,zf6⟩:=zb2.out.facts;have hB2:Hid (Bw w w2):=Below.step hB1.out hb2;clear hb2 HOP)
  | (go_at_call 84;refine (HO.out _).mono ?_;rintro e w9 ⟨rfl,hw9⟩;rw [hw9];clear hw9 HO)
  | (go_at_call 82;refine (HCK.out _).mono ?_;rintro e w4 ⟨rfl,hb4⟩;have hi0:w4.cell? ⟨w2.heap.size,0,none⟩=some (.int .i64 (o:Int)):=(hb4.cell (p:=⟨w2.heap.size,0,none⟩) (by simp [*])).trans (by simp [go_sem, *]);have hi1:w4.cell? ⟨w2.heap.size,1,none⟩=some (.int .i64 0):=(hb4.cell (p:=⟨w2.heap.size,1,none⟩) (by simp [*])).trans (by simp [go_sem, *]);have hi2:w4.cell? ⟨w2.heap.size,2,none⟩=some (.string ⟨#[]⟩):=(hb4.cell (p:=⟨w2.heap.size,2,none⟩) (by simp [*])).trans (by simp [go_sem, *]);have hi3:w4.cell? ⟨w2.heap.size,3,none⟩=some (.bool false):=(hb4.cell (p:=⟨w2.heap.size,3,none⟩) (by simp [*])).trans (by simp [go_sem, *]);have hi4:w4.cell? ⟨w2.heap.size,4,none⟩=some (.string ⟨#[]⟩):=(hb4.cell (p:=⟨w2.heap.size,4,none⟩) (by simp [*])).trans (by simp [go_sem, *]);have hi5:w4.cell? ⟨w2.heap.size,5,none⟩=some (.string ⟨#[]⟩):=(hb4.cell (p:=⟨w2.heap.size,5,none⟩) (by simp [*])).trans (by simp [go_sem, *]);have hi6:w4.cell? ⟨w2.heap.size,6,none⟩=some (.string ⟨#[]⟩):=(hb4.cell (p:=⟨w2.heap.size,6,none⟩) (by simp [*])).trans (by simp [go_sem, *]);have zb4:Hid (ZB w4 w.heap.size):=ZB.keep (zb2.out.keep ((Below.refl _ _).alloc (Nat.le_refl _) _) hs2) hb4 (by simp [*];omega);clear z0 z1 z2 z3 z4 z5 z6 zf0 zf1 zf2 zf3 zf4 zf5 zf6;obtain ⟨y0,y1,y2,y3,y4,y5,y6,yf0,yf1,yf2,yf3,yf4,yf5,yf6⟩:=zb4.out.facts;have hB4:Hid (Bw w w4):=Below.step (hB2.out.alloc hB2.out.size _) hb4;clear hb4 HCK))
 refine bodyPost_ret (v:=.tuple #[.agg #[.int .i64 0,.int .i64 0,.string ⟨#[]⟩,.bool false,.string ⟨#[]⟩,.string ⟨#[]⟩,.string ⟨#[]⟩],.int .i64 4]) (by simp [results,Tryz.results49,go_sem, *]) rfl ⟨by rw [HR.out];rfl,?_⟩;exact ((((((hB4.out.setCell (Nat.le_refl _) _).setCell (Nat.le_refl _) _).setCell (Nat.le_refl _) _).setCell (Nat.le_refl _) _).setCell (Nat.le_refl _) _).setCell (Nat.le_refl _) _).setCell (Nat.le_refl _) _
theorem Zd6 (s:ByteArray) (hs:s.size≤1099511627776) (p0:List UInt8) (rest:List (List UInt8)) (hps:cutL 32 s.data.toList=p0::rest) (hk:opdI (opOf p0)=-1) (hc:(p0::rest).length≠1) (w:World):Calls Tryz.prog 49 #[.string s] w fun e w'=>e=.returned (outI (parI (-1) (opOf p0) (p0::rest)))∧Bw w w':=by
 have HCUT0:=Zh 32 s hs;rw [hps] at HCUT0;have HOP0:=Zz ⟨p0.toArray⟩;have HO0:=Zd (opOf p0);rw [hk] at HO0;have hob:opOf p0≤41:=Yr p0;obtain ⟨P0,hP0⟩:∃ P:ByteArray,P=⟨p0.toArray⟩:=⟨_,rfl⟩;obtain ⟨o,ho⟩:∃ o,o=opOf p0:=⟨_,rfl⟩;simp only at HOP0;rw [← ho] at HOP0 HO0 hob ⊢;rw [← hP0] at HOP0;have HO:Hid (∀ w,_):=HO0;have HOP:Hid (∀ w,_):=HOP0;clear HO0 HOP0;obtain ⟨ps,hpe⟩:∃ ps,ps=p0::rest:=⟨_,rfl⟩;have hpn:ps≠[]:=by rw [hpe];simp
 have hp0:ps[0]?=some p0:=by rw [hpe];rfl
 rw [← hpe] at HCUT0 ⊢;obtain ⟨cnt,hcnt⟩:∃ cnt,ps.length=cnt:=⟨_,rfl⟩;have hcnt0:0<cnt:=by rw [← hcnt,hpe];simp
 rw [← hpe,hcnt] at hc;have HR:Hid _:=Y3 (k:=-1) (o:=o) (ps:=ps) (by rw [Zv,if_pos (by decide),if_neg (by rw [hcnt];exact hc)]);have HCUT:Hid (∀ w,Calls Tryz.prog 45 #[.string s,.int .u8 32] w fun e w'=>∃ g cap,e=.returned (.slice (some ⟨g,0,none⟩) cnt cap)∧cnt≤cap∧cap≤9223372036854775807∧w.heap.size≤g∧g<w'.heap.size∧w'.cell? ⟨g,0,none⟩=some (.string P0)∧Hid (True)∧Bw w w'):=fun w=>(HCUT0 w).mono fun e w' ⟨v,he,ho1,hb⟩=>by
  obtain ⟨g,cap,rfl,h1,h2,h3,h4,h5⟩:=Zj ho1 hpn;rw [hcnt] at he h1;unfold maxLen at h2;exact ⟨g,cap,he,h1,h2,h3,h4,by rw [hP0];exact h5 0 p0 hp0,trivial,hb⟩
 clear HCUT0 hP0 hpe;have hcn:((cnt:Int) != 1)=true:=by rw [bne_iff_ne];omega
 clear hk hps ho hpn hp0 hcnt;go_enter Tryz.func49,Tryz.ntmps49;go_wp2_with (first
  | (go_at_call 45;refine (HCUT.out _).mono ?_;rintro e w1 ⟨g,cap,rfl,hcap1,hcap2,hg0,hg1,hc0,HJ,hb1⟩;simp at hg0;have hs1:w.heap.size<w1.heap.size:=sqS hb1;have zb1:Hid (ZB w1 w.heap.size):=ZB.keep (heap_alloc_new w _) hb1 (by simp);have hB1:Hid (Bw w w1):=sqT hb1;clear hb1 HCUT)
  | (go_at_call 96;refine (HOP.out _).mono ?_;rintro e w2 ⟨rfl,hb2⟩;have hs2:w.heap.size<w2.heap.size:=(by have:=hb2.size;omega);have hg2:g<w2.heap.size:=(by have:=hb2.size;omega);have zb2:Hid (ZB w2 w.heap.size):=zb1.out.keep hb2 hs1;obtain ⟨z0,z1,z2,z3,z4,z5,z6,zf0,zf1,zf2,zf3,zf4,zf5,zf6⟩:=zb2.out.facts;have hB2:Hid (Bw w w2):=Below.step hB1.out hb2;clear hb2 HOP)
  | (go_at_call 84;refine (HO.out _).mono ?_;rintro e w9 ⟨rfl,hw9⟩;rw [hw9];clear hw9 HO))
 refine bodyPost_ret (v:=.tuple #[.agg #[.int .i64 0,.int .i64 0,.string ⟨#[]⟩,.bool false,.string ⟨#[]⟩,.string ⟨#[]⟩,.string ⟨#[]⟩],.int .i64 4]) (by simp [results,Tryz.results49,go_sem, *]) rfl ⟨by rw [HR.out];rfl,Below.alloc ?_ ?_ _⟩
 ·exact ((((((hB2.out.setCell (Nat.le_refl _) _).setCell (Nat.le_refl _) _).setCell (Nat.le_refl _) _).setCell (Nat.le_refl _) _).setCell (Nat.le_refl _) _).setCell (Nat.le_refl _) _).setCell (Nat.le_refl _) _
 ·exact (((((((hB2.out.setCell (Nat.le_refl _) _).setCell (Nat.le_refl _) _).setCell (Nat.le_refl _) _).setCell (Nat.le_refl _) _).setCell (Nat.le_refl _) _).setCell (Nat.le_refl _) _).setCell (Nat.le_refl _) _).size
theorem Zd5 (s:ByteArray) (hs:s.size≤1099511627776) (p0:List UInt8) (rest:List (List UInt8)) (hps:cutL 32 s.data.toList=p0::rest) (hk:opdI (opOf p0)=-1) (hc:(p0::rest).length=1) (hi:ickI ⟨opOf p0,0,⟨#[]⟩,false,⟨#[]⟩,⟨#[]⟩,⟨#[]⟩⟩=0) (w:World):Calls Tryz.prog 49 #[.string s] w fun e w'=>e=.returned (outI (parI (-1) (opOf p0) (p0::rest)))∧Bw w w':=by
 have HCUT0:=Zh 32 s hs;rw [hps] at HCUT0;have HOP0:=Zz ⟨p0.toArray⟩;have HO0:=Zd (opOf p0);rw [hk] at HO0;have hob:opOf p0≤41:=Yr p0;obtain ⟨P0,hP0⟩:∃ P:ByteArray,P=⟨p0.toArray⟩:=⟨_,rfl⟩;obtain ⟨o,ho⟩:∃ o,o=opOf p0:=⟨_,rfl⟩;simp only at HOP0;rw [← ho] at HOP0 HO0 hob ⊢;rw [← hP0] at HOP0;have HO:Hid (∀ w,_):=HO0;have HOP:Hid (∀ w,_):=HOP0;clear HO0 HOP0;obtain ⟨ps,hpe⟩:∃ ps,ps=p0::rest:=⟨_,rfl⟩;have hpn:ps≠[]:=by rw [hpe];simp
 have hp0:ps[0]?=some p0:=by rw [hpe];rfl
 rw [← hpe] at HCUT0 ⊢;obtain ⟨cnt,hcnt⟩:∃ cnt,ps.length=cnt:=⟨_,rfl⟩;have hcnt0:0<cnt:=by rw [← hcnt,hpe];simp
 rw [← hpe,hcnt] at hc;rw [← ho] at hi;have hcd:Zv (-1) o ps=some ⟨o,0,⟨#[]⟩,false,⟨#[]⟩,⟨#[]⟩,⟨#[]⟩⟩:=by rw [Zv,if_pos (by decide),if_pos (by rw [hcnt];exact hc)]
 have HR:Hid _:=Xq hcd hi;have HCK0:=Zw o 0 ⟨#[]⟩ false ⟨#[]⟩ ⟨#[]⟩ ⟨#[]⟩ (by decide) (by decide) (by decide) (by decide);rw [show ickE (o:Int) 0 ⟨#[]⟩ false ⟨#[]⟩ ⟨#[]⟩ ⟨#[]⟩=0 from hi] at HCK0;have HCK:Hid (∀ w,_):=HCK0;clear HCK0;have HCUT:Hid (∀ w,Calls Tryz.prog 45 #[.string s,.int .u8 32] w fun e w'=>∃ g cap,e=.returned (.slice (some ⟨g,0,none⟩) cnt cap)∧cnt≤cap∧cap≤9223372036854775807∧w.heap.size≤g∧g<w'.heap.size∧w'.cell? ⟨g,0,none⟩=some (.string P0)∧Hid (True)∧Bw w w'):=fun w=>(HCUT0 w).mono fun e w' ⟨v,he,ho1,hb⟩=>by
  obtain ⟨g,cap,rfl,h1,h2,h3,h4,h5⟩:=Zj ho1 hpn;rw [hcnt] at he h1;unfold maxLen at h2;exact ⟨g,cap,he,h1,h2,h3,h4,by rw [hP0];exact h5 0 p0 hp0,trivial,hb⟩
 clear HCUT0 hP0 hpe;have hcn:((cnt:Int) != 1)=false:=by rw [hc];rfl
 clear hk hps ho hpn hp0 hcnt hcd hi;go_enter Tryz.func49,Tryz.ntmps49;go_wp2_with (first
  | (go_at_call 45;refine (HCUT.out _).mono ?_;rintro e w1 ⟨g,cap,rfl,hcap1,hcap2,hg0,hg1,hc0,HJ,hb1⟩;simp at hg0;have hs1:w.heap.size<w1.heap.size:=sqS hb1;have zb1:Hid (ZB w1 w.heap.size):=ZB.keep (heap_alloc_new w _) hb1 (by simp);have hB1:Hid (Bw w w1):=sqT hb1;clear hb1 HCUT)
  | (go_at_call 96;refine (HOP.out _).mono ?_;rintro e w2 ⟨rfl,hb2⟩;have hs2:w.heap.size<w2.heap.size:=(by have:=hb2.size;omega);have hg2:g<w2.heap.size:=(by have:=hb2.size;omega);have zb2:Hid (ZB w2 w.heap.size):=zb1.out.keep hb2 hs1;obtain ⟨z0,z1,z2,z3,z4,z5,z6,zf0,zf1,zf2,zf3,zf4,zf5,zf6⟩:=zb2.out.facts;have hB2:Hid (Bw w w2):=Below.step hB1.out hb2;clear hb2 HOP)
  | (go_at_call 84;refine (HO.out _).mono ?_;rintro e w9 ⟨rfl,hw9⟩;rw [hw9];clear hw9 HO)
  | (go_at_call 82;refine (HCK.out _).mono ?_;rintro e w4 ⟨rfl,hb4⟩;have hi0:w4.cell? ⟨w2.heap.size,0,none⟩=some (.int .i64 (o:Int)):=(hb4.cell (p:=⟨w2.heap.size,0,none⟩) (by simp [*])).trans (by simp [go_sem, *]);have hi1:w4.cell? ⟨w2.heap.size,1,none⟩=some (.int .i64 0):=(hb4.cell (p:=⟨w2.heap.size,1,none⟩) (by simp [*])).trans (by simp [go_sem, *]);have hi2:w4.cell? ⟨w2.heap.size,2,none⟩=some (.string ⟨#[]⟩):=(hb4.cell (p:=⟨w2.heap.size,2,none⟩) (by simp [*])).trans (by simp [go_sem, *]);have hi3:w4.cell? ⟨w2.heap.size,3,none⟩=some (.bool false):=(hb4.cell (p:=⟨w2.heap.size,3,none⟩) (by simp [*])).trans (by simp [go_sem, *]);have hi4:w4.cell? ⟨w2.heap.size,4,none⟩=some (.string ⟨#[]⟩):=(hb4.cell (p:=⟨w2.heap.size,4,none⟩) (by simp [*])).trans (by simp [go_sem, *]);have hi5:w4.cell? ⟨w2.heap.size,5,none⟩=some (.string ⟨#[]⟩):=(hb4.cell (p:=⟨w2.heap.size,5,none⟩) (by simp [*])).trans (by simp [go_sem, *]);have hi6:w4.cell? ⟨w2.heap.size,6,none⟩=some (.string ⟨#[]⟩):=(hb4.cell (p:=⟨w2.heap.size,6,none⟩) (by simp [*])).trans (by simp [go_sem, *]);have zb4:Hid (ZB w4 w.heap.size):=ZB.keep (zb2.out.keep ((Below.refl _ _).alloc (Nat.le_refl _) _) hs2) hb4 (by simp [*];omega);clear z0 z1 z2 z3 z4 z5 z6 zf0 zf1 zf2 zf3 zf4 zf5 zf6;obtain ⟨y0,y1,y2,y3,y4,y5,y6,yf0,yf1,yf2,yf3,yf4,yf5,yf6⟩:=zb4.out.facts;have hB4:Hid (Bw w w4):=Below.step (hB2.out.alloc hB2.out.size _) hb4;clear hb4 HCK))
 refine bodyPost_ret (v:=.tuple #[.agg #[.int .i64 (o:Int),.int .i64 0,.string ⟨#[]⟩,.bool false,.string ⟨#[]⟩,.string ⟨#[]⟩,.string ⟨#[]⟩],.int .i64 0]) (by simp [results,Tryz.results49,go_sem, *]) rfl ⟨by rw [HR.out];rfl,?_⟩;exact ((((((hB4.out.setCell (Nat.le_refl _) _).setCell (Nat.le_refl _) _).setCell (Nat.le_refl _) _).setCell (Nat.le_refl _) _).setCell (Nat.le_refl _) _).setCell (Nat.le_refl _) _).setCell (Nat.le_refl _) _
theorem Zd7 (s:ByteArray) (hs:s.size≤1099511627776) (p0:List UInt8) (rest:List (List UInt8)) (hps:cutL 32 s.data.toList=p0::rest) (hk:opdI (opOf p0)=-1) (hc:(p0::rest).length=1) (hi:ickI ⟨opOf p0,0,⟨#[]⟩,false,⟨#[]⟩,⟨#[]⟩,⟨#[]⟩⟩≠0) (w:World):Calls Tryz.prog 49 #[.string s] w fun e w'=>e=.returned (outI (parI (-1) (opOf p0) (p0::rest)))∧Bw w w':=by
 have HCUT0:=Zh 32 s hs;rw [hps] at HCUT0;have HOP0:=Zz ⟨p0.toArray⟩;have HO0:=Zd (opOf p0);rw [hk] at HO0;have hob:opOf p0≤41:=Yr p0;obtain ⟨P0,hP0⟩:∃ P:ByteArray,P=⟨p0.toArray⟩:=⟨_,rfl⟩;obtain ⟨o,ho⟩:∃ o,o=opOf p0:=⟨_,rfl⟩;simp only at HOP0;rw [← ho] at HOP0 HO0 hob ⊢;rw [← hP0] at HOP0;have HO:Hid (∀ w,_):=HO0;have HOP:Hid (∀ w,_):=HOP0;clear HO0 HOP0;obtain ⟨ps,hpe⟩:∃ ps,ps=p0::rest:=⟨_,rfl⟩;have hpn:ps≠[]:=by rw [hpe];simp
 have hp0:ps[0]?=some p0:=by rw [hpe];rfl
 rw [← hpe] at HCUT0 ⊢;obtain ⟨cnt,hcnt⟩:∃ cnt,ps.length=cnt:=⟨_,rfl⟩;have hcnt0:0<cnt:=by rw [← hcnt,hpe];simp
 rw [← hpe,hcnt] at hc;rw [← ho] at hi;have hcd:Zv (-1) o ps=some ⟨o,0,⟨#[]⟩,false,⟨#[]⟩,⟨#[]⟩,⟨#[]⟩⟩:=by rw [Zv,if_pos (by decide),if_pos (by rw [hcnt];exact hc)]
 have HR:Hid _:=Xr hcd hi;have HCK0:=Zw o 0 ⟨#[]⟩ false ⟨#[]⟩ ⟨#[]⟩ ⟨#[]⟩ (by decide) (by decide) (by decide) (by decide);rw [show ickE (o:Int) 0 ⟨#[]⟩ false ⟨#[]⟩ ⟨#[]⟩ ⟨#[]⟩=1 from (Qs _ _ _ _ _ _ _).resolve_left hi] at HCK0;have HCK:Hid (∀ w,_):=HCK0;clear HCK0;have HCUT:Hid (∀ w,Calls Tryz.prog 45 #[.string s,.int .u8 32] w fun e w'=>∃ g cap,e=.returned (.slice (some ⟨g,0,none⟩) cnt cap)∧cnt≤cap∧cap≤9223372036854775807∧w.heap.size≤g∧g<w'.heap.size∧w'.cell? ⟨g,0,none⟩=some (.string P0)∧Hid (True)∧Bw w w'):=fun w=>(HCUT0 w).mono fun e w' ⟨v,he,ho1,hb⟩=>by
  obtain ⟨g,cap,rfl,h1,h2,h3,h4,h5⟩:=Zj ho1 hpn;rw [hcnt] at he h1;unfold maxLen at h2;exact ⟨g,cap,he,h1,h2,h3,h4,by rw [hP0];exact h5 0 p0 hp0,trivial,hb⟩
 clear HCUT0 hP0 hpe;have hcn:((cnt:Int) != 1)=false:=by rw [hc];rfl
 clear hk hps ho hpn hp0 hcnt hcd hi;go_enter Tryz.func49,Tryz.ntmps49;go_wp2_with (first
  | (go_at_call 45;refine (HCUT.out _).mono ?_;rintro e w1 ⟨g,cap,rfl,hcap1,hcap2,hg0,hg1,hc0,HJ,hb1⟩;simp at hg0;have hs1:w.heap.size<w1.heap.size:=sqS hb1;have zb1:Hid (ZB w1 w.heap.size):=ZB.keep (heap_alloc_new w _) hb1 (by simp);have hB1:Hid (Bw w w1):=sqT hb1;clear hb1 HCUT)
  | (go_at_call 96;refine (HOP.out _).mono ?_;rintro e w2 ⟨rfl,hb2⟩;have hs2:w.heap.size<w2.heap.size:=(by have:=hb2.size;omega);have hg2:g<w2.heap.size:=(by have:=hb2.size;omega);have zb2:Hid (ZB w2 w.heap.size):=zb1.out.keep hb2 hs1;obtain ⟨z0,z1,z2,z3,z4,z5,z6,zf0,zf1,zf2,zf3,zf4,zf5,zf6⟩:=zb2.out.facts;have hB2:Hid (Bw w w2):=Below.step hB1.out hb2;clear hb2 HOP)
  | (go_at_call 84;refine (HO.out _).mono ?_;rintro e w9 ⟨rfl,hw9⟩;rw [hw9];clear hw9 HO)
  | (go_at_call 82;refine (HCK.out _).mono ?_;rintro e w4 ⟨rfl,hb4⟩;have hi0:w4.cell? ⟨w2.heap.size,0,none⟩=some (.int .i64 (o:Int)):=(hb4.cell (p:=⟨w2.heap.size,0,none⟩) (by simp [*])).trans (by simp [go_sem, *]);have hi1:w4.cell? ⟨w2.heap.size,1,none⟩=some (.int .i64 0):=(hb4.cell (p:=⟨w2.heap.size,1,none⟩) (by simp [*])).trans (by simp [go_sem, *]);have hi2:w4.cell? ⟨w2.heap.size,2,none⟩=some (.string ⟨#[]⟩):=(hb4.cell (p:=⟨w2.heap.size,2,none⟩) (by simp [*])).trans (by simp [go_sem, *]);have hi3:w4.cell? ⟨w2.heap.size,3,none⟩=some (.bool false):=(hb4.cell (p:=⟨w2.heap.size,3,none⟩) (by simp [*])).trans (by simp [go_sem, *]);have hi4:w4.cell? ⟨w2.heap.size,4,none⟩=some (.string ⟨#[]⟩):=(hb4.cell (p:=⟨w2.heap.size,4,none⟩) (by simp [*])).trans (by simp [go_sem, *]);have hi5:w4.cell? ⟨w2.heap.size,5,none⟩=some (.string ⟨#[]⟩):=(hb4.cell (p:=⟨w2.heap.size,5,none⟩) (by simp [*])).trans (by simp [go_sem, *]);have hi6:w4.cell? ⟨w2.heap.size,6,none⟩=some (.string ⟨#[]⟩):=(hb4.cell (p:=⟨w2.heap.size,6,none⟩) (by simp [*])).trans (by simp [go_sem, *]);have zb4:Hid (ZB w4 w.heap.size):=ZB.keep (zb2.out.keep ((Below.refl _ _).alloc (Nat.le_refl _) _) hs2) hb4 (by simp [*];omega);clear z0 z1 z2 z3 z4 z5 z6 zf0 zf1 zf2 zf3 zf4 zf5 zf6;obtain ⟨y0,y1,y2,y3,y4,y5,y6,yf0,yf1,yf2,yf3,yf4,yf5,yf6⟩:=zb4.out.facts;have hB4:Hid (Bw w w4):=Below.step (hB2.out.alloc hB2.out.size _) hb4;clear hb4 HCK))
 refine bodyPost_ret (v:=.tuple #[.agg #[.int .i64 0,.int .i64 0,.string ⟨#[]⟩,.bool false,.string ⟨#[]⟩,.string ⟨#[]⟩,.string ⟨#[]⟩],.int .i64 4]) (by simp [results,Tryz.results49,go_sem, *]) rfl ⟨by rw [HR.out];rfl,?_⟩;exact ((((((hB4.out.setCell (Nat.le_refl _) _).setCell (Nat.le_refl _) _).setCell (Nat.le_refl _) _).setCell (Nat.le_refl _) _).setCell (Nat.le_refl _) _).setCell (Nat.le_refl _) _).setCell (Nat.le_refl _) _
end Go.Proofs.YtfbhjfpkhofifaaGreatDoor
