import Derived.Test.YtfbhjfpkhofifaaGreatDoorRows
import Derived.Test.YtfbhjfpkhofifaaGreatDoorFlagsRead
import Derived.WalkSpells
import Derived.WalkLawsBesides
import Derived.Lib.Walk
import Derived.Test.YtfbhjfpkhofifaaGreatDoorSq
set_option maxHeartbeats 16000000
namespace Go.Proofs.YtfbhjfpkhofifaaGreatDoor
open Go.RowKit
theorem Zbk {a b:Bool} (h:a=b):Ending.returned (.bool a)=.returned (.bool b):=by rw [h]
theorem Ze {k:IntKind} {a b:Int} (h:a=b):Ending.returned (.int k a)=.returned (.int k b):=by rw [h]
theorem Ze3 {a b:ByteArray} (h:a.data.toList=b.data.toList):a=b:=by
 obtain ⟨⟨x⟩⟩:=a;obtain ⟨⟨y⟩⟩:=b;simp at h;rw [h]
theorem Zlb (b:List UInt8):(⟨b.toArray⟩:ByteArray).size=b.length:=by show b.toArray.size=_;simp
theorem Below.fstep {w w1 w2:World} (h1:Bw w w1) (h2:Bw w1 w2):Bw w w2:=h1.trans (h2.mono h1.size)
def IsRow (w:World) (v:Value) (xs:List Value):Prop :=
 ∃ bk o cap,v=.slice (some ⟨bk,o,none⟩) xs.length cap∧xs.length≤cap∧cap≤maxLen∧bk<w.heap.size∧∀ k x,xs[k]?=some x→w.cell? ⟨bk,o+k,none⟩=some x
theorem IsRow.keep {w w':World} {v:Value} {xs:List Value} (h:IsRow w v xs) (hb:Bw w w'):IsRow w' v xs:=by
 obtain ⟨bk,o,cap,rfl,h1,h2,h3,h4⟩:=h;exact ⟨bk,o,cap,rfl,h1,h2,Nat.lt_of_lt_of_le h3 hb.size,fun k x hk=>(hb.cell h3).trans (h4 k x hk)⟩
theorem Zfr (w:World) (xs:Array Value) (t:TypeId) (hl:xs.size≤maxLen):IsRow (w.alloc (.cells xs t)) (.slice (some ⟨w.heap.size,0,none⟩) xs.size xs.size) xs.toList:=by
 refine ⟨w.heap.size,0,xs.size,by simp,by simp,hl,by simp,fun k x hk=>?_⟩;rw [Nat.zero_add,cell_of_row _ w.heap.size k _ t (0,0) (heap_alloc_new w _)]
 simpa using hk
theorem Zb9 (f x:Int) (w:World):Calls Tryz.prog 29 #[.int .i64 f,.int .i64 x] w fun e w'=>e=.returned (.bool (hasI f x))∧w'=w:=by
 go_enter Tryz.func29,Tryz.ntmps29;go_wp2;go_ret
 exact ⟨Zbk rfl,rfl⟩
def intV (x:Int):Value:=.int .i64 x
def txtV (l:List UInt8):Value:=.string ⟨l.toArray⟩
theorem Zal (w:World):Calls Tryz.prog 61 #[] w fun e w'=>(∃ v,e=.returned v∧IsRow w' v ((flagsOf clsP).map intV))∧Bw w w':=by
 go_enter Tryz.func61,Tryz.ntmps61;go_wp2;go_ret
 exact ⟨⟨_,rfl,Zfr w #[.int .i64 1,.int .i64 16,.int .i64 32,.int .i64 512,.int .i64 1024] 3 (by unfold maxLen;decide)⟩,(Below.refl _ _).alloc (Nat.le_refl _) _⟩
theorem J5 (w:World):Calls Tryz.prog 80 #[] w fun e w'=>(∃ v,e=.returned v∧IsRow w' v ((flagsOf mthP).map intV))∧Bw w w':=by
 go_enter Tryz.func80,Tryz.ntmps80;go_wp2;go_ret
 exact ⟨⟨_,rfl,Zfr w #[.int .i64 1,.int .i64 2,.int .i64 4,.int .i64 8,.int .i64 16,.int .i64 1024] 3 (by unfold maxLen;decide)⟩,(Below.refl _ _).alloc (Nat.le_refl _) _⟩
theorem Zed (w:World):Calls Tryz.prog 79 #[] w fun e w'=>(∃ v,e=.returned v∧IsRow w' v (clsP.map (fun p=>txtV p.2)))∧Bw w w':=by
 go_enter Tryz.func79,Tryz.ntmps79;go_wp2;go_ret
 exact ⟨⟨_,rfl,Zfr w #[.string ⟨#[112,117,98,108,105,99]⟩,.string ⟨#[102,105,110,97,108]⟩,.string ⟨#[115,117,112,101,114]⟩,.string ⟨#[105,110,116,101,114,102,97,99,101]⟩,.string ⟨#[97,98,115,116,114,97,99,116]⟩] 9 (by unfold maxLen;decide)⟩,(Below.refl _ _).alloc (Nat.le_refl _) _⟩
theorem Zdm (w:World):Calls Tryz.prog 81 #[] w fun e w'=>(∃ v,e=.returned v∧IsRow w' v (mthP.map (fun p=>txtV p.2)))∧Bw w w':=by
 go_enter Tryz.func81,Tryz.ntmps81;go_wp2;go_ret
 exact ⟨⟨_,rfl,Zfr w #[.string ⟨#[112,117,98,108,105,99]⟩,.string ⟨#[112,114,105,118,97,116,101]⟩,.string ⟨#[112,114,111,116,101,99,116,101,100]⟩,.string ⟨#[115,116,97,116,105,99]⟩,.string ⟨#[102,105,110,97,108]⟩,.string ⟨#[97,98,115,116,114,97,99,116]⟩] 9 (by unfold maxLen;decide)⟩,(Below.refl _ _).alloc (Nat.le_refl _) _⟩
theorem Zhh (f:Int) (a b:List Int):Yl f (a++b)=Yl f a+Yl f b:=by
 induction a with
 | nil=>simp [Yl]
 | cons x a ih=>simp only [List.cons_append,Yl,ih];omega
theorem Zb6 (f:Int) (fl:List Int) (i:Nat) (x:Int) (h:fl[i]?=some x):Yl f (fl.take (i+1))=Yl f (fl.take i)+(if hasI f x then x else 0):=by
 have hlt:i<fl.length:=(List.getElem?_eq_some_iff.1 h).1;rw [List.take_succ_eq_append_getElem hlt,Zhh];rw [List.getElem?_eq_getElem hlt] at h;rw [Option.some.inj h];simp [Yl]
theorem Zcg (f:Int) (fl:List Int) (hb:∀ x∈fl,0≤x∧x≤2048):0≤Yl f fl∧Yl f fl≤2048 * fl.length:=by
 induction fl with
 | nil=>simp [Yl]
 | cons x l ih =>
   obtain ⟨h1,h2⟩:=ih (fun y hy=>hb y (List.mem_cons_of_mem _ hy));have:=hb x (List.mem_cons_self ..);simp only [Yl,List.length_cons]
   split <;> omega
theorem Zhi (f:Int) (fl:List Int) (hb:∀ x∈fl,0≤x∧x≤2048) (hl:fl.length≤100) (v:Value) (w:World) (h:IsRow w v (fl.map intV)) :
 Calls Tryz.prog 60 #[.int .i64 f,v] w fun e w'=>e=.returned (.int .i64 (Yl f fl))∧w'=w:=by
 obtain ⟨bk,o,cap,rfl,h1,h2,h3,h4⟩:=h;rw [List.length_map] at *;unfold maxLen at h2;have HC:Hid _:=h4;have HB:Hid _:=hb;have HH:Hid (∀ (x:Int) (w:World),_):=Zb9 f;clear h4 hb;go_enter Tryz.func60,Tryz.ntmps60;go_wp2
 go_loop [5,6] (fun nv iv=>∃ (i:Nat) (n:Int),nv=.int .i64 n∧iv=.int .i64 i∧i≤fl.length∧0≤n∧n≤204800∧Hid (n=Yl f (fl.take i))) (fun _ iv=>fl.length - (intOf iv).toNat)
 case atStart=>exact ⟨0,0,rfl,rfl,Nat.zero_le _,by omega,by omega,rfl⟩
 case round =>
  obtain ⟨i,n,rfl,rfl,hi,hn0,hn1,hN⟩:=hrel;by_cases hlt:i<fl.length
  ·obtain ⟨x,hx⟩:∃ x,fl[i]?=some x:=⟨_,List.getElem?_eq_getElem hlt⟩;have c0:w.cell? ⟨bk,o+i,none⟩=some (.int .i64 x):=HC.out i (intV x) (by rw [List.getElem?_map,hx];rfl);obtain ⟨x0,x1⟩:=HB.out x (List.mem_of_getElem? hx);have HX:Hid (∀ w,_):=HH.out x;have hbn:=Zcg f (fl.take (i+1)) (fun y hy=>HB.out y (List.mem_of_mem_take hy));rw [Zb6 f fl i x hx,← hN.out] at hbn;have hlen:(fl.take (i+1)).length≤100:=by rw [List.length_take];omega
   cases hh:hasI f x with
   | true =>
     rw [hh] at HX hbn;have hb2:n+x≤204800:=by simp at hbn;omega
     have HN:Hid (n+x=Yl f (fl.take (i+1))):=by rw [Hid,Zb6 f fl i x hx,hh,hN.out];rfl
     clear hh hx HC HB HH hbn hlen hN;go_wp2_with (go_at_call 29;refine (HX.out _).mono ?_;rintro e w1 ⟨rfl,rfl⟩)
     go_round
     case rel=>exact ⟨i+1,n+x,by go_num,by go_num,by omega,by omega,hb2,HN⟩
     case measure=>simp [intOf];omega
   | false =>
     rw [hh] at HX;have HN:Hid (n=Yl f (fl.take (i+1))):=by rw [Hid,Zb6 f fl i x hx,hh,hN.out];simp
     clear hh hx HC HB HH hbn hlen hN;go_wp2_with (go_at_call 29;refine (HX.out _).mono ?_;rintro e w1 ⟨rfl,rfl⟩)
     go_round
     case rel=>exact ⟨i+1,n,rfl,by go_num,by omega,hn0,hn1,HN⟩
     case measure=>simp [intOf];omega
  ·have HN:Hid (n=Yl f fl):=by rw [Hid,hN.out,List.take_of_length_le (by omega)]
   clear HC HB HH hN;go_wp2;go_ret
   exact ⟨Ze HN.out,rfl⟩
def chkC (f:Int):Int:=if !Y4 f clsP then 1 else if hasI f 512&&(!hasI f 1024||hasI f 16||hasI f 32) then 1 else if hasI f 16&&hasI f 1024 then 1 else 0
def visN (f:Int):Nat:=(if hasI f 1 then 1 else 0)+(if hasI f 2 then 1 else 0)+(if hasI f 4 then 1 else 0)
def chkM (f:Int) (iface ini:Bool):Int:=if !Y4 f mthP then 1 else if decide (1<visN f) then 1 else if hasI f 1024&&(hasI f 2||hasI f 8||hasI f 16) then 1
 else if iface&&(hasI f 4||hasI f 16||decide (visN f=0)||ini) then 1 else if ini&&(hasI f 8||hasI f 16||hasI f 1024) then 1 else 0
theorem Zc5:∀ x∈flagsOf clsP,0≤x∧x≤2048:=by decide
theorem Zc4:∀ x∈flagsOf mthP,0≤x∧x≤2048:=by decide
theorem Zdg (f:Int) (w:World):Calls Tryz.prog 27 #[.int .i64 f] w fun e w'=>e=.returned (.int .i64 (chkC f))∧Bw w w':=by
 have HL:Hid (∀ w,_):=Zal;have HK:Hid (∀ (v:Value) (w:World),IsRow w v ((flagsOf clsP).map intV)→_):=fun v w=>Zhi f (flagsOf clsP) Zc5 (by decide) v w;have HH:Hid (∀ (x:Int) (w:World),_):=Zb9 f;have HC:Hid (chkC f=if !Y4 f clsP then 1 else if hasI f 512&&(!hasI f 1024||hasI f 16||hasI f 32) then 1 else if hasI f 16&&hasI f 1024 then 1 else 0):=rfl;have hon:(Yl f (flagsOf clsP) != f)=!Y4 f clsP:=by unfold Y4;rw [Bool.eq_iff_iff];simp
 generalize chkC f=r at *
 cases ho:Y4 f clsP with
 | false =>
   have HR:Hid (r=1):=by rw [Hid,HC.out,ho];rfl
   rw [ho] at hon;go_enter Tryz.func27,Tryz.ntmps27;go_wp2_with (first
    | (go_at_call 61;refine (HL.out _).mono ?_;rintro e w1 ⟨⟨v,rfl,hv⟩,hb1⟩)
    | (go_at_call 60;refine (HK.out _ _ hv).mono ?_;rintro e w2 ⟨rfl,rfl⟩))
   go_ret
   exact ⟨Ze HR.out.symm,hb1⟩
 | true =>
   rw [ho] at hon HC;clear ho
   cases h512:hasI f 512 with
   | true =>
     cases h1024:hasI f 1024 with
     | true =>
       cases h16:hasI f 16 with
       | true =>
         go_enter Tryz.func27,Tryz.ntmps27;go_wp2_with (first
          | (go_at_call 61;refine (HL.out _).mono ?_;rintro e w1 ⟨⟨v,rfl,hv⟩,hb1⟩)
          | (go_at_call 60;refine (HK.out _ _ hv).mono ?_;rintro e w2 ⟨rfl,rfl⟩)
          | (go_at_call 29;refine (HH.out _ _).mono ?_;rintro e w3 ⟨rfl,rfl⟩;first|rw [h512]|rw [h1024]|rw [h16]))
         go_ret
         exact ⟨Ze (by rw [HC.out];simp [h512,h1024,h16]),hb1⟩
       | false =>
         cases h32:hasI f 32 with
         | true =>
           go_enter Tryz.func27,Tryz.ntmps27;go_wp2_with (first
            | (go_at_call 61;refine (HL.out _).mono ?_;rintro e w1 ⟨⟨v,rfl,hv⟩,hb1⟩)
            | (go_at_call 60;refine (HK.out _ _ hv).mono ?_;rintro e w2 ⟨rfl,rfl⟩)
            | (go_at_call 29;refine (HH.out _ _).mono ?_;rintro e w3 ⟨rfl,rfl⟩;first|rw [h512]|rw [h1024]|rw [h16]|rw [h32]))
           go_ret
           exact ⟨Ze (by rw [HC.out];simp [h512,h1024,h16,h32]),hb1⟩
         | false =>
           go_enter Tryz.func27,Tryz.ntmps27;go_wp2_with (first
            | (go_at_call 61;refine (HL.out _).mono ?_;rintro e w1 ⟨⟨v,rfl,hv⟩,hb1⟩)
            | (go_at_call 60;refine (HK.out _ _ hv).mono ?_;rintro e w2 ⟨rfl,rfl⟩)
            | (go_at_call 29;refine (HH.out _ _).mono ?_;rintro e w3 ⟨rfl,rfl⟩;first|rw [h512]|rw [h1024]|rw [h16]|rw [h32]))
           go_ret
           exact ⟨Ze (by rw [HC.out];simp [h512,h1024,h16,h32]),hb1⟩
     | false =>
       go_enter Tryz.func27,Tryz.ntmps27;go_wp2_with (first
        | (go_at_call 61;refine (HL.out _).mono ?_;rintro e w1 ⟨⟨v,rfl,hv⟩,hb1⟩)
        | (go_at_call 60;refine (HK.out _ _ hv).mono ?_;rintro e w2 ⟨rfl,rfl⟩)
        | (go_at_call 29;refine (HH.out _ _).mono ?_;rintro e w3 ⟨rfl,rfl⟩;first|rw [h512]|rw [h1024]))
       go_ret
       exact ⟨Ze (by rw [HC.out];simp [h512,h1024]),hb1⟩
   | false =>
     cases h16:hasI f 16 with
     | true =>
       cases h1024:hasI f 1024 with
       | true =>
         go_enter Tryz.func27,Tryz.ntmps27;go_wp2_with (first
          | (go_at_call 61;refine (HL.out _).mono ?_;rintro e w1 ⟨⟨v,rfl,hv⟩,hb1⟩)
          | (go_at_call 60;refine (HK.out _ _ hv).mono ?_;rintro e w2 ⟨rfl,rfl⟩)
          | (go_at_call 29;refine (HH.out _ _).mono ?_;rintro e w3 ⟨rfl,rfl⟩;first|rw [h512]|rw [h16]|rw [h1024]))
         go_ret
         exact ⟨Ze (by rw [HC.out];simp [h512,h16,h1024]),hb1⟩
       | false =>
         go_enter Tryz.func27,Tryz.ntmps27;go_wp2_with (first
          | (go_at_call 61;refine (HL.out _).mono ?_;rintro e w1 ⟨⟨v,rfl,hv⟩,hb1⟩)
          | (go_at_call 60;refine (HK.out _ _ hv).mono ?_;rintro e w2 ⟨rfl,rfl⟩)
          | (go_at_call 29;refine (HH.out _ _).mono ?_;rintro e w3 ⟨rfl,rfl⟩;first|rw [h512]|rw [h16]|rw [h1024]))
         go_ret
         exact ⟨Ze (by rw [HC.out];simp [h512,h16,h1024]),hb1⟩
     | false =>
       go_enter Tryz.func27,Tryz.ntmps27;go_wp2_with (first
        | (go_at_call 61;refine (HL.out _).mono ?_;rintro e w1 ⟨⟨v,rfl,hv⟩,hb1⟩)
        | (go_at_call 60;refine (HK.out _ _ hv).mono ?_;rintro e w2 ⟨rfl,rfl⟩)
        | (go_at_call 29;refine (HH.out _ _).mono ?_;rintro e w3 ⟨rfl,rfl⟩;first|rw [h512]|rw [h16]))
       go_ret
       exact ⟨Ze (by rw [HC.out];simp [h512,h16]),hb1⟩
set_option maxRecDepth 10000 in
theorem Zcn (f:Int) (iface:Bool) (nm:ByteArray) (w:World):Calls Tryz.prog 63 #[.int .i64 f,.bool iface,.string nm] w fun e w'=>e=.returned (.int .i64 (chkM f iface (nm.toList == [60,105,110,105,116,62])))∧Bw w w':=by
 have HL:Hid (∀ w,_):=J5;have HK:Hid (∀ (v:Value) (w:World),IsRow w v ((flagsOf mthP).map intV)→_):=fun v w=>Zhi f (flagsOf mthP) Zc4 (by decide) v w;have HH:Hid (∀ (x:Int) (w:World),_):=Zb9 f
 have HC:Hid (∀ b,chkM f iface b=if !Y4 f mthP then 1 else if decide (1<visN f) then 1 else if hasI f 1024&&(hasI f 2||hasI f 8||hasI f 16) then 1
  else if iface&&(hasI f 4||hasI f 16||decide (visN f=0)||b) then 1 else if b&&(hasI f 8||hasI f 16||hasI f 1024) then 1 else 0):=fun _=>rfl
 have hon:(Yl f (flagsOf mthP) != f)=!Y4 f mthP:=by unfold Y4;rw [Bool.eq_iff_iff];simp
 cases ho:Y4 f mthP with
 | false =>
   have HR:Hid (∀ b,chkM f iface b=1):=fun b=>by rw [HC.out,ho];rfl
   rw [ho] at hon;go_enter Tryz.func63,Tryz.ntmps63;go_wp2_with (first
    | (go_at_call 80;refine (HL.out _).mono ?_;rintro e w1 ⟨⟨v,rfl,hv⟩,hb1⟩)
    | (go_at_call 60;refine (HK.out _ _ hv).mono ?_;rintro e w2 ⟨rfl,rfl⟩))
   go_ret
   exact ⟨Ze (HR.out _).symm,hb1⟩
 | true =>
   rw [ho] at hon HC;clear ho
   cases h1:hasI f 1 with
   | true =>
     cases h2:hasI f 2 with
     | true =>
       cases h4:hasI f 4 with
       | true =>
         go_enter Tryz.func63,Tryz.ntmps63;go_wp2_with (first
          | (go_at_call 80;refine (HL.out _).mono ?_;rintro e w1 ⟨⟨v,rfl,hv⟩,hb1⟩)
          | (go_at_call 60;refine (HK.out _ _ hv).mono ?_;rintro e w2 ⟨rfl,rfl⟩)
          | (go_at_call 29;refine (HH.out _ _).mono ?_;rintro e w3 ⟨rfl,rfl⟩;first|rw [h1]|rw [h2]|rw [h4]))
         go_ret
         exact ⟨Ze (by rw [HC.out _];simp [visN,h1,h2,h4]),hb1⟩
       | false =>
         go_enter Tryz.func63,Tryz.ntmps63;go_wp2_with (first
          | (go_at_call 80;refine (HL.out _).mono ?_;rintro e w1 ⟨⟨v,rfl,hv⟩,hb1⟩)
          | (go_at_call 60;refine (HK.out _ _ hv).mono ?_;rintro e w2 ⟨rfl,rfl⟩)
          | (go_at_call 29;refine (HH.out _ _).mono ?_;rintro e w3 ⟨rfl,rfl⟩;first|rw [h1]|rw [h2]|rw [h4]))
         go_ret
         exact ⟨Ze (by rw [HC.out _];simp [visN,h1,h2,h4]),hb1⟩
     | false =>
       cases h4:hasI f 4 with
       | true =>
         go_enter Tryz.func63,Tryz.ntmps63;go_wp2_with (first
          | (go_at_call 80;refine (HL.out _).mono ?_;rintro e w1 ⟨⟨v,rfl,hv⟩,hb1⟩)
          | (go_at_call 60;refine (HK.out _ _ hv).mono ?_;rintro e w2 ⟨rfl,rfl⟩)
          | (go_at_call 29;refine (HH.out _ _).mono ?_;rintro e w3 ⟨rfl,rfl⟩;first|rw [h1]|rw [h2]|rw [h4]))
         go_ret
         exact ⟨Ze (by rw [HC.out _];simp [visN,h1,h2,h4]),hb1⟩
       | false =>
         cases h1024:hasI f 1024 with
         | true =>
           cases h8:hasI f 8 with
           | true =>
             go_enter Tryz.func63,Tryz.ntmps63;go_wp2_with (first
              | (go_at_call 80;refine (HL.out _).mono ?_;rintro e w1 ⟨⟨v,rfl,hv⟩,hb1⟩)
              | (go_at_call 60;refine (HK.out _ _ hv).mono ?_;rintro e w2 ⟨rfl,rfl⟩)
              | (go_at_call 29;refine (HH.out _ _).mono ?_;rintro e w3 ⟨rfl,rfl⟩;first|rw [h1]|rw [h2]|rw [h4]|rw [h1024]|rw [h8]))
             go_ret
             exact ⟨Ze (by rw [HC.out _];simp [visN,h1,h2,h4,h1024,h8]),hb1⟩
           | false =>
             cases h16:hasI f 16 with
             | true =>
               go_enter Tryz.func63,Tryz.ntmps63;go_wp2_with (first
                | (go_at_call 80;refine (HL.out _).mono ?_;rintro e w1 ⟨⟨v,rfl,hv⟩,hb1⟩)
                | (go_at_call 60;refine (HK.out _ _ hv).mono ?_;rintro e w2 ⟨rfl,rfl⟩)
                | (go_at_call 29;refine (HH.out _ _).mono ?_;rintro e w3 ⟨rfl,rfl⟩;first|rw [h1]|rw [h2]|rw [h4]|rw [h1024]|rw [h8]|rw [h16]))
               go_ret
               exact ⟨Ze (by rw [HC.out _];simp [visN,h1,h2,h4,h1024,h8,h16]),hb1⟩
             | false =>
               cases iface with
               | true =>
                 cases hini:(nm.toList == [60,105,110,105,116,62]) with
                 | true =>
                   go_enter Tryz.func63,Tryz.ntmps63;go_wp2_with (first
                    | (go_at_call 80;refine (HL.out _).mono ?_;rintro e w1 ⟨⟨v,rfl,hv⟩,hb1⟩)
                    | (go_at_call 60;refine (HK.out _ _ hv).mono ?_;rintro e w2 ⟨rfl,rfl⟩)
                    | (go_at_call 29;refine (HH.out _ _).mono ?_;rintro e w3 ⟨rfl,rfl⟩;first|rw [h1]|rw [h2]|rw [h4]|rw [h1024]|rw [h8]|rw [h16]))
                   go_ret
                   exact ⟨Ze (by rw [HC.out _];simp [visN,h1,h2,h4,h1024,h8,h16]),hb1⟩
                 | false =>
                   go_enter Tryz.func63,Tryz.ntmps63;go_wp2_with (first
                    | (go_at_call 80;refine (HL.out _).mono ?_;rintro e w1 ⟨⟨v,rfl,hv⟩,hb1⟩)
                    | (go_at_call 60;refine (HK.out _ _ hv).mono ?_;rintro e w2 ⟨rfl,rfl⟩)
                    | (go_at_call 29;refine (HH.out _ _).mono ?_;rintro e w3 ⟨rfl,rfl⟩;first|rw [h1]|rw [h2]|rw [h4]|rw [h1024]|rw [h8]|rw [h16]))
                   go_ret
                   exact ⟨Ze (by rw [HC.out _];simp [visN,h1,h2,h4,h1024,h8,h16]),hb1⟩
               | false =>
                 cases hini:(nm.toList == [60,105,110,105,116,62]) with
                 | true =>
                   go_enter Tryz.func63,Tryz.ntmps63;go_wp2_with (first
                    | (go_at_call 80;refine (HL.out _).mono ?_;rintro e w1 ⟨⟨v,rfl,hv⟩,hb1⟩)
                    | (go_at_call 60;refine (HK.out _ _ hv).mono ?_;rintro e w2 ⟨rfl,rfl⟩)
                    | (go_at_call 29;refine (HH.out _ _).mono ?_;rintro e w3 ⟨rfl,rfl⟩;first|rw [h1]|rw [h2]|rw [h4]|rw [h1024]|rw [h8]|rw [h16]))
                   go_ret
                   exact ⟨Ze (by rw [HC.out _];simp [visN,h1,h2,h4,h1024,h8,h16]),hb1⟩
                 | false =>
                   go_enter Tryz.func63,Tryz.ntmps63;go_wp2_with (first
                    | (go_at_call 80;refine (HL.out _).mono ?_;rintro e w1 ⟨⟨v,rfl,hv⟩,hb1⟩)
                    | (go_at_call 60;refine (HK.out _ _ hv).mono ?_;rintro e w2 ⟨rfl,rfl⟩)
                    | (go_at_call 29;refine (HH.out _ _).mono ?_;rintro e w3 ⟨rfl,rfl⟩;first|rw [h1]|rw [h2]|rw [h4]|rw [h1024]|rw [h8]|rw [h16]))
                   go_ret
                   exact ⟨Ze (by rw [HC.out _];simp [visN,h1,h2,h4,h1024,h8,h16]),hb1⟩
         | false =>
           cases iface with
           | true =>
             cases h16:hasI f 16 with
             | true =>
               go_enter Tryz.func63,Tryz.ntmps63;go_wp2_with (first
                | (go_at_call 80;refine (HL.out _).mono ?_;rintro e w1 ⟨⟨v,rfl,hv⟩,hb1⟩)
                | (go_at_call 60;refine (HK.out _ _ hv).mono ?_;rintro e w2 ⟨rfl,rfl⟩)
                | (go_at_call 29;refine (HH.out _ _).mono ?_;rintro e w3 ⟨rfl,rfl⟩;first|rw [h1]|rw [h2]|rw [h4]|rw [h1024]|rw [h16]))
               go_ret
               exact ⟨Ze (by rw [HC.out _];simp [visN,h1,h2,h4,h1024,h16]),hb1⟩
             | false =>
               cases hini:(nm.toList == [60,105,110,105,116,62]) with
               | true =>
                 go_enter Tryz.func63,Tryz.ntmps63;go_wp2_with (first
                  | (go_at_call 80;refine (HL.out _).mono ?_;rintro e w1 ⟨⟨v,rfl,hv⟩,hb1⟩)
                  | (go_at_call 60;refine (HK.out _ _ hv).mono ?_;rintro e w2 ⟨rfl,rfl⟩)
                  | (go_at_call 29;refine (HH.out _ _).mono ?_;rintro e w3 ⟨rfl,rfl⟩;first|rw [h1]|rw [h2]|rw [h4]|rw [h1024]|rw [h16]))
                 go_ret
                 exact ⟨Ze (by rw [HC.out _];simp [visN,h1,h2,h4,h1024,h16]),hb1⟩
               | false =>
                 go_enter Tryz.func63,Tryz.ntmps63;go_wp2_with (first
                  | (go_at_call 80;refine (HL.out _).mono ?_;rintro e w1 ⟨⟨v,rfl,hv⟩,hb1⟩)
                  | (go_at_call 60;refine (HK.out _ _ hv).mono ?_;rintro e w2 ⟨rfl,rfl⟩)
                  | (go_at_call 29;refine (HH.out _ _).mono ?_;rintro e w3 ⟨rfl,rfl⟩;first|rw [h1]|rw [h2]|rw [h4]|rw [h1024]|rw [h16]))
                 go_ret
                 exact ⟨Ze (by rw [HC.out _];simp [visN,h1,h2,h4,h1024,h16]),hb1⟩
           | false =>
             cases hini:(nm.toList == [60,105,110,105,116,62]) with
             | true =>
               cases h8:hasI f 8 with
               | true =>
                 go_enter Tryz.func63,Tryz.ntmps63;go_wp2_with (first
                  | (go_at_call 80;refine (HL.out _).mono ?_;rintro e w1 ⟨⟨v,rfl,hv⟩,hb1⟩)
                  | (go_at_call 60;refine (HK.out _ _ hv).mono ?_;rintro e w2 ⟨rfl,rfl⟩)
                  | (go_at_call 29;refine (HH.out _ _).mono ?_;rintro e w3 ⟨rfl,rfl⟩;first|rw [h1]|rw [h2]|rw [h4]|rw [h1024]|rw [h8]))
                 go_ret
                 exact ⟨Ze (by rw [HC.out _];simp [visN,h1,h2,h4,h1024,h8]),hb1⟩
               | false =>
                 cases h16:hasI f 16 with
                 | true =>
                   go_enter Tryz.func63,Tryz.ntmps63;go_wp2_with (first
                    | (go_at_call 80;refine (HL.out _).mono ?_;rintro e w1 ⟨⟨v,rfl,hv⟩,hb1⟩)
                    | (go_at_call 60;refine (HK.out _ _ hv).mono ?_;rintro e w2 ⟨rfl,rfl⟩)
                    | (go_at_call 29;refine (HH.out _ _).mono ?_;rintro e w3 ⟨rfl,rfl⟩;first|rw [h1]|rw [h2]|rw [h4]|rw [h1024]|rw [h8]|rw [h16]))
                   go_ret
                   exact ⟨Ze (by rw [HC.out _];simp [visN,h1,h2,h4,h1024,h8,h16]),hb1⟩
                 | false =>
                   go_enter Tryz.func63,Tryz.ntmps63;go_wp2_with (first
                    | (go_at_call 80;refine (HL.out _).mono ?_;rintro e w1 ⟨⟨v,rfl,hv⟩,hb1⟩)
                    | (go_at_call 60;refine (HK.out _ _ hv).mono ?_;rintro e w2 ⟨rfl,rfl⟩)
                    | (go_at_call 29;refine (HH.out _ _).mono ?_;rintro e w3 ⟨rfl,rfl⟩;first|rw [h1]|rw [h2]|rw [h4]|rw [h1024]|rw [h8]|rw [h16]))
                   go_ret
                   exact ⟨Ze (by rw [HC.out _];simp [visN,h1,h2,h4,h1024,h8,h16]),hb1⟩
             | false =>
               go_enter Tryz.func63,Tryz.ntmps63;go_wp2_with (first
                | (go_at_call 80;refine (HL.out _).mono ?_;rintro e w1 ⟨⟨v,rfl,hv⟩,hb1⟩)
                | (go_at_call 60;refine (HK.out _ _ hv).mono ?_;rintro e w2 ⟨rfl,rfl⟩)
                | (go_at_call 29;refine (HH.out _ _).mono ?_;rintro e w3 ⟨rfl,rfl⟩;first|rw [h1]|rw [h2]|rw [h4]|rw [h1024]))
               go_ret
               exact ⟨Ze (by rw [HC.out _];simp [visN,h1,h2,h4,h1024]),hb1⟩
   | false =>
     cases h2:hasI f 2 with
     | true =>
       cases h4:hasI f 4 with
       | true =>
         go_enter Tryz.func63,Tryz.ntmps63;go_wp2_with (first
          | (go_at_call 80;refine (HL.out _).mono ?_;rintro e w1 ⟨⟨v,rfl,hv⟩,hb1⟩)
          | (go_at_call 60;refine (HK.out _ _ hv).mono ?_;rintro e w2 ⟨rfl,rfl⟩)
          | (go_at_call 29;refine (HH.out _ _).mono ?_;rintro e w3 ⟨rfl,rfl⟩;first|rw [h1]|rw [h2]|rw [h4]))
         go_ret
         exact ⟨Ze (by rw [HC.out _];simp [visN,h1,h2,h4]),hb1⟩
       | false =>
         cases h1024:hasI f 1024 with
         | true =>
           go_enter Tryz.func63,Tryz.ntmps63;go_wp2_with (first
            | (go_at_call 80;refine (HL.out _).mono ?_;rintro e w1 ⟨⟨v,rfl,hv⟩,hb1⟩)
            | (go_at_call 60;refine (HK.out _ _ hv).mono ?_;rintro e w2 ⟨rfl,rfl⟩)
            | (go_at_call 29;refine (HH.out _ _).mono ?_;rintro e w3 ⟨rfl,rfl⟩;first|rw [h1]|rw [h2]|rw [h4]|rw [h1024]))
           go_ret
           exact ⟨Ze (by rw [HC.out _];simp [visN,h1,h2,h4,h1024]),hb1⟩
         | false =>
           cases iface with
           | true =>
             cases h16:hasI f 16 with
             | true =>
               go_enter Tryz.func63,Tryz.ntmps63;go_wp2_with (first
                | (go_at_call 80;refine (HL.out _).mono ?_;rintro e w1 ⟨⟨v,rfl,hv⟩,hb1⟩)
                | (go_at_call 60;refine (HK.out _ _ hv).mono ?_;rintro e w2 ⟨rfl,rfl⟩)
                | (go_at_call 29;refine (HH.out _ _).mono ?_;rintro e w3 ⟨rfl,rfl⟩;first|rw [h1]|rw [h2]|rw [h4]|rw [h1024]|rw [h16]))
               go_ret
               exact ⟨Ze (by rw [HC.out _];simp [visN,h1,h2,h4,h1024,h16]),hb1⟩
             | false =>
               cases hini:(nm.toList == [60,105,110,105,116,62]) with
               | true =>
                 go_enter Tryz.func63,Tryz.ntmps63;go_wp2_with (first
                  | (go_at_call 80;refine (HL.out _).mono ?_;rintro e w1 ⟨⟨v,rfl,hv⟩,hb1⟩)
                  | (go_at_call 60;refine (HK.out _ _ hv).mono ?_;rintro e w2 ⟨rfl,rfl⟩)
                  | (go_at_call 29;refine (HH.out _ _).mono ?_;rintro e w3 ⟨rfl,rfl⟩;first|rw [h1]|rw [h2]|rw [h4]|rw [h1024]|rw [h16]))
                 go_ret
                 exact ⟨Ze (by rw [HC.out _];simp [visN,h1,h2,h4,h1024,h16]),hb1⟩
               | false =>
                 go_enter Tryz.func63,Tryz.ntmps63;go_wp2_with (first
                  | (go_at_call 80;refine (HL.out _).mono ?_;rintro e w1 ⟨⟨v,rfl,hv⟩,hb1⟩)
                  | (go_at_call 60;refine (HK.out _ _ hv).mono ?_;rintro e w2 ⟨rfl,rfl⟩)
                  | (go_at_call 29;refine (HH.out _ _).mono ?_;rintro e w3 ⟨rfl,rfl⟩;first|rw [h1]|rw [h2]|rw [h4]|rw [h1024]|rw [h16]))
                 go_ret
                 exact ⟨Ze (by rw [HC.out _];simp [visN,h1,h2,h4,h1024,h16]),hb1⟩
           | false =>
             cases hini:(nm.toList == [60,105,110,105,116,62]) with
             | true =>
               cases h8:hasI f 8 with
               | true =>
                 go_enter Tryz.func63,Tryz.ntmps63;go_wp2_with (first
                  | (go_at_call 80;refine (HL.out _).mono ?_;rintro e w1 ⟨⟨v,rfl,hv⟩,hb1⟩)
                  | (go_at_call 60;refine (HK.out _ _ hv).mono ?_;rintro e w2 ⟨rfl,rfl⟩)
                  | (go_at_call 29;refine (HH.out _ _).mono ?_;rintro e w3 ⟨rfl,rfl⟩;first|rw [h1]|rw [h2]|rw [h4]|rw [h1024]|rw [h8]))
                 go_ret
                 exact ⟨Ze (by rw [HC.out _];simp [visN,h1,h2,h4,h1024,h8]),hb1⟩
               | false =>
                 cases h16:hasI f 16 with
                 | true =>
                   go_enter Tryz.func63,Tryz.ntmps63;go_wp2_with (first
                    | (go_at_call 80;refine (HL.out _).mono ?_;rintro e w1 ⟨⟨v,rfl,hv⟩,hb1⟩)
                    | (go_at_call 60;refine (HK.out _ _ hv).mono ?_;rintro e w2 ⟨rfl,rfl⟩)
                    | (go_at_call 29;refine (HH.out _ _).mono ?_;rintro e w3 ⟨rfl,rfl⟩;first|rw [h1]|rw [h2]|rw [h4]|rw [h1024]|rw [h8]|rw [h16]))
                   go_ret
                   exact ⟨Ze (by rw [HC.out _];simp [visN,h1,h2,h4,h1024,h8,h16]),hb1⟩
                 | false =>
                   go_enter Tryz.func63,Tryz.ntmps63;go_wp2_with (first
                    | (go_at_call 80;refine (HL.out _).mono ?_;rintro e w1 ⟨⟨v,rfl,hv⟩,hb1⟩)
                    | (go_at_call 60;refine (HK.out _ _ hv).mono ?_;rintro e w2 ⟨rfl,rfl⟩)
                    | (go_at_call 29;refine (HH.out _ _).mono ?_;rintro e w3 ⟨rfl,rfl⟩;first|rw [h1]|rw [h2]|rw [h4]|rw [h1024]|rw [h8]|rw [h16]))
                   go_ret
                   exact ⟨Ze (by rw [HC.out _];simp [visN,h1,h2,h4,h1024,h8,h16]),hb1⟩
             | false =>
               go_enter Tryz.func63,Tryz.ntmps63;go_wp2_with (first
                | (go_at_call 80;refine (HL.out _).mono ?_;rintro e w1 ⟨⟨v,rfl,hv⟩,hb1⟩)
                | (go_at_call 60;refine (HK.out _ _ hv).mono ?_;rintro e w2 ⟨rfl,rfl⟩)
                | (go_at_call 29;refine (HH.out _ _).mono ?_;rintro e w3 ⟨rfl,rfl⟩;first|rw [h1]|rw [h2]|rw [h4]|rw [h1024]))
               go_ret
               exact ⟨Ze (by rw [HC.out _];simp [visN,h1,h2,h4,h1024]),hb1⟩
     | false =>
       cases h4:hasI f 4 with
       | true =>
         cases h1024:hasI f 1024 with
         | true =>
           cases h8:hasI f 8 with
           | true =>
             go_enter Tryz.func63,Tryz.ntmps63;go_wp2_with (first
              | (go_at_call 80;refine (HL.out _).mono ?_;rintro e w1 ⟨⟨v,rfl,hv⟩,hb1⟩)
              | (go_at_call 60;refine (HK.out _ _ hv).mono ?_;rintro e w2 ⟨rfl,rfl⟩)
              | (go_at_call 29;refine (HH.out _ _).mono ?_;rintro e w3 ⟨rfl,rfl⟩;first|rw [h1]|rw [h2]|rw [h4]|rw [h1024]|rw [h8]))
             go_ret
             exact ⟨Ze (by rw [HC.out _];simp [visN,h1,h2,h4,h1024,h8]),hb1⟩
           | false =>
             cases h16:hasI f 16 with
             | true =>
               go_enter Tryz.func63,Tryz.ntmps63;go_wp2_with (first
                | (go_at_call 80;refine (HL.out _).mono ?_;rintro e w1 ⟨⟨v,rfl,hv⟩,hb1⟩)
                | (go_at_call 60;refine (HK.out _ _ hv).mono ?_;rintro e w2 ⟨rfl,rfl⟩)
                | (go_at_call 29;refine (HH.out _ _).mono ?_;rintro e w3 ⟨rfl,rfl⟩;first|rw [h1]|rw [h2]|rw [h4]|rw [h1024]|rw [h8]|rw [h16]))
               go_ret
               exact ⟨Ze (by rw [HC.out _];simp [visN,h1,h2,h4,h1024,h8,h16]),hb1⟩
             | false =>
               cases iface with
               | true =>
                 go_enter Tryz.func63,Tryz.ntmps63;go_wp2_with (first
                  | (go_at_call 80;refine (HL.out _).mono ?_;rintro e w1 ⟨⟨v,rfl,hv⟩,hb1⟩)
                  | (go_at_call 60;refine (HK.out _ _ hv).mono ?_;rintro e w2 ⟨rfl,rfl⟩)
                  | (go_at_call 29;refine (HH.out _ _).mono ?_;rintro e w3 ⟨rfl,rfl⟩;first|rw [h1]|rw [h2]|rw [h4]|rw [h1024]|rw [h8]|rw [h16]))
                 go_ret
                 exact ⟨Ze (by rw [HC.out _];simp [visN,h1,h2,h4,h1024,h8,h16]),hb1⟩
               | false =>
                 cases hini:(nm.toList == [60,105,110,105,116,62]) with
                 | true =>
                   go_enter Tryz.func63,Tryz.ntmps63;go_wp2_with (first
                    | (go_at_call 80;refine (HL.out _).mono ?_;rintro e w1 ⟨⟨v,rfl,hv⟩,hb1⟩)
                    | (go_at_call 60;refine (HK.out _ _ hv).mono ?_;rintro e w2 ⟨rfl,rfl⟩)
                    | (go_at_call 29;refine (HH.out _ _).mono ?_;rintro e w3 ⟨rfl,rfl⟩;first|rw [h1]|rw [h2]|rw [h4]|rw [h1024]|rw [h8]|rw [h16]))
                   go_ret
                   exact ⟨Ze (by rw [HC.out _];simp [visN,h1,h2,h4,h1024,h8,h16]),hb1⟩
                 | false =>
                   go_enter Tryz.func63,Tryz.ntmps63;go_wp2_with (first
                    | (go_at_call 80;refine (HL.out _).mono ?_;rintro e w1 ⟨⟨v,rfl,hv⟩,hb1⟩)
                    | (go_at_call 60;refine (HK.out _ _ hv).mono ?_;rintro e w2 ⟨rfl,rfl⟩)
                    | (go_at_call 29;refine (HH.out _ _).mono ?_;rintro e w3 ⟨rfl,rfl⟩;first|rw [h1]|rw [h2]|rw [h4]|rw [h1024]|rw [h8]|rw [h16]))
                   go_ret
                   exact ⟨Ze (by rw [HC.out _];simp [visN,h1,h2,h4,h1024,h8,h16]),hb1⟩
         | false =>
           cases iface with
           | true =>
             go_enter Tryz.func63,Tryz.ntmps63;go_wp2_with (first
              | (go_at_call 80;refine (HL.out _).mono ?_;rintro e w1 ⟨⟨v,rfl,hv⟩,hb1⟩)
              | (go_at_call 60;refine (HK.out _ _ hv).mono ?_;rintro e w2 ⟨rfl,rfl⟩)
              | (go_at_call 29;refine (HH.out _ _).mono ?_;rintro e w3 ⟨rfl,rfl⟩;first|rw [h1]|rw [h2]|rw [h4]|rw [h1024]))
             go_ret
             exact ⟨Ze (by rw [HC.out _];simp [visN,h1,h2,h4,h1024]),hb1⟩
           | false =>
             cases hini:(nm.toList == [60,105,110,105,116,62]) with
             | true =>
               cases h8:hasI f 8 with
               | true =>
                 go_enter Tryz.func63,Tryz.ntmps63;go_wp2_with (first
                  | (go_at_call 80;refine (HL.out _).mono ?_;rintro e w1 ⟨⟨v,rfl,hv⟩,hb1⟩)
                  | (go_at_call 60;refine (HK.out _ _ hv).mono ?_;rintro e w2 ⟨rfl,rfl⟩)
                  | (go_at_call 29;refine (HH.out _ _).mono ?_;rintro e w3 ⟨rfl,rfl⟩;first|rw [h1]|rw [h2]|rw [h4]|rw [h1024]|rw [h8]))
                 go_ret
                 exact ⟨Ze (by rw [HC.out _];simp [visN,h1,h2,h4,h1024,h8]),hb1⟩
               | false =>
                 cases h16:hasI f 16 with
                 | true =>
                   go_enter Tryz.func63,Tryz.ntmps63;go_wp2_with (first
                    | (go_at_call 80;refine (HL.out _).mono ?_;rintro e w1 ⟨⟨v,rfl,hv⟩,hb1⟩)
                    | (go_at_call 60;refine (HK.out _ _ hv).mono ?_;rintro e w2 ⟨rfl,rfl⟩)
                    | (go_at_call 29;refine (HH.out _ _).mono ?_;rintro e w3 ⟨rfl,rfl⟩;first|rw [h1]|rw [h2]|rw [h4]|rw [h1024]|rw [h8]|rw [h16]))
                   go_ret
                   exact ⟨Ze (by rw [HC.out _];simp [visN,h1,h2,h4,h1024,h8,h16]),hb1⟩
                 | false =>
                   go_enter Tryz.func63,Tryz.ntmps63;go_wp2_with (first
                    | (go_at_call 80;refine (HL.out _).mono ?_;rintro e w1 ⟨⟨v,rfl,hv⟩,hb1⟩)
                    | (go_at_call 60;refine (HK.out _ _ hv).mono ?_;rintro e w2 ⟨rfl,rfl⟩)
                    | (go_at_call 29;refine (HH.out _ _).mono ?_;rintro e w3 ⟨rfl,rfl⟩;first|rw [h1]|rw [h2]|rw [h4]|rw [h1024]|rw [h8]|rw [h16]))
                   go_ret
                   exact ⟨Ze (by rw [HC.out _];simp [visN,h1,h2,h4,h1024,h8,h16]),hb1⟩
             | false =>
               go_enter Tryz.func63,Tryz.ntmps63;go_wp2_with (first
                | (go_at_call 80;refine (HL.out _).mono ?_;rintro e w1 ⟨⟨v,rfl,hv⟩,hb1⟩)
                | (go_at_call 60;refine (HK.out _ _ hv).mono ?_;rintro e w2 ⟨rfl,rfl⟩)
                | (go_at_call 29;refine (HH.out _ _).mono ?_;rintro e w3 ⟨rfl,rfl⟩;first|rw [h1]|rw [h2]|rw [h4]|rw [h1024]))
               go_ret
               exact ⟨Ze (by rw [HC.out _];simp [visN,h1,h2,h4,h1024]),hb1⟩
       | false =>
         cases h1024:hasI f 1024 with
         | true =>
           cases h8:hasI f 8 with
           | true =>
             go_enter Tryz.func63,Tryz.ntmps63;go_wp2_with (first
              | (go_at_call 80;refine (HL.out _).mono ?_;rintro e w1 ⟨⟨v,rfl,hv⟩,hb1⟩)
              | (go_at_call 60;refine (HK.out _ _ hv).mono ?_;rintro e w2 ⟨rfl,rfl⟩)
              | (go_at_call 29;refine (HH.out _ _).mono ?_;rintro e w3 ⟨rfl,rfl⟩;first|rw [h1]|rw [h2]|rw [h4]|rw [h1024]|rw [h8]))
             go_ret
             exact ⟨Ze (by rw [HC.out _];simp [visN,h1,h2,h4,h1024,h8]),hb1⟩
           | false =>
             cases h16:hasI f 16 with
             | true =>
               go_enter Tryz.func63,Tryz.ntmps63;go_wp2_with (first
                | (go_at_call 80;refine (HL.out _).mono ?_;rintro e w1 ⟨⟨v,rfl,hv⟩,hb1⟩)
                | (go_at_call 60;refine (HK.out _ _ hv).mono ?_;rintro e w2 ⟨rfl,rfl⟩)
                | (go_at_call 29;refine (HH.out _ _).mono ?_;rintro e w3 ⟨rfl,rfl⟩;first|rw [h1]|rw [h2]|rw [h4]|rw [h1024]|rw [h8]|rw [h16]))
               go_ret
               exact ⟨Ze (by rw [HC.out _];simp [visN,h1,h2,h4,h1024,h8,h16]),hb1⟩
             | false =>
               cases iface with
               | true =>
                 go_enter Tryz.func63,Tryz.ntmps63;go_wp2_with (first
                  | (go_at_call 80;refine (HL.out _).mono ?_;rintro e w1 ⟨⟨v,rfl,hv⟩,hb1⟩)
                  | (go_at_call 60;refine (HK.out _ _ hv).mono ?_;rintro e w2 ⟨rfl,rfl⟩)
                  | (go_at_call 29;refine (HH.out _ _).mono ?_;rintro e w3 ⟨rfl,rfl⟩;first|rw [h1]|rw [h2]|rw [h4]|rw [h1024]|rw [h8]|rw [h16]))
                 go_ret
                 exact ⟨Ze (by rw [HC.out _];simp [visN,h1,h2,h4,h1024,h8,h16]),hb1⟩
               | false =>
                 cases hini:(nm.toList == [60,105,110,105,116,62]) with
                 | true =>
                   go_enter Tryz.func63,Tryz.ntmps63;go_wp2_with (first
                    | (go_at_call 80;refine (HL.out _).mono ?_;rintro e w1 ⟨⟨v,rfl,hv⟩,hb1⟩)
                    | (go_at_call 60;refine (HK.out _ _ hv).mono ?_;rintro e w2 ⟨rfl,rfl⟩)
                    | (go_at_call 29;refine (HH.out _ _).mono ?_;rintro e w3 ⟨rfl,rfl⟩;first|rw [h1]|rw [h2]|rw [h4]|rw [h1024]|rw [h8]|rw [h16]))
                   go_ret
                   exact ⟨Ze (by rw [HC.out _];simp [visN,h1,h2,h4,h1024,h8,h16]),hb1⟩
                 | false =>
                   go_enter Tryz.func63,Tryz.ntmps63;go_wp2_with (first
                    | (go_at_call 80;refine (HL.out _).mono ?_;rintro e w1 ⟨⟨v,rfl,hv⟩,hb1⟩)
                    | (go_at_call 60;refine (HK.out _ _ hv).mono ?_;rintro e w2 ⟨rfl,rfl⟩)
                    | (go_at_call 29;refine (HH.out _ _).mono ?_;rintro e w3 ⟨rfl,rfl⟩;first|rw [h1]|rw [h2]|rw [h4]|rw [h1024]|rw [h8]|rw [h16]))
                   go_ret
                   exact ⟨Ze (by rw [HC.out _];simp [visN,h1,h2,h4,h1024,h8,h16]),hb1⟩
         | false =>
           cases iface with
           | true =>
             cases h16:hasI f 16 with
             | true =>
               go_enter Tryz.func63,Tryz.ntmps63;go_wp2_with (first
                | (go_at_call 80;refine (HL.out _).mono ?_;rintro e w1 ⟨⟨v,rfl,hv⟩,hb1⟩)
                | (go_at_call 60;refine (HK.out _ _ hv).mono ?_;rintro e w2 ⟨rfl,rfl⟩)
                | (go_at_call 29;refine (HH.out _ _).mono ?_;rintro e w3 ⟨rfl,rfl⟩;first|rw [h1]|rw [h2]|rw [h4]|rw [h1024]|rw [h16]))
               go_ret
               exact ⟨Ze (by rw [HC.out _];simp [visN,h1,h2,h4,h1024,h16]),hb1⟩
             | false =>
               go_enter Tryz.func63,Tryz.ntmps63;go_wp2_with (first
                | (go_at_call 80;refine (HL.out _).mono ?_;rintro e w1 ⟨⟨v,rfl,hv⟩,hb1⟩)
                | (go_at_call 60;refine (HK.out _ _ hv).mono ?_;rintro e w2 ⟨rfl,rfl⟩)
                | (go_at_call 29;refine (HH.out _ _).mono ?_;rintro e w3 ⟨rfl,rfl⟩;first|rw [h1]|rw [h2]|rw [h4]|rw [h1024]|rw [h16]))
               go_ret
               exact ⟨Ze (by rw [HC.out _];simp [visN,h1,h2,h4,h1024,h16]),hb1⟩
           | false =>
             cases hini:(nm.toList == [60,105,110,105,116,62]) with
             | true =>
               cases h8:hasI f 8 with
               | true =>
                 go_enter Tryz.func63,Tryz.ntmps63;go_wp2_with (first
                  | (go_at_call 80;refine (HL.out _).mono ?_;rintro e w1 ⟨⟨v,rfl,hv⟩,hb1⟩)
                  | (go_at_call 60;refine (HK.out _ _ hv).mono ?_;rintro e w2 ⟨rfl,rfl⟩)
                  | (go_at_call 29;refine (HH.out _ _).mono ?_;rintro e w3 ⟨rfl,rfl⟩;first|rw [h1]|rw [h2]|rw [h4]|rw [h1024]|rw [h8]))
                 go_ret
                 exact ⟨Ze (by rw [HC.out _];simp [visN,h1,h2,h4,h1024,h8]),hb1⟩
               | false =>
                 cases h16:hasI f 16 with
                 | true =>
                   go_enter Tryz.func63,Tryz.ntmps63;go_wp2_with (first
                    | (go_at_call 80;refine (HL.out _).mono ?_;rintro e w1 ⟨⟨v,rfl,hv⟩,hb1⟩)
                    | (go_at_call 60;refine (HK.out _ _ hv).mono ?_;rintro e w2 ⟨rfl,rfl⟩)
                    | (go_at_call 29;refine (HH.out _ _).mono ?_;rintro e w3 ⟨rfl,rfl⟩;first|rw [h1]|rw [h2]|rw [h4]|rw [h1024]|rw [h8]|rw [h16]))
                   go_ret
                   exact ⟨Ze (by rw [HC.out _];simp [visN,h1,h2,h4,h1024,h8,h16]),hb1⟩
                 | false =>
                   go_enter Tryz.func63,Tryz.ntmps63;go_wp2_with (first
                    | (go_at_call 80;refine (HL.out _).mono ?_;rintro e w1 ⟨⟨v,rfl,hv⟩,hb1⟩)
                    | (go_at_call 60;refine (HK.out _ _ hv).mono ?_;rintro e w2 ⟨rfl,rfl⟩)
                    | (go_at_call 29;refine (HH.out _ _).mono ?_;rintro e w3 ⟨rfl,rfl⟩;first|rw [h1]|rw [h2]|rw [h4]|rw [h1024]|rw [h8]|rw [h16]))
                   go_ret
                   exact ⟨Ze (by rw [HC.out _];simp [visN,h1,h2,h4,h1024,h8,h16]),hb1⟩
             | false =>
               go_enter Tryz.func63,Tryz.ntmps63;go_wp2_with (first
                | (go_at_call 80;refine (HL.out _).mono ?_;rintro e w1 ⟨⟨v,rfl,hv⟩,hb1⟩)
                | (go_at_call 60;refine (HK.out _ _ hv).mono ?_;rintro e w2 ⟨rfl,rfl⟩)
                | (go_at_call 29;refine (HH.out _ _).mono ?_;rintro e w3 ⟨rfl,rfl⟩;first|rw [h1]|rw [h2]|rw [h4]|rw [h1024]))
               go_ret
               exact ⟨Ze (by rw [HC.out _];simp [visN,h1,h2,h4,h1024]),hb1⟩
theorem Zgp (f:Int) (a b:List (Int×List UInt8)):Zo f (a++b)=Zo f a++Zo f b:=by
 induction a with
 | nil=>simp [Zo]
 | cons p a ih =>
   simp only [List.cons_append,Zo,ih]
   split <;> simp
theorem Zkh (f:Int) (ps:List (Int×List UInt8)) (i:Nat) (p:Int×List UInt8) (h:ps[i]?=some p):Zo f (ps.take (i+1))=Zo f (ps.take i)++(if hasI f p.1 then [p.2] else []):=by
 have hlt:i<ps.length:=(List.getElem?_eq_some_iff.1 h).1;rw [List.take_succ_eq_append_getElem hlt,Zgp];rw [List.getElem?_eq_getElem hlt] at h;rw [Option.some.inj h];simp [Zo]
theorem Zev (f:Int) (ps:List (Int×List UInt8)) (h:∀ p∈ps,p.2.length≤20):(Lib.join (Zo f ps) [32]).length≤21 * ps.length:=by
 induction ps with
 | nil=>simp [Zo,Lib.join]
 | cons p ps ih =>
   have h1:=h p (List.mem_cons_self ..);have h2:=ih (fun q hq=>h q (List.mem_cons_of_mem _ hq));unfold Zo
   split
   ·cases e:Zo f ps with
    | nil=>rw [join_one,List.length_cons];omega
    | cons a l =>
      rw [e] at h2;rw [Zew,List.length_append,List.length_cons,List.length_cons];omega
   ·rw [List.length_cons];omega
theorem Zfm (b:ByteArray):b.size=b.data.toList.length:=by simp
theorem Zds (a:ByteArray):a.toList.isEmpty=decide (a.data.toList=[]):=by
 rw [Lib.toList_data]
 cases a.data.toList <;> simp
end Go.Proofs.YtfbhjfpkhofifaaGreatDoor
