import Derived.Test.YtmafkabjjibcbaaGreatOvQ
import Derived.Test.YtmafkabjjibcbaaGreatCodeL
set_option maxHeartbeats 16000000
set_option maxRecDepth 100000
namespace Go.Proofs.YtmafkabjjibcbaaGreat
open Go.RowKit
theorem J3 {a b:Bool} (h:a=b):Ending.returned (.bool a)=.returned (.bool b):=by rw [h]
theorem Zh {k:IntKind} {a b:Int} (h:a=b):Ending.returned (.int k a)=.returned (.int k b):=by rw [h]
def Zjv (w:World) (v:Value) (xs:List Value):Prop :=
 ∃ bk o cap,v=.slice (some ⟨bk,o,none⟩) xs.length cap∧xs.length≤cap∧cap≤maxLen∧bk<w.heap.size∧∀ k x,xs[k]?=some x→w.cell? ⟨bk,o+k,none⟩=some x
theorem Zkb (w:World) (xs:Array Value) (t:TypeId) (hl:xs.size≤maxLen):Zjv (w.alloc (.cells xs t)) (.slice (some ⟨w.heap.size,0,none⟩) xs.size xs.size) xs.toList:=by
 refine ⟨w.heap.size,0,xs.size,by simp,by simp,hl,by simp,fun k x hk=>?_⟩
 rw [Nat.zero_add,cell_of_row _ w.heap.size k _ t (0,0) (heap_alloc_new w _)]
 simpa using hk
theorem Zv (f x:Int) (w:World):Calls Tryz.prog 62 #[.int .i64 f,.int .i64 x] w fun e w'=>e=.returned (.bool (hasI f x))∧w'=w:=by
 go_enter Tryz.func62,Tryz.ntmps62
 go_wp2
 go_ret
 exact ⟨J3 rfl,rfl⟩
def intV (x:Int):Value:=.int .i64 x
theorem Zcq (w:World):Calls Tryz.prog 225 #[] w fun e w'=>(∃ v,e=.returned v∧Zjv w' v ((flagsOf clsP).map intV))∧Bw w w':=by
 go_enter Tryz.func225,Tryz.ntmps225
 go_wp2
 go_ret
 exact ⟨⟨_,rfl,Zkb w #[.int .i64 1,.int .i64 16,.int .i64 32,.int .i64 512,.int .i64 1024] 3 (by unfold maxLen;decide)⟩,(Below.refl _ _).alloc (Nat.le_refl _) _⟩
theorem Zb3 (w:World):Calls Tryz.prog 266 #[] w fun e w'=>(∃ v,e=.returned v∧Zjv w' v ((flagsOf mthP).map intV))∧Bw w w':=by
 go_enter Tryz.func266,Tryz.ntmps266
 go_wp2
 go_ret
 exact ⟨⟨_,rfl,Zkb w #[.int .i64 1,.int .i64 2,.int .i64 4,.int .i64 8,.int .i64 16,.int .i64 1024] 3 (by unfold maxLen;decide)⟩,(Below.refl _ _).alloc (Nat.le_refl _) _⟩
theorem Zfx (f:Int) (a b:List Int):Yb f (a++b)=Yb f a+Yb f b:=by
 induction a with
 | nil=>simp [Yb]
 | cons x a ih=>simp only [List.cons_append,Yb,ih];omega
theorem Zap (f:Int) (fl:List Int) (i:Nat) (x:Int) (h:fl[i]?=some x):Yb f (fl.take (i+1))=Yb f (fl.take i)+(if hasI f x then x else 0):=by
 have hlt:i<fl.length:=(List.getElem?_eq_some_iff.1 h).1
 rw [List.take_succ_eq_append_getElem hlt,Zfx]
 rw [List.getElem?_eq_getElem hlt] at h
 rw [Option.some.inj h]
 simp [Yb]
theorem Zfw (f:Int) (fl:List Int) (hb:∀ x∈fl,0≤x∧x≤2048):0≤Yb f fl∧Yb f fl≤2048 * fl.length:=by
 induction fl with
 | nil=>simp [Yb]
 | cons x l ih =>
   obtain ⟨h1,h2⟩:=ih (fun y hy=>hb y (List.mem_cons_of_mem _ hy))
   have:=hb x (List.mem_cons_self ..)
   simp only [Yb,List.length_cons]
   split <;> omega
theorem Zfy (f:Int) (fl:List Int) (hb:∀ x∈fl,0≤x∧x≤2048) (hl:fl.length≤100) (v:Value) (w:World) (h:Zjv w v (fl.map intV)) :
 Calls Tryz.prog 224 #[.int .i64 f,v] w fun e w'=>e=.returned (.int .i64 (Yb f fl))∧w'=w:=by
 obtain ⟨bk,o,cap,rfl,h1,h2,h3,h4⟩:=h
 rw [List.length_map] at *
 unfold maxLen at h2
 have HC:Hid _:=h4
 have HB:Hid _:=hb
 have HH:Hid (∀ (x:Int) (w:World),_):=Zv f
 clear h4 hb
 go_enter Tryz.func224,Tryz.ntmps224
 go_wp2
 go_loop [5,6] (fun nv iv=>∃ (i:Nat) (n:Int),nv=.int .i64 n∧iv=.int .i64 i∧i≤fl.length∧0≤n∧n≤204800∧Hid (n=Yb f (fl.take i))) (fun _ iv=>fl.length - (intOf iv).toNat)
 case atStart=>exact ⟨0,0,rfl,rfl,Nat.zero_le _,by omega,by omega,rfl⟩
 case round =>
  obtain ⟨i,n,rfl,rfl,hi,hn0,hn1,hN⟩:=hrel
  by_cases hlt:i<fl.length
  ·obtain ⟨x,hx⟩:∃ x,fl[i]?=some x:=⟨_,List.getElem?_eq_getElem hlt⟩
   have c0:w.cell? ⟨bk,o+i,none⟩=some (.int .i64 x):=HC.out i (intV x) (by rw [List.getElem?_map,hx];rfl)
   obtain ⟨x0,x1⟩:=HB.out x (List.mem_of_getElem? hx)
   have HX:Hid (∀ w,_):=HH.out x
   have hbn:=Zfw f (fl.take (i+1)) (fun y hy=>HB.out y (List.mem_of_mem_take hy))
   rw [Zap f fl i x hx,← hN.out] at hbn
   have hlen:(fl.take (i+1)).length≤100:=by rw [List.length_take];omega
   cases hh:hasI f x with
   | true =>
     rw [hh] at HX hbn
     have hb2:n+x≤204800:=by simp at hbn;omega
     have HN:Hid (n+x=Yb f (fl.take (i+1))):=by rw [Hid,Zap f fl i x hx,hh,hN.out];rfl
     clear hh hx HC HB HH hbn hlen hN
     go_wp2_with (go_at_call 62;refine (HX.out _).mono ?_;rintro e w1 ⟨rfl,rfl⟩)
     go_round
     case rel=>exact ⟨i+1,n+x,by go_num,by go_num,by omega,by omega,hb2,HN⟩
     case measure=>simp [intOf];omega
   | false =>
     rw [hh] at HX
     have HN:Hid (n=Yb f (fl.take (i+1))):=by rw [Hid,Zap f fl i x hx,hh,hN.out];simp
     clear hh hx HC HB HH hbn hlen hN
     go_wp2_with (go_at_call 62;refine (HX.out _).mono ?_;rintro e w1 ⟨rfl,rfl⟩)
     go_round
     case rel=>exact ⟨i+1,n,rfl,by go_num,by omega,hn0,hn1,HN⟩
     case measure=>simp [intOf];omega
  ·have HN:Hid (n=Yb f fl):=by rw [Hid,hN.out,List.take_of_length_le (by omega)]
   clear HC HB HH hN
   go_wp2
   go_ret
   exact ⟨Zh HN.out,rfl⟩
def chkC (f:Int):Int:=if !Xx f clsP then 1 else if hasI f 512&&(!hasI f 1024||hasI f 16||hasI f 32) then 1 else if hasI f 16&&hasI f 1024 then 1 else 0
def visN (f:Int):Nat:=(if hasI f 1 then 1 else 0)+(if hasI f 2 then 1 else 0)+(if hasI f 4 then 1 else 0)
def chkM (f:Int) (iface ini:Bool):Int:=if !Xx f mthP then 1 else if decide (1<visN f) then 1 else if hasI f 1024&&(hasI f 2||hasI f 8||hasI f 16) then 1
 else if iface&&(hasI f 4||hasI f 16||decide (visN f=0)||ini) then 1 else if ini&&(hasI f 8||hasI f 16||hasI f 1024) then 1 else 0
def Y6 (f:Int):Int:=if hasI f 1 then 1 else if hasI f 4 then 4 else if hasI f 2 then 2 else 0
theorem Zj8:∀ x∈flagsOf clsP,0≤x∧x≤2048:=by decide
theorem Zj7:∀ x∈flagsOf mthP,0≤x∧x≤2048:=by decide
theorem Zbw (f:Int) (w:World):Calls Tryz.prog 166 #[.int .i64 f] w fun e w'=>e=.returned (.int .i64 (chkC f))∧Bw w w':=by
 have HL:Hid (∀ w,_):=Zcq
 have HK:Hid (∀ (v:Value) (w:World),Zjv w v ((flagsOf clsP).map intV)→_):=fun v w=>Zfy f (flagsOf clsP) Zj8 (by decide) v w
 have HH:Hid (∀ (x:Int) (w:World),_):=Zv f
 have HC:Hid (chkC f=if !Xx f clsP then 1 else if hasI f 512&&(!hasI f 1024||hasI f 16||hasI f 32) then 1 else if hasI f 16&&hasI f 1024 then 1 else 0):=rfl
 have hon:(Yb f (flagsOf clsP) != f)=!Xx f clsP:=by unfold Xx;rw [Bool.eq_iff_iff];simp
 generalize chkC f=r at *
 cases ho:Xx f clsP with
 | false =>
   have HR:Hid (r=1):=by rw [Hid,HC.out,ho];rfl
   rw [ho] at hon
   go_enter Tryz.func166,Tryz.ntmps166
   go_wp2_with (first
    | (go_at_call 225;refine (HL.out _).mono ?_;rintro e w1 ⟨⟨v,rfl,hv⟩,hb1⟩)
    | (go_at_call 224;refine (HK.out _ _ hv).mono ?_;rintro e w2 ⟨rfl,rfl⟩))
   go_ret
   exact ⟨Zh HR.out.symm,hb1⟩
 | true =>
   rw [ho] at hon HC
   clear ho
   cases h512:hasI f 512 with
   | true =>
     cases h1024:hasI f 1024 with
     | true =>
       cases h16:hasI f 16 with
       | true =>
         go_enter Tryz.func166,Tryz.ntmps166
         go_wp2_with (first
          | (go_at_call 225;refine (HL.out _).mono ?_;rintro e w1 ⟨⟨v,rfl,hv⟩,hb1⟩)
          | (go_at_call 224;refine (HK.out _ _ hv).mono ?_;rintro e w2 ⟨rfl,rfl⟩)
          | (go_at_call 62;refine (HH.out _ _).mono ?_;rintro e w3 ⟨rfl,rfl⟩;first|rw [h512]|rw [h1024]|rw [h16]))
         go_ret
         exact ⟨Zh (by rw [HC.out];simp [h512,h1024,h16]),hb1⟩
       | false =>
         cases h32:hasI f 32 with
         | true =>
           go_enter Tryz.func166,Tryz.ntmps166
           go_wp2_with (first
            | (go_at_call 225;refine (HL.out _).mono ?_;rintro e w1 ⟨⟨v,rfl,hv⟩,hb1⟩)
            | (go_at_call 224;refine (HK.out _ _ hv).mono ?_;rintro e w2 ⟨rfl,rfl⟩)
            | (go_at_call 62;refine (HH.out _ _).mono ?_;rintro e w3 ⟨rfl,rfl⟩;first|rw [h512]|rw [h1024]|rw [h16]|rw [h32]))
           go_ret
           exact ⟨Zh (by rw [HC.out];simp [h512,h1024,h16,h32]),hb1⟩
         | false =>
           go_enter Tryz.func166,Tryz.ntmps166
           go_wp2_with (first
            | (go_at_call 225;refine (HL.out _).mono ?_;rintro e w1 ⟨⟨v,rfl,hv⟩,hb1⟩)
            | (go_at_call 224;refine (HK.out _ _ hv).mono ?_;rintro e w2 ⟨rfl,rfl⟩)
            | (go_at_call 62;refine (HH.out _ _).mono ?_;rintro e w3 ⟨rfl,rfl⟩;first|rw [h512]|rw [h1024]|rw [h16]|rw [h32]))
           go_ret
           exact ⟨Zh (by rw [HC.out];simp [h512,h1024,h16,h32]),hb1⟩
     | false =>
       go_enter Tryz.func166,Tryz.ntmps166
       go_wp2_with (first
        | (go_at_call 225;refine (HL.out _).mono ?_;rintro e w1 ⟨⟨v,rfl,hv⟩,hb1⟩)
        | (go_at_call 224;refine (HK.out _ _ hv).mono ?_;rintro e w2 ⟨rfl,rfl⟩)
        | (go_at_call 62;refine (HH.out _ _).mono ?_;rintro e w3 ⟨rfl,rfl⟩;first|rw [h512]|rw [h1024]))
       go_ret
       exact ⟨Zh (by rw [HC.out];simp [h512,h1024]),hb1⟩
   | false =>
     cases h16:hasI f 16 with
     | true =>
       cases h1024:hasI f 1024 with
       | true =>
         go_enter Tryz.func166,Tryz.ntmps166
         go_wp2_with (first
          | (go_at_call 225;refine (HL.out _).mono ?_;rintro e w1 ⟨⟨v,rfl,hv⟩,hb1⟩)
          | (go_at_call 224;refine (HK.out _ _ hv).mono ?_;rintro e w2 ⟨rfl,rfl⟩)
          | (go_at_call 62;refine (HH.out _ _).mono ?_;rintro e w3 ⟨rfl,rfl⟩;first|rw [h512]|rw [h16]|rw [h1024]))
         go_ret
         exact ⟨Zh (by rw [HC.out];simp [h512,h16,h1024]),hb1⟩
       | false =>
         go_enter Tryz.func166,Tryz.ntmps166
         go_wp2_with (first
          | (go_at_call 225;refine (HL.out _).mono ?_;rintro e w1 ⟨⟨v,rfl,hv⟩,hb1⟩)
          | (go_at_call 224;refine (HK.out _ _ hv).mono ?_;rintro e w2 ⟨rfl,rfl⟩)
          | (go_at_call 62;refine (HH.out _ _).mono ?_;rintro e w3 ⟨rfl,rfl⟩;first|rw [h512]|rw [h16]|rw [h1024]))
         go_ret
         exact ⟨Zh (by rw [HC.out];simp [h512,h16,h1024]),hb1⟩
     | false =>
       go_enter Tryz.func166,Tryz.ntmps166
       go_wp2_with (first
        | (go_at_call 225;refine (HL.out _).mono ?_;rintro e w1 ⟨⟨v,rfl,hv⟩,hb1⟩)
        | (go_at_call 224;refine (HK.out _ _ hv).mono ?_;rintro e w2 ⟨rfl,rfl⟩)
        | (go_at_call 62;refine (HH.out _ _).mono ?_;rintro e w3 ⟨rfl,rfl⟩;first|rw [h512]|rw [h16]))
       go_ret
       exact ⟨Zh (by rw [HC.out];simp [h512,h16]),hb1⟩
set_option maxRecDepth 10000 in
theorem Za9 (f:Int) (iface:Bool) (nm:ByteArray) (w:World):Calls Tryz.prog 226 #[.int .i64 f,.bool iface,.string nm] w fun e w'=>e=.returned (.int .i64 (chkM f iface (nm.toList == [60,105,110,105,116,62])))∧Bw w w':=by
 have HL:Hid (∀ w,_):=Zb3
 have HK:Hid (∀ (v:Value) (w:World),Zjv w v ((flagsOf mthP).map intV)→_):=fun v w=>Zfy f (flagsOf mthP) Zj7 (by decide) v w
 have HH:Hid (∀ (x:Int) (w:World),_):=Zv f
 have HC:Hid (∀ b,chkM f iface b=if !Xx f mthP then 1 else if decide (1<visN f) then 1 else if hasI f 1024&&(hasI f 2||hasI f 8||hasI f 16) then 1
  else if iface&&(hasI f 4||hasI f 16||decide (visN f=0)||b) then 1 else if b&&(hasI f 8||hasI f 16||hasI f 1024) then 1 else 0):=fun _=>rfl
 have hon:(Yb f (flagsOf mthP) != f)=!Xx f mthP:=by unfold Xx;rw [Bool.eq_iff_iff];simp
 cases ho:Xx f mthP with
 | false =>
   have HR:Hid (∀ b,chkM f iface b=1):=fun b=>by rw [HC.out,ho];rfl
   rw [ho] at hon
   go_enter Tryz.func226,Tryz.ntmps226
   go_wp2_with (first
    | (go_at_call 266;refine (HL.out _).mono ?_;rintro e w1 ⟨⟨v,rfl,hv⟩,hb1⟩)
    | (go_at_call 224;refine (HK.out _ _ hv).mono ?_;rintro e w2 ⟨rfl,rfl⟩))
   go_ret
   exact ⟨Zh (HR.out _).symm,hb1⟩
 | true =>
   rw [ho] at hon HC
   clear ho
   cases h1:hasI f 1 with
   | true =>
     cases h2:hasI f 2 with
     | true =>
       cases h4:hasI f 4 with
       | true =>
         go_enter Tryz.func226,Tryz.ntmps226
         go_wp2_with (first
          | (go_at_call 266;refine (HL.out _).mono ?_;rintro e w1 ⟨⟨v,rfl,hv⟩,hb1⟩)
          | (go_at_call 224;refine (HK.out _ _ hv).mono ?_;rintro e w2 ⟨rfl,rfl⟩)
          | (go_at_call 62;refine (HH.out _ _).mono ?_;rintro e w3 ⟨rfl,rfl⟩;first|rw [h1]|rw [h2]|rw [h4]))
         go_ret
         exact ⟨Zh (by rw [HC.out _];simp [visN,h1,h2,h4]),hb1⟩
       | false =>
         go_enter Tryz.func226,Tryz.ntmps226
         go_wp2_with (first
          | (go_at_call 266;refine (HL.out _).mono ?_;rintro e w1 ⟨⟨v,rfl,hv⟩,hb1⟩)
          | (go_at_call 224;refine (HK.out _ _ hv).mono ?_;rintro e w2 ⟨rfl,rfl⟩)
          | (go_at_call 62;refine (HH.out _ _).mono ?_;rintro e w3 ⟨rfl,rfl⟩;first|rw [h1]|rw [h2]|rw [h4]))
         go_ret
         exact ⟨Zh (by rw [HC.out _];simp [visN,h1,h2,h4]),hb1⟩
     | false =>
       cases h4:hasI f 4 with
       | true =>
         go_enter Tryz.func226,Tryz.ntmps226
         go_wp2_with (first
          | (go_at_call 266;refine (HL.out _).mono ?_;rintro e w1 ⟨⟨v,rfl,hv⟩,hb1⟩)
          | (go_at_call 224;refine (HK.out _ _ hv).mono ?_;rintro e w2 ⟨rfl,rfl⟩)
          | (go_at_call 62;refine (HH.out _ _).mono ?_;rintro e w3 ⟨rfl,rfl⟩;first|rw [h1]|rw [h2]|rw [h4]))
         go_ret
         exact ⟨Zh (by rw [HC.out _];simp [visN,h1,h2,h4]),hb1⟩
       | false =>
         cases h1024:hasI f 1024 with
         | true =>
           cases h8:hasI f 8 with
           | true =>
             go_enter Tryz.func226,Tryz.ntmps226
             go_wp2_with (first
              | (go_at_call 266;refine (HL.out _).mono ?_;rintro e w1 ⟨⟨v,rfl,hv⟩,hb1⟩)
              | (go_at_call 224;refine (HK.out _ _ hv).mono ?_;rintro e w2 ⟨rfl,rfl⟩)
              | (go_at_call 62;refine (HH.out _ _).mono ?_;rintro e w3 ⟨rfl,rfl⟩;first|rw [h1]|rw [h2]|rw [h4]|rw [h1024]|rw [h8]))
             go_ret
             exact ⟨Zh (by rw [HC.out _];simp [visN,h1,h2,h4,h1024,h8]),hb1⟩
           | false =>
             cases h16:hasI f 16 with
             | true =>
               go_enter Tryz.func226,Tryz.ntmps226
               go_wp2_with (first
                | (go_at_call 266;refine (HL.out _).mono ?_;rintro e w1 ⟨⟨v,rfl,hv⟩,hb1⟩)
                | (go_at_call 224;refine (HK.out _ _ hv).mono ?_;rintro e w2 ⟨rfl,rfl⟩)
                | (go_at_call 62;refine (HH.out _ _).mono ?_;rintro e w3 ⟨rfl,rfl⟩;first|rw [h1]|rw [h2]|rw [h4]|rw [h1024]|rw [h8]|rw [h16]))
               go_ret
               exact ⟨Zh (by rw [HC.out _];simp [visN,h1,h2,h4,h1024,h8,h16]),hb1⟩
             | false =>
               cases iface with
               | true =>
                 cases hini:(nm.toList == [60,105,110,105,116,62]) with
                 | true =>
                   go_enter Tryz.func226,Tryz.ntmps226
                   go_wp2_with (first
                    | (go_at_call 266;refine (HL.out _).mono ?_;rintro e w1 ⟨⟨v,rfl,hv⟩,hb1⟩)
                    | (go_at_call 224;refine (HK.out _ _ hv).mono ?_;rintro e w2 ⟨rfl,rfl⟩)
                    | (go_at_call 62;refine (HH.out _ _).mono ?_;rintro e w3 ⟨rfl,rfl⟩;first|rw [h1]|rw [h2]|rw [h4]|rw [h1024]|rw [h8]|rw [h16]))
                   go_ret
                   exact ⟨Zh (by rw [HC.out _];simp [visN,h1,h2,h4,h1024,h8,h16]),hb1⟩
                 | false =>
                   go_enter Tryz.func226,Tryz.ntmps226
                   go_wp2_with (first
                    | (go_at_call 266;refine (HL.out _).mono ?_;rintro e w1 ⟨⟨v,rfl,hv⟩,hb1⟩)
                    | (go_at_call 224;refine (HK.out _ _ hv).mono ?_;rintro e w2 ⟨rfl,rfl⟩)
                    | (go_at_call 62;refine (HH.out _ _).mono ?_;rintro e w3 ⟨rfl,rfl⟩;first|rw [h1]|rw [h2]|rw [h4]|rw [h1024]|rw [h8]|rw [h16]))
                   go_ret
                   exact ⟨Zh (by rw [HC.out _];simp [visN,h1,h2,h4,h1024,h8,h16]),hb1⟩
               | false =>
                 cases hini:(nm.toList == [60,105,110,105,116,62]) with
                 | true =>
                   go_enter Tryz.func226,Tryz.ntmps226
                   go_wp2_with (first
                    | (go_at_call 266;refine (HL.out _).mono ?_;rintro e w1 ⟨⟨v,rfl,hv⟩,hb1⟩)
                    | (go_at_call 224;refine (HK.out _ _ hv).mono ?_;rintro e w2 ⟨rfl,rfl⟩)
                    | (go_at_call 62;refine (HH.out _ _).mono ?_;rintro e w3 ⟨rfl,rfl⟩;first|rw [h1]|rw [h2]|rw [h4]|rw [h1024]|rw [h8]|rw [h16]))
                   go_ret
                   exact ⟨Zh (by rw [HC.out _];simp [visN,h1,h2,h4,h1024,h8,h16]),hb1⟩
                 | false =>
                   go_enter Tryz.func226,Tryz.ntmps226
                   go_wp2_with (first
                    | (go_at_call 266;refine (HL.out _).mono ?_;rintro e w1 ⟨⟨v,rfl,hv⟩,hb1⟩)
                    | (go_at_call 224;refine (HK.out _ _ hv).mono ?_;rintro e w2 ⟨rfl,rfl⟩)
                    | (go_at_call 62;refine (HH.out _ _).mono ?_;rintro e w3 ⟨rfl,rfl⟩;first|rw [h1]|rw [h2]|rw [h4]|rw [h1024]|rw [h8]|rw [h16]))
                   go_ret
                   exact ⟨Zh (by rw [HC.out _];simp [visN,h1,h2,h4,h1024,h8,h16]),hb1⟩
         | false =>
           cases iface with
           | true =>
             cases h16:hasI f 16 with
             | true =>
               go_enter Tryz.func226,Tryz.ntmps226
               go_wp2_with (first
                | (go_at_call 266;refine (HL.out _).mono ?_;rintro e w1 ⟨⟨v,rfl,hv⟩,hb1⟩)
                | (go_at_call 224;refine (HK.out _ _ hv).mono ?_;rintro e w2 ⟨rfl,rfl⟩)
                | (go_at_call 62;refine (HH.out _ _).mono ?_;rintro e w3 ⟨rfl,rfl⟩;first|rw [h1]|rw [h2]|rw [h4]|rw [h1024]|rw [h16]))
               go_ret
               exact ⟨Zh (by rw [HC.out _];simp [visN,h1,h2,h4,h1024,h16]),hb1⟩
             | false =>
               cases hini:(nm.toList == [60,105,110,105,116,62]) with
               | true =>
                 go_enter Tryz.func226,Tryz.ntmps226
                 go_wp2_with (first
                  | (go_at_call 266;refine (HL.out _).mono ?_;rintro e w1 ⟨⟨v,rfl,hv⟩,hb1⟩)
                  | (go_at_call 224;refine (HK.out _ _ hv).mono ?_;rintro e w2 ⟨rfl,rfl⟩)
                  | (go_at_call 62;refine (HH.out _ _).mono ?_;rintro e w3 ⟨rfl,rfl⟩;first|rw [h1]|rw [h2]|rw [h4]|rw [h1024]|rw [h16]))
                 go_ret
                 exact ⟨Zh (by rw [HC.out _];simp [visN,h1,h2,h4,h1024,h16]),hb1⟩
               | false =>
                 go_enter Tryz.func226,Tryz.ntmps226
                 go_wp2_with (first
                  | (go_at_call 266;refine (HL.out _).mono ?_;rintro e w1 ⟨⟨v,rfl,hv⟩,hb1⟩)
                  | (go_at_call 224;refine (HK.out _ _ hv).mono ?_;rintro e w2 ⟨rfl,rfl⟩)
                  | (go_at_call 62;refine (HH.out _ _).mono ?_;rintro e w3 ⟨rfl,rfl⟩;first|rw [h1]|rw [h2]|rw [h4]|rw [h1024]|rw [h16]))
                 go_ret
                 exact ⟨Zh (by rw [HC.out _];simp [visN,h1,h2,h4,h1024,h16]),hb1⟩
           | false =>
             cases hini:(nm.toList == [60,105,110,105,116,62]) with
             | true =>
               cases h8:hasI f 8 with
               | true =>
                 go_enter Tryz.func226,Tryz.ntmps226
                 go_wp2_with (first
                  | (go_at_call 266;refine (HL.out _).mono ?_;rintro e w1 ⟨⟨v,rfl,hv⟩,hb1⟩)
                  | (go_at_call 224;refine (HK.out _ _ hv).mono ?_;rintro e w2 ⟨rfl,rfl⟩)
                  | (go_at_call 62;refine (HH.out _ _).mono ?_;rintro e w3 ⟨rfl,rfl⟩;first|rw [h1]|rw [h2]|rw [h4]|rw [h1024]|rw [h8]))
                 go_ret
                 exact ⟨Zh (by rw [HC.out _];simp [visN,h1,h2,h4,h1024,h8]),hb1⟩
               | false =>
                 cases h16:hasI f 16 with
                 | true =>
                   go_enter Tryz.func226,Tryz.ntmps226
                   go_wp2_with (first
                    | (go_at_call 266;refine (HL.out _).mono ?_;rintro e w1 ⟨⟨v,rfl,hv⟩,hb1⟩)
                    | (go_at_call 224;refine (HK.out _ _ hv).mono ?_;rintro e w2 ⟨rfl,rfl⟩)
                    | (go_at_call 62;refine (HH.out _ _).mono ?_;rintro e w3 ⟨rfl,rfl⟩;first|rw [h1]|rw [h2]|rw [h4]|rw [h1024]|rw [h8]|rw [h16]))
                   go_ret
                   exact ⟨Zh (by rw [HC.out _];simp [visN,h1,h2,h4,h1024,h8,h16]),hb1⟩
                 | false =>
                   go_enter Tryz.func226,Tryz.ntmps226
                   go_wp2_with (first
                    | (go_at_call 266;refine (HL.out _).mono ?_;rintro e w1 ⟨⟨v,rfl,hv⟩,hb1⟩)
                    | (go_at_call 224;refine (HK.out _ _ hv).mono ?_;rintro e w2 ⟨rfl,rfl⟩)
                    | (go_at_call 62;refine (HH.out _ _).mono ?_;rintro e w3 ⟨rfl,rfl⟩;first|rw [h1]|rw [h2]|rw [h4]|rw [h1024]|rw [h8]|rw [h16]))
                   go_ret
                   exact ⟨Zh (by rw [HC.out _];simp [visN,h1,h2,h4,h1024,h8,h16]),hb1⟩
             | false =>
               go_enter Tryz.func226,Tryz.ntmps226
               go_wp2_with (first
                | (go_at_call 266;refine (HL.out _).mono ?_;rintro e w1 ⟨⟨v,rfl,hv⟩,hb1⟩)
                | (go_at_call 224;refine (HK.out _ _ hv).mono ?_;rintro e w2 ⟨rfl,rfl⟩)
                | (go_at_call 62;refine (HH.out _ _).mono ?_;rintro e w3 ⟨rfl,rfl⟩;first|rw [h1]|rw [h2]|rw [h4]|rw [h1024]))
               go_ret
               exact ⟨Zh (by rw [HC.out _];simp [visN,h1,h2,h4,h1024]),hb1⟩
   | false =>
     cases h2:hasI f 2 with
     | true =>
       cases h4:hasI f 4 with
       | true =>
         go_enter Tryz.func226,Tryz.ntmps226
         go_wp2_with (first
          | (go_at_call 266;refine (HL.out _).mono ?_;rintro e w1 ⟨⟨v,rfl,hv⟩,hb1⟩)
          | (go_at_call 224;refine (HK.out _ _ hv).mono ?_;rintro e w2 ⟨rfl,rfl⟩)
          | (go_at_call 62;refine (HH.out _ _).mono ?_;rintro e w3 ⟨rfl,rfl⟩;first|rw [h1]|rw [h2]|rw [h4]))
         go_ret
         exact ⟨Zh (by rw [HC.out _];simp [visN,h1,h2,h4]),hb1⟩
       | false =>
         cases h1024:hasI f 1024 with
         | true =>
           go_enter Tryz.func226,Tryz.ntmps226
           go_wp2_with (first
            | (go_at_call 266;refine (HL.out _).mono ?_;rintro e w1 ⟨⟨v,rfl,hv⟩,hb1⟩)
            | (go_at_call 224;refine (HK.out _ _ hv).mono ?_;rintro e w2 ⟨rfl,rfl⟩)
            | (go_at_call 62;refine (HH.out _ _).mono ?_;rintro e w3 ⟨rfl,rfl⟩;first|rw [h1]|rw [h2]|rw [h4]|rw [h1024]))
           go_ret
           exact ⟨Zh (by rw [HC.out _];simp [visN,h1,h2,h4,h1024]),hb1⟩
         | false =>
           cases iface with
           | true =>
             cases h16:hasI f 16 with
             | true =>
               go_enter Tryz.func226,Tryz.ntmps226
               go_wp2_with (first
                | (go_at_call 266;refine (HL.out _).mono ?_;rintro e w1 ⟨⟨v,rfl,hv⟩,hb1⟩)
                | (go_at_call 224;refine (HK.out _ _ hv).mono ?_;rintro e w2 ⟨rfl,rfl⟩)
                | (go_at_call 62;refine (HH.out _ _).mono ?_;rintro e w3 ⟨rfl,rfl⟩;first|rw [h1]|rw [h2]|rw [h4]|rw [h1024]|rw [h16]))
               go_ret
               exact ⟨Zh (by rw [HC.out _];simp [visN,h1,h2,h4,h1024,h16]),hb1⟩
             | false =>
               cases hini:(nm.toList == [60,105,110,105,116,62]) with
               | true =>
                 go_enter Tryz.func226,Tryz.ntmps226
                 go_wp2_with (first
                  | (go_at_call 266;refine (HL.out _).mono ?_;rintro e w1 ⟨⟨v,rfl,hv⟩,hb1⟩)
                  | (go_at_call 224;refine (HK.out _ _ hv).mono ?_;rintro e w2 ⟨rfl,rfl⟩)
                  | (go_at_call 62;refine (HH.out _ _).mono ?_;rintro e w3 ⟨rfl,rfl⟩;first|rw [h1]|rw [h2]|rw [h4]|rw [h1024]|rw [h16]))
                 go_ret
                 exact ⟨Zh (by rw [HC.out _];simp [visN,h1,h2,h4,h1024,h16]),hb1⟩
               | false =>
                 go_enter Tryz.func226,Tryz.ntmps226
                 go_wp2_with (first
                  | (go_at_call 266;refine (HL.out _).mono ?_;rintro e w1 ⟨⟨v,rfl,hv⟩,hb1⟩)
                  | (go_at_call 224;refine (HK.out _ _ hv).mono ?_;rintro e w2 ⟨rfl,rfl⟩)
                  | (go_at_call 62;refine (HH.out _ _).mono ?_;rintro e w3 ⟨rfl,rfl⟩;first|rw [h1]|rw [h2]|rw [h4]|rw [h1024]|rw [h16]))
                 go_ret
                 exact ⟨Zh (by rw [HC.out _];simp [visN,h1,h2,h4,h1024,h16]),hb1⟩
           | false =>
             cases hini:(nm.toList == [60,105,110,105,116,62]) with
             | true =>
               cases h8:hasI f 8 with
               | true =>
                 go_enter Tryz.func226,Tryz.ntmps226
                 go_wp2_with (first
                  | (go_at_call 266;refine (HL.out _).mono ?_;rintro e w1 ⟨⟨v,rfl,hv⟩,hb1⟩)
                  | (go_at_call 224;refine (HK.out _ _ hv).mono ?_;rintro e w2 ⟨rfl,rfl⟩)
                  | (go_at_call 62;refine (HH.out _ _).mono ?_;rintro e w3 ⟨rfl,rfl⟩;first|rw [h1]|rw [h2]|rw [h4]|rw [h1024]|rw [h8]))
                 go_ret
                 exact ⟨Zh (by rw [HC.out _];simp [visN,h1,h2,h4,h1024,h8]),hb1⟩
               | false =>
                 cases h16:hasI f 16 with
                 | true =>
                   go_enter Tryz.func226,Tryz.ntmps226
                   go_wp2_with (first
                    | (go_at_call 266;refine (HL.out _).mono ?_;rintro e w1 ⟨⟨v,rfl,hv⟩,hb1⟩)
                    | (go_at_call 224;refine (HK.out _ _ hv).mono ?_;rintro e w2 ⟨rfl,rfl⟩)
                    | (go_at_call 62;refine (HH.out _ _).mono ?_;rintro e w3 ⟨rfl,rfl⟩;first|rw [h1]|rw [h2]|rw [h4]|rw [h1024]|rw [h8]|rw [h16]))
                   go_ret
                   exact ⟨Zh (by rw [HC.out _];simp [visN,h1,h2,h4,h1024,h8,h16]),hb1⟩
                 | false =>
                   go_enter Tryz.func226,Tryz.ntmps226
                   go_wp2_with (first
                    | (go_at_call 266;refine (HL.out _).mono ?_;rintro e w1 ⟨⟨v,rfl,hv⟩,hb1⟩)
                    | (go_at_call 224;refine (HK.out _ _ hv).mono ?_;rintro e w2 ⟨rfl,rfl⟩)
                    | (go_at_call 62;refine (HH.out _ _).mono ?_;rintro e w3 ⟨rfl,rfl⟩;first|rw [h1]|rw [h2]|rw [h4]|rw [h1024]|rw [h8]|rw [h16]))
                   go_ret
                   exact ⟨Zh (by rw [HC.out _];simp [visN,h1,h2,h4,h1024,h8,h16]),hb1⟩
             | false =>
               go_enter Tryz.func226,Tryz.ntmps226
               go_wp2_with (first
                | (go_at_call 266;refine (HL.out _).mono ?_;rintro e w1 ⟨⟨v,rfl,hv⟩,hb1⟩)
                | (go_at_call 224;refine (HK.out _ _ hv).mono ?_;rintro e w2 ⟨rfl,rfl⟩)
                | (go_at_call 62;refine (HH.out _ _).mono ?_;rintro e w3 ⟨rfl,rfl⟩;first|rw [h1]|rw [h2]|rw [h4]|rw [h1024]))
               go_ret
               exact ⟨Zh (by rw [HC.out _];simp [visN,h1,h2,h4,h1024]),hb1⟩
     | false =>
       cases h4:hasI f 4 with
       | true =>
         cases h1024:hasI f 1024 with
         | true =>
           cases h8:hasI f 8 with
           | true =>
             go_enter Tryz.func226,Tryz.ntmps226
             go_wp2_with (first
              | (go_at_call 266;refine (HL.out _).mono ?_;rintro e w1 ⟨⟨v,rfl,hv⟩,hb1⟩)
              | (go_at_call 224;refine (HK.out _ _ hv).mono ?_;rintro e w2 ⟨rfl,rfl⟩)
              | (go_at_call 62;refine (HH.out _ _).mono ?_;rintro e w3 ⟨rfl,rfl⟩;first|rw [h1]|rw [h2]|rw [h4]|rw [h1024]|rw [h8]))
             go_ret
             exact ⟨Zh (by rw [HC.out _];simp [visN,h1,h2,h4,h1024,h8]),hb1⟩
           | false =>
             cases h16:hasI f 16 with
             | true =>
               go_enter Tryz.func226,Tryz.ntmps226
               go_wp2_with (first
                | (go_at_call 266;refine (HL.out _).mono ?_;rintro e w1 ⟨⟨v,rfl,hv⟩,hb1⟩)
                | (go_at_call 224;refine (HK.out _ _ hv).mono ?_;rintro e w2 ⟨rfl,rfl⟩)
                | (go_at_call 62;refine (HH.out _ _).mono ?_;rintro e w3 ⟨rfl,rfl⟩;first|rw [h1]|rw [h2]|rw [h4]|rw [h1024]|rw [h8]|rw [h16]))
               go_ret
               exact ⟨Zh (by rw [HC.out _];simp [visN,h1,h2,h4,h1024,h8,h16]),hb1⟩
             | false =>
               cases iface with
               | true =>
                 go_enter Tryz.func226,Tryz.ntmps226
                 go_wp2_with (first
                  | (go_at_call 266;refine (HL.out _).mono ?_;rintro e w1 ⟨⟨v,rfl,hv⟩,hb1⟩)
                  | (go_at_call 224;refine (HK.out _ _ hv).mono ?_;rintro e w2 ⟨rfl,rfl⟩)
                  | (go_at_call 62;refine (HH.out _ _).mono ?_;rintro e w3 ⟨rfl,rfl⟩;first|rw [h1]|rw [h2]|rw [h4]|rw [h1024]|rw [h8]|rw [h16]))
                 go_ret
                 exact ⟨Zh (by rw [HC.out _];simp [visN,h1,h2,h4,h1024,h8,h16]),hb1⟩
               | false =>
                 cases hini:(nm.toList == [60,105,110,105,116,62]) with
                 | true =>
                   go_enter Tryz.func226,Tryz.ntmps226
                   go_wp2_with (first
                    | (go_at_call 266;refine (HL.out _).mono ?_;rintro e w1 ⟨⟨v,rfl,hv⟩,hb1⟩)
                    | (go_at_call 224;refine (HK.out _ _ hv).mono ?_;rintro e w2 ⟨rfl,rfl⟩)
                    | (go_at_call 62;refine (HH.out _ _).mono ?_;rintro e w3 ⟨rfl,rfl⟩;first|rw [h1]|rw [h2]|rw [h4]|rw [h1024]|rw [h8]|rw [h16]))
                   go_ret
                   exact ⟨Zh (by rw [HC.out _];simp [visN,h1,h2,h4,h1024,h8,h16]),hb1⟩
                 | false =>
                   go_enter Tryz.func226,Tryz.ntmps226
                   go_wp2_with (first
                    | (go_at_call 266;refine (HL.out _).mono ?_;rintro e w1 ⟨⟨v,rfl,hv⟩,hb1⟩)
                    | (go_at_call 224;refine (HK.out _ _ hv).mono ?_;rintro e w2 ⟨rfl,rfl⟩)
                    | (go_at_call 62;refine (HH.out _ _).mono ?_;rintro e w3 ⟨rfl,rfl⟩;first|rw [h1]|rw [h2]|rw [h4]|rw [h1024]|rw [h8]|rw [h16]))
                   go_ret
                   exact ⟨Zh (by rw [HC.out _];simp [visN,h1,h2,h4,h1024,h8,h16]),hb1⟩
         | false =>
           cases iface with
           | true =>
             go_enter Tryz.func226,Tryz.ntmps226
             go_wp2_with (first
              | (go_at_call 266;refine (HL.out _).mono ?_;rintro e w1 ⟨⟨v,rfl,hv⟩,hb1⟩)
              | (go_at_call 224;refine (HK.out _ _ hv).mono ?_;rintro e w2 ⟨rfl,rfl⟩)
              | (go_at_call 62;refine (HH.out _ _).mono ?_;rintro e w3 ⟨rfl,rfl⟩;first|rw [h1]|rw [h2]|rw [h4]|rw [h1024]))
             go_ret
             exact ⟨Zh (by rw [HC.out _];simp [visN,h1,h2,h4,h1024]),hb1⟩
           | false =>
             cases hini:(nm.toList == [60,105,110,105,116,62]) with
             | true =>
               cases h8:hasI f 8 with
               | true =>
                 go_enter Tryz.func226,Tryz.ntmps226
                 go_wp2_with (first
                  | (go_at_call 266;refine (HL.out _).mono ?_;rintro e w1 ⟨⟨v,rfl,hv⟩,hb1⟩)
                  | (go_at_call 224;refine (HK.out _ _ hv).mono ?_;rintro e w2 ⟨rfl,rfl⟩)
                  | (go_at_call 62;refine (HH.out _ _).mono ?_;rintro e w3 ⟨rfl,rfl⟩;first|rw [h1]|rw [h2]|rw [h4]|rw [h1024]|rw [h8]))
                 go_ret
                 exact ⟨Zh (by rw [HC.out _];simp [visN,h1,h2,h4,h1024,h8]),hb1⟩
               | false =>
                 cases h16:hasI f 16 with
                 | true =>
                   go_enter Tryz.func226,Tryz.ntmps226
                   go_wp2_with (first
                    | (go_at_call 266;refine (HL.out _).mono ?_;rintro e w1 ⟨⟨v,rfl,hv⟩,hb1⟩)
                    | (go_at_call 224;refine (HK.out _ _ hv).mono ?_;rintro e w2 ⟨rfl,rfl⟩)
                    | (go_at_call 62;refine (HH.out _ _).mono ?_;rintro e w3 ⟨rfl,rfl⟩;first|rw [h1]|rw [h2]|rw [h4]|rw [h1024]|rw [h8]|rw [h16]))
                   go_ret
                   exact ⟨Zh (by rw [HC.out _];simp [visN,h1,h2,h4,h1024,h8,h16]),hb1⟩
                 | false =>
                   go_enter Tryz.func226,Tryz.ntmps226
                   go_wp2_with (first
                    | (go_at_call 266;refine (HL.out _).mono ?_;rintro e w1 ⟨⟨v,rfl,hv⟩,hb1⟩)
                    | (go_at_call 224;refine (HK.out _ _ hv).mono ?_;rintro e w2 ⟨rfl,rfl⟩)
                    | (go_at_call 62;refine (HH.out _ _).mono ?_;rintro e w3 ⟨rfl,rfl⟩;first|rw [h1]|rw [h2]|rw [h4]|rw [h1024]|rw [h8]|rw [h16]))
                   go_ret
                   exact ⟨Zh (by rw [HC.out _];simp [visN,h1,h2,h4,h1024,h8,h16]),hb1⟩
             | false =>
               go_enter Tryz.func226,Tryz.ntmps226
               go_wp2_with (first
                | (go_at_call 266;refine (HL.out _).mono ?_;rintro e w1 ⟨⟨v,rfl,hv⟩,hb1⟩)
                | (go_at_call 224;refine (HK.out _ _ hv).mono ?_;rintro e w2 ⟨rfl,rfl⟩)
                | (go_at_call 62;refine (HH.out _ _).mono ?_;rintro e w3 ⟨rfl,rfl⟩;first|rw [h1]|rw [h2]|rw [h4]|rw [h1024]))
               go_ret
               exact ⟨Zh (by rw [HC.out _];simp [visN,h1,h2,h4,h1024]),hb1⟩
       | false =>
         cases h1024:hasI f 1024 with
         | true =>
           cases h8:hasI f 8 with
           | true =>
             go_enter Tryz.func226,Tryz.ntmps226
             go_wp2_with (first
              | (go_at_call 266;refine (HL.out _).mono ?_;rintro e w1 ⟨⟨v,rfl,hv⟩,hb1⟩)
              | (go_at_call 224;refine (HK.out _ _ hv).mono ?_;rintro e w2 ⟨rfl,rfl⟩)
              | (go_at_call 62;refine (HH.out _ _).mono ?_;rintro e w3 ⟨rfl,rfl⟩;first|rw [h1]|rw [h2]|rw [h4]|rw [h1024]|rw [h8]))
             go_ret
             exact ⟨Zh (by rw [HC.out _];simp [visN,h1,h2,h4,h1024,h8]),hb1⟩
           | false =>
             cases h16:hasI f 16 with
             | true =>
               go_enter Tryz.func226,Tryz.ntmps226
               go_wp2_with (first
                | (go_at_call 266;refine (HL.out _).mono ?_;rintro e w1 ⟨⟨v,rfl,hv⟩,hb1⟩)
                | (go_at_call 224;refine (HK.out _ _ hv).mono ?_;rintro e w2 ⟨rfl,rfl⟩)
                | (go_at_call 62;refine (HH.out _ _).mono ?_;rintro e w3 ⟨rfl,rfl⟩;first|rw [h1]|rw [h2]|rw [h4]|rw [h1024]|rw [h8]|rw [h16]))
               go_ret
               exact ⟨Zh (by rw [HC.out _];simp [visN,h1,h2,h4,h1024,h8,h16]),hb1⟩
             | false =>
               cases iface with
               | true =>
                 go_enter Tryz.func226,Tryz.ntmps226
                 go_wp2_with (first
                  | (go_at_call 266;refine (HL.out _).mono ?_;rintro e w1 ⟨⟨v,rfl,hv⟩,hb1⟩)
                  | (go_at_call 224;refine (HK.out _ _ hv).mono ?_;rintro e w2 ⟨rfl,rfl⟩)
                  | (go_at_call 62;refine (HH.out _ _).mono ?_;rintro e w3 ⟨rfl,rfl⟩;first|rw [h1]|rw [h2]|rw [h4]|rw [h1024]|rw [h8]|rw [h16]))
                 go_ret
                 exact ⟨Zh (by rw [HC.out _];simp [visN,h1,h2,h4,h1024,h8,h16]),hb1⟩
               | false =>
                 cases hini:(nm.toList == [60,105,110,105,116,62]) with
                 | true =>
                   go_enter Tryz.func226,Tryz.ntmps226
                   go_wp2_with (first
                    | (go_at_call 266;refine (HL.out _).mono ?_;rintro e w1 ⟨⟨v,rfl,hv⟩,hb1⟩)
                    | (go_at_call 224;refine (HK.out _ _ hv).mono ?_;rintro e w2 ⟨rfl,rfl⟩)
                    | (go_at_call 62;refine (HH.out _ _).mono ?_;rintro e w3 ⟨rfl,rfl⟩;first|rw [h1]|rw [h2]|rw [h4]|rw [h1024]|rw [h8]|rw [h16]))
                   go_ret
                   exact ⟨Zh (by rw [HC.out _];simp [visN,h1,h2,h4,h1024,h8,h16]),hb1⟩
                 | false =>
                   go_enter Tryz.func226,Tryz.ntmps226
                   go_wp2_with (first
                    | (go_at_call 266;refine (HL.out _).mono ?_;rintro e w1 ⟨⟨v,rfl,hv⟩,hb1⟩)
                    | (go_at_call 224;refine (HK.out _ _ hv).mono ?_;rintro e w2 ⟨rfl,rfl⟩)
                    | (go_at_call 62;refine (HH.out _ _).mono ?_;rintro e w3 ⟨rfl,rfl⟩;first|rw [h1]|rw [h2]|rw [h4]|rw [h1024]|rw [h8]|rw [h16]))
                   go_ret
                   exact ⟨Zh (by rw [HC.out _];simp [visN,h1,h2,h4,h1024,h8,h16]),hb1⟩
         | false =>
           cases iface with
           | true =>
             cases h16:hasI f 16 with
             | true =>
               go_enter Tryz.func226,Tryz.ntmps226
               go_wp2_with (first
                | (go_at_call 266;refine (HL.out _).mono ?_;rintro e w1 ⟨⟨v,rfl,hv⟩,hb1⟩)
                | (go_at_call 224;refine (HK.out _ _ hv).mono ?_;rintro e w2 ⟨rfl,rfl⟩)
                | (go_at_call 62;refine (HH.out _ _).mono ?_;rintro e w3 ⟨rfl,rfl⟩;first|rw [h1]|rw [h2]|rw [h4]|rw [h1024]|rw [h16]))
               go_ret
               exact ⟨Zh (by rw [HC.out _];simp [visN,h1,h2,h4,h1024,h16]),hb1⟩
             | false =>
               go_enter Tryz.func226,Tryz.ntmps226
               go_wp2_with (first
                | (go_at_call 266;refine (HL.out _).mono ?_;rintro e w1 ⟨⟨v,rfl,hv⟩,hb1⟩)
                | (go_at_call 224;refine (HK.out _ _ hv).mono ?_;rintro e w2 ⟨rfl,rfl⟩)
                | (go_at_call 62;refine (HH.out _ _).mono ?_;rintro e w3 ⟨rfl,rfl⟩;first|rw [h1]|rw [h2]|rw [h4]|rw [h1024]|rw [h16]))
               go_ret
               exact ⟨Zh (by rw [HC.out _];simp [visN,h1,h2,h4,h1024,h16]),hb1⟩
           | false =>
             cases hini:(nm.toList == [60,105,110,105,116,62]) with
             | true =>
               cases h8:hasI f 8 with
               | true =>
                 go_enter Tryz.func226,Tryz.ntmps226
                 go_wp2_with (first
                  | (go_at_call 266;refine (HL.out _).mono ?_;rintro e w1 ⟨⟨v,rfl,hv⟩,hb1⟩)
                  | (go_at_call 224;refine (HK.out _ _ hv).mono ?_;rintro e w2 ⟨rfl,rfl⟩)
                  | (go_at_call 62;refine (HH.out _ _).mono ?_;rintro e w3 ⟨rfl,rfl⟩;first|rw [h1]|rw [h2]|rw [h4]|rw [h1024]|rw [h8]))
                 go_ret
                 exact ⟨Zh (by rw [HC.out _];simp [visN,h1,h2,h4,h1024,h8]),hb1⟩
               | false =>
                 cases h16:hasI f 16 with
                 | true =>
                   go_enter Tryz.func226,Tryz.ntmps226
                   go_wp2_with (first
                    | (go_at_call 266;refine (HL.out _).mono ?_;rintro e w1 ⟨⟨v,rfl,hv⟩,hb1⟩)
                    | (go_at_call 224;refine (HK.out _ _ hv).mono ?_;rintro e w2 ⟨rfl,rfl⟩)
                    | (go_at_call 62;refine (HH.out _ _).mono ?_;rintro e w3 ⟨rfl,rfl⟩;first|rw [h1]|rw [h2]|rw [h4]|rw [h1024]|rw [h8]|rw [h16]))
                   go_ret
                   exact ⟨Zh (by rw [HC.out _];simp [visN,h1,h2,h4,h1024,h8,h16]),hb1⟩
                 | false =>
                   go_enter Tryz.func226,Tryz.ntmps226
                   go_wp2_with (first
                    | (go_at_call 266;refine (HL.out _).mono ?_;rintro e w1 ⟨⟨v,rfl,hv⟩,hb1⟩)
                    | (go_at_call 224;refine (HK.out _ _ hv).mono ?_;rintro e w2 ⟨rfl,rfl⟩)
                    | (go_at_call 62;refine (HH.out _ _).mono ?_;rintro e w3 ⟨rfl,rfl⟩;first|rw [h1]|rw [h2]|rw [h4]|rw [h1024]|rw [h8]|rw [h16]))
                   go_ret
                   exact ⟨Zh (by rw [HC.out _];simp [visN,h1,h2,h4,h1024,h8,h16]),hb1⟩
             | false =>
               go_enter Tryz.func226,Tryz.ntmps226
               go_wp2_with (first
                | (go_at_call 266;refine (HL.out _).mono ?_;rintro e w1 ⟨⟨v,rfl,hv⟩,hb1⟩)
                | (go_at_call 224;refine (HK.out _ _ hv).mono ?_;rintro e w2 ⟨rfl,rfl⟩)
                | (go_at_call 62;refine (HH.out _ _).mono ?_;rintro e w3 ⟨rfl,rfl⟩;first|rw [h1]|rw [h2]|rw [h4]|rw [h1024]))
               go_ret
               exact ⟨Zh (by rw [HC.out _];simp [visN,h1,h2,h4,h1024]),hb1⟩
structure Mth where
 nm:ByteArray
 ds:ByteArray
 fl:Int
 lo:Int
 st:Int
 code:List Ins
structure Cls where
 nm:ByteArray
 su:ByteArray
 ifs:List (List UInt8)
 fl:Int
 ld:Int
 ms:List Mth
def MthAt (w:World) (bk o:Nat) (m:Mth):Prop :=
 w.cell? ⟨bk,o,none⟩=some (.string m.nm)∧w.cell? ⟨bk,o+1,none⟩=some (.string m.ds)∧w.cell? ⟨bk,o+2,none⟩=some (.int .i64 m.fl)∧w.cell? ⟨bk,o+3,none⟩=some (.int .i64 m.lo)∧w.cell? ⟨bk,o+4,none⟩=some (.int .i64 m.st)∧∃ v,w.cell? ⟨bk,o+5,none⟩=some v∧IsInss w v m.code
theorem MthAt.keep {w w':World} {bk o:Nat} {m:Mth} (h:MthAt w bk o m) (hb:Bw w w') (hlt:bk<w.heap.size):MthAt w' bk o m:=by
 obtain ⟨h0,h1,h2,h3,h4,v,h5,h6⟩:=h
 exact ⟨(hb.cell hlt).trans h0,(hb.cell hlt).trans h1,(hb.cell hlt).trans h2,(hb.cell hlt).trans h3,(hb.cell hlt).trans h4,v,(hb.cell hlt).trans h5,h6.keep hb⟩
def IsMths (w:World) (v:Value) (l:List Mth):Prop :=
 ∃ ao cap,v=.slice ao l.length cap∧l.length≤cap∧cap≤maxLen ∧
   (l≠[]→∃ bk o,ao=some ⟨bk,o,none⟩∧bk<w.heap.size∧∀ k m,l[k]?=some m→MthAt w bk (o+k * 6) m)
theorem IsMths.keep {w w':World} {v:Value} {l:List Mth} (h:IsMths w v l) (hb:Bw w w'):IsMths w' v l:=by
 obtain ⟨ao,cap,rfl,h1,h2,h3⟩:=h
 refine ⟨ao,cap,rfl,h1,h2,fun hne=>?_⟩
 obtain ⟨bk,o,e,hlt,hc⟩:=h3 hne
 exact ⟨bk,o,e,Nat.lt_of_lt_of_le hlt hb.size,fun k i hk=>(hc k i hk).keep hb hlt⟩
def clsV (c:Cls) (vi vm:Value):Value:=.agg #[.string c.nm,.string c.su,vi,.int .i64 c.fl,.int .i64 c.ld,vm]
def Yk (nm ds:ByteArray):List Mth→Nat→Int
 | [],_=>-1
 | m::r,k=>if (m.nm.toList == nm.toList)&&(m.ds.toList == ds.toList) then k else Yk nm ds r (k+1)
theorem Zih {l:List Mth} {nm ds:ByteArray} (k:Nat) (x:Mth) (h:l[k]?=some x):Yk nm ds (l.drop k) k=if (x.nm.toList == nm.toList)&&(x.ds.toList == ds.toList) then (k:Int) else Yk nm ds (l.drop (k+1)) (k+1):=by
 obtain ⟨h1,h2⟩:=List.getElem?_eq_some_iff.1 h
 rw [List.drop_eq_getElem_cons h1,h2,Yk]
theorem Zfi (cn cs:ByteArray) (vi:Value) (cf cl:Int) (vm:Value) (ms:List Mth) (nm ds:ByteArray) (W:World) (h:IsMths W vm ms) :
 Calls Tryz.prog 141 #[.agg #[.string cn,.string cs,vi,.int .i64 cf,.int .i64 cl,vm],.string nm,.string ds] W fun e w'=>e=.returned (.int .i64 (Yk nm ds ms 0))∧Bw W w':=by
 obtain ⟨ao,cap,rfl,h1,h2,h3⟩:=h
 obtain ⟨N,hN⟩:∃ N,ms.length=N:=⟨_,rfl⟩
 unfold maxLen at h2
 rw [hN] at h1 ⊢
 have HN1:Hid (ms.length=N):=hN
 have HA:Hid _:=h3
 clear hN h3
 go_enter Tryz.func141,Tryz.ntmps141
 go_wp2
 go_loopw [7] (fun iv wr=>∃ i:Nat,iv=.int .i64 i∧i≤N∧wr.cell? ⟨W.heap.size,5,none⟩=some (.slice ao N cap)∧Hid (Bw W wr)∧Hid (Yk nm ds (ms.drop i) i=Yk nm ds ms 0)) (fun iv _=>N - (intOf iv).toNat)
 case atStart=>exact ⟨0,rfl,Nat.zero_le _,by simp [go_sem],(Below.refl _ _).alloc (Nat.le_refl _) _,rfl⟩
 case round =>
  obtain ⟨i,rfl,hi,c5,hb,hs⟩:=hrel
  by_cases hlt:i<N
  ·obtain ⟨bk,o,hao,hbk,hc⟩:=HA.out (by intro e;have:=HN1.out;rw [e] at this;simp at this;omega)
   obtain ⟨x,hx⟩:∃ x,ms[i]?=some x:=⟨_,List.getElem?_eq_getElem (by rw [HN1.out];exact hlt)⟩
   subst hao
   have hst:=Zih (nm:=nm) (ds:=ds) i x hx
   rw [hs.out] at hst
   obtain ⟨p0,p1,_⟩:=hc i x hx
   replace p0:=(hb.out.cell hbk).trans p0
   replace p1:=(hb.out.cell hbk).trans p1
   have hbk2:bk<wr.heap.size:=Nat.lt_of_lt_of_le hbk hb.out.size
   obtain ⟨xn,xd,xf,xl,xs,xc⟩:=x
   simp only at p0 p1 hst
   clear hc hs HA hx
   cases q1:(xn.toList == nm.toList) with
   | false =>
     have HN:Hid (Yk nm ds (ms.drop (i+1)) (i+1)=Yk nm ds ms 0):=by rw [Hid,hst,q1];rfl
     clear hst
     go_wp2
     go_roundw
     case rel=>exact ⟨i+1,by go_num,by omega,c5,hb,HN⟩
     case measure=>simp [intOf];omega
   | true =>
     cases q2:(xd.toList == ds.toList) with
     | false =>
       have HN:Hid (Yk nm ds (ms.drop (i+1)) (i+1)=Yk nm ds ms 0):=by rw [Hid,hst,q1,q2];rfl
       clear hst
       go_wp2
       go_roundw
       case rel=>exact ⟨i+1,by go_num,by omega,c5,hb,HN⟩
       case measure=>simp [intOf];omega
     | true =>
       have HN:Hid (Yk nm ds ms 0=(i:Int)):=by rw [Hid,hst,q1,q2];rfl
       clear hst
       go_wp2
       go_ret
       exact ⟨Zi HN.out.symm,hb.out⟩
  ·have e:i=N:=by omega
   subst e
   have HN:Hid (Yk nm ds ms 0=-1):=by rw [Hid,← hs.out,List.drop_of_length_le (by rw [HN1.out];exact Nat.le_refl _)];rfl
   clear hs HA
   go_wp2
   go_ret
   exact ⟨Zi HN.out.symm,hb.out⟩
theorem Zcr (n a b:Int) (w:World):Calls Tryz.prog 161 #[.int .i64 n,.int .i64 a,.int .i64 b] w fun e w'=>e=.returned (.bool (decide (a≤n)&&decide (n≤b)))∧w'=w:=by
 go_enter Tryz.func161,Tryz.ntmps161
 by_cases h1:a≤n
 ·by_cases h2:n≤b
  ·go_wp2
   go_ret
   exact ⟨Zc (by simp [h1,h2]),rfl⟩
  ·go_wp2
   go_ret
   exact ⟨Zc (by simp;omega),rfl⟩
 ·go_wp2
  go_ret
  exact ⟨Zc (by simp;omega),rfl⟩
theorem Zlf (xn xd nm ds:ByteArray) (xf xl xs:Int) (vc:Value) (b1 b2:Nat) (w:World) (g1:w.cell? ⟨b1,0,none⟩=some (.string nm)) (g2:w.cell? ⟨b2,0,none⟩=some (.string ds)) (l1:b1<w.heap.size) (l2:b2<w.heap.size) :
 Calls Tryz.prog 264 #[.agg #[.string xn,.string xd,.int .i64 xf,.int .i64 xl,.int .i64 xs,vc],.pointer (some ⟨b1,0,none⟩),.pointer (some ⟨b2,0,none⟩)] w fun e w'=>e=.returned (.bool ((xn.toList == nm.toList)&&(xd.toList == ds.toList)))∧Bw w w':=by
 generalize hz:((xn.toList == nm.toList)&&(xd.toList == ds.toList))=z
 have HZ:Hid _:=hz
 clear hz
 cases q1:(xn.toList == nm.toList) with
 | false =>
   go_enter Tryz.func264,Tryz.ntmps264
   go_wp2
   go_ret
   exact ⟨Zc (by rw [← HZ.out,q1];rfl),(Below.refl _ _).alloc (Nat.le_refl _) _⟩
 | true =>
   cases q2:(xd.toList == ds.toList) with
   | false =>
     go_enter Tryz.func264,Tryz.ntmps264
     go_wp2
     go_ret
     exact ⟨Zc (by rw [← HZ.out,q1,q2];rfl),(Below.refl _ _).alloc (Nat.le_refl _) _⟩
   | true =>
     go_enter Tryz.func264,Tryz.ntmps264
     go_wp2
     go_ret
     exact ⟨Zc (by rw [← HZ.out,q1,q2];rfl),(Below.refl _ _).alloc (Nat.le_refl _) _⟩
theorem idxM_any (nm ds:ByteArray) (vm:Value) (ms:List Mth) (W:World) (b1 b2:Nat) (h:IsMths W vm ms) (g1:W.cell? ⟨b1,0,none⟩=some (.string nm)) (g2:W.cell? ⟨b2,0,none⟩=some (.string ds)) (l1:b1<W.heap.size) (l2:b2<W.heap.size) :
 Calls Tryz.prog 263 #[vm,.func (.func 264) #[] #[.pointer (some ⟨b1,0,none⟩),.pointer (some ⟨b2,0,none⟩)]] W fun e w'=>e=.returned (.int .i64 (Yk nm ds ms 0))∧Bw W w':=by
 obtain ⟨ao,cap,rfl,h1,h2,h3⟩:=h
 obtain ⟨N,hN⟩:∃ N,ms.length=N:=⟨_,rfl⟩
 unfold maxLen at h2
 rw [hN] at h1 ⊢
 have HN1:Hid (ms.length=N):=hN
 have HA:Hid _:=h3
 have G1:Hid _:=g1
 have G2:Hid _:=g2
 clear hN h3 g1 g2
 go_enter Tryz.func263,Tryz.ntmps263
 go_wp2
 go_loopw [8] (fun iv wr=>∃ i:Nat,iv=.int .i64 i∧i≤N∧Hid (Bw W wr)∧Hid (Yk nm ds (ms.drop i) i=Yk nm ds ms 0)) (fun iv _=>N - (intOf iv).toNat)
 case atStart=>exact ⟨0,rfl,Nat.zero_le _,Below.refl _ _,rfl⟩
 case round =>
  obtain ⟨i,rfl,hi,hb,hs⟩:=hrel
  by_cases hlt:i<N
  ·obtain ⟨bk,o,hao,hbk,hc⟩:=HA.out (by intro e;have:=HN1.out;rw [e] at this;simp at this;omega)
   obtain ⟨x,hx⟩:∃ x,ms[i]?=some x:=⟨_,List.getElem?_eq_getElem (by rw [HN1.out];exact hlt)⟩
   subst hao
   have hst:=Zih (nm:=nm) (ds:=ds) i x hx
   rw [hs.out] at hst
   have hcx:=(hc i x hx).keep hb.out hbk
   obtain ⟨xn,xd,xf,xl,xs,xc⟩:=x
   obtain ⟨p0,p1,p2,p3,p4,vc,p5,hI⟩:=hcx
   obtain ⟨va,vcap,rfl,_,_,_⟩:=hI
   simp only at p0 p1 p2 p3 p4 p5 hst
   have k1:=(hb.out.cell l1).trans G1.out
   have k2:=(hb.out.cell l2).trans G2.out
   have HC:Hid (Calls Tryz.prog 264 #[.agg #[.string xn,.string xd,.int .i64 xf,.int .i64 xl,.int .i64 xs,.slice va xc.length vcap],.pointer (some ⟨b1,0,none⟩),.pointer (some ⟨b2,0,none⟩)] wr fun e w'=>e=.returned (.bool ((xn.toList == nm.toList)&&(xd.toList == ds.toList)))∧Bw wr w'):=Zlf xn xd nm ds xf xl xs (.slice va xc.length vcap) b1 b2 wr k1 k2 (Nat.lt_of_lt_of_le l1 hb.out.size) (Nat.lt_of_lt_of_le l2 hb.out.size)
   generalize ((xn.toList == nm.toList)&&(xd.toList == ds.toList))=q at *
   clear hc hs HA hx k1 k2
   cases q with
   | true =>
     have HZ:Hid (Yk nm ds ms 0=(i:Int)):=by rw [Hid,hst];rfl
     clear hst
     go_wp2_with (go_at_call 264;refine (HC.out).mono ?_;rintro e w1 ⟨rfl,hb1⟩)
     go_ret
     exact ⟨Zi HZ.out.symm,Below.step hb.out hb1⟩
   | false =>
     have HZ:Hid (Yk nm ds (ms.drop (i+1)) (i+1)=Yk nm ds ms 0):=by rw [Hid,hst];rfl
     clear hst
     go_wp2_with (go_at_call 264;refine (HC.out).mono ?_;rintro e w1 ⟨rfl,hb1⟩;have hb2:Hid (Bw W w1):=Below.step hb.out hb1;clear hb1)
     go_roundw
     case rel=>exact ⟨i+1,by go_num,by omega,hb2,HZ⟩
     case measure=>simp [intOf];omega
  ·have e:i=N:=by omega
   subst e
   have HZ:Hid (Yk nm ds ms 0=-1):=by rw [Hid,← hs.out,List.drop_of_length_le (by rw [HN1.out];exact Nat.le_refl _)];rfl
   clear hs HA
   go_wp2
   go_ret
   exact ⟨Zi HZ.out.symm,hb.out⟩
theorem find_any (cn cs:ByteArray) (vi:Value) (cf cl:Int) (vm:Value) (ms:List Mth) (nm ds:ByteArray) (W:World) (h:IsMths W vm ms) :
 Calls Tryz.prog 222 #[.agg #[.string cn,.string cs,vi,.int .i64 cf,.int .i64 cl,vm],.string nm,.string ds] W fun e w'=>e=.returned (.int .i64 (Yk nm ds ms 0))∧Bw W w':=by
 have H:Hid (IsMths W vm ms):=h
 have hB:Hid (∀ o1 o2 o3,Bw W (((W.alloc o1).alloc o2).alloc o3)):=fun o1 o2 o3=>(((Below.refl _ _).alloc (Nat.le_refl _) _).alloc (by simp) _).alloc (by simp;omega) _
 obtain ⟨ao,cap,rfl,_,_,_⟩:=h
 go_enter Tryz.func222,Tryz.ntmps222
 go_wp2_with (go_at_call 263;(refine (idxM_any nm ds _ ms _ (W.heap.size+1) (W.heap.size+1+1) ?_ ?_ ?_ ?_ ?_).mono ?_;exact H.out.keep (hB.out _ _ _);simp [go_sem];simp [go_sem];simp [go_sem];simp [go_sem];rintro e w1 ⟨rfl,hb1⟩))
 go_ret
 exact ⟨rfl,Below.step (hB.out _ _ _) hb1⟩
theorem Zkt (s:ByteArray) (hs:s.size≤maxLen) (w:World):Calls Tryz.prog 267 #[.string s] w fun e w'=>e=.returned (.tuple #[.int .i64 ((pdD s.data.toList).1.length:Int),.int .i64 (pdE s.data.toList)])∧Bw w w':=by
 have HD:Hid (∀ w,_):=Xs s hs
 clear hs
 unfold DOut at HD
 generalize pdE s.data.toList=pd at *
 generalize pdD s.data.toList=dd at *
 go_enter Tryz.func267,Tryz.ntmps267
 go_wp2_with (first
  | (go_at_call 134;refine ((HD.out) _).mono ?_;rintro e w3 ⟨v,rfl,ho3,hb3⟩;obtain ⟨v1,v2,rfl⟩:=Zk ho3))
 go_ret2
 exact ⟨rfl,hb3.alloc hb3.size _⟩
theorem Zk1 (l:List UInt8):(pdD l).1.length≤20:=by
 unfold pdD
 split
 ·rename_i h
  unfold pdE at h
  split at h
  ·exact absurd h (by decide)
  ·split at h
   ·exact absurd h (by decide)
   ·rename_i d hd
    split at h
    ·exact absurd h (by decide)
    ·rename_i hg
     simp only [Xm,Bool.not_eq_true,Bool.or_eq_false_iff,decide_eq_false_iff_not] at hg
     rw [hd]
     have:=hg.1.1
     simp only [Option.getD_some]
     omega
 ·simp
def wdsN (ds:List UInt8) (fl:Int):Int:=if pdE ds=0 then ((pdD ds).1.length:Int)+(if hasI fl 8 then 0 else 1) else 0
def wdsE (ds:List UInt8):Int:=if pdE ds=0 then 0 else 1
theorem Zgv (nm ds:ByteArray) (fl lo st:Int) (vc:Value) (hd:ds.size≤maxLen) (w:World):Calls Tryz.prog 227 #[.agg #[.string nm,.string ds,.int .i64 fl,.int .i64 lo,.int .i64 st,vc]] w fun e w'=>e=.returned (.tuple #[.int .i64 (wdsN ds.data.toList fl),.int .i64 (wdsE ds.data.toList)])∧Bw w w':=by
 have HD:Hid (∀ w,_):=Zkt ds hd
 have HH:Hid (∀ w,_):=Zv fl 8
 have HN:Hid (wdsN ds.data.toList fl=if pdE ds.data.toList=0 then ((pdD ds.data.toList).1.length:Int)+(if hasI fl 8 then 0 else 1) else 0):=rfl
 have HE:Hid (wdsE ds.data.toList=if pdE ds.data.toList=0 then 0 else 1):=rfl
 have hlen:=Zk1 ds.data.toList
 clear hd
 generalize wdsN ds.data.toList fl=wn at *
 generalize wdsE ds.data.toList=we at *
 generalize pdE ds.data.toList=pd at *
 generalize (pdD ds.data.toList).1.length=dd at *
 generalize hasI fl 8=hh at *
 by_cases hpd:pd=0
 ·subst hpd
  cases hh with
  | false =>
    go_enter Tryz.func227,Tryz.ntmps227
    go_wp2_with (first
     | (go_at_call 267;refine ((HD.out) _).mono ?_;rintro e w1 ⟨rfl,hb1⟩;have hs1:w.heap.size<w1.heap.size:=sqS hb1;have hc2:=sqA hb1 w.heap.size 2 (.int .i64 fl))
     | (go_at_call 62;refine ((HH.out) _).mono ?_;rintro e w2 ⟨rfl,hw2⟩;rw [hw2]))
    go_ret2
    exact ⟨by rw [HN.out,HE.out];rfl,sqT hb1⟩
  | true =>
    go_enter Tryz.func227,Tryz.ntmps227
    go_wp2_with (first
     | (go_at_call 267;refine ((HD.out) _).mono ?_;rintro e w1 ⟨rfl,hb1⟩;have hs1:w.heap.size<w1.heap.size:=sqS hb1;have hc2:=sqA hb1 w.heap.size 2 (.int .i64 fl))
     | (go_at_call 62;refine ((HH.out) _).mono ?_;rintro e w2 ⟨rfl,hw2⟩;rw [hw2]))
    go_ret2
    exact ⟨by rw [HN.out,HE.out];simp,sqT hb1⟩
 ·have hne:(pd != 0)=true:=by rw [bne_iff_ne];exact hpd
  go_enter Tryz.func227,Tryz.ntmps227
  go_wp2_with (first
   | (go_at_call 267;refine ((HD.out) _).mono ?_;rintro e w1 ⟨rfl,hb1⟩))
  go_ret2
  exact ⟨by rw [HN.out,HE.out,if_neg hpd,if_neg hpd];rfl,sqT hb1⟩
end Go.Proofs.YtmafkabjjibcbaaGreat
