import Derived.Test.YtkoogmegdfpopaaGreatFlagsPure
import Derived.Test.YtkoogmegdfpopaaGreatCodeL
set_option maxHeartbeats 16000000
set_option maxRecDepth 100000
namespace Go.Proofs.YtkoogmegdfpopaaGreat
open Go.RowKit
theorem Qy {a b:Bool} (h:a=b):Ending.returned (.bool a)=.returned (.bool b):=by rw [h]
theorem Zb {k:IntKind} {a b:Int} (h:a=b):Ending.returned (.int k a)=.returned (.int k b):=by rw [h]
def Zha (w:World) (v:Value) (xs:List Value):Prop :=
 ∃ bk o cap,v=.slice (some ⟨bk,o,none⟩) xs.length cap∧xs.length≤cap∧cap≤maxLen∧bk<w.heap.size∧∀ k x,xs[k]?=some x→w.cell? ⟨bk,o+k,none⟩=some x
theorem Zhq (w:World) (xs:Array Value) (t:TypeId) (hl:xs.size≤maxLen):Zha (w.alloc (.cells xs t)) (.slice (some ⟨w.heap.size,0,none⟩) xs.size xs.size) xs.toList:=by
 refine ⟨w.heap.size,0,xs.size,by simp,by simp,hl,by simp,fun k x hk=>?_⟩
 rw [Nat.zero_add,cell_of_row _ w.heap.size k _ t (0,0) (heap_alloc_new w _)]
 simpa using hk
theorem Xg (f x:Int) (w:World):Calls Tryz.prog 34 #[.int .i64 f,.int .i64 x] w fun e w'=>e=.returned (.bool (hasI f x))∧w'=w:=by
 go_enter Tryz.func34,Tryz.ntmps34
 go_wp2
 go_ret
 exact ⟨Qy rfl,rfl⟩
def intV (x:Int):Value:=.int .i64 x
theorem Za6 (w:World):Calls Tryz.prog 80 #[] w fun e w'=>(∃ v,e=.returned v∧Zha w' v ((flagsOf clsP).map intV))∧Bw w w':=by
 go_enter Tryz.func80,Tryz.ntmps80
 go_wp2
 go_ret
 exact ⟨⟨_,rfl,Zhq w #[.int .i64 1,.int .i64 16,.int .i64 32,.int .i64 512,.int .i64 1024] 3 (by unfold maxLen;decide)⟩,(Below.refl _ _).alloc (Nat.le_refl _) _⟩
theorem Zao (w:World):Calls Tryz.prog 100 #[] w fun e w'=>(∃ v,e=.returned v∧Zha w' v ((flagsOf mthP).map intV))∧Bw w w':=by
 go_enter Tryz.func100,Tryz.ntmps100
 go_wp2
 go_ret
 exact ⟨⟨_,rfl,Zhq w #[.int .i64 1,.int .i64 2,.int .i64 4,.int .i64 8,.int .i64 16,.int .i64 1024] 3 (by unfold maxLen;decide)⟩,(Below.refl _ _).alloc (Nat.le_refl _) _⟩
theorem Zdq (f:Int) (a b:List Int):Z1 f (a++b)=Z1 f a+Z1 f b:=by
 induction a with
 | nil=>simp [Z1]
 | cons x a ih=>simp only [List.cons_append,Z1,ih];omega
theorem Jk (f:Int) (fl:List Int) (i:Nat) (x:Int) (h:fl[i]?=some x):Z1 f (fl.take (i+1))=Z1 f (fl.take i)+(if hasI f x then x else 0):=by
 have hlt:i<fl.length:=(List.getElem?_eq_some_iff.1 h).1
 rw [List.take_succ_eq_append_getElem hlt,Zdq]
 rw [List.getElem?_eq_getElem hlt] at h
 rw [Option.some.inj h]
 simp [Z1]
theorem Zdp (f:Int) (fl:List Int) (hb:∀ x∈fl,0≤x∧x≤2048):0≤Z1 f fl∧Z1 f fl≤2048 * fl.length:=by
 induction fl with
 | nil=>simp [Z1]
 | cons x l ih =>
   obtain ⟨h1,h2⟩:=ih (fun y hy=>hb y (List.mem_cons_of_mem _ hy))
   have:=hb x (List.mem_cons_self ..)
   simp only [Z1,List.length_cons]
   split <;> omega
theorem Zdr (f:Int) (fl:List Int) (hb:∀ x∈fl,0≤x∧x≤2048) (hl:fl.length≤100) (v:Value) (w:World) (h:Zha w v (fl.map intV)) :
 Calls Tryz.prog 79 #[.int .i64 f,v] w fun e w'=>e=.returned (.int .i64 (Z1 f fl))∧w'=w:=by
 obtain ⟨bk,o,cap,rfl,h1,h2,h3,h4⟩:=h
 rw [List.length_map] at *
 unfold maxLen at h2
 have HC:Hid _:=h4
 have HB:Hid _:=hb
 have HH:Hid (∀ (x:Int) (w:World),_):=Xg f
 clear h4 hb
 go_enter Tryz.func79,Tryz.ntmps79
 go_wp2
 go_loop [5,6] (fun nv iv=>∃ (i:Nat) (n:Int),nv=.int .i64 n∧iv=.int .i64 i∧i≤fl.length∧0≤n∧n≤204800∧Hid (n=Z1 f (fl.take i))) (fun _ iv=>fl.length - (intOf iv).toNat)
 case atStart=>exact ⟨0,0,rfl,rfl,Nat.zero_le _,by omega,by omega,rfl⟩
 case round =>
  obtain ⟨i,n,rfl,rfl,hi,hn0,hn1,hN⟩:=hrel
  by_cases hlt:i<fl.length
  ·obtain ⟨x,hx⟩:∃ x,fl[i]?=some x:=⟨_,List.getElem?_eq_getElem hlt⟩
   have c0:w.cell? ⟨bk,o+i,none⟩=some (.int .i64 x):=HC.out i (intV x) (by rw [List.getElem?_map,hx];rfl)
   obtain ⟨x0,x1⟩:=HB.out x (List.mem_of_getElem? hx)
   have HX:Hid (∀ w,_):=HH.out x
   have hbn:=Zdp f (fl.take (i+1)) (fun y hy=>HB.out y (List.mem_of_mem_take hy))
   rw [Jk f fl i x hx,← hN.out] at hbn
   have hlen:(fl.take (i+1)).length≤100:=by rw [List.length_take];omega
   cases hh:hasI f x with
   | true =>
     rw [hh] at HX hbn
     have hb2:n+x≤204800:=by simp at hbn;omega
     have HN:Hid (n+x=Z1 f (fl.take (i+1))):=by rw [Hid,Jk f fl i x hx,hh,hN.out];rfl
     clear hh hx HC HB HH hbn hlen hN
     go_wp2_with (go_at_call 34;refine (HX.out _).mono ?_;rintro e w1 ⟨rfl,rfl⟩)
     go_round
     case rel=>exact ⟨i+1,n+x,by go_num,by go_num,by omega,by omega,hb2,HN⟩
     case measure=>simp [intOf];omega
   | false =>
     rw [hh] at HX
     have HN:Hid (n=Z1 f (fl.take (i+1))):=by rw [Hid,Jk f fl i x hx,hh,hN.out];simp
     clear hh hx HC HB HH hbn hlen hN
     go_wp2_with (go_at_call 34;refine (HX.out _).mono ?_;rintro e w1 ⟨rfl,rfl⟩)
     go_round
     case rel=>exact ⟨i+1,n,rfl,by go_num,by omega,hn0,hn1,HN⟩
     case measure=>simp [intOf];omega
  ·have HN:Hid (n=Z1 f fl):=by rw [Hid,hN.out,List.take_of_length_le (by omega)]
   clear HC HB HH hN
   go_wp2
   go_ret
   exact ⟨Zb HN.out,rfl⟩
def chkC (f:Int):Int:=if !Y9 f clsP then 1 else if hasI f 512&&(!hasI f 1024||hasI f 16||hasI f 32) then 1 else if hasI f 16&&hasI f 1024 then 1 else 0
def visN (f:Int):Nat:=(if hasI f 1 then 1 else 0)+(if hasI f 2 then 1 else 0)+(if hasI f 4 then 1 else 0)
def chkM (f:Int) (iface ini:Bool):Int:=if !Y9 f mthP then 1 else if decide (1<visN f) then 1 else if hasI f 1024&&(hasI f 2||hasI f 8||hasI f 16) then 1
 else if iface&&(hasI f 4||hasI f 16||decide (visN f=0)||ini) then 1 else if ini&&(hasI f 8||hasI f 16||hasI f 1024) then 1 else 0
theorem Zhl:∀ x∈flagsOf clsP,0≤x∧x≤2048:=by decide
theorem Zhk:∀ x∈flagsOf mthP,0≤x∧x≤2048:=by decide
theorem Zal (f:Int) (w:World):Calls Tryz.prog 58 #[.int .i64 f] w fun e w'=>e=.returned (.int .i64 (chkC f))∧Bw w w':=by
 have HL:Hid (∀ w,_):=Za6
 have HK:Hid (∀ (v:Value) (w:World),Zha w v ((flagsOf clsP).map intV)→_):=fun v w=>Zdr f (flagsOf clsP) Zhl (by decide) v w
 have HH:Hid (∀ (x:Int) (w:World),_):=Xg f
 have HC:Hid (chkC f=if !Y9 f clsP then 1 else if hasI f 512&&(!hasI f 1024||hasI f 16||hasI f 32) then 1 else if hasI f 16&&hasI f 1024 then 1 else 0):=rfl
 have hon:(Z1 f (flagsOf clsP) != f)=!Y9 f clsP:=by unfold Y9;rw [Bool.eq_iff_iff];simp
 generalize chkC f=r at *
 cases ho:Y9 f clsP with
 | false =>
   have HR:Hid (r=1):=by rw [Hid,HC.out,ho];rfl
   rw [ho] at hon
   go_enter Tryz.func58,Tryz.ntmps58
   go_wp2_with (first
    | (go_at_call 80;refine (HL.out _).mono ?_;rintro e w1 ⟨⟨v,rfl,hv⟩,hb1⟩)
    | (go_at_call 79;refine (HK.out _ _ hv).mono ?_;rintro e w2 ⟨rfl,rfl⟩))
   go_ret
   exact ⟨Zb HR.out.symm,hb1⟩
 | true =>
   rw [ho] at hon HC
   clear ho
   cases h512:hasI f 512 with
   | true =>
     cases h1024:hasI f 1024 with
     | true =>
       cases h16:hasI f 16 with
       | true =>
         go_enter Tryz.func58,Tryz.ntmps58
         go_wp2_with (first
          | (go_at_call 80;refine (HL.out _).mono ?_;rintro e w1 ⟨⟨v,rfl,hv⟩,hb1⟩)
          | (go_at_call 79;refine (HK.out _ _ hv).mono ?_;rintro e w2 ⟨rfl,rfl⟩)
          | (go_at_call 34;refine (HH.out _ _).mono ?_;rintro e w3 ⟨rfl,rfl⟩;first|rw [h512]|rw [h1024]|rw [h16]))
         go_ret
         exact ⟨Zb (by rw [HC.out];simp [h512,h1024,h16]),hb1⟩
       | false =>
         cases h32:hasI f 32 with
         | true =>
           go_enter Tryz.func58,Tryz.ntmps58
           go_wp2_with (first
            | (go_at_call 80;refine (HL.out _).mono ?_;rintro e w1 ⟨⟨v,rfl,hv⟩,hb1⟩)
            | (go_at_call 79;refine (HK.out _ _ hv).mono ?_;rintro e w2 ⟨rfl,rfl⟩)
            | (go_at_call 34;refine (HH.out _ _).mono ?_;rintro e w3 ⟨rfl,rfl⟩;first|rw [h512]|rw [h1024]|rw [h16]|rw [h32]))
           go_ret
           exact ⟨Zb (by rw [HC.out];simp [h512,h1024,h16,h32]),hb1⟩
         | false =>
           go_enter Tryz.func58,Tryz.ntmps58
           go_wp2_with (first
            | (go_at_call 80;refine (HL.out _).mono ?_;rintro e w1 ⟨⟨v,rfl,hv⟩,hb1⟩)
            | (go_at_call 79;refine (HK.out _ _ hv).mono ?_;rintro e w2 ⟨rfl,rfl⟩)
            | (go_at_call 34;refine (HH.out _ _).mono ?_;rintro e w3 ⟨rfl,rfl⟩;first|rw [h512]|rw [h1024]|rw [h16]|rw [h32]))
           go_ret
           exact ⟨Zb (by rw [HC.out];simp [h512,h1024,h16,h32]),hb1⟩
     | false =>
       go_enter Tryz.func58,Tryz.ntmps58
       go_wp2_with (first
        | (go_at_call 80;refine (HL.out _).mono ?_;rintro e w1 ⟨⟨v,rfl,hv⟩,hb1⟩)
        | (go_at_call 79;refine (HK.out _ _ hv).mono ?_;rintro e w2 ⟨rfl,rfl⟩)
        | (go_at_call 34;refine (HH.out _ _).mono ?_;rintro e w3 ⟨rfl,rfl⟩;first|rw [h512]|rw [h1024]))
       go_ret
       exact ⟨Zb (by rw [HC.out];simp [h512,h1024]),hb1⟩
   | false =>
     cases h16:hasI f 16 with
     | true =>
       cases h1024:hasI f 1024 with
       | true =>
         go_enter Tryz.func58,Tryz.ntmps58
         go_wp2_with (first
          | (go_at_call 80;refine (HL.out _).mono ?_;rintro e w1 ⟨⟨v,rfl,hv⟩,hb1⟩)
          | (go_at_call 79;refine (HK.out _ _ hv).mono ?_;rintro e w2 ⟨rfl,rfl⟩)
          | (go_at_call 34;refine (HH.out _ _).mono ?_;rintro e w3 ⟨rfl,rfl⟩;first|rw [h512]|rw [h16]|rw [h1024]))
         go_ret
         exact ⟨Zb (by rw [HC.out];simp [h512,h16,h1024]),hb1⟩
       | false =>
         go_enter Tryz.func58,Tryz.ntmps58
         go_wp2_with (first
          | (go_at_call 80;refine (HL.out _).mono ?_;rintro e w1 ⟨⟨v,rfl,hv⟩,hb1⟩)
          | (go_at_call 79;refine (HK.out _ _ hv).mono ?_;rintro e w2 ⟨rfl,rfl⟩)
          | (go_at_call 34;refine (HH.out _ _).mono ?_;rintro e w3 ⟨rfl,rfl⟩;first|rw [h512]|rw [h16]|rw [h1024]))
         go_ret
         exact ⟨Zb (by rw [HC.out];simp [h512,h16,h1024]),hb1⟩
     | false =>
       go_enter Tryz.func58,Tryz.ntmps58
       go_wp2_with (first
        | (go_at_call 80;refine (HL.out _).mono ?_;rintro e w1 ⟨⟨v,rfl,hv⟩,hb1⟩)
        | (go_at_call 79;refine (HK.out _ _ hv).mono ?_;rintro e w2 ⟨rfl,rfl⟩)
        | (go_at_call 34;refine (HH.out _ _).mono ?_;rintro e w3 ⟨rfl,rfl⟩;first|rw [h512]|rw [h16]))
       go_ret
       exact ⟨Zb (by rw [HC.out];simp [h512,h16]),hb1⟩
set_option maxRecDepth 10000 in
theorem J1 (f:Int) (iface:Bool) (nm:ByteArray) (w:World):Calls Tryz.prog 82 #[.int .i64 f,.bool iface,.string nm] w fun e w'=>e=.returned (.int .i64 (chkM f iface (nm.toList == [60,105,110,105,116,62])))∧Bw w w':=by
 have HL:Hid (∀ w,_):=Zao
 have HK:Hid (∀ (v:Value) (w:World),Zha w v ((flagsOf mthP).map intV)→_):=fun v w=>Zdr f (flagsOf mthP) Zhk (by decide) v w
 have HH:Hid (∀ (x:Int) (w:World),_):=Xg f
 have HC:Hid (∀ b,chkM f iface b=if !Y9 f mthP then 1 else if decide (1<visN f) then 1 else if hasI f 1024&&(hasI f 2||hasI f 8||hasI f 16) then 1
  else if iface&&(hasI f 4||hasI f 16||decide (visN f=0)||b) then 1 else if b&&(hasI f 8||hasI f 16||hasI f 1024) then 1 else 0):=fun _=>rfl
 have hon:(Z1 f (flagsOf mthP) != f)=!Y9 f mthP:=by unfold Y9;rw [Bool.eq_iff_iff];simp
 cases ho:Y9 f mthP with
 | false =>
   have HR:Hid (∀ b,chkM f iface b=1):=fun b=>by rw [HC.out,ho];rfl
   rw [ho] at hon
   go_enter Tryz.func82,Tryz.ntmps82
   go_wp2_with (first
    | (go_at_call 100;refine (HL.out _).mono ?_;rintro e w1 ⟨⟨v,rfl,hv⟩,hb1⟩)
    | (go_at_call 79;refine (HK.out _ _ hv).mono ?_;rintro e w2 ⟨rfl,rfl⟩))
   go_ret
   exact ⟨Zb (HR.out _).symm,hb1⟩
 | true =>
   rw [ho] at hon HC
   clear ho
   cases h1:hasI f 1 with
   | true =>
     cases h2:hasI f 2 with
     | true =>
       cases h4:hasI f 4 with
       | true =>
         go_enter Tryz.func82,Tryz.ntmps82
         go_wp2_with (first
          | (go_at_call 100;refine (HL.out _).mono ?_;rintro e w1 ⟨⟨v,rfl,hv⟩,hb1⟩)
          | (go_at_call 79;refine (HK.out _ _ hv).mono ?_;rintro e w2 ⟨rfl,rfl⟩)
          | (go_at_call 34;refine (HH.out _ _).mono ?_;rintro e w3 ⟨rfl,rfl⟩;first|rw [h1]|rw [h2]|rw [h4]))
         go_ret
         exact ⟨Zb (by rw [HC.out _];simp [visN,h1,h2,h4]),hb1⟩
       | false =>
         go_enter Tryz.func82,Tryz.ntmps82
         go_wp2_with (first
          | (go_at_call 100;refine (HL.out _).mono ?_;rintro e w1 ⟨⟨v,rfl,hv⟩,hb1⟩)
          | (go_at_call 79;refine (HK.out _ _ hv).mono ?_;rintro e w2 ⟨rfl,rfl⟩)
          | (go_at_call 34;refine (HH.out _ _).mono ?_;rintro e w3 ⟨rfl,rfl⟩;first|rw [h1]|rw [h2]|rw [h4]))
         go_ret
         exact ⟨Zb (by rw [HC.out _];simp [visN,h1,h2,h4]),hb1⟩
     | false =>
       cases h4:hasI f 4 with
       | true =>
         go_enter Tryz.func82,Tryz.ntmps82
         go_wp2_with (first
          | (go_at_call 100;refine (HL.out _).mono ?_;rintro e w1 ⟨⟨v,rfl,hv⟩,hb1⟩)
          | (go_at_call 79;refine (HK.out _ _ hv).mono ?_;rintro e w2 ⟨rfl,rfl⟩)
          | (go_at_call 34;refine (HH.out _ _).mono ?_;rintro e w3 ⟨rfl,rfl⟩;first|rw [h1]|rw [h2]|rw [h4]))
         go_ret
         exact ⟨Zb (by rw [HC.out _];simp [visN,h1,h2,h4]),hb1⟩
       | false =>
         cases h1024:hasI f 1024 with
         | true =>
           cases h8:hasI f 8 with
           | true =>
             go_enter Tryz.func82,Tryz.ntmps82
             go_wp2_with (first
              | (go_at_call 100;refine (HL.out _).mono ?_;rintro e w1 ⟨⟨v,rfl,hv⟩,hb1⟩)
              | (go_at_call 79;refine (HK.out _ _ hv).mono ?_;rintro e w2 ⟨rfl,rfl⟩)
              | (go_at_call 34;refine (HH.out _ _).mono ?_;rintro e w3 ⟨rfl,rfl⟩;first|rw [h1]|rw [h2]|rw [h4]|rw [h1024]|rw [h8]))
             go_ret
             exact ⟨Zb (by rw [HC.out _];simp [visN,h1,h2,h4,h1024,h8]),hb1⟩
           | false =>
             cases h16:hasI f 16 with
             | true =>
               go_enter Tryz.func82,Tryz.ntmps82
               go_wp2_with (first
                | (go_at_call 100;refine (HL.out _).mono ?_;rintro e w1 ⟨⟨v,rfl,hv⟩,hb1⟩)
                | (go_at_call 79;refine (HK.out _ _ hv).mono ?_;rintro e w2 ⟨rfl,rfl⟩)
                | (go_at_call 34;refine (HH.out _ _).mono ?_;rintro e w3 ⟨rfl,rfl⟩;first|rw [h1]|rw [h2]|rw [h4]|rw [h1024]|rw [h8]|rw [h16]))
               go_ret
               exact ⟨Zb (by rw [HC.out _];simp [visN,h1,h2,h4,h1024,h8,h16]),hb1⟩
             | false =>
               cases iface with
               | true =>
                 cases hini:(nm.toList == [60,105,110,105,116,62]) with
                 | true =>
                   go_enter Tryz.func82,Tryz.ntmps82
                   go_wp2_with (first
                    | (go_at_call 100;refine (HL.out _).mono ?_;rintro e w1 ⟨⟨v,rfl,hv⟩,hb1⟩)
                    | (go_at_call 79;refine (HK.out _ _ hv).mono ?_;rintro e w2 ⟨rfl,rfl⟩)
                    | (go_at_call 34;refine (HH.out _ _).mono ?_;rintro e w3 ⟨rfl,rfl⟩;first|rw [h1]|rw [h2]|rw [h4]|rw [h1024]|rw [h8]|rw [h16]))
                   go_ret
                   exact ⟨Zb (by rw [HC.out _];simp [visN,h1,h2,h4,h1024,h8,h16]),hb1⟩
                 | false =>
                   go_enter Tryz.func82,Tryz.ntmps82
                   go_wp2_with (first
                    | (go_at_call 100;refine (HL.out _).mono ?_;rintro e w1 ⟨⟨v,rfl,hv⟩,hb1⟩)
                    | (go_at_call 79;refine (HK.out _ _ hv).mono ?_;rintro e w2 ⟨rfl,rfl⟩)
                    | (go_at_call 34;refine (HH.out _ _).mono ?_;rintro e w3 ⟨rfl,rfl⟩;first|rw [h1]|rw [h2]|rw [h4]|rw [h1024]|rw [h8]|rw [h16]))
                   go_ret
                   exact ⟨Zb (by rw [HC.out _];simp [visN,h1,h2,h4,h1024,h8,h16]),hb1⟩
               | false =>
                 cases hini:(nm.toList == [60,105,110,105,116,62]) with
                 | true =>
                   go_enter Tryz.func82,Tryz.ntmps82
                   go_wp2_with (first
                    | (go_at_call 100;refine (HL.out _).mono ?_;rintro e w1 ⟨⟨v,rfl,hv⟩,hb1⟩)
                    | (go_at_call 79;refine (HK.out _ _ hv).mono ?_;rintro e w2 ⟨rfl,rfl⟩)
                    | (go_at_call 34;refine (HH.out _ _).mono ?_;rintro e w3 ⟨rfl,rfl⟩;first|rw [h1]|rw [h2]|rw [h4]|rw [h1024]|rw [h8]|rw [h16]))
                   go_ret
                   exact ⟨Zb (by rw [HC.out _];simp [visN,h1,h2,h4,h1024,h8,h16]),hb1⟩
                 | false =>
                   go_enter Tryz.func82,Tryz.ntmps82
                   go_wp2_with (first
                    | (go_at_call 100;refine (HL.out _).mono ?_;rintro e w1 ⟨⟨v,rfl,hv⟩,hb1⟩)
                    | (go_at_call 79;refine (HK.out _ _ hv).mono ?_;rintro e w2 ⟨rfl,rfl⟩)
                    | (go_at_call 34;refine (HH.out _ _).mono ?_;rintro e w3 ⟨rfl,rfl⟩;first|rw [h1]|rw [h2]|rw [h4]|rw [h1024]|rw [h8]|rw [h16]))
                   go_ret
                   exact ⟨Zb (by rw [HC.out _];simp [visN,h1,h2,h4,h1024,h8,h16]),hb1⟩
         | false =>
           cases iface with
           | true =>
             cases h16:hasI f 16 with
             | true =>
               go_enter Tryz.func82,Tryz.ntmps82
               go_wp2_with (first
                | (go_at_call 100;refine (HL.out _).mono ?_;rintro e w1 ⟨⟨v,rfl,hv⟩,hb1⟩)
                | (go_at_call 79;refine (HK.out _ _ hv).mono ?_;rintro e w2 ⟨rfl,rfl⟩)
                | (go_at_call 34;refine (HH.out _ _).mono ?_;rintro e w3 ⟨rfl,rfl⟩;first|rw [h1]|rw [h2]|rw [h4]|rw [h1024]|rw [h16]))
               go_ret
               exact ⟨Zb (by rw [HC.out _];simp [visN,h1,h2,h4,h1024,h16]),hb1⟩
             | false =>
               cases hini:(nm.toList == [60,105,110,105,116,62]) with
               | true =>
                 go_enter Tryz.func82,Tryz.ntmps82
                 go_wp2_with (first
                  | (go_at_call 100;refine (HL.out _).mono ?_;rintro e w1 ⟨⟨v,rfl,hv⟩,hb1⟩)
                  | (go_at_call 79;refine (HK.out _ _ hv).mono ?_;rintro e w2 ⟨rfl,rfl⟩)
                  | (go_at_call 34;refine (HH.out _ _).mono ?_;rintro e w3 ⟨rfl,rfl⟩;first|rw [h1]|rw [h2]|rw [h4]|rw [h1024]|rw [h16]))
                 go_ret
                 exact ⟨Zb (by rw [HC.out _];simp [visN,h1,h2,h4,h1024,h16]),hb1⟩
               | false =>
                 go_enter Tryz.func82,Tryz.ntmps82
                 go_wp2_with (first
                  | (go_at_call 100;refine (HL.out _).mono ?_;rintro e w1 ⟨⟨v,rfl,hv⟩,hb1⟩)
                  | (go_at_call 79;refine (HK.out _ _ hv).mono ?_;rintro e w2 ⟨rfl,rfl⟩)
                  | (go_at_call 34;refine (HH.out _ _).mono ?_;rintro e w3 ⟨rfl,rfl⟩;first|rw [h1]|rw [h2]|rw [h4]|rw [h1024]|rw [h16]))
                 go_ret
                 exact ⟨Zb (by rw [HC.out _];simp [visN,h1,h2,h4,h1024,h16]),hb1⟩
           | false =>
             cases hini:(nm.toList == [60,105,110,105,116,62]) with
             | true =>
               cases h8:hasI f 8 with
               | true =>
                 go_enter Tryz.func82,Tryz.ntmps82
                 go_wp2_with (first
                  | (go_at_call 100;refine (HL.out _).mono ?_;rintro e w1 ⟨⟨v,rfl,hv⟩,hb1⟩)
                  | (go_at_call 79;refine (HK.out _ _ hv).mono ?_;rintro e w2 ⟨rfl,rfl⟩)
                  | (go_at_call 34;refine (HH.out _ _).mono ?_;rintro e w3 ⟨rfl,rfl⟩;first|rw [h1]|rw [h2]|rw [h4]|rw [h1024]|rw [h8]))
                 go_ret
                 exact ⟨Zb (by rw [HC.out _];simp [visN,h1,h2,h4,h1024,h8]),hb1⟩
               | false =>
                 cases h16:hasI f 16 with
                 | true =>
                   go_enter Tryz.func82,Tryz.ntmps82
                   go_wp2_with (first
                    | (go_at_call 100;refine (HL.out _).mono ?_;rintro e w1 ⟨⟨v,rfl,hv⟩,hb1⟩)
                    | (go_at_call 79;refine (HK.out _ _ hv).mono ?_;rintro e w2 ⟨rfl,rfl⟩)
                    | (go_at_call 34;refine (HH.out _ _).mono ?_;rintro e w3 ⟨rfl,rfl⟩;first|rw [h1]|rw [h2]|rw [h4]|rw [h1024]|rw [h8]|rw [h16]))
                   go_ret
                   exact ⟨Zb (by rw [HC.out _];simp [visN,h1,h2,h4,h1024,h8,h16]),hb1⟩
                 | false =>
                   go_enter Tryz.func82,Tryz.ntmps82
                   go_wp2_with (first
                    | (go_at_call 100;refine (HL.out _).mono ?_;rintro e w1 ⟨⟨v,rfl,hv⟩,hb1⟩)
                    | (go_at_call 79;refine (HK.out _ _ hv).mono ?_;rintro e w2 ⟨rfl,rfl⟩)
                    | (go_at_call 34;refine (HH.out _ _).mono ?_;rintro e w3 ⟨rfl,rfl⟩;first|rw [h1]|rw [h2]|rw [h4]|rw [h1024]|rw [h8]|rw [h16]))
                   go_ret
                   exact ⟨Zb (by rw [HC.out _];simp [visN,h1,h2,h4,h1024,h8,h16]),hb1⟩
             | false =>
               go_enter Tryz.func82,Tryz.ntmps82
               go_wp2_with (first
                | (go_at_call 100;refine (HL.out _).mono ?_;rintro e w1 ⟨⟨v,rfl,hv⟩,hb1⟩)
                | (go_at_call 79;refine (HK.out _ _ hv).mono ?_;rintro e w2 ⟨rfl,rfl⟩)
                | (go_at_call 34;refine (HH.out _ _).mono ?_;rintro e w3 ⟨rfl,rfl⟩;first|rw [h1]|rw [h2]|rw [h4]|rw [h1024]))
               go_ret
               exact ⟨Zb (by rw [HC.out _];simp [visN,h1,h2,h4,h1024]),hb1⟩
   | false =>
     cases h2:hasI f 2 with
     | true =>
       cases h4:hasI f 4 with
       | true =>
         go_enter Tryz.func82,Tryz.ntmps82
         go_wp2_with (first
          | (go_at_call 100;refine (HL.out _).mono ?_;rintro e w1 ⟨⟨v,rfl,hv⟩,hb1⟩)
          | (go_at_call 79;refine (HK.out _ _ hv).mono ?_;rintro e w2 ⟨rfl,rfl⟩)
          | (go_at_call 34;refine (HH.out _ _).mono ?_;rintro e w3 ⟨rfl,rfl⟩;first|rw [h1]|rw [h2]|rw [h4]))
         go_ret
         exact ⟨Zb (by rw [HC.out _];simp [visN,h1,h2,h4]),hb1⟩
       | false =>
         cases h1024:hasI f 1024 with
         | true =>
           go_enter Tryz.func82,Tryz.ntmps82
           go_wp2_with (first
            | (go_at_call 100;refine (HL.out _).mono ?_;rintro e w1 ⟨⟨v,rfl,hv⟩,hb1⟩)
            | (go_at_call 79;refine (HK.out _ _ hv).mono ?_;rintro e w2 ⟨rfl,rfl⟩)
            | (go_at_call 34;refine (HH.out _ _).mono ?_;rintro e w3 ⟨rfl,rfl⟩;first|rw [h1]|rw [h2]|rw [h4]|rw [h1024]))
           go_ret
           exact ⟨Zb (by rw [HC.out _];simp [visN,h1,h2,h4,h1024]),hb1⟩
         | false =>
           cases iface with
           | true =>
             cases h16:hasI f 16 with
             | true =>
               go_enter Tryz.func82,Tryz.ntmps82
               go_wp2_with (first
                | (go_at_call 100;refine (HL.out _).mono ?_;rintro e w1 ⟨⟨v,rfl,hv⟩,hb1⟩)
                | (go_at_call 79;refine (HK.out _ _ hv).mono ?_;rintro e w2 ⟨rfl,rfl⟩)
                | (go_at_call 34;refine (HH.out _ _).mono ?_;rintro e w3 ⟨rfl,rfl⟩;first|rw [h1]|rw [h2]|rw [h4]|rw [h1024]|rw [h16]))
               go_ret
               exact ⟨Zb (by rw [HC.out _];simp [visN,h1,h2,h4,h1024,h16]),hb1⟩
             | false =>
               cases hini:(nm.toList == [60,105,110,105,116,62]) with
               | true =>
                 go_enter Tryz.func82,Tryz.ntmps82
                 go_wp2_with (first
                  | (go_at_call 100;refine (HL.out _).mono ?_;rintro e w1 ⟨⟨v,rfl,hv⟩,hb1⟩)
                  | (go_at_call 79;refine (HK.out _ _ hv).mono ?_;rintro e w2 ⟨rfl,rfl⟩)
                  | (go_at_call 34;refine (HH.out _ _).mono ?_;rintro e w3 ⟨rfl,rfl⟩;first|rw [h1]|rw [h2]|rw [h4]|rw [h1024]|rw [h16]))
                 go_ret
                 exact ⟨Zb (by rw [HC.out _];simp [visN,h1,h2,h4,h1024,h16]),hb1⟩
               | false =>
                 go_enter Tryz.func82,Tryz.ntmps82
                 go_wp2_with (first
                  | (go_at_call 100;refine (HL.out _).mono ?_;rintro e w1 ⟨⟨v,rfl,hv⟩,hb1⟩)
                  | (go_at_call 79;refine (HK.out _ _ hv).mono ?_;rintro e w2 ⟨rfl,rfl⟩)
                  | (go_at_call 34;refine (HH.out _ _).mono ?_;rintro e w3 ⟨rfl,rfl⟩;first|rw [h1]|rw [h2]|rw [h4]|rw [h1024]|rw [h16]))
                 go_ret
                 exact ⟨Zb (by rw [HC.out _];simp [visN,h1,h2,h4,h1024,h16]),hb1⟩
           | false =>
             cases hini:(nm.toList == [60,105,110,105,116,62]) with
             | true =>
               cases h8:hasI f 8 with
               | true =>
                 go_enter Tryz.func82,Tryz.ntmps82
                 go_wp2_with (first
                  | (go_at_call 100;refine (HL.out _).mono ?_;rintro e w1 ⟨⟨v,rfl,hv⟩,hb1⟩)
                  | (go_at_call 79;refine (HK.out _ _ hv).mono ?_;rintro e w2 ⟨rfl,rfl⟩)
                  | (go_at_call 34;refine (HH.out _ _).mono ?_;rintro e w3 ⟨rfl,rfl⟩;first|rw [h1]|rw [h2]|rw [h4]|rw [h1024]|rw [h8]))
                 go_ret
                 exact ⟨Zb (by rw [HC.out _];simp [visN,h1,h2,h4,h1024,h8]),hb1⟩
               | false =>
                 cases h16:hasI f 16 with
                 | true =>
                   go_enter Tryz.func82,Tryz.ntmps82
                   go_wp2_with (first
                    | (go_at_call 100;refine (HL.out _).mono ?_;rintro e w1 ⟨⟨v,rfl,hv⟩,hb1⟩)
                    | (go_at_call 79;refine (HK.out _ _ hv).mono ?_;rintro e w2 ⟨rfl,rfl⟩)
                    | (go_at_call 34;refine (HH.out _ _).mono ?_;rintro e w3 ⟨rfl,rfl⟩;first|rw [h1]|rw [h2]|rw [h4]|rw [h1024]|rw [h8]|rw [h16]))
                   go_ret
                   exact ⟨Zb (by rw [HC.out _];simp [visN,h1,h2,h4,h1024,h8,h16]),hb1⟩
                 | false =>
                   go_enter Tryz.func82,Tryz.ntmps82
                   go_wp2_with (first
                    | (go_at_call 100;refine (HL.out _).mono ?_;rintro e w1 ⟨⟨v,rfl,hv⟩,hb1⟩)
                    | (go_at_call 79;refine (HK.out _ _ hv).mono ?_;rintro e w2 ⟨rfl,rfl⟩)
                    | (go_at_call 34;refine (HH.out _ _).mono ?_;rintro e w3 ⟨rfl,rfl⟩;first|rw [h1]|rw [h2]|rw [h4]|rw [h1024]|rw [h8]|rw [h16]))
                   go_ret
                   exact ⟨Zb (by rw [HC.out _];simp [visN,h1,h2,h4,h1024,h8,h16]),hb1⟩
             | false =>
               go_enter Tryz.func82,Tryz.ntmps82
               go_wp2_with (first
                | (go_at_call 100;refine (HL.out _).mono ?_;rintro e w1 ⟨⟨v,rfl,hv⟩,hb1⟩)
                | (go_at_call 79;refine (HK.out _ _ hv).mono ?_;rintro e w2 ⟨rfl,rfl⟩)
                | (go_at_call 34;refine (HH.out _ _).mono ?_;rintro e w3 ⟨rfl,rfl⟩;first|rw [h1]|rw [h2]|rw [h4]|rw [h1024]))
               go_ret
               exact ⟨Zb (by rw [HC.out _];simp [visN,h1,h2,h4,h1024]),hb1⟩
     | false =>
       cases h4:hasI f 4 with
       | true =>
         cases h1024:hasI f 1024 with
         | true =>
           cases h8:hasI f 8 with
           | true =>
             go_enter Tryz.func82,Tryz.ntmps82
             go_wp2_with (first
              | (go_at_call 100;refine (HL.out _).mono ?_;rintro e w1 ⟨⟨v,rfl,hv⟩,hb1⟩)
              | (go_at_call 79;refine (HK.out _ _ hv).mono ?_;rintro e w2 ⟨rfl,rfl⟩)
              | (go_at_call 34;refine (HH.out _ _).mono ?_;rintro e w3 ⟨rfl,rfl⟩;first|rw [h1]|rw [h2]|rw [h4]|rw [h1024]|rw [h8]))
             go_ret
             exact ⟨Zb (by rw [HC.out _];simp [visN,h1,h2,h4,h1024,h8]),hb1⟩
           | false =>
             cases h16:hasI f 16 with
             | true =>
               go_enter Tryz.func82,Tryz.ntmps82
               go_wp2_with (first
                | (go_at_call 100;refine (HL.out _).mono ?_;rintro e w1 ⟨⟨v,rfl,hv⟩,hb1⟩)
                | (go_at_call 79;refine (HK.out _ _ hv).mono ?_;rintro e w2 ⟨rfl,rfl⟩)
                | (go_at_call 34;refine (HH.out _ _).mono ?_;rintro e w3 ⟨rfl,rfl⟩;first|rw [h1]|rw [h2]|rw [h4]|rw [h1024]|rw [h8]|rw [h16]))
               go_ret
               exact ⟨Zb (by rw [HC.out _];simp [visN,h1,h2,h4,h1024,h8,h16]),hb1⟩
             | false =>
               cases iface with
               | true =>
                 go_enter Tryz.func82,Tryz.ntmps82
                 go_wp2_with (first
                  | (go_at_call 100;refine (HL.out _).mono ?_;rintro e w1 ⟨⟨v,rfl,hv⟩,hb1⟩)
                  | (go_at_call 79;refine (HK.out _ _ hv).mono ?_;rintro e w2 ⟨rfl,rfl⟩)
                  | (go_at_call 34;refine (HH.out _ _).mono ?_;rintro e w3 ⟨rfl,rfl⟩;first|rw [h1]|rw [h2]|rw [h4]|rw [h1024]|rw [h8]|rw [h16]))
                 go_ret
                 exact ⟨Zb (by rw [HC.out _];simp [visN,h1,h2,h4,h1024,h8,h16]),hb1⟩
               | false =>
                 cases hini:(nm.toList == [60,105,110,105,116,62]) with
                 | true =>
                   go_enter Tryz.func82,Tryz.ntmps82
                   go_wp2_with (first
                    | (go_at_call 100;refine (HL.out _).mono ?_;rintro e w1 ⟨⟨v,rfl,hv⟩,hb1⟩)
                    | (go_at_call 79;refine (HK.out _ _ hv).mono ?_;rintro e w2 ⟨rfl,rfl⟩)
                    | (go_at_call 34;refine (HH.out _ _).mono ?_;rintro e w3 ⟨rfl,rfl⟩;first|rw [h1]|rw [h2]|rw [h4]|rw [h1024]|rw [h8]|rw [h16]))
                   go_ret
                   exact ⟨Zb (by rw [HC.out _];simp [visN,h1,h2,h4,h1024,h8,h16]),hb1⟩
                 | false =>
                   go_enter Tryz.func82,Tryz.ntmps82
                   go_wp2_with (first
                    | (go_at_call 100;refine (HL.out _).mono ?_;rintro e w1 ⟨⟨v,rfl,hv⟩,hb1⟩)
                    | (go_at_call 79;refine (HK.out _ _ hv).mono ?_;rintro e w2 ⟨rfl,rfl⟩)
                    | (go_at_call 34;refine (HH.out _ _).mono ?_;rintro e w3 ⟨rfl,rfl⟩;first|rw [h1]|rw [h2]|rw [h4]|rw [h1024]|rw [h8]|rw [h16]))
                   go_ret
                   exact ⟨Zb (by rw [HC.out _];simp [visN,h1,h2,h4,h1024,h8,h16]),hb1⟩
         | false =>
           cases iface with
           | true =>
             go_enter Tryz.func82,Tryz.ntmps82
             go_wp2_with (first
              | (go_at_call 100;refine (HL.out _).mono ?_;rintro e w1 ⟨⟨v,rfl,hv⟩,hb1⟩)
              | (go_at_call 79;refine (HK.out _ _ hv).mono ?_;rintro e w2 ⟨rfl,rfl⟩)
              | (go_at_call 34;refine (HH.out _ _).mono ?_;rintro e w3 ⟨rfl,rfl⟩;first|rw [h1]|rw [h2]|rw [h4]|rw [h1024]))
             go_ret
             exact ⟨Zb (by rw [HC.out _];simp [visN,h1,h2,h4,h1024]),hb1⟩
           | false =>
             cases hini:(nm.toList == [60,105,110,105,116,62]) with
             | true =>
               cases h8:hasI f 8 with
               | true =>
                 go_enter Tryz.func82,Tryz.ntmps82
                 go_wp2_with (first
                  | (go_at_call 100;refine (HL.out _).mono ?_;rintro e w1 ⟨⟨v,rfl,hv⟩,hb1⟩)
                  | (go_at_call 79;refine (HK.out _ _ hv).mono ?_;rintro e w2 ⟨rfl,rfl⟩)
                  | (go_at_call 34;refine (HH.out _ _).mono ?_;rintro e w3 ⟨rfl,rfl⟩;first|rw [h1]|rw [h2]|rw [h4]|rw [h1024]|rw [h8]))
                 go_ret
                 exact ⟨Zb (by rw [HC.out _];simp [visN,h1,h2,h4,h1024,h8]),hb1⟩
               | false =>
                 cases h16:hasI f 16 with
                 | true =>
                   go_enter Tryz.func82,Tryz.ntmps82
                   go_wp2_with (first
                    | (go_at_call 100;refine (HL.out _).mono ?_;rintro e w1 ⟨⟨v,rfl,hv⟩,hb1⟩)
                    | (go_at_call 79;refine (HK.out _ _ hv).mono ?_;rintro e w2 ⟨rfl,rfl⟩)
                    | (go_at_call 34;refine (HH.out _ _).mono ?_;rintro e w3 ⟨rfl,rfl⟩;first|rw [h1]|rw [h2]|rw [h4]|rw [h1024]|rw [h8]|rw [h16]))
                   go_ret
                   exact ⟨Zb (by rw [HC.out _];simp [visN,h1,h2,h4,h1024,h8,h16]),hb1⟩
                 | false =>
                   go_enter Tryz.func82,Tryz.ntmps82
                   go_wp2_with (first
                    | (go_at_call 100;refine (HL.out _).mono ?_;rintro e w1 ⟨⟨v,rfl,hv⟩,hb1⟩)
                    | (go_at_call 79;refine (HK.out _ _ hv).mono ?_;rintro e w2 ⟨rfl,rfl⟩)
                    | (go_at_call 34;refine (HH.out _ _).mono ?_;rintro e w3 ⟨rfl,rfl⟩;first|rw [h1]|rw [h2]|rw [h4]|rw [h1024]|rw [h8]|rw [h16]))
                   go_ret
                   exact ⟨Zb (by rw [HC.out _];simp [visN,h1,h2,h4,h1024,h8,h16]),hb1⟩
             | false =>
               go_enter Tryz.func82,Tryz.ntmps82
               go_wp2_with (first
                | (go_at_call 100;refine (HL.out _).mono ?_;rintro e w1 ⟨⟨v,rfl,hv⟩,hb1⟩)
                | (go_at_call 79;refine (HK.out _ _ hv).mono ?_;rintro e w2 ⟨rfl,rfl⟩)
                | (go_at_call 34;refine (HH.out _ _).mono ?_;rintro e w3 ⟨rfl,rfl⟩;first|rw [h1]|rw [h2]|rw [h4]|rw [h1024]))
               go_ret
               exact ⟨Zb (by rw [HC.out _];simp [visN,h1,h2,h4,h1024]),hb1⟩
       | false =>
         cases h1024:hasI f 1024 with
         | true =>
           cases h8:hasI f 8 with
           | true =>
             go_enter Tryz.func82,Tryz.ntmps82
             go_wp2_with (first
              | (go_at_call 100;refine (HL.out _).mono ?_;rintro e w1 ⟨⟨v,rfl,hv⟩,hb1⟩)
              | (go_at_call 79;refine (HK.out _ _ hv).mono ?_;rintro e w2 ⟨rfl,rfl⟩)
              | (go_at_call 34;refine (HH.out _ _).mono ?_;rintro e w3 ⟨rfl,rfl⟩;first|rw [h1]|rw [h2]|rw [h4]|rw [h1024]|rw [h8]))
             go_ret
             exact ⟨Zb (by rw [HC.out _];simp [visN,h1,h2,h4,h1024,h8]),hb1⟩
           | false =>
             cases h16:hasI f 16 with
             | true =>
               go_enter Tryz.func82,Tryz.ntmps82
               go_wp2_with (first
                | (go_at_call 100;refine (HL.out _).mono ?_;rintro e w1 ⟨⟨v,rfl,hv⟩,hb1⟩)
                | (go_at_call 79;refine (HK.out _ _ hv).mono ?_;rintro e w2 ⟨rfl,rfl⟩)
                | (go_at_call 34;refine (HH.out _ _).mono ?_;rintro e w3 ⟨rfl,rfl⟩;first|rw [h1]|rw [h2]|rw [h4]|rw [h1024]|rw [h8]|rw [h16]))
               go_ret
               exact ⟨Zb (by rw [HC.out _];simp [visN,h1,h2,h4,h1024,h8,h16]),hb1⟩
             | false =>
               cases iface with
               | true =>
                 go_enter Tryz.func82,Tryz.ntmps82
                 go_wp2_with (first
                  | (go_at_call 100;refine (HL.out _).mono ?_;rintro e w1 ⟨⟨v,rfl,hv⟩,hb1⟩)
                  | (go_at_call 79;refine (HK.out _ _ hv).mono ?_;rintro e w2 ⟨rfl,rfl⟩)
                  | (go_at_call 34;refine (HH.out _ _).mono ?_;rintro e w3 ⟨rfl,rfl⟩;first|rw [h1]|rw [h2]|rw [h4]|rw [h1024]|rw [h8]|rw [h16]))
                 go_ret
                 exact ⟨Zb (by rw [HC.out _];simp [visN,h1,h2,h4,h1024,h8,h16]),hb1⟩
               | false =>
                 cases hini:(nm.toList == [60,105,110,105,116,62]) with
                 | true =>
                   go_enter Tryz.func82,Tryz.ntmps82
                   go_wp2_with (first
                    | (go_at_call 100;refine (HL.out _).mono ?_;rintro e w1 ⟨⟨v,rfl,hv⟩,hb1⟩)
                    | (go_at_call 79;refine (HK.out _ _ hv).mono ?_;rintro e w2 ⟨rfl,rfl⟩)
                    | (go_at_call 34;refine (HH.out _ _).mono ?_;rintro e w3 ⟨rfl,rfl⟩;first|rw [h1]|rw [h2]|rw [h4]|rw [h1024]|rw [h8]|rw [h16]))
                   go_ret
                   exact ⟨Zb (by rw [HC.out _];simp [visN,h1,h2,h4,h1024,h8,h16]),hb1⟩
                 | false =>
                   go_enter Tryz.func82,Tryz.ntmps82
                   go_wp2_with (first
                    | (go_at_call 100;refine (HL.out _).mono ?_;rintro e w1 ⟨⟨v,rfl,hv⟩,hb1⟩)
                    | (go_at_call 79;refine (HK.out _ _ hv).mono ?_;rintro e w2 ⟨rfl,rfl⟩)
                    | (go_at_call 34;refine (HH.out _ _).mono ?_;rintro e w3 ⟨rfl,rfl⟩;first|rw [h1]|rw [h2]|rw [h4]|rw [h1024]|rw [h8]|rw [h16]))
                   go_ret
                   exact ⟨Zb (by rw [HC.out _];simp [visN,h1,h2,h4,h1024,h8,h16]),hb1⟩
         | false =>
           cases iface with
           | true =>
             cases h16:hasI f 16 with
             | true =>
               go_enter Tryz.func82,Tryz.ntmps82
               go_wp2_with (first
                | (go_at_call 100;refine (HL.out _).mono ?_;rintro e w1 ⟨⟨v,rfl,hv⟩,hb1⟩)
                | (go_at_call 79;refine (HK.out _ _ hv).mono ?_;rintro e w2 ⟨rfl,rfl⟩)
                | (go_at_call 34;refine (HH.out _ _).mono ?_;rintro e w3 ⟨rfl,rfl⟩;first|rw [h1]|rw [h2]|rw [h4]|rw [h1024]|rw [h16]))
               go_ret
               exact ⟨Zb (by rw [HC.out _];simp [visN,h1,h2,h4,h1024,h16]),hb1⟩
             | false =>
               go_enter Tryz.func82,Tryz.ntmps82
               go_wp2_with (first
                | (go_at_call 100;refine (HL.out _).mono ?_;rintro e w1 ⟨⟨v,rfl,hv⟩,hb1⟩)
                | (go_at_call 79;refine (HK.out _ _ hv).mono ?_;rintro e w2 ⟨rfl,rfl⟩)
                | (go_at_call 34;refine (HH.out _ _).mono ?_;rintro e w3 ⟨rfl,rfl⟩;first|rw [h1]|rw [h2]|rw [h4]|rw [h1024]|rw [h16]))
               go_ret
               exact ⟨Zb (by rw [HC.out _];simp [visN,h1,h2,h4,h1024,h16]),hb1⟩
           | false =>
             cases hini:(nm.toList == [60,105,110,105,116,62]) with
             | true =>
               cases h8:hasI f 8 with
               | true =>
                 go_enter Tryz.func82,Tryz.ntmps82
                 go_wp2_with (first
                  | (go_at_call 100;refine (HL.out _).mono ?_;rintro e w1 ⟨⟨v,rfl,hv⟩,hb1⟩)
                  | (go_at_call 79;refine (HK.out _ _ hv).mono ?_;rintro e w2 ⟨rfl,rfl⟩)
                  | (go_at_call 34;refine (HH.out _ _).mono ?_;rintro e w3 ⟨rfl,rfl⟩;first|rw [h1]|rw [h2]|rw [h4]|rw [h1024]|rw [h8]))
                 go_ret
                 exact ⟨Zb (by rw [HC.out _];simp [visN,h1,h2,h4,h1024,h8]),hb1⟩
               | false =>
                 cases h16:hasI f 16 with
                 | true =>
                   go_enter Tryz.func82,Tryz.ntmps82
                   go_wp2_with (first
                    | (go_at_call 100;refine (HL.out _).mono ?_;rintro e w1 ⟨⟨v,rfl,hv⟩,hb1⟩)
                    | (go_at_call 79;refine (HK.out _ _ hv).mono ?_;rintro e w2 ⟨rfl,rfl⟩)
                    | (go_at_call 34;refine (HH.out _ _).mono ?_;rintro e w3 ⟨rfl,rfl⟩;first|rw [h1]|rw [h2]|rw [h4]|rw [h1024]|rw [h8]|rw [h16]))
                   go_ret
                   exact ⟨Zb (by rw [HC.out _];simp [visN,h1,h2,h4,h1024,h8,h16]),hb1⟩
                 | false =>
                   go_enter Tryz.func82,Tryz.ntmps82
                   go_wp2_with (first
                    | (go_at_call 100;refine (HL.out _).mono ?_;rintro e w1 ⟨⟨v,rfl,hv⟩,hb1⟩)
                    | (go_at_call 79;refine (HK.out _ _ hv).mono ?_;rintro e w2 ⟨rfl,rfl⟩)
                    | (go_at_call 34;refine (HH.out _ _).mono ?_;rintro e w3 ⟨rfl,rfl⟩;first|rw [h1]|rw [h2]|rw [h4]|rw [h1024]|rw [h8]|rw [h16]))
                   go_ret
                   exact ⟨Zb (by rw [HC.out _];simp [visN,h1,h2,h4,h1024,h8,h16]),hb1⟩
             | false =>
               go_enter Tryz.func82,Tryz.ntmps82
               go_wp2_with (first
                | (go_at_call 100;refine (HL.out _).mono ?_;rintro e w1 ⟨⟨v,rfl,hv⟩,hb1⟩)
                | (go_at_call 79;refine (HK.out _ _ hv).mono ?_;rintro e w2 ⟨rfl,rfl⟩)
                | (go_at_call 34;refine (HH.out _ _).mono ?_;rintro e w3 ⟨rfl,rfl⟩;first|rw [h1]|rw [h2]|rw [h4]|rw [h1024]))
               go_ret
               exact ⟨Zb (by rw [HC.out _];simp [visN,h1,h2,h4,h1024]),hb1⟩
structure Mth where
 nm:ByteArray
 ds:ByteArray
 fl:Int
 lo:Int
 st:Int
 code:List Ins
structure Cls where
 nm:ByteArray
 su:ByteArray
 ifs:List (List UInt8)
 fl:Int
 ld:Int
 ms:List Mth
def MthAt (w:World) (bk o:Nat) (m:Mth):Prop :=
 w.cell? ⟨bk,o,none⟩=some (.string m.nm)∧w.cell? ⟨bk,o+1,none⟩=some (.string m.ds)∧w.cell? ⟨bk,o+2,none⟩=some (.int .i64 m.fl)∧w.cell? ⟨bk,o+3,none⟩=some (.int .i64 m.lo)∧w.cell? ⟨bk,o+4,none⟩=some (.int .i64 m.st)∧∃ v,w.cell? ⟨bk,o+5,none⟩=some v∧IsInss w v m.code
theorem MthAt.keep {w w':World} {bk o:Nat} {m:Mth} (h:MthAt w bk o m) (hb:Bw w w') (hlt:bk<w.heap.size):MthAt w' bk o m:=by
 obtain ⟨h0,h1,h2,h3,h4,v,h5,h6⟩:=h
 exact ⟨(hb.cell hlt).trans h0,(hb.cell hlt).trans h1,(hb.cell hlt).trans h2,(hb.cell hlt).trans h3,(hb.cell hlt).trans h4,v,(hb.cell hlt).trans h5,h6.keep hb⟩
def IsMths (w:World) (v:Value) (l:List Mth):Prop :=
 ∃ ao cap,v=.slice ao l.length cap∧l.length≤cap∧cap≤maxLen ∧
   (l≠[]→∃ bk o,ao=some ⟨bk,o,none⟩∧bk<w.heap.size∧∀ k m,l[k]?=some m→MthAt w bk (o+k * 6) m)
theorem IsMths.keep {w w':World} {v:Value} {l:List Mth} (h:IsMths w v l) (hb:Bw w w'):IsMths w' v l:=by
 obtain ⟨ao,cap,rfl,h1,h2,h3⟩:=h
 refine ⟨ao,cap,rfl,h1,h2,fun hne=>?_⟩
 obtain ⟨bk,o,e,hlt,hc⟩:=h3 hne
 exact ⟨bk,o,e,Nat.lt_of_lt_of_le hlt hb.size,fun k i hk=>(hc k i hk).keep hb hlt⟩
def clsV (c:Cls) (vi vm:Value):Value:=.agg #[.string c.nm,.string c.su,vi,.int .i64 c.fl,.int .i64 c.ld,vm]
def Yl (nm ds:ByteArray):List Mth→Nat→Int
 | [],_=>-1
 | m::r,k=>if (m.nm.toList == nm.toList)&&(m.ds.toList == ds.toList) then k else Yl nm ds r (k+1)
theorem Zft {l:List Mth} {nm ds:ByteArray} (k:Nat) (x:Mth) (h:l[k]?=some x):Yl nm ds (l.drop k) k=if (x.nm.toList == nm.toList)&&(x.ds.toList == ds.toList) then (k:Int) else Yl nm ds (l.drop (k+1)) (k+1):=by
 obtain ⟨h1,h2⟩:=List.getElem?_eq_some_iff.1 h
 rw [List.drop_eq_getElem_cons h1,h2,Yl]
theorem Zh4 (cn cs:ByteArray) (vi:Value) (cf cl:Int) (vm:Value) (ms:List Mth) (nm ds:ByteArray) (W:World) (h:IsMths W vm ms) :
 Calls Tryz.prog 60 #[.agg #[.string cn,.string cs,vi,.int .i64 cf,.int .i64 cl,vm],.string nm,.string ds] W fun e w'=>e=.returned (.int .i64 (Yl nm ds ms 0))∧Bw W w':=by
 obtain ⟨ao,cap,rfl,h1,h2,h3⟩:=h
 obtain ⟨N,hN⟩:∃ N,ms.length=N:=⟨_,rfl⟩
 unfold maxLen at h2
 rw [hN] at h1 ⊢
 have HN1:Hid (ms.length=N):=hN
 have HA:Hid _:=h3
 clear hN h3
 go_enter Tryz.func60,Tryz.ntmps60
 go_wp2
 go_loopw [7] (fun iv wr=>∃ i:Nat,iv=.int .i64 i∧i≤N∧wr.cell? ⟨W.heap.size,5,none⟩=some (.slice ao N cap)∧Hid (Bw W wr)∧Hid (Yl nm ds (ms.drop i) i=Yl nm ds ms 0)) (fun iv _=>N - (intOf iv).toNat)
 case atStart=>exact ⟨0,rfl,Nat.zero_le _,by simp [go_sem],(Below.refl _ _).alloc (Nat.le_refl _) _,rfl⟩
 case round =>
  obtain ⟨i,rfl,hi,c5,hb,hs⟩:=hrel
  by_cases hlt:i<N
  ·obtain ⟨bk,o,hao,hbk,hc⟩:=HA.out (by intro e;have:=HN1.out;rw [e] at this;simp at this;omega)
   obtain ⟨x,hx⟩:∃ x,ms[i]?=some x:=⟨_,List.getElem?_eq_getElem (by rw [HN1.out];exact hlt)⟩
   subst hao
   have hst:=Zft (nm:=nm) (ds:=ds) i x hx
   rw [hs.out] at hst
   obtain ⟨p0,p1,_⟩:=hc i x hx
   replace p0:=(hb.out.cell hbk).trans p0
   replace p1:=(hb.out.cell hbk).trans p1
   have hbk2:bk<wr.heap.size:=Nat.lt_of_lt_of_le hbk hb.out.size
   obtain ⟨xn,xd,xf,xl,xs,xc⟩:=x
   simp only at p0 p1 hst
   clear hc hs HA hx
   cases q1:(xn.toList == nm.toList) with
   | false =>
     have HN:Hid (Yl nm ds (ms.drop (i+1)) (i+1)=Yl nm ds ms 0):=by rw [Hid,hst,q1];rfl
     clear hst
     go_wp2
     go_roundw
     case rel=>exact ⟨i+1,by go_num,by omega,c5,hb,HN⟩
     case measure=>simp [intOf];omega
   | true =>
     cases q2:(xd.toList == ds.toList) with
     | false =>
       have HN:Hid (Yl nm ds (ms.drop (i+1)) (i+1)=Yl nm ds ms 0):=by rw [Hid,hst,q1,q2];rfl
       clear hst
       go_wp2
       go_roundw
       case rel=>exact ⟨i+1,by go_num,by omega,c5,hb,HN⟩
       case measure=>simp [intOf];omega
     | true =>
       have HN:Hid (Yl nm ds ms 0=(i:Int)):=by rw [Hid,hst,q1,q2];rfl
       clear hst
       go_wp2
       go_ret
       exact ⟨Zf HN.out.symm,hb.out⟩
  ·have e:i=N:=by omega
   subst e
   have HN:Hid (Yl nm ds ms 0=-1):=by rw [Hid,← hs.out,List.drop_of_length_le (by rw [HN1.out];exact Nat.le_refl _)];rfl
   clear hs HA
   go_wp2
   go_ret
   exact ⟨Zf HN.out.symm,hb.out⟩
theorem Zh6 (s:ByteArray) (hs:s.size≤maxLen) (w:World):Calls Tryz.prog 102 #[.string s] w fun e w'=>e=.returned (.tuple #[.int .i64 ((pdD s.data.toList).1.length:Int),.int .i64 (pdE s.data.toList)])∧Bw w w':=by
 have HD:Hid (∀ w,_):=Y5 s hs
 clear hs
 unfold DOut at HD
 generalize pdE s.data.toList=pd at *
 generalize pdD s.data.toList=dd at *
 go_enter Tryz.func102,Tryz.ntmps102
 go_wp2_with (first
  | (go_at_call 83;refine ((HD.out) _).mono ?_;rintro e w3 ⟨v,rfl,ho3,hb3⟩;obtain ⟨v1,v2,rfl⟩:=Zd ho3))
 go_ret2
 exact ⟨rfl,hb3.alloc hb3.size _⟩
theorem Zh7 (l:List UInt8):(pdD l).1.length≤20:=by
 unfold pdD
 split
 ·rename_i h
  unfold pdE at h
  split at h
  ·exact absurd h (by decide)
  ·split at h
   ·exact absurd h (by decide)
   ·rename_i d hd
    split at h
    ·exact absurd h (by decide)
    ·rename_i hg
     simp only [Y0,Bool.not_eq_true,Bool.or_eq_false_iff,decide_eq_false_iff_not] at hg
     rw [hd]
     have:=hg.1.1
     simp only [Option.getD_some]
     omega
 ·simp
def wdsN (ds:List UInt8) (fl:Int):Int:=if pdE ds=0 then ((pdD ds).1.length:Int)+(if hasI fl 8 then 0 else 1) else 0
def wdsE (ds:List UInt8):Int:=if pdE ds=0 then 0 else 1
theorem Zei (nm ds:ByteArray) (fl lo st:Int) (vc:Value) (hd:ds.size≤maxLen) (w:World):Calls Tryz.prog 84 #[.agg #[.string nm,.string ds,.int .i64 fl,.int .i64 lo,.int .i64 st,vc]] w fun e w'=>e=.returned (.tuple #[.int .i64 (wdsN ds.data.toList fl),.int .i64 (wdsE ds.data.toList)])∧Bw w w':=by
 have HD:Hid (∀ w,_):=Zh6 ds hd
 have HH:Hid (∀ w,_):=Xg fl 8
 have HN:Hid (wdsN ds.data.toList fl=if pdE ds.data.toList=0 then ((pdD ds.data.toList).1.length:Int)+(if hasI fl 8 then 0 else 1) else 0):=rfl
 have HE:Hid (wdsE ds.data.toList=if pdE ds.data.toList=0 then 0 else 1):=rfl
 have hlen:=Zh7 ds.data.toList
 clear hd
 generalize wdsN ds.data.toList fl=wn at *
 generalize wdsE ds.data.toList=we at *
 generalize pdE ds.data.toList=pd at *
 generalize (pdD ds.data.toList).1.length=dd at *
 generalize hasI fl 8=hh at *
 by_cases hpd:pd=0
 ·subst hpd
  cases hh with
  | false =>
    go_enter Tryz.func84,Tryz.ntmps84
    go_wp2_with (first
     | (go_at_call 102;refine ((HD.out) _).mono ?_;rintro e w1 ⟨rfl,hb1⟩;have hs1:w.heap.size<w1.heap.size:=sqS hb1;have hc2:=sqA hb1 w.heap.size 2 (.int .i64 fl))
     | (go_at_call 34;refine ((HH.out) _).mono ?_;rintro e w2 ⟨rfl,hw2⟩;rw [hw2]))
    go_ret2
    exact ⟨by rw [HN.out,HE.out];rfl,sqT hb1⟩
  | true =>
    go_enter Tryz.func84,Tryz.ntmps84
    go_wp2_with (first
     | (go_at_call 102;refine ((HD.out) _).mono ?_;rintro e w1 ⟨rfl,hb1⟩;have hs1:w.heap.size<w1.heap.size:=sqS hb1;have hc2:=sqA hb1 w.heap.size 2 (.int .i64 fl))
     | (go_at_call 34;refine ((HH.out) _).mono ?_;rintro e w2 ⟨rfl,hw2⟩;rw [hw2]))
    go_ret2
    exact ⟨by rw [HN.out,HE.out];simp,sqT hb1⟩
 ·have hne:(pd != 0)=true:=by rw [bne_iff_ne];exact hpd
  go_enter Tryz.func84,Tryz.ntmps84
  go_wp2_with (first
   | (go_at_call 102;refine ((HD.out) _).mono ?_;rintro e w1 ⟨rfl,hb1⟩))
  go_ret2
  exact ⟨by rw [HN.out,HE.out,if_neg hpd,if_neg hpd];rfl,sqT hb1⟩
end Go.Proofs.YtkoogmegdfpopaaGreat
