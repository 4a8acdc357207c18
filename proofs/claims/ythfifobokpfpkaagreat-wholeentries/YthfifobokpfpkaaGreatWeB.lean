import Derived.Test.YthfifobokpfpkaaGreatOvK
import Derived.Test.YthfifobokpfpkaaGreatMxC
import Derived.Test.YthfifobokpfpkaaGreatAcE
import Derived.Test.YthfifobokpfpkaaGreatHrP
import Derived.Test.YthfifobokpfpkaaGreatHrQ
import Derived.Test.YthfifobokpfpkaaGreatOwnX
import Derived.Test.YthfifobokpfpkaaGreatCurB
import Derived.Test.YthfifobokpfpkaaGreatTypesPure
import Derived.Test.YthfifobokpfpkaaGreatHrS
import Derived.Test.YthfifobokpfpkaaGreatHrT
import Derived.Test.YthfifobokpfpkaaGreatHrH
import Derived.Lib.Join
import GoSem.Op.String
import Derived.Deep.QuietTactic
import Derived.BigQuiet
import Derived.Deep.DeepCutAuto
set_option maxRecDepth 100000
namespace Go.Proofs.YthfifobokpfpkaaGreat
open Go.RowKit Go.Maps
theorem sidE_c (a1 a2:Int) (w:World):Calls Tryz.prog 143 #[.agg #[.int .i64 a1,.int .i64 a2],.agg #[.int .i64 a1,.int .i64 a2]] w fun e w'=>e=.returned (.bool true)∧Below w.heap.size w w':=by
  go_enter Tryz.func143,Tryz.ntmps143
  go_wp2
  all_goals go_ret
  all_goals exact ⟨retB (by simp),(by repeat (first|exact Below.refl _ _|refine Below.setCell ?_ (by simp;try omega) _|refine Below.alloc ?_ (by simp;try omega) _|refine Below.drew ?_))⟩
theorem entries_1 (W:World) (b:Nat) (r:Int) (HI1:Hid (∀ w,Below W.heap.size W w→Calls Tryz.prog 23 #[.pointer (some ⟨b,0,none⟩),.int .i64 r] w fun e w'=>(e=.returned (.bool true))∧Below w.heap.size w w')) (HB1:Hid (∀ w,Below W.heap.size W w→Calls Tryz.prog 68 #[.pointer (some ⟨b,0,none⟩),.int .i64 r] w fun e w'=>(e=.returned (.tuple #[.slice none 0 0,.int .i64 23]))∧Below w.heap.size w w')):Calls Tryz.prog 80 #[.pointer (some ⟨b,0,none⟩),.int .i64 r] W fun e w'=>e=.returned (.bool true)∧Below W.heap.size W w':=by
  have BB:Hid (Below W.heap.size W W):=Below.refl _ _
  go_enter Tryz.func80,Tryz.ntmps80
  go_wp2_with (first
    | (go_at_call 23;refine (HI1.out _ BB.out).mono ?_;rintro e w1 ⟨rfl,hb⟩;have B1:Hid (Below W.heap.size W w1):=bstep BB.out hb;clear hb HI1)
    | (go_at_call 68;refine (HB1.out _ B1.out).mono ?_;rintro e w2 ⟨rfl,hb⟩;have B2:Hid (Below W.heap.size W w2):=bstep B1.out hb;clear hb HB1))
  all_goals go_ret
  all_goals exact ⟨retB (by simp),B2.out⟩
set_option maxHeartbeats 32000000 in
theorem entries_w (ps:List Plc) (W:World) (b:Nat) (r:Int) (N:Nat) (HNp:Hid (ps.length=N)) (hN:N≤1000000) (HW2:Hid (∀ w',Below W.heap.size W w'→WAt b ps w'))
    (HI0:Hid (∀ b w,WAt b ps w→Calls Tryz.prog 23 #[.pointer (some ⟨b,0,none⟩),.int .i64 r] w fun e w'=>(e=.returned (.bool false))∧Below w.heap.size w w'))
    (HLn:Hid (∀ b w,WAt b ps w→Calls Tryz.prog 29 #[.pointer (some ⟨b,0,none⟩)] w fun e w'=>(e=.returned (.int .i64 (N:Int)))∧w'=w))
    (HIf:Hid (∀ (k:Nat),∀ b w,WAt b ps w→Calls Tryz.prog 23 #[.pointer (some ⟨b,0,none⟩),.int .i64 (k:Int)] w fun e w'=>(e=.returned (.bool (ifcI ps (k:Int))))∧Below w.heap.size w w'))
    (HCL:Hid (∀ (k:Nat) (q:Plc),ps[k]?=some q→∀ b w,WAt b ps w→Calls Tryz.prog 31 #[.pointer (some ⟨b,0,none⟩),.int .i64 (k:Int)] w fun e w'=>(∃ vi vm qm,e=.returned (.tuple #[.agg #[.string q.c.nm,.string q.c.su,vi,.int .i64 q.c.fl,.int .i64 q.c.ld,vm],.int .i64 0])∧OwnC w' w.heap.size vi q.c.ni q.c.xi vm qm∧qm.map Prod.fst=q.c.ms)∧Below w.heap.size w w'))
    (HKb:Hid (∀ (k:Nat) (q:Plc),ps[k]?=some q→q.c.ms.length≤1000000))
    (HLk:Hid (∀ (k i:Nat),∀ b w,WAt b ps w→Calls Tryz.prog 73 #[.pointer (some ⟨b,0,none⟩),.int .i64 r,.agg #[.int .i64 (k:Int),.int .i64 (i:Int)]] w fun e w'=>(e=.returned (.tuple #[(lokR ps r ((k:Int),(i:Int))).1.agg,.int .i64 (lokR ps r ((k:Int),(i:Int))).2]))∧Below w.heap.size w w'))
    (HEx:Hid (∀ (k:Nat),∀ b w,WAt b ps w→Calls Tryz.prog 25 #[.pointer (some ⟨b,0,none⟩),.int .i64 r,.int .i64 (k:Int)] w fun e w'=>(e=.returned (.bool (extI ps r (k:Int))))∧Below w.heap.size w w'))
    (HIt:Hid (∀ (k i:Nat),∀ b w,WAt b ps w→Calls Tryz.prog 76 #[.pointer (some ⟨b,0,none⟩),.int .i64 r,.agg #[.int .i64 (k:Int),.int .i64 (i:Int)]] w fun e w'=>(e=.returned (.tuple #[.agg #[.int .i64 (itfI ps r ((k:Int),(i:Int))).1.1,.int .i64 (itfI ps r ((k:Int),(i:Int))).1.2],.int .i64 (itfI ps r ((k:Int),(i:Int))).2]))∧Below w.heap.size w w'))
    (HVi:Hid (∀ (k i:Nat),∀ b w,WAt b ps w→Calls Tryz.prog 77 #[.pointer (some ⟨b,0,none⟩),.int .i64 r,.agg #[.int .i64 (k:Int),.int .i64 (i:Int)]] w fun e w'=>(e=.returned (.tuple #[.agg #[.int .i64 (virI ps r ((k:Int),(i:Int))).1.1,.int .i64 (virI ps r ((k:Int),(i:Int))).1.2],.int .i64 (virI ps r ((k:Int),(i:Int))).2]))∧Below w.heap.size w w'))
    (HQ:Hid (∀ (k i:Nat) (q:Plc) (m:HM),ps[k]?=some q→ifcI ps (k:Int)=true→q.c.ms[i]?=some m→(extI ps r (k:Int)=true∧(bits .and .i64 m.fl 10 == 0)=true→lokR ps r ((k:Int),(i:Int))=(entP ps r ((k:Int),(i:Int)),0))∧(¬ (extI ps r (k:Int)=true∧(bits .and .i64 m.fl 10 == 0)=true)→¬ (lokR ps r ((k:Int),(i:Int))).2=0))):Calls Tryz.prog 80 #[.pointer (some ⟨b,0,none⟩),.int .i64 r] W fun e w'=>e=.returned (.bool true)∧Below W.heap.size W w':=by
  have SI:Hid (∀ (a1 a2:Int) (w:World),Calls Tryz.prog 143 #[.agg #[.int .i64 a1,.int .i64 a2],.agg #[.int .i64 a1,.int .i64 a2]] w fun e w'=>e=.returned (.bool true)∧Below w.heap.size w w'):=sidE_c
  go_enter Tryz.func80,Tryz.ntmps80
  go_wp2_with (go_at_call 23;refine (HI0.out _ _ (HW2.out _ (Below.refl _ _))).mono ?_;rintro e w1 ⟨rfl,hb⟩;have B1:Hid (Below W.heap.size W w1):=hb;clear hb HI0)
  go_loopw [7] (fun kv wr=>∃ (k:Nat),kv=.int .i64 k∧k≤N∧Hid (Below W.heap.size W wr)) (fun kv _=>N - (intOf kv).toNat)
  case atStart=>exact ⟨0,rfl,Nat.zero_le _,B1⟩
  case round =>
    clear B1
    obtain ⟨k,rfl,hk,BB⟩:=hrel
    by_cases hlk:k<N
    · have hkI:(k:Int)<(N:Int):=by omega
      obtain ⟨q,hq⟩:∃ q,ps[k]?=some q:=⟨_,List.getElem?_eq_getElem (by rw [HNp.out];exact hlk)⟩
      have hI1:=HIf.out k
      have hQ:=fun i m=>HQ.out k i q m hq
      cases hfc:ifcI ps (k:Int)
      case false =>
        rw [hfc] at hI1
        have HI1:Hid (∀ b w,WAt b ps w→Calls Tryz.prog 23 #[.pointer (some ⟨b,0,none⟩),.int .i64 (k:Int)] w fun e w'=>(e=.returned (.bool false))∧Below w.heap.size w w'):=hI1
        clear hI1 hQ HQ HIf hfc
        go_wp2_with (first
          | (go_at_call 29;refine (HLn.out _ _ (HW2.out _ (by repeat (first|refine Below.setCell ?_ (by simp;try omega) _|refine Below.alloc ?_ (by have:=BB.out.size;simp;try omega) _|refine Below.drew ?_|exact BB.out)))).mono ?_;rintro e w9 ⟨rfl,hw9⟩;rw [hw9];clear hw9 w9)
          | (go_at_call 23;refine (HI1.out _ _ (HW2.out _ (by repeat (first|refine Below.setCell ?_ (by simp;try omega) _|refine Below.alloc ?_ (by have:=BB.out.size;simp;try omega) _|refine Below.drew ?_|exact BB.out)))).mono ?_;rintro e w30 ⟨rfl,hb⟩;have BB2:Below W.heap.size W w30:=bstep (by repeat (first|refine Below.setCell ?_ (by simp;try omega) _|refine Below.alloc ?_ (by have:=BB.out.size;simp;try omega) _|refine Below.drew ?_|exact BB.out)) hb;clear BB;have BB:Hid (Below W.heap.size W w30):=BB2;clear BB2;clear hb))
        go_roundw
        case rel=>exact ⟨k+1,by go_num,by omega,BB⟩
        case measure=>simp [intOf];omega
      case true =>
        rw [hfc] at hI1
        have HI1:Hid (∀ b w,WAt b ps w→Calls Tryz.prog 23 #[.pointer (some ⟨b,0,none⟩),.int .i64 (k:Int)] w fun e w'=>(e=.returned (.bool true))∧Below w.heap.size w w'):=hI1
        have HQ1:Hid _:=fun i m=>hQ i m hfc
        clear hI1 hQ HQ HIf hfc
        go_wp2_with (first
          | (go_at_call 29;refine (HLn.out _ _ (HW2.out _ (by repeat (first|refine Below.setCell ?_ (by simp;try omega) _|refine Below.alloc ?_ (by have:=BB.out.size;simp;try omega) _|refine Below.drew ?_|exact BB.out)))).mono ?_;rintro e w9 ⟨rfl,hw9⟩;rw [hw9];clear hw9 w9)
          | (go_at_call 23;refine (HI1.out _ _ (HW2.out _ (by repeat (first|refine Below.setCell ?_ (by simp;try omega) _|refine Below.alloc ?_ (by have:=BB.out.size;simp;try omega) _|refine Below.drew ?_|exact BB.out)))).mono ?_;rintro e w30 ⟨rfl,hb⟩;have BB2:Below W.heap.size W w30:=bstep (by repeat (first|refine Below.setCell ?_ (by simp;try omega) _|refine Below.alloc ?_ (by have:=BB.out.size;simp;try omega) _|refine Below.drew ?_|exact BB.out)) hb;clear BB;have BB:Hid (Below W.heap.size W w30):=BB2;clear BB2;clear hb)
          | (go_at_call 31;refine (HCL.out k q hq _ _ (HW2.out _ (by repeat (first|refine Below.setCell ?_ (by simp;try omega) _|refine Below.alloc ?_ (by have:=BB.out.size;simp;try omega) _|refine Below.drew ?_|exact BB.out)))).mono ?_;rintro e w3 ⟨⟨vi,vm,qm,rfl,hoc,hqm⟩,hb⟩;obtain ⟨ia,ic,rfl⟩:=ownv hoc.ifs;obtain ⟨ma,mc,rfl⟩:=ownv hoc.ms;have OM:Hid (w3.ownsRow w30.heap.size 30 6 (.slice ma qm.length mc) qm.length (flatH qm)):=hoc.ms;have HQM:Hid (qm.map Prod.fst=q.c.ms):=hqm;have BB2:Below W.heap.size W w3:=bstep (by repeat (first|refine Below.setCell ?_ (by simp;try omega) _|refine Below.alloc ?_ (by have:=BB.out.size;simp;try omega) _|refine Below.drew ?_|exact BB.out)) hb;clear BB;have BB:Hid (Below W.heap.size W w3):=BB2;clear BB2;clear hb hoc hqm))
        obtain ⟨K,hK⟩:∃ K,qm.length=K:=⟨_,rfl⟩
        have HK:Hid (qm.length=K):=hK
        have hKb:K≤1000000:=by
          have h1:=congrArg List.length HQM.out
          have h2:=HKb.out k q hq
          rw [List.length_map,hK] at h1
          omega
        rw [hK] at OM ⊢
        obtain ⟨U,hU⟩:∃ U,U=w3.alloc (.cells #[.string q.c.nm,.string q.c.su,.slice ia q.c.ni ic,.int .i64 q.c.fl,.int .i64 q.c.ld,.slice ma K mc] 53):=⟨_,rfl⟩
        have BB2:Hid (Below W.heap.size W U):=by rw [hU];exact BB.out.alloc BB.out.size _
        have OMU:Hid (U.ownsRow w30.heap.size 30 6 (.slice ma K mc) K (flatH qm)):=by rw [hU];exact OM.out.alloc _
        have hUB:U.heap[w3.heap.size]?=some (.cells #[.string q.c.nm,.string q.c.su,.slice ia q.c.ni ic,.int .i64 q.c.fl,.int .i64 q.c.ld,.slice ma K mc] 53 (0,0)):=by rw [hU];exact halloc1 _ _
        obtain ⟨_,_,_,_,_,xU5,_,xL⟩:=rw6 hUB
        rw [← hU]
        clear hU hK OM BB hUB HI1
        go_loopw [10] (fun kv wr=>∃ (i:Nat),kv=.int .i64 i∧i≤K∧Hid (Below W.heap.size W wr)∧Hid (Below U.heap.size U wr)) (fun kv _=>K - (intOf kv).toNat)
        case atStart=>exact ⟨0,rfl,Nat.zero_le _,BB2,Below.refl _ _⟩
        case round =>
          clear BB2
          obtain ⟨i,rfl,hi,BB,BU⟩:=hrel
          obtain ⟨wm,hwm⟩:∃ w,w=wr:=⟨_,rfl⟩
          subst hwm
          have x5:=(BU.out.cell (p:=⟨w3.heap.size,5,none⟩) xL).trans xU5
          by_cases hlt:i<K
          · have hiI:(i:Int)<(K:Int):=by omega
            obtain ⟨⟨m,um⟩,hm⟩:∃ m,qm[i]?=some m:=⟨_,List.getElem?_eq_getElem (by rw [HK.out];exact hlt)⟩
            have hmm:q.c.ms[i]?=some m:=by rw [← HQM.out,List.getElem?_map,hm];rfl
            obtain ⟨gm,cm,hform,_,gL,_⟩:=own_at8 OMU.out (by omega)
            injection hform with hca _ hcc
            subst hca hcc
            have cU2:=(OMU.out.cellAt (i * 6+2) (by have:=flatH_length qm;have:=HK.out;omega)).trans (flatH_at qm i (m,um) hm 2 (by omega))
            simp only [hmC,List.getElem?_cons_zero,List.getElem?_cons_succ] at cU2
            obtain ⟨hqa,hqb⟩:=HQ1.out i m hmm
            have hS1:=HLk.out k i
            have hX1:=HEx.out k
            have hT1:=HIt.out k i
            have hV1:=HVi.out k i
            clear HLk HEx HIt HVi HQ1 HCL HKb hm hmm hq
            obtain ⟨mn,md,mf,ml,ms,mk,mx⟩:=m
            simp only at hqa hqb cU2
            by_cases hth:extI ps r (k:Int)=true∧(bits .and .i64 mf 10 == 0)=true
            · have hlk:=hqa hth
              obtain ⟨h1,h2⟩:=hth
              rw [hlk,entP] at hS1
              rw [h1] at hX1
              generalize itfI ps r ((k:Int),(i:Int))=I at *
              obtain ⟨⟨a1,a2⟩,e1⟩:=I
              generalize virI ps r ((k:Int),(i:Int))=V at *
              obtain ⟨⟨b1,b2⟩,e2⟩:=V
              have HS1:Hid (∀ b w,WAt b ps w→Calls Tryz.prog 73 #[.pointer (some ⟨b,0,none⟩),.int .i64 r,.agg #[.int .i64 (k:Int),.int .i64 (i:Int)]] w fun e w'=>(e=.returned (.tuple #[.agg #[.int .i64 (k:Int),.int .i64 (i:Int),.int .i64 a1,.int .i64 a2,.int .i64 e1,.int .i64 b1,.int .i64 b2,.int .i64 e2],.int .i64 0]))∧Below w.heap.size w w'):=hS1
              have HX1:Hid (∀ b w,WAt b ps w→Calls Tryz.prog 25 #[.pointer (some ⟨b,0,none⟩),.int .i64 r,.int .i64 (k:Int)] w fun e w'=>(e=.returned (.bool true))∧Below w.heap.size w w'):=hX1
              have HT1:Hid (∀ b w,WAt b ps w→Calls Tryz.prog 76 #[.pointer (some ⟨b,0,none⟩),.int .i64 r,.agg #[.int .i64 (k:Int),.int .i64 (i:Int)]] w fun e w'=>(e=.returned (.tuple #[.agg #[.int .i64 a1,.int .i64 a2],.int .i64 e1]))∧Below w.heap.size w w'):=hT1
              have HV1:Hid (∀ b w,WAt b ps w→Calls Tryz.prog 77 #[.pointer (some ⟨b,0,none⟩),.int .i64 r,.agg #[.int .i64 (k:Int),.int .i64 (i:Int)]] w fun e w'=>(e=.returned (.tuple #[.agg #[.int .i64 b1,.int .i64 b2],.int .i64 e2]))∧Below w.heap.size w w'):=hV1
              have q0:True:=trivial
              clear hqa hqb hlk h1 hS1 hX1 hT1 hV1
              go_wp2_with (first
                | (go_at_call 73;refine (HS1.out _ _ (HW2.out _ (by repeat (first|refine Below.setCell ?_ (by simp;try omega) _|refine Below.alloc ?_ (by have:=BB.out.size;simp;try omega) _|refine Below.drew ?_|exact BB.out)))).mono ?_;rintro e w4 ⟨rfl,hb⟩;have mmd:=kp2 (n:=wm.heap.size) hb;(try clear mmB mm0 mm1 mmf mmL mmN);obtain ⟨mmB,mm0,mm1,mmf,mmL,mmN⟩:=mmd;have BB2:Below W.heap.size W w4:=bstep (by repeat (first|refine Below.setCell ?_ (by simp;try omega) _|refine Below.alloc ?_ (by have:=BB.out.size;simp;try omega) _|refine Below.drew ?_|exact BB.out)) hb;clear BB;have BB:Hid (Below W.heap.size W w4):=BB2;clear BB2;have BU2:Below U.heap.size U w4:=bstep (by repeat (first|refine Below.setCell ?_ (by simp;try omega) _|refine Below.alloc ?_ (by have:=BU.out.size;simp;try omega) _|refine Below.drew ?_|exact BU.out)) hb;clear BU;have BU:Hid (Below U.heap.size U w4):=BU2;clear BU2;clear hb)
                | (go_at_call 25;refine (HX1.out _ _ (HW2.out _ (by repeat (first|refine Below.setCell ?_ (by simp;try omega) _|refine Below.alloc ?_ (by have:=BB.out.size;simp;try omega) _|refine Below.drew ?_|exact BB.out)))).mono ?_;rintro e w5 ⟨rfl,hb⟩;have mmd:=kp2 (n:=wm.heap.size) hb;(try clear mmB mm0 mm1 mmf mmL mmN);obtain ⟨mmB,mm0,mm1,mmf,mmL,mmN⟩:=mmd;have yyd:=kp8 (n:=w4.heap.size) hb (by first|omega|(simp;try omega)) (halloc1 _ _);(try clear yyB yy0 yy1 yy2 yy3 yy4 yy5 yy6 yy7 yyf yyL yyN);obtain ⟨yyB,yy0,yy1,yy2,yy3,yy4,yy5,yy6,yy7,yyf,yyL,yyN⟩:=yyd;have BB2:Below W.heap.size W w5:=bstep (by repeat (first|refine Below.setCell ?_ (by simp;try omega) _|refine Below.alloc ?_ (by have:=BB.out.size;simp;try omega) _|refine Below.drew ?_|exact BB.out)) hb;clear BB;have BB:Hid (Below W.heap.size W w5):=BB2;clear BB2;have BU2:Below U.heap.size U w5:=bstep (by repeat (first|refine Below.setCell ?_ (by simp;try omega) _|refine Below.alloc ?_ (by have:=BU.out.size;simp;try omega) _|refine Below.drew ?_|exact BU.out)) hb;clear BU;have BU:Hid (Below U.heap.size U w5):=BU2;clear BU2;have y5:=(BU.out.cell (p:=⟨w3.heap.size,5,none⟩) xL).trans xU5;have c2:=(BU.out.cell (p:=⟨gm,i * 6+2,none⟩) gL).trans cU2;clear hb)
                | (go_at_call 76;refine (HT1.out _ _ (HW2.out _ (by repeat (first|refine Below.setCell ?_ (by simp;try omega) _|refine Below.alloc ?_ (by have:=BB.out.size;simp;try omega) _|refine Below.drew ?_|exact BB.out)))).mono ?_;rintro e w6 ⟨rfl,hb⟩;have mmd:=kp2 (n:=wm.heap.size) hb;(try clear mmB mm0 mm1 mmf mmL mmN);obtain ⟨mmB,mm0,mm1,mmf,mmL,mmN⟩:=mmd;have yyd:=kp8 (n:=w4.heap.size) hb (by first|omega|(simp;try omega)) (yyB.out);(try clear yyB yy0 yy1 yy2 yy3 yy4 yy5 yy6 yy7 yyf yyL yyN);obtain ⟨yyB,yy0,yy1,yy2,yy3,yy4,yy5,yy6,yy7,yyf,yyL,yyN⟩:=yyd;have BB2:Below W.heap.size W w6:=bstep (by repeat (first|refine Below.setCell ?_ (by simp;try omega) _|refine Below.alloc ?_ (by have:=BB.out.size;simp;try omega) _|refine Below.drew ?_|exact BB.out)) hb;clear BB;have BB:Hid (Below W.heap.size W w6):=BB2;clear BB2;have BU2:Below U.heap.size U w6:=bstep (by repeat (first|refine Below.setCell ?_ (by simp;try omega) _|refine Below.alloc ?_ (by have:=BU.out.size;simp;try omega) _|refine Below.drew ?_|exact BU.out)) hb;clear BU;have BU:Hid (Below U.heap.size U w6):=BU2;clear BU2;clear hb)
                | (go_at_call 77;refine (HV1.out _ _ (HW2.out _ (by repeat (first|refine Below.setCell ?_ (by simp;try omega) _|refine Below.alloc ?_ (by have:=BB.out.size;simp;try omega) _|refine Below.drew ?_|exact BB.out)))).mono ?_;rintro e w7 ⟨rfl,hb⟩;have yyd:=kp8 (n:=w4.heap.size) hb (by first|omega|(simp;try omega)) (hkeep yyB.out);(try clear yyB yy0 yy1 yy2 yy3 yy4 yy5 yy6 yy7 yyf yyL yyN);obtain ⟨yyB,yy0,yy1,yy2,yy3,yy4,yy5,yy6,yy7,yyf,yyL,yyN⟩:=yyd;have aad:=kp2 (n:=w6.heap.size) hb;(try clear aaB aa0 aa1 aaf aaL aaN);obtain ⟨aaB,aa0,aa1,aaf,aaL,aaN⟩:=aad;have BB2:Below W.heap.size W w7:=bstep (by repeat (first|refine Below.setCell ?_ (by simp;try omega) _|refine Below.alloc ?_ (by have:=BB.out.size;simp;try omega) _|refine Below.drew ?_|exact BB.out)) hb;clear BB;have BB:Hid (Below W.heap.size W w7):=BB2;clear BB2;have BU2:Below U.heap.size U w7:=bstep (by repeat (first|refine Below.setCell ?_ (by simp;try omega) _|refine Below.alloc ?_ (by have:=BU.out.size;simp;try omega) _|refine Below.drew ?_|exact BU.out)) hb;clear BU;have BU:Hid (Below U.heap.size U w7):=BU2;clear BU2;clear hb)
                | (go_at_call 143;refine (SI.out _ _ _).mono ?_;clear q0;rintro e w8 ⟨rfl,hb⟩;have yyd:=kp8 (n:=w4.heap.size) hb (by first|omega|(simp;try omega)) (hkeep yyB.out);(try clear yyB yy0 yy1 yy2 yy3 yy4 yy5 yy6 yy7 yyf yyL yyN);obtain ⟨yyB,yy0,yy1,yy2,yy3,yy4,yy5,yy6,yy7,yyf,yyL,yyN⟩:=yyd;have bbd:=kp2 (n:=w7.heap.size) hb;(try clear bbB bb0 bb1 bbf bbL bbN);obtain ⟨bbB,bb0,bb1,bbf,bbL,bbN⟩:=bbd;have BB2:Below W.heap.size W w8:=bstep (by repeat (first|refine Below.setCell ?_ (by simp;try omega) _|refine Below.alloc ?_ (by have:=BB.out.size;simp;try omega) _|refine Below.drew ?_|exact BB.out)) hb;clear BB;have BB:Hid (Below W.heap.size W w8):=BB2;clear BB2;have BU2:Below U.heap.size U w8:=bstep (by repeat (first|refine Below.setCell ?_ (by simp;try omega) _|refine Below.alloc ?_ (by have:=BU.out.size;simp;try omega) _|refine Below.drew ?_|exact BU.out)) hb;clear BU;have BU:Hid (Below U.heap.size U w8):=BU2;clear BU2;clear hb)
                | (go_at_call 143;refine (SI.out _ _ _).mono ?_;rintro e w10 ⟨rfl,hb⟩;have BB2:Below W.heap.size W w10:=bstep (by repeat (first|refine Below.setCell ?_ (by simp;try omega) _|refine Below.alloc ?_ (by have:=BB.out.size;simp;try omega) _|refine Below.drew ?_|exact BB.out)) hb;clear BB;have BB:Hid (Below W.heap.size W w10):=BB2;clear BB2;have BU2:Below U.heap.size U w10:=bstep (by repeat (first|refine Below.setCell ?_ (by simp;try omega) _|refine Below.alloc ?_ (by have:=BU.out.size;simp;try omega) _|refine Below.drew ?_|exact BU.out)) hb;clear BU;have BU:Hid (Below U.heap.size U w10):=BU2;clear BU2;clear hb))
              go_roundw
              case rel=>exact ⟨i+1,by go_num,by omega,(by repeat (first|refine Below.setCell ?_ (by simp;try omega) _|refine Below.alloc ?_ (by have:=BB.out.size;simp;try omega) _|refine Below.drew ?_|exact BB.out)),(by repeat (first|refine Below.setCell ?_ (by simp;try omega) _|refine Below.alloc ?_ (by have:=BU.out.size;simp;try omega) _|refine Below.drew ?_|exact BU.out))⟩
              case measure=>simp [intOf];omega
            · have hlk:=hqb hth
              generalize lokR ps r ((k:Int),(i:Int))=Z at *
              obtain ⟨⟨⟨r1,r2⟩,⟨a1,a2⟩,e1,⟨b1,b2⟩,e2⟩,z2⟩:=Z
              simp only at hlk
              have hz:(z2 == 0)=false:=by simp [hlk]
              have HS1:Hid (∀ b w,WAt b ps w→Calls Tryz.prog 73 #[.pointer (some ⟨b,0,none⟩),.int .i64 r,.agg #[.int .i64 (k:Int),.int .i64 (i:Int)]] w fun e w'=>(e=.returned (.tuple #[.agg #[.int .i64 r1,.int .i64 r2,.int .i64 a1,.int .i64 a2,.int .i64 e1,.int .i64 b1,.int .i64 b2,.int .i64 e2],.int .i64 z2]))∧Below w.heap.size w w'):=hS1
              cases hex:extI ps r (k:Int)
              case false =>
                rw [hex] at hX1
                have HX1:Hid (∀ b w,WAt b ps w→Calls Tryz.prog 25 #[.pointer (some ⟨b,0,none⟩),.int .i64 r,.int .i64 (k:Int)] w fun e w'=>(e=.returned (.bool false))∧Below w.heap.size w w'):=hX1
                clear hqa hqb hlk hS1 hX1 hT1 hV1 hth hex
                go_wp2_with (first
                  | (go_at_call 73;refine (HS1.out _ _ (HW2.out _ (by repeat (first|refine Below.setCell ?_ (by simp;try omega) _|refine Below.alloc ?_ (by have:=BB.out.size;simp;try omega) _|refine Below.drew ?_|exact BB.out)))).mono ?_;rintro e w4 ⟨rfl,hb⟩;have mmd:=kp2 (n:=wm.heap.size) hb;(try clear mmB mm0 mm1 mmf mmL mmN);obtain ⟨mmB,mm0,mm1,mmf,mmL,mmN⟩:=mmd;have BB2:Below W.heap.size W w4:=bstep (by repeat (first|refine Below.setCell ?_ (by simp;try omega) _|refine Below.alloc ?_ (by have:=BB.out.size;simp;try omega) _|refine Below.drew ?_|exact BB.out)) hb;clear BB;have BB:Hid (Below W.heap.size W w4):=BB2;clear BB2;have BU2:Below U.heap.size U w4:=bstep (by repeat (first|refine Below.setCell ?_ (by simp;try omega) _|refine Below.alloc ?_ (by have:=BU.out.size;simp;try omega) _|refine Below.drew ?_|exact BU.out)) hb;clear BU;have BU:Hid (Below U.heap.size U w4):=BU2;clear BU2;clear hb)
                  | (go_at_call 25;refine (HX1.out _ _ (HW2.out _ (by repeat (first|refine Below.setCell ?_ (by simp;try omega) _|refine Below.alloc ?_ (by have:=BB.out.size;simp;try omega) _|refine Below.drew ?_|exact BB.out)))).mono ?_;rintro e w5 ⟨rfl,hb⟩;have mmd:=kp2 (n:=wm.heap.size) hb;(try clear mmB mm0 mm1 mmf mmL mmN);obtain ⟨mmB,mm0,mm1,mmf,mmL,mmN⟩:=mmd;have yyd:=kp8 (n:=w4.heap.size) hb (by first|omega|(simp;try omega)) (halloc1 _ _);(try clear yyB yy0 yy1 yy2 yy3 yy4 yy5 yy6 yy7 yyf yyL yyN);obtain ⟨yyB,yy0,yy1,yy2,yy3,yy4,yy5,yy6,yy7,yyf,yyL,yyN⟩:=yyd;have BB2:Below W.heap.size W w5:=bstep (by repeat (first|refine Below.setCell ?_ (by simp;try omega) _|refine Below.alloc ?_ (by have:=BB.out.size;simp;try omega) _|refine Below.drew ?_|exact BB.out)) hb;clear BB;have BB:Hid (Below W.heap.size W w5):=BB2;clear BB2;have BU2:Below U.heap.size U w5:=bstep (by repeat (first|refine Below.setCell ?_ (by simp;try omega) _|refine Below.alloc ?_ (by have:=BU.out.size;simp;try omega) _|refine Below.drew ?_|exact BU.out)) hb;clear BU;have BU:Hid (Below U.heap.size U w5):=BU2;clear BU2;have y5:=(BU.out.cell (p:=⟨w3.heap.size,5,none⟩) xL).trans xU5;have c2:=(BU.out.cell (p:=⟨gm,i * 6+2,none⟩) gL).trans cU2;clear hb))
                go_roundw
                case rel=>exact ⟨i+1,by go_num,by omega,(by repeat (first|refine Below.setCell ?_ (by simp;try omega) _|refine Below.alloc ?_ (by have:=BB.out.size;simp;try omega) _|refine Below.drew ?_|exact BB.out)),(by repeat (first|refine Below.setCell ?_ (by simp;try omega) _|refine Below.alloc ?_ (by have:=BU.out.size;simp;try omega) _|refine Below.drew ?_|exact BU.out))⟩
                case measure=>simp [intOf];omega
              case true =>
                rw [hex] at hX1
                have HX1:Hid (∀ b w,WAt b ps w→Calls Tryz.prog 25 #[.pointer (some ⟨b,0,none⟩),.int .i64 r,.int .i64 (k:Int)] w fun e w'=>(e=.returned (.bool true))∧Below w.heap.size w w'):=hX1
                have h2:(bits .and .i64 mf 10 == 0)=false:=by
                  cases h2:(bits .and .i64 mf 10 == 0) with
                  | false=>rfl
                  | true=>exact absurd ⟨hex,h2⟩ hth
                clear hqa hqb hlk hS1 hX1 hT1 hV1 hth hex
                go_wp2_with (first
                  | (go_at_call 73;refine (HS1.out _ _ (HW2.out _ (by repeat (first|refine Below.setCell ?_ (by simp;try omega) _|refine Below.alloc ?_ (by have:=BB.out.size;simp;try omega) _|refine Below.drew ?_|exact BB.out)))).mono ?_;rintro e w4 ⟨rfl,hb⟩;have mmd:=kp2 (n:=wm.heap.size) hb;(try clear mmB mm0 mm1 mmf mmL mmN);obtain ⟨mmB,mm0,mm1,mmf,mmL,mmN⟩:=mmd;have BB2:Below W.heap.size W w4:=bstep (by repeat (first|refine Below.setCell ?_ (by simp;try omega) _|refine Below.alloc ?_ (by have:=BB.out.size;simp;try omega) _|refine Below.drew ?_|exact BB.out)) hb;clear BB;have BB:Hid (Below W.heap.size W w4):=BB2;clear BB2;have BU2:Below U.heap.size U w4:=bstep (by repeat (first|refine Below.setCell ?_ (by simp;try omega) _|refine Below.alloc ?_ (by have:=BU.out.size;simp;try omega) _|refine Below.drew ?_|exact BU.out)) hb;clear BU;have BU:Hid (Below U.heap.size U w4):=BU2;clear BU2;clear hb)
                  | (go_at_call 25;refine (HX1.out _ _ (HW2.out _ (by repeat (first|refine Below.setCell ?_ (by simp;try omega) _|refine Below.alloc ?_ (by have:=BB.out.size;simp;try omega) _|refine Below.drew ?_|exact BB.out)))).mono ?_;rintro e w5 ⟨rfl,hb⟩;have mmd:=kp2 (n:=wm.heap.size) hb;(try clear mmB mm0 mm1 mmf mmL mmN);obtain ⟨mmB,mm0,mm1,mmf,mmL,mmN⟩:=mmd;have yyd:=kp8 (n:=w4.heap.size) hb (by first|omega|(simp;try omega)) (halloc1 _ _);(try clear yyB yy0 yy1 yy2 yy3 yy4 yy5 yy6 yy7 yyf yyL yyN);obtain ⟨yyB,yy0,yy1,yy2,yy3,yy4,yy5,yy6,yy7,yyf,yyL,yyN⟩:=yyd;have BB2:Below W.heap.size W w5:=bstep (by repeat (first|refine Below.setCell ?_ (by simp;try omega) _|refine Below.alloc ?_ (by have:=BB.out.size;simp;try omega) _|refine Below.drew ?_|exact BB.out)) hb;clear BB;have BB:Hid (Below W.heap.size W w5):=BB2;clear BB2;have BU2:Below U.heap.size U w5:=bstep (by repeat (first|refine Below.setCell ?_ (by simp;try omega) _|refine Below.alloc ?_ (by have:=BU.out.size;simp;try omega) _|refine Below.drew ?_|exact BU.out)) hb;clear BU;have BU:Hid (Below U.heap.size U w5):=BU2;clear BU2;have y5:=(BU.out.cell (p:=⟨w3.heap.size,5,none⟩) xL).trans xU5;have c2:=(BU.out.cell (p:=⟨gm,i * 6+2,none⟩) gL).trans cU2;clear hb))
                go_roundw
                case rel=>exact ⟨i+1,by go_num,by omega,(by repeat (first|refine Below.setCell ?_ (by simp;try omega) _|refine Below.alloc ?_ (by have:=BB.out.size;simp;try omega) _|refine Below.drew ?_|exact BB.out)),(by repeat (first|refine Below.setCell ?_ (by simp;try omega) _|refine Below.alloc ?_ (by have:=BU.out.size;simp;try omega) _|refine Below.drew ?_|exact BU.out))⟩
                case measure=>simp [intOf];omega
          · have e:i=K:=by omega
            subst e
            go_wp2
            go_roundw
            case rel=>exact ⟨k+1,by go_num,by omega,BB⟩
            case measure=>simp [intOf];omega
    · have e:k=N:=by omega
      subst e
      go_wp2_with (first
        | (go_at_call 29;refine (HLn.out _ _ (HW2.out _ (by repeat (first|refine Below.setCell ?_ (by simp;try omega) _|refine Below.alloc ?_ (by have:=BB.out.size;simp;try omega) _|refine Below.drew ?_|exact BB.out)))).mono ?_;rintro e w9 ⟨rfl,hw9⟩;rw [hw9];clear hw9 w9))
      all_goals go_ret
      all_goals exact ⟨retB (by simp),BB.out⟩
theorem lok_ifc {ps:List Plc} (hW:WI ps) {r:Int} (hr:ifcI ps r=false) {k i:Nat} {q:Plc} {m:HM} (hq:ps[k]?=some q) (hf:ifcI ps (k:Int)=true) (hm:q.c.ms[i]?=some m):(extI ps r (k:Int)=true∧(bits .and .i64 m.fl 10 == 0)=true→lokR ps r ((k:Int),(i:Int))=(entP ps r ((k:Int),(i:Int)),0))∧(¬ (extI ps r (k:Int)=true∧(bits .and .i64 m.fl 10 == 0)=true)→¬ (lokR ps r ((k:Int),(i:Int))).2=0):=by
  have hM:methI ps (k:Int) (i:Int)=some m:=by
    rw [methI,plcI_nat,hq]
    show methP q (i:Int)=some m
    rw [methP,if_pos (by omega),Int.toNat_natCast,hm]
  have hk:=(List.getElem?_eq_some_iff.1 hq).1
  unfold lokR
  simp only [hM]
  rcases it_cases ps r with ⟨h0,kr,qr,rfl,hqr,_,hrt⟩|⟨hrt,he⟩
  · have hkr:=(List.getElem?_eq_some_iff.1 hqr).1
    have hnd:(nd q).i=true:=by
      rw [ifcI,plcI_nat,hq] at hf
      exact hf
    have hiff:((k:Int),(i:Int))∈rtsP ps qr↔(extI ps (kr:Int) (k:Int)=true∧(bits .and .i64 m.fl 10 == 0)=true):=by
      constructor
      · intro hx
        refine ⟨rts_ext hW hqr hx,?_⟩
        obtain ⟨j,i2,p,m2,e,hp,hm2,hc⟩:=rts_mem hx
        have e1:k=j:=by have:=congrArg Prod.fst e;simp only at this;omega
        have e2:i=i2:=by have:=congrArg Prod.snd e;simp only at this;omega
        subst e1 e2
        rw [hq] at hp
        cases hp
        rw [hm] at hm2
        cases hm2
        rcases hc with ⟨rfl,_⟩|⟨_,hc⟩
        · exfalso
          obtain ⟨n,hn1,_,_,hn4⟩:=hW.wo.top
          rw [List.getElem?_map,hq] at hn1
          cases hn1
          rw [hnd] at hn4
          cases hn4
        · exact hc
      · rintro ⟨hx,hb⟩
        rw [extI_nat hkr hk,ext_iff] at hx
        have hcl:k∈qr.cl:=by
          rcases hx with hx|hx
          · exfalso
            by_cases e:k=kr
            · subst e
              rw [hf] at hr
              cases hr
            · have:=ch_plain hW.wo kr (by rw [List.length_map];exact hkr) k hx e (nd q) (by rw [List.getElem?_map,hq];rfl)
              rw [hnd] at this
              cases this
          · rw [clO,List.getElem?_map,hqr] at hx
            exact hx
        rw [rtsP]
        refine List.mem_append_right _ (List.mem_flatMap.2 ⟨k,hcl,(rtK_mem _ _ _ _ _).2 ⟨i,m,by rw [mtK,hq];exact hm,hb,by rw [Nat.zero_add]⟩⟩)
    rw [if_pos h0,hrt]
    constructor
    · intro h
      rw [if_pos (hiff.2 h)]
    · intro h
      rw [if_neg fun hx=>h (hiff.1 hx)]
      exact (by decide:¬ (6:Int)=0)
  · have hne:¬ itE ps r=0:=by rcases he with e|e <;> rw [e] <;> decide
    rw [if_neg hne]
    refine ⟨fun h=>?_,fun _=>hne⟩
    exfalso
    obtain ⟨a,b,rfl,_,ha,_,_⟩:=extI_split h.1
    have hqa:ps[a]?=some ps[a]:=List.getElem?_eq_getElem ha
    have:itE ps (a:Int)=0:=by rw [itE,plcI_nat,hqa];simp [hr]
    exact hne this
theorem entries_c {b:Nat} {ps:List Plc} {W:World} (h:WAt b ps W) (hW:WI ps) (r:Int):Calls Tryz.prog 80 #[.pointer (some ⟨b,0,none⟩),.int .i64 r] W fun e w'=>e=.returned (.bool true)∧Below W.heap.size W w':=by
  cases hr:ifcI ps r with
  | true =>
    refine entries_1 W b r (fun w hb=>?_) (fun w hb=>?_)
    · have:=isIface_c (h.below hb) r
      rw [hr] at this
      exact this
    · have e:itE ps r=23:=by
        rcases plcI_cases ps r with ⟨h1,_⟩|⟨k,q,rfl,_,h1⟩
        · rw [ifcI,h1] at hr;cases hr
        · rw [itE,h1];simp [hr]
      have:=build_no (h.below hb) hW r (by rw [e];decide)
      rw [e] at this
      exact this
  | false =>
    refine entries_w ps W b r _ rfl (Nat.le_trans hW.hi (by decide)) (fun w' hb=>h.below hb) (fun b w hw=>?_) (fun b w hw=>len_c hw) (fun k b w hw=>isIface_c hw _) (fun k q hq b w hw=>?_) (fun k q hq=>(hW.pb q (List.mem_of_getElem? hq)).ms) (fun k i b w hw=>lok_c hw hW _ _ _) (fun k b w hw=>extends_c hw hW _ _) (fun k i b w hw=>itf_c hw hW _ _ _) (fun k i b w hw=>vir_c hw hW _ _ _) (fun k i q m hq hf hm=>lok_ifc hW hr hq hf hm)
    · have:=isIface_c hw r
      rw [hr] at this
      exact this
    · have:=class_c hw hW.pb (k:Int)
      rw [plcI_nat,hq] at this
      exact this
def clsA:Cls:=⟨⟨#[65]⟩,⟨#[79,98,106,101,99,116]⟩,[],1,0,[]⟩
theorem defA:dfV P3.length (defN P3 clsA)=.tuple #[.int .i64 3,.int .i64 0]:=by kernel_rfl
theorem extA:extI P3 2 0=true:=by kernel_rfl
theorem clsA_in (w:World):ClsIn w (.slice none 0 0) (.slice none 0 0) clsA :=
  ⟨⟨none,0,rfl,Nat.le_refl _,by unfold maxLen;omega,fun h=>absurd rfl h⟩,⟨none,0,rfl,Nat.le_refl _,by unfold maxLen;omega,fun h=>absurd rfl h⟩,.inl rfl,.inl rfl,(fun _ _ _ _ h=>by cases h),⟨by unfold maxLen;decide,by unfold maxLen;decide,(fun p hp=>by cases hp),by decide,by decide,(fun m hm=>by cases hm)⟩⟩
set_option maxHeartbeats 4000000 in
theorem awakeT_n (W:World) (HN:Hid (∀ w:World,Calls Tryz.prog 27 #[] w fun e w'=>∃ b,e=.returned (.pointer (some ⟨b,0,none⟩))∧(∃ vp pv,HW w' w.heap.size b w.heap.size P3 vp pv)∧Below w.heap.size w w'))
    (HL:Hid (∀ b w,WAt b P3 w→Calls Tryz.prog 29 #[.pointer (some ⟨b,0,none⟩)] w fun e w'=>e=.returned (.int .i64 3)∧w'=w))
    (HX:Hid (∀ b w,WAt b P3 w→Calls Tryz.prog 25 #[.pointer (some ⟨b,0,none⟩),.int .i64 2,.int .i64 0] w fun e w'=>e=.returned (.bool true)∧Below w.heap.size w w'))
    (HD:Hid (∀ N b w,N≤w.heap.size→(∃ vp pv,HW w N b N P3 vp pv)→Calls Tryz.prog 28 #[.pointer (some ⟨b,0,none⟩),.agg #[.string ⟨#[65]⟩,.string ⟨#[79,98,106,101,99,116]⟩,.slice none 0 0,.int .i64 1,.int .i64 0,.slice none 0 0]] w fun e w'=>e=.returned (.tuple #[.int .i64 3,.int .i64 0])∧Below N w w')):Calls Tryz.prog 79 #[] W fun e w'=>e=.returned (.bool true)∧Below W.heap.size W w':=by
  go_enter Tryz.func79,Tryz.ntmps79
  go_wp2_with (first
    | (go_at_call 27;refine (HN.out _).mono ?_;rintro e w1 ⟨b,rfl,hw,hb⟩;have H1:Hid (∃ vp pv,HW w1 W.heap.size b W.heap.size P3 vp pv):=hw;have H2:Hid (WAt b P3 w1):=(by obtain ⟨vp,pv,hw⟩:=hw;exact hw.wat);have B1:Hid (Below W.heap.size W w1):=hb;clear hw hb HN)
    | (go_at_call 29;refine (HL.out _ _ H2.out).mono ?_;rintro e w9 ⟨rfl,hw9⟩;rw [hw9];clear hw9 w9 HL)
    | (go_at_call 25;refine (HX.out _ _ H2.out).mono ?_;rintro e w2 ⟨rfl,hb⟩;have H3:Hid (∃ vp pv,HW w2 W.heap.size b W.heap.size P3 vp pv):=(by obtain ⟨vp,pv,hw⟩:=H1.out;exact ⟨vp,pv,hw.below hb⟩);have B2:Hid (Below W.heap.size W w2):=bstep B1.out hb;clear hb HX H1 H2)
    | (go_at_call 28;refine (HD.out _ _ _ B2.out.size H3.out).mono ?_;rintro e w3 ⟨rfl,hb⟩;have B3:Hid (Below W.heap.size W w3):=B2.out.trans hb;clear hb HD H3))
  all_goals go_ret
  all_goals exact ⟨retB (by simp),B3.out⟩
theorem awakeT_c (W:World):Calls Tryz.prog 79 #[] W fun e w'=>e=.returned (.bool true)∧Below W.heap.size W w' :=
  awakeT_n W (fun w=>(new_any w).mono fun e w' zz=>⟨_,zz.1,zz.2.1,zz.2.2⟩) (fun b w hw=>len_c hw) (fun b w hw=>(extends_c hw wi3 2 0).mono fun e w' zz=>⟨by rw [zz.1,extA],zz.2⟩) (fun N b w hN hw=>by
    obtain ⟨vp,pv,hw⟩:=hw
    exact (define_any N b N P3 vp pv clsA _ _ w hw hN (clsA_in w) wi3.nm).mono fun e w' zz=>⟨by rw [zz.1,defA],zz.2.2.1⟩)
set_option maxHeartbeats 8000000 in
theorem WholeEntries_any (v:Value) (l:List Cls) (W:World) (h:IsClss W v l):Calls Tryz.prog 14 #[v] W fun e w'=>e=.returned (.bool true)∧Below W.heap.size W w':=by
  have hCW:=clss_w h
  obtain ⟨ao,cap,rfl,h1,h2,h3⟩:=h
  unfold maxLen at h2
  obtain ⟨L,hL⟩:∃ L,l.length=L:=⟨_,rfl⟩
  have HL:Hid (l.length=L):=hL
  have HI:Hid _:=h3
  have HCW:Hid (∀ c∈l,ClsW c):=hCW
  rw [hL] at h1 ⊢
  clear hL h3 hCW
  have HA:Hid (∀ w:World,Calls Tryz.prog 79 #[] w fun e w'=>e=.returned (.bool true)∧Below w.heap.size w w'):=awakeT_c
  have HN:Hid (∀ w:World,Calls Tryz.prog 27 #[] w fun e w'=>e=.returned (.pointer (some ⟨w.heap.size+1,0,none⟩))∧(∃ vp pv,HW w' w.heap.size (w.heap.size+1) w.heap.size P3 vp pv)∧Below w.heap.size w w'):=new_any
  have HSl:Hid (∀ (i:Nat) (r:Int) b w,WAt b (wld (l.take i)) w→Calls Tryz.prog 80 #[.pointer (some ⟨b,0,none⟩),.int .i64 r] w fun e w'=>e=.returned (.bool true)∧Below w.heap.size w w'):=fun i r b w hw=>entries_c hw (wld_wi _ (fun c hc=>HCW.out c (List.mem_of_mem_take hc))) r
  have HLn:Hid (∀ (ps:List Plc) b w,WAt b ps w→Calls Tryz.prog 29 #[.pointer (some ⟨b,0,none⟩)] w fun e w'=>e=.returned (.int .i64 (ps.length:Int))∧w'=w):=fun ps b w hw=>len_c hw
  go_enter Tryz.func14,Tryz.ntmps14
  go_wp2_with (first
    | (go_at_call 79;refine (HA.out _).mono ?_;rintro e w1 ⟨rfl,hb⟩;have B1:Hid (Below W.heap.size W w1):=bstep (by repeat (first|exact Below.refl _ _|refine Below.setCell ?_ (by simp;try omega) _|refine Below.alloc ?_ (by simp;try omega) _|refine Below.drew ?_)) hb;clear hb HA)
    | (go_at_call 27;refine (HN.out _).mono ?_;rintro e w2 ⟨rfl,hw,hb⟩;have H2:Hid (∃ vp pv,HW w2 w1.heap.size (w1.heap.size+1) w1.heap.size P3 vp pv):=hw;have q1:W.heap.size≤w1.heap.size:=B1.out.size;have B2:Hid (Below w1.heap.size w1 w2):=hb;clear hb hw HN))
  go_loopw [4] (fun iv wr=>∃ (i:Nat),iv=.int .i64 i∧i≤L∧i≤12∧Hid (∃ vp pv,HW wr w1.heap.size (w1.heap.size+1) w1.heap.size (wld (l.take i)) vp pv)∧Hid (Below w1.heap.size w1 wr)) (fun iv _=>12 - (intOf iv).toNat)
  case atStart=>exact ⟨0,rfl,Nat.zero_le _,by omega,H2,B2⟩
  case round =>
    clear H2 B2
    obtain ⟨i,rfl,hi,hi12,hHW,hB⟩:=hrel
    by_cases hlt:i<L∧i<12
    · obtain ⟨hlt,hlt12⟩:=hlt
      have hltI:(i:Int)<(L:Int):=by omega
      have hltI2:(i:Int)<12:=by omega
      obtain ⟨c,hc⟩:∃ c,l[i]?=some c:=⟨_,List.getElem?_eq_getElem (by rw [HL.out];exact hlt)⟩
      obtain ⟨bk,o,rfl,hbk,hcl⟩:=HI.out (fun e=>by rw [e] at hc;simp at hc)
      obtain ⟨vi,vm,hcell,hin⟩:=hcl i c hc
      have bel:Below W.heap.size W wr:=bstep B1.out hB.out
      have p0:wr.cell? ⟨bk,o+i * 6,none⟩=some (.string c.nm):=(bel.cell (p:=⟨bk,o+i * 6,none⟩) hbk).trans (hcell 0 _ rfl)
      have p1:wr.cell? ⟨bk,o+i * 6+1,none⟩=some (.string c.su):=(bel.cell (p:=⟨bk,o+i * 6+1,none⟩) hbk).trans (hcell 1 _ rfl)
      have p2:wr.cell? ⟨bk,o+i * 6+2,none⟩=some vi:=(bel.cell (p:=⟨bk,o+i * 6+2,none⟩) hbk).trans (hcell 2 _ rfl)
      have p3:wr.cell? ⟨bk,o+i * 6+3,none⟩=some (.int .i64 c.fl):=(bel.cell (p:=⟨bk,o+i * 6+3,none⟩) hbk).trans (hcell 3 _ rfl)
      have p4:wr.cell? ⟨bk,o+i * 6+4,none⟩=some (.int .i64 c.ld):=(bel.cell (p:=⟨bk,o+i * 6+4,none⟩) hbk).trans (hcell 4 _ rfl)
      have p5:wr.cell? ⟨bk,o+i * 6+5,none⟩=some vm:=(bel.cell (p:=⟨bk,o+i * 6+5,none⟩) hbk).trans (hcell 5 _ rfl)
      have hWI:WI (wld (l.take i)):=wld_wi _ (fun c hc=>HCW.out c (List.mem_of_mem_take hc))
      obtain ⟨d,HD,hd⟩:∃ d:Int×Int,Hid (Calls Tryz.prog 28 #[.pointer (some ⟨w1.heap.size+1,0,none⟩),.agg #[.string c.nm,.string c.su,vi,.int .i64 c.fl,.int .i64 c.ld,vm]] wr fun e w'=>e=.returned (.tuple #[.int .i64 d.1,.int .i64 d.2])∧Hid (∃ vp pv,HW w' w1.heap.size (w1.heap.size+1) w1.heap.size (wld (l.take (i+1))) vp pv)∧Hid (Below w1.heap.size w1 w'))∧True:=by
        obtain ⟨vp,pv,hw⟩:=hHW.out
        have hdef:=define_any w1.heap.size (w1.heap.size+1) w1.heap.size _ vp pv c vi vm wr hw hB.out.size (hin.keep bel) hWI.nm
        have hv:∃ d:Int×Int,dfV (wld (l.take i)).length (defN (wld (l.take i)) c)=.tuple #[.int .i64 d.1,.int .i64 d.2]:=by
          cases defN (wld (l.take i)) c with
          | ok p=>exact ⟨(_,0),rfl⟩
          | error e=>exact ⟨(0,e),rfl⟩
        obtain ⟨d,hv⟩:=hv
        refine ⟨d,hdef.mono ?_,trivial⟩
        rintro e w' ⟨rfl,hw',hb',_⟩
        rw [wld_at hc,hv]
        exact ⟨rfl,hw',hB.out.trans hb'⟩
      obtain ⟨d1,d2⟩:=d
      simp only at HD
      clear hcl hcell hin hc bel hWI hHW hB HI hd
      have HS1:=HSl.out (i+1)
      have HS:Hid _:=HS1
      clear HS1 HSl
      obtain ⟨ps,hps⟩:∃ ps,wld (l.take (i+1))=ps:=⟨_,rfl⟩
      have HPS:Hid (wld (l.take (i+1))=ps):=hps
      rw [hps] at HS HD
      clear hps
      by_cases hd:d2=0
      · subst hd
        go_wp2_with (first
          | (go_at_call 28;refine HD.out.mono ?_;rintro e w3 ⟨rfl,hw3,hb3⟩;have HH:Hid (WAt (w1.heap.size+1) ps w3):=(by obtain ⟨vp,pv,hw⟩:=hw3.out;exact hw.wat);clear HD)
          | (go_at_call 29;refine (HLn.out _ _ _ HH.out).mono ?_;rintro e w9 ⟨rfl,hw9⟩;rw [hw9];clear hw9 w9 HLn)
          | (go_at_call 80;refine (HS.out _ _ _ HH.out).mono ?_;rintro e w4 ⟨rfl,hb⟩;have hw4:Hid (∃ vp pv,HW w4 w1.heap.size (w1.heap.size+1) w1.heap.size ps vp pv):=(by obtain ⟨vp,pv,hw⟩:=hw3.out;exact ⟨vp,pv,hw.below hb⟩);have hb4:Hid (Below w1.heap.size w1 w4):=bstep hb3.out hb;clear hb HS))
        go_roundw
        case rel=>exact ⟨i+1,by go_num,by omega,by omega,(by rw [HPS.out];exact hw4),hb4⟩
        case measure=>simp [intOf];omega
      · have hdb:(d2 == 0)=false:=by simp [hd]
        go_wp2_with (go_at_call 28;refine HD.out.mono ?_;rintro e w3 ⟨rfl,hw3,hb3⟩;clear HD)
        go_roundw
        case rel=>exact ⟨i+1,by go_num,by omega,by omega,(by rw [HPS.out];exact hw3),hb3⟩
        case measure=>simp [intOf];omega
    · have HH:Hid (WAt (w1.heap.size+1) (wld (l.take i)) wr):=by obtain ⟨vp,pv,hw⟩:=hHW.out;exact hw.wat
      have HS:Hid (∀ (r:Int) b w,WAt b (wld (l.take i)) w→Calls Tryz.prog 80 #[.pointer (some ⟨b,0,none⟩),.int .i64 r] w fun e w'=>e=.returned (.bool true)∧Below w.heap.size w w'):=HSl.out i
      clear hHW HI HSl
      generalize wld (l.take i)=ps at *
      have hlt2:¬ (i:Int)<(L:Int)∨((i:Int)<(L:Int)∧¬ (i:Int)<12):=by omega
      clear hlt
      rcases hlt2 with hlt|⟨hlt,hlt12⟩
      all_goals
        go_wp2_with (go_at_call 80;refine (HS.out _ _ _ HH.out).mono ?_;rintro e w4 ⟨rfl,hb⟩;have hb4:Hid (Below w1.heap.size w1 w4):=bstep hB.out hb;clear hb HS)
      all_goals go_ret
      all_goals exact ⟨retB (by simp),bstep B1.out hb4.out⟩
end Go.Proofs.YthfifobokpfpkaaGreat
