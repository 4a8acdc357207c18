import Derived.Test.YtmafkabjjibcbaaGreatOvP
import Derived.Deep.DeepCutAuto
set_option maxHeartbeats 4000000
set_option maxRecDepth 100000
namespace Go.Proofs.YtmafkabjjibcbaaGreat
open Go.RowKit Go.Maps
theorem cck_c {b:Nat} {ps:List Plc} {W:World} (h:WAt b ps W) (i:Int):Calls Tryz.prog 129 #[.pointer (some ⟨b,0,none⟩),.int .i64 i] W fun e w'=>e=.returned (.int .i64 (rckI ps i))∧w'=W:=by
 have HL:Hid (Calls Tryz.prog 95 #[.pointer (some ⟨b,0,none⟩)] W fun e w'=>e=.returned (.int .i64 (ps.length:Int))∧w'=W):=len_c h
 rcases Zl ps i with ⟨h1,h2⟩|⟨k,q,rfl,h2,h1⟩
 ·have e:rckI ps i=3:=by rw [rckI,h1];rfl
  rw [e]
  clear h h1 e
  by_cases h0:i<0
  ·go_enter Tryz.func129,Tryz.ntmps129
   go_wp2
   exact bodyPost_ret (results_tmp rfl _ _ _) rfl ⟨rfl,rfl⟩
  ·have h3:(ps.length:Int)≤i:=by omega
   generalize (ps.length:Int)=n at *
   clear h2
   go_enter Tryz.func129,Tryz.ntmps129
   go_wp2_with (go_at_call 95;refine HL.out.mono ?_;rintro e w9 ⟨rfl,hw9⟩;rw [hw9];clear hw9 w9)
   exact bodyPost_ret (results_tmp rfl _ _ _) rfl ⟨rfl,rfl⟩
 ·have e:rckI ps k=0:=by rw [rckI,h1];rfl
  rw [e]
  have h3:(k:Int)<(ps.length:Int):=by have:=(List.getElem?_eq_some_iff.1 h2).1;omega
  have h0:¬ (k:Int)<0:=by omega
  generalize (ps.length:Int)=n at *
  have h4:¬ n≤(k:Int):=by omega
  clear h h1 e h2
  go_enter Tryz.func129,Tryz.ntmps129
  go_wp2_with (go_at_call 95;refine HL.out.mono ?_;rintro e w9 ⟨rfl,hw9⟩;rw [hw9];clear hw9 w9)
  exact bodyPost_ret (results_tmp rfl _ _ _) rfl ⟨rfl,rfl⟩
theorem chS_c {b:Nat} {ps:List Plc} {W:World} (h:WAt b ps W) (hB:∀ q∈ps,PlcB q) (c i fl:Int):Calls Tryz.prog 74 #[.pointer (some ⟨b,0,none⟩),.agg #[.int .i64 c,.int .i64 i],.int .i64 fl] W fun e w'=>e=.returned (.bool (hasS ps c i fl))∧Bw W w':=by
 have HM:Hid (∀ w,Bw W w→Calls Tryz.prog 46 #[.pointer (some ⟨b,0,none⟩),.agg #[.int .i64 c,.int .i64 i]] w fun e w'=>MthR w.heap.size (Zm ps c i) e w'∧Bw w w'):=fun w hb=>Jz (h.below hb) hB c i
 have HR:Hid (hasS ps c i fl=match Zm ps c i with|some m=>hasI m.fl fl|none=>false):=rfl
 generalize hasS ps c i fl=R at *
 generalize Zm ps c i=M at *
 clear h hB
 cases M with
 | none =>
   have hR:R=false:=HR.out
   subst hR
   go_enter Tryz.func74,Tryz.ntmps74
   go_wp2_with (go_at_call 46;refine (HM.out _ sqR).mono ?_;rintro e w1 ⟨hr,hb⟩;have hr2:e=.returned noM:=hr;subst hr2;rw [noM];have B1:Hid (Bw W w1):=Zb sqR hb;clear hb HM hr)
   exact bodyPost_ret (v:=.bool false) (by simp [results,Tryz.results74,go_sem]) rfl ⟨rfl,B1.out.alloc B1.out.size _⟩
 | some m =>
   have hR:R=(bits .and .i64 m.fl fl != 0):=HR.out
   cases hq:(bits .and .i64 m.fl fl != 0)
   all_goals
    rw [hq] at hR
    subst hR
    clear HR
    go_enter Tryz.func74,Tryz.ntmps74
    go_wp2_with (go_at_call 46;refine (HM.out _ sqR).mono ?_;rintro e w1 ⟨⟨v,hr,ho⟩,hb⟩;subst hr;obtain ⟨a',c',rfl⟩:=ownv ho;have B1:Hid (Bw W w1):=Zb sqR hb;clear hb HM ho)
   ·exact bodyPost_ret (v:=.bool false) (by simp [results,Tryz.results74,go_sem, *]) rfl ⟨rfl,B1.out.alloc B1.out.size _⟩
   ·exact bodyPost_ret (v:=.bool true) (by simp [results,Tryz.results74,go_sem, *]) rfl ⟨rfl,B1.out.alloc B1.out.size _⟩
def idB (x:(Int×Int)×Bool):Value:=.tuple #[.agg #[.int .i64 x.1.1,.int .i64 x.1.2],.bool x.2]
def owB (ps:List Plc) (nm ds:ByteArray) (c:Int):(Int×Int)×Bool:=if (fndI ps c nm ds).2=0 then ((c,(fndI ps c nm ds).1),true) else ((0,0),false)
theorem chO_c {b:Nat} {ps:List Plc} {W:World} (h:WAt b ps W) (hB:∀ q∈ps,PlcB q) (c:Int) (nm ds:ByteArray) (fl lo st:Int) (sa:Option Addr) (sk so:Nat):Calls Tryz.prog 128 #[.pointer (some ⟨b,0,none⟩),.int .i64 c,.agg #[.string nm,.string ds,.int .i64 fl,.int .i64 lo,.int .i64 st,.slice sa sk so]] W fun e w'=>e=.returned (idB (owB ps nm ds c))∧Bw W w':=by
 have HF:Hid (∀ w,Bw W w→Calls Tryz.prog 193 #[.pointer (some ⟨b,0,none⟩),.int .i64 c,.string nm,.string ds] w fun e w'=>e=.returned (.tuple #[.int .i64 (fndI ps c nm ds).1,.int .i64 (fndI ps c nm ds).2])∧Bw w w'):=fun w hb=>Zly (h.below hb) hB c nm ds
 unfold owB
 generalize fndI ps c nm ds=F at *
 obtain ⟨F1,F2⟩:=F
 simp only at HF ⊢
 clear h hB
 by_cases h0:F2=0
 ·subst h0
  rw [if_pos rfl]
  go_enter Tryz.func128,Tryz.ntmps128
  go_wp2_with (go_at_call 193;refine (HF.out _ sqR).mono ?_;rintro e w1 ⟨rfl,hb⟩;have zd:w1.heap[W.heap.size+1]?=some (.cells #[.int .i64 0,.int .i64 0] 38 (0,0)):=(hb.block (W.heap.size+1) (by first|omega|(simp;try omega))).trans (Za _ _ (by simp));(try clear zB z0 z1 zf zL zN);have zB:Hid _:=zd;obtain ⟨z0,z1,zf,zL⟩:=rw2 zd;have zN:¬ W.heap.size+1=w1.heap.size:=(by omega);clear zd;have B1:Hid (Bw W w1):=Zb sqR hb;clear hb HF)
  exact bodyPost_ret (v:=idB ((c,F1),true)) (by simp [results,Tryz.results128,go_sem,idB, *]) rfl ⟨rfl,(sqE B1)⟩
 ·rw [if_neg h0]
  go_enter Tryz.func128,Tryz.ntmps128
  go_wp2_with (go_at_call 193;refine (HF.out _ sqR).mono ?_;rintro e w1 ⟨rfl,hb⟩;have zd:w1.heap[W.heap.size+1]?=some (.cells #[.int .i64 0,.int .i64 0] 38 (0,0)):=(hb.block (W.heap.size+1) (by first|omega|(simp;try omega))).trans (Za _ _ (by simp));(try clear zB z0 z1 zf zL zN);have zB:Hid _:=zd;obtain ⟨z0,z1,zf,zL⟩:=rw2 zd;have zN:¬ W.heap.size+1=w1.heap.size:=(by omega);clear zd;have B1:Hid (Bw W w1):=Zb sqR hb;clear hb HF)
  exact bodyPost_ret (v:=idB ((0,0),false)) (by simp [results,Tryz.results128,go_sem,idB, *]) rfl ⟨rfl,(sqE B1)⟩
def unaI (ps:List Plc) (m:Int×Int):(Int×Int)×Int:=if hasS ps m.1 m.2 1024 then ((0,0),24) else (m,0)
theorem una_c {b:Nat} {ps:List Plc} {W:World} (h:WAt b ps W) (hB:∀ q∈ps,PlcB q) (c i:Int):Calls Tryz.prog 67 #[.pointer (some ⟨b,0,none⟩),.agg #[.int .i64 c,.int .i64 i]] W fun e w'=>e=.returned (idE (unaI ps (c,i)))∧Bw W w':=by
 have HS:Hid (∀ w,Bw W w→Calls Tryz.prog 74 #[.pointer (some ⟨b,0,none⟩),.agg #[.int .i64 c,.int .i64 i],.int .i64 1024] w fun e w'=>e=.returned (.bool (hasS ps c i 1024))∧Bw w w'):=fun w hb=>chS_c (h.below hb) hB c i 1024
 unfold unaI
 simp only
 generalize hasS ps c i 1024=S at *
 clear h hB
 cases S
 all_goals
  go_enter Tryz.func67,Tryz.ntmps67
  go_wp2_with (go_at_call 74;refine (HS.out _ sqR).mono ?_;rintro e w1 ⟨rfl,hb⟩;have yd:w1.heap[W.heap.size]?=some (.cells #[.int .i64 c,.int .i64 i] 38 (0,0)):=(hb.block (W.heap.size) (by first|omega|(simp;try omega))).trans (Zg (Zo _ _));(try clear yB y0 y1 yf yL yN);have yB:Hid _:=yd;obtain ⟨y0,y1,yf,yL⟩:=rw2 yd;have yN:¬ W.heap.size=w1.heap.size:=(by omega);clear yd;have zd:w1.heap[W.heap.size+1]?=some (.cells #[.int .i64 0,.int .i64 0] 38 (0,0)):=(hb.block (W.heap.size+1) (by first|omega|(simp;try omega))).trans (Za _ _ (by simp));(try clear zB z0 z1 zf zL zN);have zB:Hid _:=zd;obtain ⟨z0,z1,zf,zL⟩:=rw2 zd;have zN:¬ W.heap.size+1=w1.heap.size:=(by omega);clear zd;have B1:Hid (Bw W w1):=Zb sqR hb;clear hb HS)
 ·exact bodyPost_ret (v:=idE ((c,i),0)) (by simp [results,Tryz.results67,go_sem,idE, *]) rfl ⟨rfl,(sqE B1)⟩
 ·exact bodyPost_ret (v:=idE ((0,0),24)) (by simp [results,Tryz.results67,go_sem,idE, *]) rfl ⟨rfl,(sqE B1)⟩
def mthE:Except Int HM→Ending→Prop
 | .error x,e=>e=.returned (.tuple #[.agg #[.string ⟨#[]⟩,.string ⟨#[]⟩,.int .i64 0,.int .i64 0,.int .i64 0,.slice none 0 0],.int .i64 x])
 | .ok m,e=>∃ sa sk so,e=.returned (.tuple #[.agg #[.string m.nm,.string m.ds,.int .i64 m.fl,.int .i64 m.lo,.int .i64 m.st,.slice sa sk so],.int .i64 0])
theorem mth_e {b:Nat} {ps:List Plc} {W:World} (h:WAt b ps W) (hB:∀ q∈ps,PlcB q) (c i:Int):Calls Tryz.prog 46 #[.pointer (some ⟨b,0,none⟩),.agg #[.int .i64 c,.int .i64 i]] W fun e w'=>mthE (match Zm ps c i with|some m=>.ok m|none=>.error 3) e∧Bw W w':=by
 refine (Jz h hB c i).mono fun e w' zz=>⟨?_,zz.2⟩
 have h1:=zz.1
 cases hm:Zm ps c i with
 | none=>rw [hm] at h1;exact h1
 | some m =>
   rw [hm] at h1
   obtain ⟨vv,rfl,hown⟩:=h1
   obtain ⟨a1,c1,rfl⟩:=ownv hown
   exact ⟨a1,_,c1,rfl⟩
def crdI (ps:List Plc) (d:Int) (m:Int×Int):Except Int HM:=match plcI ps d,Zm ps m.1 m.2 with
 | some _,some x=>.ok x
 | _,_=>.error 3
theorem crd_c {b:Nat} {ps:List Plc} {W:World} (h:WAt b ps W) (hB:∀ q∈ps,PlcB q) (d c i:Int):Calls Tryz.prog 76 #[.pointer (some ⟨b,0,none⟩),.int .i64 d,.agg #[.int .i64 c,.int .i64 i]] W fun e w'=>mthE (crdI ps d (c,i)) e∧Bw W w':=by
 have HC:Hid (∀ w,Bw W w→Calls Tryz.prog 129 #[.pointer (some ⟨b,0,none⟩),.int .i64 d] w fun e w'=>e=.returned (.int .i64 (rckI ps d))∧w'=w):=fun w hb=>cck_c (h.below hb) d
 have HM:Hid (∀ w,Bw W w→Calls Tryz.prog 46 #[.pointer (some ⟨b,0,none⟩),.agg #[.int .i64 c,.int .i64 i]] w fun e w'=>mthE (match Zm ps c i with|some m=>.ok m|none=>.error 3) e∧Bw w w'):=fun w hb=>mth_e (h.below hb) hB c i
 unfold crdI
 unfold rckI at HC
 simp only
 generalize plcI ps d=D at *
 generalize Zm ps c i=M at *
 clear h hB
 cases D with
 | none =>
   clear HM
   simp only [Option.isSome_none,Bool.false_eq_true,if_false] at HC
   go_enter Tryz.func76,Tryz.ntmps76
   go_wp2_with (go_at_call 129;refine (HC.out _ sqR).mono ?_;rintro e w9 ⟨rfl,hw9⟩;rw [hw9];clear hw9 w9)
   exact bodyPost_ret (v:=.tuple #[.agg #[.string ⟨#[]⟩,.string ⟨#[]⟩,.int .i64 0,.int .i64 0,.int .i64 0,.slice none 0 0],.int .i64 3]) (by simp [results,Tryz.results76,go_sem, *]) rfl ⟨rfl,sqR⟩
 | some q =>
   simp only [Option.isSome_some,if_true] at HC
   cases M with
   | none =>
     simp only [mthE] at HM
     go_enter Tryz.func76,Tryz.ntmps76
     go_wp2_with (first
      | (go_at_call 129;refine (HC.out _ sqR).mono ?_;rintro e w9 ⟨rfl,hw9⟩;rw [hw9];clear hw9 w9)
      | (go_at_call 46;refine (HM.out _ sqR).mono ?_;rintro e w1 ⟨rfl,hb⟩;have zd:w1.heap[W.heap.size+1]?=some (.cells #[.string ⟨#[]⟩,.string ⟨#[]⟩,.int .i64 0,.int .i64 0,.int .i64 0,.slice none 0 0] 87 (0,0)):=(hb.block (W.heap.size+1) (by first|omega|(simp;try omega))).trans (Za _ _ (by simp));(try clear zB z0 z1 z2 z3 z4 z5 zf zL zN);have zB:Hid _:=zd;obtain ⟨z0,z1,z2,z3,z4,z5,zf,zL⟩:=rw6 zd;have zN:¬ W.heap.size+1=w1.heap.size:=(by omega);clear zd;have B1:Hid (Bw W w1):=Zb sqR hb;clear hb HM))
     exact bodyPost_ret (v:=.tuple #[.agg #[.string ⟨#[]⟩,.string ⟨#[]⟩,.int .i64 0,.int .i64 0,.int .i64 0,.slice none 0 0],.int .i64 3]) (by simp [results,Tryz.results76,go_sem, *]) rfl ⟨rfl,(sqE B1)⟩
   | some m =>
     simp only [mthE] at HM
     go_enter Tryz.func76,Tryz.ntmps76
     go_wp2_with (first
      | (go_at_call 129;refine (HC.out _ sqR).mono ?_;rintro e w9 ⟨rfl,hw9⟩;rw [hw9];clear hw9 w9)
      | (go_at_call 46;refine (HM.out _ sqR).mono ?_;rintro e w1 ⟨⟨sa,sk,so,rfl⟩,hb⟩;have zd:w1.heap[W.heap.size+1]?=some (.cells #[.string ⟨#[]⟩,.string ⟨#[]⟩,.int .i64 0,.int .i64 0,.int .i64 0,.slice none 0 0] 87 (0,0)):=(hb.block (W.heap.size+1) (by first|omega|(simp;try omega))).trans (Za _ _ (by simp));(try clear zB z0 z1 z2 z3 z4 z5 zf zL zN);have zB:Hid _:=zd;obtain ⟨z0,z1,z2,z3,z4,z5,zf,zL⟩:=rw6 zd;have zN:¬ W.heap.size+1=w1.heap.size:=(by omega);clear zd;have B1:Hid (Bw W w1):=Zb sqR hb;clear hb HM))
     exact bodyPost_ret (v:=.tuple #[.agg #[.string m.nm,.string m.ds,.int .i64 m.fl,.int .i64 m.lo,.int .i64 m.st,.slice sa sk so],.int .i64 0]) (by simp [results,Tryz.results76,go_sem, *]) rfl ⟨⟨sa,sk,so,rfl⟩,(sqE B1)⟩
def rfrI (ps:List Plc) (r:Int) (m:Int×Int):Except Int HM:=match crdI ps r m with
 | .ok x=>if ifcI ps r then .error 2 else .ok x
 | .error e=>.error e
theorem rfr_1 {W:World} {b:Nat} (r c i:Int) (HR:Hid (∀ w,Bw W w→Calls Tryz.prog 76 #[.pointer (some ⟨b,0,none⟩),.int .i64 r,.agg #[.int .i64 c,.int .i64 i]] w fun e w'=>e=.returned (.tuple #[.agg #[.string ⟨#[]⟩,.string ⟨#[]⟩,.int .i64 0,.int .i64 0,.int .i64 0,.slice none 0 0],.int .i64 3])∧Bw w w')):Calls Tryz.prog 64 #[.pointer (some ⟨b,0,none⟩),.int .i64 r,.agg #[.int .i64 c,.int .i64 i]] W fun e w'=>mthE (.error 3) e∧Bw W w':=by
 go_enter Tryz.func64,Tryz.ntmps64
 go_upto_region 3 with (go_at_call 76;refine (HR.out _ sqR).mono ?_;rintro e w1 ⟨rfl,hb⟩;have zd:w1.heap[W.heap.size+1]?=some (.cells #[.string ⟨#[]⟩,.string ⟨#[]⟩,.int .i64 0,.int .i64 0,.int .i64 0,.slice none 0 0] 87 (0,0)):=(hb.block (W.heap.size+1) (by first|omega|(simp;try omega))).trans (Za _ _ (by simp));(try clear zB z0 z1 z2 z3 z4 z5 zf zL zN);have zB:Hid _:=zd;obtain ⟨z0,z1,z2,z3,z4,z5,zf,zL⟩:=rw6 zd;have zN:¬ W.heap.size+1=w1.heap.size:=(by omega);clear zd;have B1:Hid (Bw W w1):=Zb sqR hb;clear hb HR)
 obtain ⟨Wm,hWm⟩:∃ x,x=w1.alloc (.cells #[.string ⟨#[]⟩,.string ⟨#[]⟩,.int .i64 0,.int .i64 0,.int .i64 0,.slice none 0 0] 87):=⟨_,rfl⟩
 have BM:Hid (Bw W Wm):=by rw [hWm];exact B1.out.alloc B1.out.size _
 have hd0:Wm.heap[W.heap.size+1]?=some (.cells #[.string ⟨#[]⟩,.string ⟨#[]⟩,.int .i64 0,.int .i64 0,.int .i64 0,.slice none 0 0] 87 (0,0)):=by rw [hWm];exact Zg zB.out
 obtain ⟨p0,p1,p2,p3,p4,p5,pf,pL⟩:=rw6 hd0
 rw [← hWm]
 clear hWm hd0 B1 zB z0 z1 z2 z3 z4 z5 zf zL zN
 go_wp2
 exact bodyPost_ret (v:=.tuple #[.agg #[.string ⟨#[]⟩,.string ⟨#[]⟩,.int .i64 0,.int .i64 0,.int .i64 0,.slice none 0 0],.int .i64 3]) (by simp [results,Tryz.results64,go_sem, *]) rfl ⟨rfl,(sqE BM)⟩
theorem rfr_2 {W:World} {b:Nat} (r c i:Int) (m:HM) (HR:Hid (∀ w,Bw W w→Calls Tryz.prog 76 #[.pointer (some ⟨b,0,none⟩),.int .i64 r,.agg #[.int .i64 c,.int .i64 i]] w fun e w'=>(∃ sa sk so,e=.returned (.tuple #[.agg #[.string m.nm,.string m.ds,.int .i64 m.fl,.int .i64 m.lo,.int .i64 m.st,.slice sa sk so],.int .i64 0]))∧Bw w w')) (HI:Hid (∀ w,Bw W w→Calls Tryz.prog 116 #[.pointer (some ⟨b,0,none⟩),.int .i64 r] w fun e w'=>e=.returned (.bool true)∧Bw w w')):Calls Tryz.prog 64 #[.pointer (some ⟨b,0,none⟩),.int .i64 r,.agg #[.int .i64 c,.int .i64 i]] W fun e w'=>mthE (.error 2) e∧Bw W w':=by
 go_enter Tryz.func64,Tryz.ntmps64
 go_upto_region 5 with (first
  | (go_at_call 76;refine (HR.out _ sqR).mono ?_;rintro e w1 ⟨⟨sa,sk,so,rfl⟩,hb⟩;have zd:w1.heap[W.heap.size+1]?=some (.cells #[.string ⟨#[]⟩,.string ⟨#[]⟩,.int .i64 0,.int .i64 0,.int .i64 0,.slice none 0 0] 87 (0,0)):=(hb.block (W.heap.size+1) (by first|omega|(simp;try omega))).trans (Za _ _ (by simp));(try clear zB z0 z1 z2 z3 z4 z5 zf zL zN);have zB:Hid _:=zd;obtain ⟨z0,z1,z2,z3,z4,z5,zf,zL⟩:=rw6 zd;have zN:¬ W.heap.size+1=w1.heap.size:=(by omega);clear zd;have B1:Hid (Bw W w1):=Zb sqR hb;clear hb HR)
  | (go_at_call 116;refine (HI.out _ (B1.out.alloc B1.out.size _)).mono ?_;rintro e w2 ⟨rfl,hb⟩;have zd:w2.heap[W.heap.size+1]?=some (.cells #[.string ⟨#[]⟩,.string ⟨#[]⟩,.int .i64 0,.int .i64 0,.int .i64 0,.slice none 0 0] 87 (0,0)):=(hb.block (W.heap.size+1) (by first|omega|(simp;try omega))).trans (Zg zB.out);(try clear zB z0 z1 z2 z3 z4 z5 zf zL zN);have zB:Hid _:=zd;obtain ⟨z0,z1,z2,z3,z4,z5,zf,zL⟩:=rw6 zd;have zN:¬ W.heap.size+1=w2.heap.size:=(by omega);clear zd;have ud:w2.heap[w1.heap.size]?=some (.cells #[.string m.nm,.string m.ds,.int .i64 m.fl,.int .i64 m.lo,.int .i64 m.st,.slice sa sk so] 87 (0,0)):=(hb.block (w1.heap.size) (by first|omega|(simp;try omega))).trans (Zo _ _);(try clear uB u0 u1 u2 u3 u4 u5 uf uL uN);have uB:Hid _:=ud;obtain ⟨u0,u1,u2,u3,u4,u5,uf,uL⟩:=rw6 ud;have uN:¬ w1.heap.size=w2.heap.size:=(by omega);clear ud;have B2:Hid (Bw W w2):=Zb (B1.out.alloc B1.out.size _) hb;clear hb HI))
 clear B1 uB u0 u1 u2 u3 u4 u5 uf uL uN
 go_wp2
 exact bodyPost_ret (v:=.tuple #[.agg #[.string ⟨#[]⟩,.string ⟨#[]⟩,.int .i64 0,.int .i64 0,.int .i64 0,.slice none 0 0],.int .i64 2]) (by simp [results,Tryz.results64,go_sem, *]) rfl ⟨rfl,(sqE B2)⟩
theorem rfr_3 {W:World} {b:Nat} (r c i:Int) (m:HM) (HR:Hid (∀ w,Bw W w→Calls Tryz.prog 76 #[.pointer (some ⟨b,0,none⟩),.int .i64 r,.agg #[.int .i64 c,.int .i64 i]] w fun e w'=>(∃ sa sk so,e=.returned (.tuple #[.agg #[.string m.nm,.string m.ds,.int .i64 m.fl,.int .i64 m.lo,.int .i64 m.st,.slice sa sk so],.int .i64 0]))∧Bw w w')) (HI:Hid (∀ w,Bw W w→Calls Tryz.prog 116 #[.pointer (some ⟨b,0,none⟩),.int .i64 r] w fun e w'=>e=.returned (.bool false)∧Bw w w')):Calls Tryz.prog 64 #[.pointer (some ⟨b,0,none⟩),.int .i64 r,.agg #[.int .i64 c,.int .i64 i]] W fun e w'=>mthE (.ok m) e∧Bw W w':=by
 go_enter Tryz.func64,Tryz.ntmps64
 go_upto_region 6 with (first
  | (go_at_call 76;refine (HR.out _ sqR).mono ?_;rintro e w1 ⟨⟨sa,sk,so,rfl⟩,hb⟩;have zd:w1.heap[W.heap.size+1]?=some (.cells #[.string ⟨#[]⟩,.string ⟨#[]⟩,.int .i64 0,.int .i64 0,.int .i64 0,.slice none 0 0] 87 (0,0)):=(hb.block (W.heap.size+1) (by first|omega|(simp;try omega))).trans (Za _ _ (by simp));(try clear zB z0 z1 z2 z3 z4 z5 zf zL zN);have zB:Hid _:=zd;obtain ⟨z0,z1,z2,z3,z4,z5,zf,zL⟩:=rw6 zd;have zN:¬ W.heap.size+1=w1.heap.size:=(by omega);clear zd;have hzw:W.heap.size+1<w1.heap.size:=zL;have B1:Hid (Bw W w1):=Zb sqR hb;clear hb HR)
  | (go_at_call 116;refine (HI.out _ (B1.out.alloc B1.out.size _)).mono ?_;rintro e w2 ⟨rfl,hb⟩;have zd:w2.heap[W.heap.size+1]?=some (.cells #[.string ⟨#[]⟩,.string ⟨#[]⟩,.int .i64 0,.int .i64 0,.int .i64 0,.slice none 0 0] 87 (0,0)):=(hb.block (W.heap.size+1) (by first|omega|(simp;try omega))).trans (Zg zB.out);(try clear zB z0 z1 z2 z3 z4 z5 zf zL zN);have zB:Hid _:=zd;obtain ⟨z0,z1,z2,z3,z4,z5,zf,zL⟩:=rw6 zd;have zN:¬ W.heap.size+1=w2.heap.size:=(by omega);clear zd;have ud:w2.heap[w1.heap.size]?=some (.cells #[.string m.nm,.string m.ds,.int .i64 m.fl,.int .i64 m.lo,.int .i64 m.st,.slice sa sk so] 87 (0,0)):=(hb.block (w1.heap.size) (by first|omega|(simp;try omega))).trans (Zo _ _);(try clear uB u0 u1 u2 u3 u4 u5 uf uL uN);have uB:Hid _:=ud;obtain ⟨u0,u1,u2,u3,u4,u5,uf,uL⟩:=rw6 ud;have uN:¬ w1.heap.size=w2.heap.size:=(by omega);clear ud;have B2:Hid (Bw W w2):=Zb (B1.out.alloc B1.out.size _) hb;clear hb HI))
 have hne:¬ w1.heap.size=W.heap.size+1:=by omega
 clear B1
 go_wp2
 exact bodyPost_ret (v:=.tuple #[.agg #[.string m.nm,.string m.ds,.int .i64 m.fl,.int .i64 m.lo,.int .i64 m.st,.slice sa sk so],.int .i64 0]) (by simp [results,Tryz.results64,go_sem, *]) rfl ⟨⟨sa,sk,so,rfl⟩,(sqE B2)⟩
theorem rfr_c {b:Nat} {ps:List Plc} {W:World} (h:WAt b ps W) (hB:∀ q∈ps,PlcB q) (r c i:Int):Calls Tryz.prog 64 #[.pointer (some ⟨b,0,none⟩),.int .i64 r,.agg #[.int .i64 c,.int .i64 i]] W fun e w'=>mthE (rfrI ps r (c,i)) e∧Bw W w':=by
 have HR:∀ w,Bw W w→Calls Tryz.prog 76 #[.pointer (some ⟨b,0,none⟩),.int .i64 r,.agg #[.int .i64 c,.int .i64 i]] w fun e w'=>mthE (crdI ps r (c,i)) e∧Bw w w':=fun w hb=>crd_c (h.below hb) hB r c i
 have HI:∀ w,Bw W w→Calls Tryz.prog 116 #[.pointer (some ⟨b,0,none⟩),.int .i64 r] w fun e w'=>e=.returned (.bool (ifcI ps r))∧Bw w w':=fun w hb=>Qm (h.below hb) r
 unfold rfrI
 cases hD:crdI ps r (c,i) with
 | error x =>
   rw [hD] at HR
   have h3:x=3:=by
    rw [crdI] at hD
    split at hD
    ·cases hD
    ·cases hD;rfl
   subst h3
   exact rfr_1 r c i HR
 | ok m =>
   rw [hD] at HR
   cases hI:ifcI ps r
   all_goals rw [hI] at HI
   ·exact rfr_3 r c i m HR HI
   ·exact rfr_2 r c i m HR HI
theorem row9 {w:World} {n:Nat} {t:TypeId} {a0 a1 a2 a3 a4 a5 a6 a7 a8:Value} (h:w.heap[n]?=some (.cells #[a0,a1,a2,a3,a4,a5,a6,a7,a8] t (0,0))):w.cell? ⟨n,0,none⟩=some a0∧w.cell? ⟨n,1,none⟩=some a1∧w.cell? ⟨n,2,none⟩=some a2∧w.cell? ⟨n,3,none⟩=some a3∧w.cell? ⟨n,4,none⟩=some a4∧w.cell? ⟨n,5,none⟩=some a5∧w.cell? ⟨n,6,none⟩=some a6∧w.cell? ⟨n,7,none⟩=some a7∧w.cell? ⟨n,8,none⟩=some a8∧n<w.heap.size :=
 ⟨(cell_of_row w n 0 _ _ _ h).trans rfl,(cell_of_row w n 1 _ _ _ h).trans rfl,(cell_of_row w n 2 _ _ _ h).trans rfl,(cell_of_row w n 3 _ _ _ h).trans rfl,(cell_of_row w n 4 _ _ _ h).trans rfl,(cell_of_row w n 5 _ _ _ h).trans rfl,(cell_of_row w n 6 _ _ _ h).trans rfl,(cell_of_row w n 7 _ _ _ h).trans rfl,(cell_of_row w n 8 _ _ _ h).trans rfl,(Array.getElem?_eq_some_iff.1 h).1⟩
theorem froz {w:World} {n:Nat} {t:TypeId} {cs:Array Value} (h:w.heap[n]?=some (.cells cs t (0,0))) (k:Nat):w.frozen? ⟨n,k,none⟩=false:=frozen_of_row w n k _ _ h
theorem Zak {w:World} {N g n cap b:Nat} {l:List P9} (h:w.ownsRow N 171 9 (.slice (some ⟨g,0,none⟩) n cap) n (Zx b l)) {i:Nat} {x:P9} (hx:l[i]?=some x):w.cell? ⟨g,i * 9,none⟩=some (.string x.nm)∧w.cell? ⟨g,i * 9+1,none⟩=some (.string x.ds)∧w.cell? ⟨g,i * 9+2,none⟩=some (.int .i64 x.fl)∧w.cell? ⟨g,i * 9+3,none⟩=some (.int .i64 x.lo)∧w.cell? ⟨g,i * 9+4,none⟩=some (.int .i64 x.st)∧w.cell? ⟨g,i * 9+5,none⟩=some (.slice x.sa x.sk x.so)∧w.cell? ⟨g,i * 9+6,none⟩=some (.int .i64 x.c)∧w.cell? ⟨g,i * 9+7,none⟩=some (.int .i64 x.i)∧w.cell? ⟨g,i * 9+8,none⟩=some (.pointer (some ⟨b,0,none⟩))∧g<w.heap.size:=by
 have hl:l.length=n:=by have:=h.1;rw [Za2] at this;omega
 have hi:=(List.getElem?_eq_some_iff.1 hx).1
 have c0:w.cell? ⟨g,i * 9,none⟩=some (.string x.nm):=(h.cellAt (i * 9) (by omega)).trans (Y4 b l i x 0 hx (by omega))
 exact ⟨c0,(h.cellAt (i * 9+1) (by omega)).trans (Y4 b l i x 1 hx (by omega)),(h.cellAt (i * 9+2) (by omega)).trans (Y4 b l i x 2 hx (by omega)),(h.cellAt (i * 9+3) (by omega)).trans (Y4 b l i x 3 hx (by omega)),(h.cellAt (i * 9+4) (by omega)).trans (Y4 b l i x 4 hx (by omega)),(h.cellAt (i * 9+5) (by omega)).trans (Y4 b l i x 5 hx (by omega)),(h.cellAt (i * 9+6) (by omega)).trans (Y4 b l i x 6 hx (by omega)),(h.cellAt (i * 9+7) (by omega)).trans (Y4 b l i x 7 hx (by omega)),(h.cellAt (i * 9+8) (by omega)).trans (Y4 b l i x 8 hx (by omega)),World.block_lt_of_cell? w _ c0⟩
theorem Zkc {w:World} {N e s g cap n i:Nat} {xs:List Value} (h:w.ownsRow N e s (.slice (some ⟨g,0,none⟩) n cap) n xs) (hi:i≤n):w.ownsRow N e s (.slice (some ⟨g,0,none⟩) i cap) i (xs.take (i * s)):=by
 have hm:i * s≤n * s:=Nat.mul_le_mul_right _ hi
 refine ⟨by rw [List.length_take,h.1];omega,?_⟩
 rcases h.2 with ⟨e,_⟩|⟨g',cap',cur,e,h1,h2,h3,h4,h5,h6⟩
 ·simp at e
 ·simp only [Value.slice.injEq,Option.some.injEq,Addr.mk.injEq,and_true,true_and] at e
  obtain ⟨rfl,rfl⟩:=e
  exact .inr ⟨g,cap,cur,rfl,h1,h2,by omega,h4,h5,by rw [← h6,List.take_take,Nat.min_eq_left hm]⟩
def idxG (p:P9→Bool):List P9→Nat→Int
 | [],_=>-1
 | m::r,k=>if p m then (k:Int) else idxG p r (k+1)
theorem idxG_at {p:P9→Bool} {l:List P9} (k:Nat) (x:P9) (h:l[k]?=some x):idxG p (l.drop k) k=if p x then (k:Int) else idxG p (l.drop (k+1)) (k+1):=by
 obtain ⟨h1,h2⟩:=List.getElem?_eq_some_iff.1 h
 rw [List.drop_eq_getElem_cons h1,h2,idxG]
theorem Zia (p:P9→Bool):∀ (l:List P9) (k:Nat),(idxG p l k=-1∧l.any p=false)∨∃ j:Nat,idxG p l k=(j:Int)∧l.any p=true
 | [],_=>.inl ⟨rfl,rfl⟩
 | m::r,k=>by
   rw [idxG]
   cases e:p m with
   | true=>exact .inr ⟨k,by simp,by simp [e]⟩
   | false =>
     rcases Zia p r (k+1) with ⟨h,h2⟩|⟨j,h,h2⟩
     ·exact .inl ⟨by simpa using h,by simp [e,h2]⟩
     ·exact .inr ⟨j,by simpa using h,by simp [h2]⟩
theorem idx9_any (g:Nat) (eg:∀ args w,(callFunc g args).run Tryz.prog w=.ok (.enter g args) w) (R:Value) (p:P9→Bool) (N b:Nat) (l:List P9) (v:Value) (W:World) (h:W.ownsRow N 171 9 v l.length (Zx b l)) (hn:l.length≤1000000) (hp:∀ x∈l,∀ w,Bw W w→Calls Tryz.prog g #[R,x.agg b] w fun e w'=>e=.returned (.bool (p x))∧Bw w w') :
 Calls Tryz.prog 231 #[v,.func (.func g) #[R] #[]] W fun e w'=>e=.returned (.int .i64 (idxG p l 0))∧Bw W w':=by
 obtain ⟨ao,cap,rfl⟩:=ownv h
 obtain ⟨K,hK⟩:∃ K,l.length=K:=⟨_,rfl⟩
 have HA:Hid (W.ownsRow N 171 9 (.slice ao l.length cap) l.length (Zx b l)):=h
 have HK:Hid (l.length=K):=hK
 have HP:Hid (∀ x∈l,∀ w,Bw W w→Calls Tryz.prog g #[R,x.agg b] w fun e w'=>e=.returned (.bool (p x))∧Bw w w'):=hp
 rw [hK] at hn ⊢
 clear hK h hp
 go_enter Tryz.func231,Tryz.ntmps231
 go_wp2
 go_loopw [8] (fun iv wr=>∃ i:Nat,iv=.int .i64 i∧i≤K∧Hid (Bw W wr)∧Hid (idxG p (l.drop i) i=idxG p l 0)) (fun iv _=>K - (intOf iv).toNat)
 case atStart=>exact ⟨0,rfl,Nat.zero_le _,Below.refl _ _,rfl⟩
 case round =>
  obtain ⟨i,rfl,hi,hb,hs⟩:=hrel
  by_cases hlt:i<K
  ·have hlq:i<l.length:=by rw [HK.out];exact hlt
   obtain ⟨x,hx⟩:∃ x,l[i]?=some x:=⟨_,List.getElem?_eq_getElem hlq⟩
   obtain ⟨gm,cm,hform⟩:=Go.Joins.ownsRow_form HA.out (by omega)
   have hrow:=HA.out
   rw [hform] at hrow
   obtain ⟨e0,e1,e2,e3,e4,e5,e6,e7,e8,_⟩:=Zak (Zd hrow hb.out) hx
   injection hform with hao _ hcap
   subst hao hcap
   have hst:=idxG_at (p:=p) i x hx
   rw [hs.out] at hst
   have HC:Hid (Calls Tryz.prog g #[R,x.agg b] wr fun e w'=>e=.returned (.bool (p x))∧Bw wr w'):=HP.out x (List.mem_of_getElem? hx) wr hb.out
   generalize p x=q at *
   obtain ⟨xn,xd,xf,xl,xs,xa,xk,xo,xc,xi⟩:=x
   simp only [P9.agg] at e0 e1 e2 e3 e4 e5 e6 e7 e8 HC
   clear hs HA hx hrow hlq HP
   cases q with
   | true =>
     have HZ:Hid (idxG p l 0=(i:Int)):=by rw [Hid,hst];rfl
     clear hst
     go_wp2_with (go_at_fn g;refine (HC.out).mono ?_;rintro e w1 ⟨rfl,hb1⟩)
     go_ret
     exact ⟨Zi HZ.out.symm,Below.step hb.out hb1⟩
   | false =>
     have HZ:Hid (idxG p (l.drop (i+1)) (i+1)=idxG p l 0):=by rw [Hid,hst];rfl
     clear hst
     go_wp2_with (go_at_fn g;refine (HC.out).mono ?_;rintro e w1 ⟨rfl,hb1⟩;have hb2:Hid (Bw W w1):=Below.step hb.out hb1;clear hb1)
     go_roundw
     case rel=>exact ⟨i+1,by go_num,by omega,hb2,HZ⟩
     case measure=>simp [intOf];omega
  ·have e:i=K:=by omega
   subst e
   have HZ:Hid (idxG p l 0=-1):=by rw [Hid,← hs.out,List.drop_of_length_le (by rw [HK.out];exact Nat.le_refl _)];rfl
   clear hs HA HP
   go_wp2
   go_ret
   exact ⟨Zi HZ.out.symm,hb.out⟩
theorem con9_any (g:Nat) (eg:∀ args w,(callFunc g args).run Tryz.prog w=.ok (.enter g args) w) (R:Value) (p:P9→Bool) (N b:Nat) (l:List P9) (v:Value) (W:World) (h:W.ownsRow N 171 9 v l.length (Zx b l)) (hn:l.length≤1000000) (hp:∀ x∈l,∀ w,Bw W w→Calls Tryz.prog g #[R,x.agg b] w fun e w'=>e=.returned (.bool (p x))∧Bw w w') :
 Calls Tryz.prog 179 #[v,.func (.func g) #[R] #[]] W fun e w'=>e=.returned (.bool (l.any p))∧Bw W w':=by
 have HI:Hid (Calls Tryz.prog 231 #[v,.func (.func g) #[R] #[]] W fun e w'=>e=.returned (.int .i64 (idxG p l 0))∧Bw W w'):=idx9_any g eg R p N b l v W h hn hp
 rcases Zia p l 0 with ⟨e,e2⟩|⟨j,e,e2⟩
 all_goals
  rw [e] at HI
  rw [e2]
  obtain ⟨ao,cap,rfl⟩:=ownv h
  clear h hp e e2
  go_enter Tryz.func179,Tryz.ntmps179
  go_wp2_with (go_at_call 231;refine HI.out.mono ?_;rintro e w1 ⟨rfl,hb⟩;have B1:Hid (Bw W w1):=hb;clear hb HI)
  exact bodyPost_ret (results_tmp rfl _ _ _) rfl ⟨rfl,B1.out⟩
theorem Zil {b:Nat} {ps:List Plc} {W:World} (h:WAt b ps W) (x:Int) (hx:plcI ps x=none):Calls Tryz.prog 47 #[.pointer (some ⟨b,0,none⟩),.int .i64 x] W fun e w'=>e=.returned (.tuple #[.slice none 0 0,.int .i64 3])∧Bw W w':=by
 have HH:Hid (∀ w,Bw W w→Calls Tryz.prog 106 #[.pointer (some ⟨b,0,none⟩),.int .i64 x] w fun e w'=>e=.returned (.bool false)∧w'=w):=fun w hb=>by
  have:=Zbb (h.below hb) x
  rw [hx] at this
  exact this
 clear h hx
 go_enter Tryz.func47,Tryz.ntmps47
 go_wp2_with (go_at_call 106;refine (HH.out _ sqR).mono ?_;rintro e w9 ⟨rfl,hw9⟩;rw [hw9];clear hw9 w9)
 exact bodyPost_ret (v:=.tuple #[.slice none 0 0,.int .i64 3]) (by simp [results,Tryz.results47,go_sem, *]) rfl ⟨rfl,sqR⟩
theorem rev_any (N g cap:Nat) (l:List Nat) (W:World) (h:W.ownsRow N 3 1 (.slice (some ⟨g,0,none⟩) l.length cap) l.length (l.map numV)) (hn:l.length≤1000000) :
 Calls Tryz.prog 175 #[.slice (some ⟨g,0,none⟩) l.length cap] W fun e w'=>e=.returned (.tuple #[])∧w'.ownsRow N 3 1 (.slice (some ⟨g,0,none⟩) l.length cap) l.length (l.reverse.map numV)∧Below N W w':=by
 have hgN:N≤g:=(h.lt g rfl).1
 obtain ⟨K,hK⟩:∃ K,l.length=K:=⟨_,rfl⟩
 have HK:Hid (l.length=K):=hK
 rw [hK] at hn h ⊢
 have HA:Hid (W.ownsRow N 3 1 (.slice (some ⟨g,0,none⟩) K cap) K (l.map numV)):=h
 clear hK h
 go_enter Tryz.func175,Tryz.ntmps175
 go_wp2
 go_loopw [2,3] (fun iv jv wr=>∃ (i:Nat) (jz:Int) (R:List Nat),iv=.int .i64 i∧jv=.int .i64 jz∧Hid (jz=(K:Int) - 1 - (i:Int))∧i≤K∧Hid (RevR l R i)∧Hid (wr.ownsRow N 3 1 (.slice (some ⟨g,0,none⟩) K cap) K (R.map numV))∧Hid (Below N W wr)) (fun iv _ _=>K - (intOf iv).toNat)
 case atStart=>exact ⟨0,_,l,rfl,rfl,(by simp [Hid]),Nat.zero_le _,RevR.start l,HA,Below.refl _ _⟩
 case round =>
  obtain ⟨i,jz,R,rfl,rfl,hjz,hiK,hR,hO,hB⟩:=hrel
  by_cases hlt:(i:Int)<jz
  ·obtain ⟨j,rfl⟩:∃ j:Nat,jz=(j:Int):=⟨jz.toNat,by omega⟩
   have hsum:Hid (i+j+1=K):=by have:=hjz.out;rw [Hid];omega
   have hij:Hid (i<j):=by rw [Hid];omega
   have hRl:R.length=K:=hR.out.1.trans HK.out
   have hjK:j<K:=by have:=hsum.out;omega
   have hiK2:i<K:=by have:=hsum.out;omega
   obtain ⟨x,hx⟩:∃ x,R[i]?=some x:=⟨_,List.getElem?_eq_getElem (by omega)⟩
   obtain ⟨y,hy⟩:∃ y,R[j]?=some y:=⟨_,List.getElem?_eq_getElem (by omega)⟩
   have ci:wr.cell? ⟨g,i,none⟩=some (.int .i64 (x:Int)):=by
    rw [hO.out.cellAt i (by omega),List.getElem?_map,hx];rfl
   have cj:wr.cell? ⟨g,j,none⟩=some (.int .i64 (y:Int)):=by
    rw [hO.out.cellAt j (by omega),List.getElem?_map,hy];rfl
   obtain ⟨cur,hcur⟩:=Zbr hO.out
   have fi:=froz hcur i
   have fj:=froz hcur j
   have HX:Hid (R[i]?=some x):=hx
   have HY:Hid (R[j]?=some y):=hy
   clear hx hy hcur hRl hjz
   have hne:¬ (i=j):=by have:=hij.out;omega
   have hne2:¬ (j=i):=by have:=hij.out;omega
   go_wp2_with fail
   go_region
   all_goals go_wp2
   all_goals go_roundw
   case rel =>
    refine ⟨i+1,(j:Int) - 1,(R.set i y).set j x,(by go_num),(by first|rfl|simp),(by rw [Hid];have:=hsum.out;omega),(by omega),hR.out.swap hij.out (by rw [HK.out];exact hsum.out) HX.out HY.out,?_,?_⟩
    ·rw [Hid,List.map_set,List.map_set]
     obtain ⟨s0,_⟩:=(hO.out.drew).stored i (numV y)
     exact (s0.stored j (numV x)).1
    ·exact ((hB.out.drew).setCell hgN _).setCell hgN _
   case measure=>simp [intOf];omega
  ·have hd:R=l.reverse:=hR.out.done (by have:=hjz.out;rw [HK.out];omega)
   subst hd
   clear hjz hR
   go_wp2
   go_end0
   exact ⟨rfl,(by rw [← List.map_reverse];exact hO.out),hB.out⟩
theorem down_c {b:Nat} {ps:List Plc} {W:World} (h:WAt b ps W) (hi:WI ps) (k:Nat) (q:Plc) (hq:ps[k]?=some q):Calls Tryz.prog 119 #[.pointer (some ⟨b,0,none⟩),.int .i64 (k:Int)] W fun e w'=>∃ g cap,e=.returned (.tuple #[.slice (some ⟨g,0,none⟩) (chL (ps.map nd) k).length cap,.int .i64 0])∧w'.ownsRow W.heap.size 3 1 (.slice (some ⟨g,0,none⟩) (chL (ps.map nd) k).length cap) (chL (ps.map nd) k).length ((chL (ps.map nd) k).reverse.map numV)∧Bw W w':=by
 have hKb:=Zez hi (List.getElem?_eq_some_iff.1 hq).1
 have hK0:0<(chL (ps.map nd) k).length:=by rw [chL];cases k <;> simp [upF]
 have HC:Hid (∀ w,Bw W w→Calls Tryz.prog 47 #[.pointer (some ⟨b,0,none⟩),.int .i64 (k:Int)] w fun e w'=>∃ v,e=.returned (.tuple #[v,.int .i64 0])∧w'.ownsRow w.heap.size 3 1 v (chL (ps.map nd) k).length ((chL (ps.map nd) k).map numV)∧Bw w w'):=fun w hb=>by
  obtain ⟨N,mb,vp,pv,h⟩:=h.below hb
  exact Zgr N b mb ps vp pv k (List.getElem?_eq_some_iff.1 hq).1 hi.wo hi.hi w h
 generalize chL (ps.map nd) k=l at *
 have HRV:Hid (∀ (g cap:Nat) (w:World),w.ownsRow W.heap.size 3 1 (.slice (some ⟨g,0,none⟩) l.length cap) l.length (l.map numV)→Calls Tryz.prog 175 #[.slice (some ⟨g,0,none⟩) l.length cap] w fun e w'=>e=.returned (.tuple #[])∧w'.ownsRow W.heap.size 3 1 (.slice (some ⟨g,0,none⟩) l.length cap) l.length (l.reverse.map numV)∧Below W.heap.size w w'):=fun g cap w ho=>rev_any W.heap.size g cap l w ho hKb
 obtain ⟨K,hK⟩:∃ K,l.length=K:=⟨_,rfl⟩
 rw [hK] at hKb hK0 HC HRV ⊢
 clear h hi hq hK
 go_enter Tryz.func119,Tryz.ntmps119
 go_wp2_with (first
  | (go_at_call 47;refine (HC.out _ (Below.refl _ _)).mono ?_;rintro e w1 ⟨v,rfl,ho,hb⟩;obtain ⟨g,cap,rfl⟩:=Go.Joins.ownsRow_form ho hK0;have O1:Hid (w1.ownsRow W.heap.size 3 1 (.slice (some ⟨g,0,none⟩) K cap) K (l.map numV)):=ho;have B1:Hid (Bw W w1):=hb;clear ho hb HC)
  | (go_at_call 175;refine (HRV.out _ _ _ O1.out).mono ?_;rintro e w2 ⟨rfl,ho,hb⟩;have O2:Hid (w2.ownsRow W.heap.size 3 1 (.slice (some ⟨g,0,none⟩) K cap) K (l.reverse.map numV)):=ho;have B2:Hid (Bw W w2):=B1.out.trans hb;clear ho hb HRV))
 exact bodyPost_ret (v:=.tuple #[.slice (some ⟨g,0,none⟩) K cap,.int .i64 0]) (by simp [results,Tryz.results119,go_sem, *]) rfl ⟨g,cap,rfl,O2.out,B2.out⟩
theorem down_no {b:Nat} {ps:List Plc} {W:World} (h:WAt b ps W) (x:Int) (hx:plcI ps x=none):Calls Tryz.prog 119 #[.pointer (some ⟨b,0,none⟩),.int .i64 x] W fun e w'=>e=.returned (.tuple #[.slice none 0 0,.int .i64 3])∧Bw W w':=by
 have HC:Hid (Calls Tryz.prog 47 #[.pointer (some ⟨b,0,none⟩),.int .i64 x] W fun e w'=>e=.returned (.tuple #[.slice none 0 0,.int .i64 3])∧Bw W w'):=Zil h x hx
 clear h hx
 go_enter Tryz.func119,Tryz.ntmps119
 go_wp2_with (go_at_call 47;refine HC.out.mono ?_;rintro e w1 ⟨rfl,hb⟩;have B1:Hid (Bw W w1):=hb;clear hb HC)
 exact bodyPost_ret (v:=.tuple #[.slice none 0 0,.int .i64 3]) (by simp [results,Tryz.results119,go_sem, *]) rfl ⟨rfl,B1.out⟩
theorem st2 {w:World} {n:Nat} {t:TypeId} {a0 a1:Value} (h:w.heap[n]?=some (.cells #[a0,a1] t (0,0))) (v0 v1:Value):((w.setCell ⟨n,0,none⟩ v0).setCell ⟨n,1,none⟩ v1).heap[n]?=some (.cells #[v0,v1] t (0,0)):=by
 have h0:=Go.Joins.block_setCell (i:=0) h v0
 have h1:=Go.Joins.block_setCell (i:=1) h0 v1
 exact h1.trans (by simp)
def uppI (ps:List Plc) (nm ds:ByteArray):List Nat→(Int×Int)×Bool
 | []=>((0,0),false)
 | i::r=>if (fndI ps (i:Int) nm ds).2=0∧hasS ps (i:Int) (fndI ps (i:Int) nm ds).1 8=false then (((i:Int),(fndI ps (i:Int) nm ds).1),true) else uppI ps nm ds r
theorem Zj3 {ps:List Plc} {nm ds:ByteArray} {l:List Nat} {j i:Nat} (h:l[j]?=some i):uppI ps nm ds (l.drop j)=if (fndI ps (i:Int) nm ds).2=0∧hasS ps (i:Int) (fndI ps (i:Int) nm ds).1 8=false then (((i:Int),(fndI ps (i:Int) nm ds).1),true) else uppI ps nm ds (l.drop (j+1)):=by
 obtain ⟨h1,h2⟩:=List.getElem?_eq_some_iff.1 h
 rw [List.drop_eq_getElem_cons h1,h2,uppI]
theorem upp_no {b:Nat} {ps:List Plc} {W:World} (h:WAt b ps W) (c:Int) (hc:plcI ps c=none) (nm ds:ByteArray) (fl lo st:Int) (sa:Option Addr) (sk so:Nat):Calls Tryz.prog 73 #[.pointer (some ⟨b,0,none⟩),.int .i64 c,.agg #[.string nm,.string ds,.int .i64 fl,.int .i64 lo,.int .i64 st,.slice sa sk so]] W fun e w'=>e=.returned (idB ((0,0),false))∧Bw W w':=by
 have HC:Hid (∀ w,Bw W w→Calls Tryz.prog 47 #[.pointer (some ⟨b,0,none⟩),.int .i64 c] w fun e w'=>e=.returned (.tuple #[.slice none 0 0,.int .i64 3])∧Bw w w'):=fun w hb=>Zil (h.below hb) c hc
 clear h hc
 go_enter Tryz.func73,Tryz.ntmps73
 go_wp2
 go_step3
 go_wp2_with (go_at_call 47;refine (HC.out _ sqR).mono ?_;rintro e w1 ⟨rfl,hb⟩;have yd:w1.heap[W.heap.size]?=some (.cells #[.string nm,.string ds,.int .i64 fl,.int .i64 lo,.int .i64 st,.slice sa sk so] 87 (0,0)):=(hb.block (W.heap.size) (by first|omega|(simp;try omega))).trans (Zg (Zo _ _));(try clear yB y0 y1 y2 y3 y4 y5 yf yL yN);have yB:Hid _:=yd;obtain ⟨y0,y1,y2,y3,y4,y5,yf,yL⟩:=rw6 yd;have yN:¬ W.heap.size=w1.heap.size:=(by omega);clear yd;have zd:w1.heap[W.heap.size+1]?=some (.cells #[.int .i64 0,.int .i64 0] 38 (0,0)):=(hb.block (W.heap.size+1) (by first|omega|(simp;try omega))).trans (Za _ _ (by simp));(try clear zB z0 z1 zf zL zN);have zB:Hid _:=zd;obtain ⟨z0,z1,zf,zL⟩:=rw2 zd;have zN:¬ W.heap.size+1=w1.heap.size:=(by omega);clear zd;have B1:Hid (Bw W w1):=Zb sqR hb;clear hb HC)
 try rw [Exit.noGoto_ret]
 exact bodyPost_ret (v:=idB ((0,0),false)) (by simp [results,Tryz.results73,go_sem,idB, *]) rfl ⟨rfl,(sqE B1)⟩
theorem upp_yes {b:Nat} {ps:List Plc} {W:World} (h:WAt b ps W) (hi:WI ps) (k:Nat) (q:Plc) (hq:ps[k]?=some q) (nm ds:ByteArray) (fl lo st:Int) (sa:Option Addr) (sk so:Nat):Calls Tryz.prog 73 #[.pointer (some ⟨b,0,none⟩),.int .i64 (k:Int),.agg #[.string nm,.string ds,.int .i64 fl,.int .i64 lo,.int .i64 st,.slice sa sk so]] W fun e w'=>e=.returned (idB (uppI ps nm ds (chL (ps.map nd) k)))∧Bw W w':=by
 have HW0:Hid (WAt b ps W):=h
 have HPB:Hid (∀ q∈ps,PlcB q):=hi.pb
 have hKb:=Zez hi (List.getElem?_eq_some_iff.1 hq).1
 have HC:Hid (∀ w,Bw W w→Calls Tryz.prog 47 #[.pointer (some ⟨b,0,none⟩),.int .i64 (k:Int)] w fun e w'=>∃ v,e=.returned (.tuple #[v,.int .i64 0])∧w'.ownsRow w.heap.size 3 1 v (chL (ps.map nd) k).length ((chL (ps.map nd) k).map numV)∧Bw w w'):=fun w hb=>by
  obtain ⟨N,mb,vp,pv,h⟩:=h.below hb
  exact Zgr N b mb ps vp pv k (List.getElem?_eq_some_iff.1 hq).1 hi.wo hi.hi w h
 generalize chL (ps.map nd) k=l at *
 obtain ⟨R,hR⟩:∃ R,uppI ps nm ds l=R:=⟨_,rfl⟩
 have HR:Hid (uppI ps nm ds l=R):=hR
 rw [hR]
 obtain ⟨K,hK⟩:∃ K,l.length=K:=⟨_,rfl⟩
 have HK:Hid (l.length=K):=hK
 rw [hK] at hKb HC
 clear h hi hq hR hK
 go_enter Tryz.func73,Tryz.ntmps73
 go_wp2
 go_step3
 go_wp2_with (first
  | (go_at_call 47;refine (HC.out _ sqR).mono ?_;rintro e w1 ⟨v,rfl,ho,hb⟩;obtain ⟨ca,cc,rfl⟩:=ownv ho;have yd:w1.heap[W.heap.size]?=some (.cells #[.string nm,.string ds,.int .i64 fl,.int .i64 lo,.int .i64 st,.slice sa sk so] 87 (0,0)):=(hb.block (W.heap.size) (by first|omega|(simp;try omega))).trans (Zg (Zo _ _));(try clear yB y0 y1 y2 y3 y4 y5 yf yL yN);have yB:Hid _:=yd;obtain ⟨y0,y1,y2,y3,y4,y5,yf,yL⟩:=rw6 yd;have yN:¬ W.heap.size=w1.heap.size:=(by omega);clear yd;have zd:w1.heap[W.heap.size+1]?=some (.cells #[.int .i64 0,.int .i64 0] 38 (0,0)):=(hb.block (W.heap.size+1) (by first|omega|(simp;try omega))).trans (Za _ _ (by simp));(try clear zB z0 z1 zf zL zN);have zB:Hid _:=zd;obtain ⟨z0,z1,zf,zL⟩:=rw2 zd;have zN:¬ W.heap.size+1=w1.heap.size:=(by omega);clear zd;have hz1:W.heap.size+1<w1.heap.size:=zL;have O1:Hid (w1.ownsRow W.heap.size 3 1 (.slice ca K cc) K (l.map numV)):=Go.Joins.ownsRow_le ho (by simp;try omega);have B1:Hid (Bw W w1):=Zb sqR hb;have HW1:Hid (WAt b ps w1):=HW0.out.below B1.out;clear ho hb HC))
 go_step3
 go_wp2
 go_loopw [7,25] (fun tv kv wr=>∃ (j:Nat),tv=.bool false∧kv=.int .i64 j∧j≤K∧Hid (uppI ps nm ds (l.drop j)=R)∧Hid (Bw w1 wr)) (fun _ kv _=>K - (intOf kv).toNat)
 case atStart=>exact ⟨0,rfl,rfl,Nat.zero_le _,HR,Below.refl _ _⟩
 case round =>
  obtain ⟨j,rfl,rfl,hj,hU,hB⟩:=hrel
  have hb:=hB.out
  have yd:wr.heap[W.heap.size]?=some (.cells #[.string nm,.string ds,.int .i64 fl,.int .i64 lo,.int .i64 st,.slice sa sk so] 87 (0,0)):=(hb.block (W.heap.size) (by first|omega|(simp;try omega))).trans (yB.out);(try clear yB y0 y1 y2 y3 y4 y5 yf yL yN);have yB:Hid _:=yd;obtain ⟨y0,y1,y2,y3,y4,y5,yf,yL⟩:=rw6 yd;have yN:¬ W.heap.size=wr.heap.size:=(by omega);clear yd;have zd:wr.heap[W.heap.size+1]?=some (.cells #[.int .i64 0,.int .i64 0] 38 (0,0)):=(hb.block (W.heap.size+1) (by first|omega|(simp;try omega))).trans (zB.out);(try clear zB z0 z1 zf zL zN);have zB:Hid _:=zd;obtain ⟨z0,z1,zf,zL⟩:=rw2 zd;have zN:¬ W.heap.size+1=wr.heap.size:=(by omega);clear zd
  clear hb
  by_cases hlt:j<K
  ·have hjl:j<l.length:=by rw [HK.out];exact hlt
   obtain ⟨i,hi⟩:∃ i,l[j]?=some i:=⟨_,List.getElem?_eq_getElem hjl⟩
   obtain ⟨g,c2,hform⟩:=Go.Joins.ownsRow_form O1.out (by omega)
   have hce:w1.cell? ⟨g,j,none⟩=some (.int .i64 (i:Int)):=by
    have hrow:=O1.out
    rw [hform] at hrow
    rw [hrow.cellAt j (by omega),List.getElem?_map,hi];rfl
   injection hform with hca _ hcc
   subst hca hcc
   have hgl:g<w1.heap.size:=World.block_lt_of_cell? w1 _ hce
   have hcr:=(hB.out.cell (p:=⟨g,j,none⟩) hgl).trans hce
   have HF:Hid (Calls Tryz.prog 128 #[.pointer (some ⟨b,0,none⟩),.int .i64 (i:Int),.agg #[.string nm,.string ds,.int .i64 fl,.int .i64 lo,.int .i64 st,.slice sa sk so]] wr fun e w'=>e=.returned (idB (owB ps nm ds i))∧Bw wr w'):=chO_c (HW1.out.below hB.out) HPB.out i nm ds fl lo st sa sk so
   have HS:Hid (∀ w,Bw w1 w→Calls Tryz.prog 74 #[.pointer (some ⟨b,0,none⟩),.agg #[.int .i64 (i:Int),.int .i64 (fndI ps (i:Int) nm ds).1],.int .i64 8] w fun e w'=>e=.returned (.bool (hasS ps i (fndI ps (i:Int) nm ds).1 8))∧Bw w w'):=fun w hb=>chS_c (HW1.out.below hb) HPB.out i _ 8
   have hst:=Zj3 (ps:=ps) (nm:=nm) (ds:=ds) hi
   rw [hU.out] at hst
   have HST:Hid _:=hst
   unfold owB at HF
   generalize fndI ps (i:Int) nm ds=Fd at *
   obtain ⟨F1,F2⟩:=Fd
   simp only [idB] at HF HST HS
   generalize hasS ps (i:Int) F1 8=S at *
   clear hce hi hjl hst hU
   by_cases hF:F2=0
   ·subst hF
    simp only [if_true] at HF
    cases S
    case false =>
     have eR:R=(((i:Int),F1),true):=by rw [HST.out,if_pos ⟨rfl,rfl⟩]
     subst eR
     clear HST HR
     go_wp2_with (first
      | (go_at_call 128;refine HF.out.mono ?_;rintro e w2 ⟨rfl,hb⟩;have yd:w2.heap[W.heap.size]?=some (.cells #[.string nm,.string ds,.int .i64 fl,.int .i64 lo,.int .i64 st,.slice sa sk so] 87 (0,0)):=(hb.block (W.heap.size) (by first|omega|(simp;try omega))).trans (yB.out);(try clear yB y0 y1 y2 y3 y4 y5 yf yL yN);have yB:Hid _:=yd;obtain ⟨y0,y1,y2,y3,y4,y5,yf,yL⟩:=rw6 yd;have yN:¬ W.heap.size=w2.heap.size:=(by omega);clear yd;have zd:w2.heap[W.heap.size+1]?=some (.cells #[.int .i64 0,.int .i64 0] 38 (0,0)):=(hb.block (W.heap.size+1) (by first|omega|(simp;try omega))).trans (zB.out);(try clear zB z0 z1 zf zL zN);have zB:Hid _:=zd;obtain ⟨z0,z1,zf,zL⟩:=rw2 zd;have zN:¬ W.heap.size+1=w2.heap.size:=(by omega);clear zd;have B2:Hid (Bw w1 w2):=Zb hB.out hb;clear hb HF)
      | (go_at_call 74;refine (HS.out _ (B2.out.alloc B2.out.size _)).mono ?_;rintro e w3 ⟨rfl,hb⟩;have yd:w3.heap[W.heap.size]?=some (.cells #[.string nm,.string ds,.int .i64 fl,.int .i64 lo,.int .i64 st,.slice sa sk so] 87 (0,0)):=(hb.block (W.heap.size) (by first|omega|(simp;try omega))).trans (Zg yB.out);(try clear yB y0 y1 y2 y3 y4 y5 yf yL yN);have yB:Hid _:=yd;obtain ⟨y0,y1,y2,y3,y4,y5,yf,yL⟩:=rw6 yd;have yN:¬ W.heap.size=w3.heap.size:=(by omega);clear yd;have zd:w3.heap[W.heap.size+1]?=some (.cells #[.int .i64 0,.int .i64 0] 38 (0,0)):=(hb.block (W.heap.size+1) (by first|omega|(simp;try omega))).trans (Zg zB.out);(try clear zB z0 z1 zf zL zN);have zB:Hid _:=zd;obtain ⟨z0,z1,zf,zL⟩:=rw2 zd;have zN:¬ W.heap.size+1=w3.heap.size:=(by omega);clear zd;have ud:w3.heap[w2.heap.size]?=some (.cells #[.int .i64 (i:Int),.int .i64 F1] 38 (0,0)):=(hb.block (w2.heap.size) (by first|omega|(simp;try omega))).trans (Zo _ _);(try clear uB u0 u1 uf uL uN);have uB:Hid _:=ud;obtain ⟨u0,u1,uf,uL⟩:=rw2 ud;have uN:¬ w2.heap.size=w3.heap.size:=(by omega);clear ud;have B3:Hid (Bw w1 w3):=Zb (B2.out.alloc B2.out.size _) hb;clear hb HS))
     have B4:Hid (Bw W w3):=B1.out.trans (B3.out.mono B1.out.size)
     have hu2:¬ w2.heap.size=W.heap.size+1:=by have h1:=B1.out.size;have h2:=B2.out.size;have h3:=hz1;omega
     obtain ⟨k0,k1,kf,kL⟩:=rw2 (st2 (st2 zB.out (.int .i64 (i:Int)) (.int .i64 F1)) (.int .i64 (i:Int)) (.int .i64 F1))
     try rw [Exit.noGoto_ret]
     exact bodyPost_ret (v:=idB (((i:Int),F1),true)) (by simp [results,Tryz.results73,go_sem,idB, *]) rfl ⟨rfl,(sqE B4)⟩
    case true =>
     have HU2:Hid (uppI ps nm ds (l.drop (j+1))=R):=by rw [Hid,HST.out,if_neg (by simp)]
     clear HST
     go_wp2_with (first
      | (go_at_call 128;refine HF.out.mono ?_;rintro e w2 ⟨rfl,hb⟩;have yd:w2.heap[W.heap.size]?=some (.cells #[.string nm,.string ds,.int .i64 fl,.int .i64 lo,.int .i64 st,.slice sa sk so] 87 (0,0)):=(hb.block (W.heap.size) (by first|omega|(simp;try omega))).trans (yB.out);(try clear yB y0 y1 y2 y3 y4 y5 yf yL yN);have yB:Hid _:=yd;obtain ⟨y0,y1,y2,y3,y4,y5,yf,yL⟩:=rw6 yd;have yN:¬ W.heap.size=w2.heap.size:=(by omega);clear yd;have zd:w2.heap[W.heap.size+1]?=some (.cells #[.int .i64 0,.int .i64 0] 38 (0,0)):=(hb.block (W.heap.size+1) (by first|omega|(simp;try omega))).trans (zB.out);(try clear zB z0 z1 zf zL zN);have zB:Hid _:=zd;obtain ⟨z0,z1,zf,zL⟩:=rw2 zd;have zN:¬ W.heap.size+1=w2.heap.size:=(by omega);clear zd;have B2:Hid (Bw w1 w2):=Zb hB.out hb;clear hb HF)
      | (go_at_call 74;refine (HS.out _ (B2.out.alloc B2.out.size _)).mono ?_;rintro e w3 ⟨rfl,hb⟩;have yd:w3.heap[W.heap.size]?=some (.cells #[.string nm,.string ds,.int .i64 fl,.int .i64 lo,.int .i64 st,.slice sa sk so] 87 (0,0)):=(hb.block (W.heap.size) (by first|omega|(simp;try omega))).trans (Zg yB.out);(try clear yB y0 y1 y2 y3 y4 y5 yf yL yN);have yB:Hid _:=yd;obtain ⟨y0,y1,y2,y3,y4,y5,yf,yL⟩:=rw6 yd;have yN:¬ W.heap.size=w3.heap.size:=(by omega);clear yd;have zd:w3.heap[W.heap.size+1]?=some (.cells #[.int .i64 0,.int .i64 0] 38 (0,0)):=(hb.block (W.heap.size+1) (by first|omega|(simp;try omega))).trans (Zg zB.out);(try clear zB z0 z1 zf zL zN);have zB:Hid _:=zd;obtain ⟨z0,z1,zf,zL⟩:=rw2 zd;have zN:¬ W.heap.size+1=w3.heap.size:=(by omega);clear zd;have ud:w3.heap[w2.heap.size]?=some (.cells #[.int .i64 (i:Int),.int .i64 F1] 38 (0,0)):=(hb.block (w2.heap.size) (by first|omega|(simp;try omega))).trans (Zo _ _);(try clear uB u0 u1 uf uL uN);have uB:Hid _:=ud;obtain ⟨u0,u1,uf,uL⟩:=rw2 ud;have uN:¬ w2.heap.size=w3.heap.size:=(by omega);clear ud;have B3:Hid (Bw w1 w3):=Zb (B2.out.alloc B2.out.size _) hb;clear hb HS))
     go_roundw
     case rel=>exact ⟨j+1,rfl,by go_num,by omega,HU2,B3⟩
     case measure=>simp [intOf];omega
   ·have HU2:Hid (uppI ps nm ds (l.drop (j+1))=R):=by rw [Hid,HST.out,if_neg (fun h=>hF h.1)]
    rw [if_neg hF] at HF
    clear HST HS
    go_wp2_with (first
     | (go_at_call 128;refine HF.out.mono ?_;rintro e w2 ⟨rfl,hb⟩;have yd:w2.heap[W.heap.size]?=some (.cells #[.string nm,.string ds,.int .i64 fl,.int .i64 lo,.int .i64 st,.slice sa sk so] 87 (0,0)):=(hb.block (W.heap.size) (by first|omega|(simp;try omega))).trans (yB.out);(try clear yB y0 y1 y2 y3 y4 y5 yf yL yN);have yB:Hid _:=yd;obtain ⟨y0,y1,y2,y3,y4,y5,yf,yL⟩:=rw6 yd;have yN:¬ W.heap.size=w2.heap.size:=(by omega);clear yd;have zd:w2.heap[W.heap.size+1]?=some (.cells #[.int .i64 0,.int .i64 0] 38 (0,0)):=(hb.block (W.heap.size+1) (by first|omega|(simp;try omega))).trans (zB.out);(try clear zB z0 z1 zf zL zN);have zB:Hid _:=zd;obtain ⟨z0,z1,zf,zL⟩:=rw2 zd;have zN:¬ W.heap.size+1=w2.heap.size:=(by omega);clear zd;have B2:Hid (Bw w1 w2):=Zb hB.out hb;clear hb HF))
    go_roundw
    case rel=>exact ⟨j+1,rfl,by go_num,by omega,HU2,B2.out.alloc B2.out.size _⟩
    case measure=>simp [intOf];omega
  ·have e:j=K:=by omega
   subst e
   have eR:R=((0,0),false):=by rw [← hU.out,List.drop_of_length_le (by rw [HK.out];exact Nat.le_refl _)];rfl
   subst eR
   clear hU HR
   have B4:Hid (Bw W wr):=B1.out.trans (hB.out.mono B1.out.size)
   go_wp2
   try rw [Exit.noGoto_ret]
   exact bodyPost_ret (v:=idB ((0,0),false)) (by simp [results,Tryz.results73,go_sem,idB, *]) rfl ⟨rfl,(sqE B4)⟩
def uchI (ps:List Plc) (nm ds:ByteArray) (c:Int):(Int×Int)×Bool:=match plcI ps c with
 | some _=>uppI ps nm ds (chL (ps.map nd) c.toNat)
 | none=>((0,0),false)
theorem uch_c {b:Nat} {ps:List Plc} {W:World} (h:WAt b ps W) (hi:WI ps) (c:Int) (nm ds:ByteArray) (fl lo st:Int) (sa:Option Addr) (sk so:Nat):Calls Tryz.prog 73 #[.pointer (some ⟨b,0,none⟩),.int .i64 c,.agg #[.string nm,.string ds,.int .i64 fl,.int .i64 lo,.int .i64 st,.slice sa sk so]] W fun e w'=>e=.returned (idB (uchI ps nm ds c))∧Bw W w':=by
 rcases Zl ps c with ⟨h1,_⟩|⟨k,q,rfl,h2,h1⟩
 ·have e:uchI ps nm ds c=((0,0),false):=by rw [uchI,h1]
  rw [e];exact upp_no h c h1 nm ds fl lo st sa sk so
 ·have e:uchI ps nm ds (k:Int)=uppI ps nm ds (chL (ps.map nd) k):=by rw [uchI,h1];rfl
  rw [e];exact upp_yes h hi k q h2 nm ds fl lo st sa sk so
end Go.Proofs.YtmafkabjjibcbaaGreat
