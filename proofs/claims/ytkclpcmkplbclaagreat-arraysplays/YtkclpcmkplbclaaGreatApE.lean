import Derived.Test.YtkclpcmkplbclaaGreatWtB
import Derived.Test.YtkclpcmkplbclaaGreatWdB
import Derived.Test.YtkclpcmkplbclaaGreatSoA
import Derived.Test.YtkclpcmkplbclaaGreatRfX
import Derived.Test.YtkclpcmkplbclaaGreatWdT
import Derived.Test.YtkclpcmkplbclaaGreatOwnC
import Derived.Test.YtkclpcmkplbclaaGreatLwA
import Derived.Test.YtkclpcmkplbclaaGreatApC
import Derived.BigQuiet
set_option maxRecDepth 100000
namespace Go.Proofs.YtkclpcmkplbclaaGreat
open Go.RowKit Go.Maps
set_option maxHeartbeats 1000000 in
theorem rHld_c {b:Nat} {cs:List Cls} {ps:List Plc} {W:World} (h:RAt b cs W) (ht:TwW cs ps) (x:Int) (s:ByteArray) (hs:s.size≤maxLen):Calls Tryz.prog 67 #[.pointer (some ⟨b,0,none⟩),.agg #[.int .i64 x,.string s]] W fun e w'=>e=.returned (.tuple #[.int .i64 (hldR ps x s).1,.int .i64 (hldR ps x s).2])∧Below W.heap.size W w':=by
  have hn:cs.length≤300:=by rw [ht.tw.len];exact ht.wi.hi
  have HL:Hid (∀ w,Below W.heap.size W w→Calls Tryz.prog 106 #[.pointer (some ⟨b,0,none⟩),.agg #[.int .i64 x,.string s]] w fun e w'=>e=.returned (.int .i64 (ldI ps x s))∧Below w.heap.size w w'):=fun w hb=>by rw [← ldC_eq ht];exact rLoaded_c (h.below hb) hn x s hs
  have HI:Hid (∀ w:World,Calls Tryz.prog 107 #[.agg #[.int .i64 x,.string s]] w fun e w'=>e=.returned (.bool (intB x s))∧Below w.heap.size w w'):=rIsInt_c x s
  have HN:Hid (∀ k,lookL ps s.data.toList=some k→∀ w:World,Below W.heap.size W w→Calls Tryz.prog 57 #[.pointer (some ⟨b,0,none⟩),.string s] w fun e w'=>e=.returned (.tuple #[.int .i64 (k:Int),.int .i64 0])∧w'=w):=fun k hk w hb=>rByName_t (h.below hb) ht s k hk
  have hlf:=fun h0:ldI ps x s=0=>ld_facts h0
  have hE:ldI ps x s=0→intB x s=false→¬ 0<x→∃ k,lookL ps s.data.toList=some k:=fun h0 h1 h2=>by
    obtain ⟨x0,_,hk⟩:=hlf h0
    refine hk ?_
    have hx:x=0:=by omega
    unfold intB at h1
    rw [hx] at h1
    simpa using h1
  unfold hldR
  generalize ldI ps x s=ld at *
  generalize intB x s=iB at *
  generalize lookL ps s.data.toList=lk at *
  clear h hs ht hn hlf
  by_cases h0:ld=0
  · subst h0
    rw [if_pos rfl]
    cases iB with
    | true =>
      rw [if_pos rfl]
      clear HN hE
      go_enter Tryz.func67,Tryz.ntmps67
      go_wp2_with (first
        | (go_at_call 106;refine (HL.out _ (by repeat (first|exact Below.refl _ _|refine Below.setCell ?_ (by simp;try omega) _|refine Below.alloc ?_ (by simp;try omega) _|refine Below.drew ?_))).mono ?_;rintro e w1 ⟨rfl,hb⟩;have gd:=kp2 (n:=W.heap.size) hb;(try clear gB g0 g1 gf gL gN);obtain ⟨gB,g0,g1,gf,gL,gN⟩:=gd;have B1:Hid (Below W.heap.size W w1):=bstep (by repeat (first|exact Below.refl _ _|refine Below.setCell ?_ (by simp;try omega) _|refine Below.alloc ?_ (by simp;try omega) _|refine Below.drew ?_)) hb;clear hb HL)
        | (go_at_call 107;refine (HI.out _).mono ?_;rintro e w2 ⟨rfl,hb⟩;have B2:Hid (Below W.heap.size W w2):=bstep B1.out hb;clear hb HI))
      exact bodyPost_ret (results_tmp2 rfl _ _ _) rfl ⟨rfl,B2.out⟩
    | false =>
      rw [if_neg (by simp)]
      by_cases hx:0<x
      · rw [if_pos hx]
        clear HN hE
        go_enter Tryz.func67,Tryz.ntmps67
        go_wp2_with (first
          | (go_at_call 106;refine (HL.out _ (by repeat (first|exact Below.refl _ _|refine Below.setCell ?_ (by simp;try omega) _|refine Below.alloc ?_ (by simp;try omega) _|refine Below.drew ?_))).mono ?_;rintro e w1 ⟨rfl,hb⟩;have gd:=kp2 (n:=W.heap.size) hb;(try clear gB g0 g1 gf gL gN);obtain ⟨gB,g0,g1,gf,gL,gN⟩:=gd;have B1:Hid (Below W.heap.size W w1):=bstep (by repeat (first|exact Below.refl _ _|refine Below.setCell ?_ (by simp;try omega) _|refine Below.alloc ?_ (by simp;try omega) _|refine Below.drew ?_)) hb;clear hb HL)
          | (go_at_call 107;refine (HI.out _).mono ?_;rintro e w2 ⟨rfl,hb⟩;have gd:=kp2 (n:=W.heap.size) hb;(try clear gB g0 g1 gf gL gN);obtain ⟨gB,g0,g1,gf,gL,gN⟩:=gd;have B2:Hid (Below W.heap.size W w2):=bstep B1.out hb;clear hb HI))
        exact bodyPost_ret (results_tmp2 rfl _ _ _) rfl ⟨rfl,B2.out⟩
      · rw [if_neg hx]
        obtain ⟨k,rfl⟩:=hE rfl rfl hx
        replace HN:Hid (∀ w:World,Below W.heap.size W w→Calls Tryz.prog 57 #[.pointer (some ⟨b,0,none⟩),.string s] w fun e w'=>e=.returned (.tuple #[.int .i64 (k:Int),.int .i64 0])∧w'=w):=HN.out k rfl
        clear hE
        go_enter Tryz.func67,Tryz.ntmps67
        go_wp2_with (first
          | (go_at_call 106;refine (HL.out _ (by repeat (first|exact Below.refl _ _|refine Below.setCell ?_ (by simp;try omega) _|refine Below.alloc ?_ (by simp;try omega) _|refine Below.drew ?_))).mono ?_;rintro e w1 ⟨rfl,hb⟩;have gd:=kp2 (n:=W.heap.size) hb;(try clear gB g0 g1 gf gL gN);obtain ⟨gB,g0,g1,gf,gL,gN⟩:=gd;have B1:Hid (Below W.heap.size W w1):=bstep (by repeat (first|exact Below.refl _ _|refine Below.setCell ?_ (by simp;try omega) _|refine Below.alloc ?_ (by simp;try omega) _|refine Below.drew ?_)) hb;clear hb HL)
          | (go_at_call 107;refine (HI.out _).mono ?_;rintro e w2 ⟨rfl,hb⟩;have gd:=kp2 (n:=W.heap.size) hb;(try clear gB g0 g1 gf gL gN);obtain ⟨gB,g0,g1,gf,gL,gN⟩:=gd;have B2:Hid (Below W.heap.size W w2):=bstep B1.out hb;clear hb HI)
          | (go_at_call 57;refine (HN.out _ B2.out).mono ?_;rintro e w9 ⟨rfl,hw9⟩;rw [hw9];clear hw9 w9 HN))
        exact bodyPost_ret (results_tmp2 rfl _ _ _) rfl ⟨rfl,B2.out⟩
  · rw [if_neg h0]
    clear HN hE
    go_enter Tryz.func67,Tryz.ntmps67
    go_wp2_with (first
      | (go_at_call 106;refine (HL.out _ (by repeat (first|exact Below.refl _ _|refine Below.setCell ?_ (by simp;try omega) _|refine Below.alloc ?_ (by simp;try omega) _|refine Below.drew ?_))).mono ?_;rintro e w1 ⟨rfl,hb⟩;have gd:=kp2 (n:=W.heap.size) hb;(try clear gB g0 g1 gf gL gN);obtain ⟨gB,g0,g1,gf,gL,gN⟩:=gd;have B1:Hid (Below W.heap.size W w1):=bstep (by repeat (first|exact Below.refl _ _|refine Below.setCell ?_ (by simp;try omega) _|refine Below.alloc ?_ (by simp;try omega) _|refine Below.drew ?_)) hb;clear hb HL))
    exact bodyPost_ret (results_tmp2 rfl _ _ _) rfl ⟨rfl,B1.out⟩
theorem own_kb {w w':World} {N e s n:Nat} {v:Value} {xs:List Value} (h:w.ownsRow N e s v n xs) (hb:Below w.heap.size w w'):w'.ownsRow N e s v n xs:=by
  refine ⟨h.1,?_⟩
  rcases h.2 with h1|⟨g,cap,cur,h1,h2,h3,h4⟩
  · exact .inl h1
  · exact .inr ⟨g,cap,cur,h1,h2,(hb.block g (Array.getElem?_eq_some_iff.1 h3).1).trans h3,h4⟩
theorem abv_len {ps:List Plc} (hS:StW ps) (x:Int) (s:ByteArray):(abvR ps x s).1.length≤1000000000:=by
  by_cases hl:ldI ps x s=0
  · have e0:abvR ps x s=(stpP ps x.toNat s,0):=by rw [abvR,if_pos hl]
    obtain ⟨x0,_,_⟩:=ld_facts hl
    have:=(stp_small hS hl x.toNat (by omega)).1
    rw [e0]
    show (stpP ps x.toNat s).length≤_
    omega
  · rw [abvR,if_neg hl];exact Nat.zero_le _
theorem awake7_c (W:World):Calls Tryz.prog 61 #[] W fun e w'=>e=.returned (.bool true)∧Below W.heap.size W w':=by
  have HN:Hid (∀ w:World,Calls Tryz.prog 38 #[] w fun e w'=>e=.returned (.pointer (some ⟨w.heap.size+1,0,none⟩))∧(∃ vp pv,HW w' w.heap.size (w.heap.size+1) w.heap.size P3 vp pv)∧Below w.heap.size w w'):=new_any
  have HO:Hid (∀ (w:World) (b:Nat),WAt b P3 w→Calls Tryz.prog 23 #[.pointer (some ⟨b,0,none⟩),.agg #[.int .i64 1,.string ⟨#[]⟩],.agg #[.int .i64 0,.string tClo]] w fun e w'=>e=.returned (.tuple #[.bool true,.int .i64 0])∧Below w.heap.size w w'):=fun w b h=>by
    have l1:ldI P3 1 ⟨#[]⟩=0:=by unfold ldI;rw [Lib.toList_data];rfl
    have l2:ldI P3 0 tClo=0:=by unfold ldI;rw [Lib.toList_data];rfl
    have e:suI P3 1 ⟨#[]⟩ 0 tClo=.tuple #[.bool true,.int .i64 0]:=by
      rw [suI,if_pos l1,if_pos l2,(sub_iff l1 l2).2 (.inr (.inl ⟨by rw [Lib.toList_data];rfl,by decide,by decide⟩))]
    rw [← e]
    exact sub_c h wi3 1 ⟨#[]⟩ 0 tClo (by decide) (by decide)
  have ht:tClo=⟨#[67,108,111,110,101,97,98,108,101]⟩:=rfl
  rw [ht] at HO
  clear ht
  go_enter Tryz.func61,Tryz.ntmps61
  go_wp2_with (first
    | (go_at_call 38;refine (HN.out _).mono ?_;rintro e w1 ⟨rfl,⟨vp,pv,hw⟩,hb⟩;have H1:Hid (WAt (W.heap.size+1) P3 w1):=hw.wat;have B1:Hid (Below W.heap.size W w1):=hb;clear hw hb HN)
    | (go_at_call 23;refine (HO.out _ _ H1.out).mono ?_;rintro e w2 ⟨rfl,hb⟩;have B2:Hid (Below W.heap.size W w2):=bstep B1.out hb;clear hb HO))
  exact bodyPost_ret (results_tmp rfl _ _ _) rfl ⟨rfl,B2.out⟩
set_option maxHeartbeats 8000000 in
theorem plays_w (ps:List Plc) (cs:List Cls) (W:World) (v:Value) (x y:Int) (q r:ByteArray) (E1 E2 E3 H2:Int) (us:List (Int×List UInt8)) (hn:us.length≤1000000000) (HB:Hid (∀ w:World,Below W.heap.size W w→Calls Tryz.prog 62 #[v] w fun e w'=>(∃ b,e=.returned (.pointer (some ⟨b,0,none⟩))∧WAt b ps w')∧Below w.heap.size w w')) (HO:Hid (∀ w:World,Below W.heap.size W w→Calls Tryz.prog 30 #[v] w fun e w'=>(∃ b,e=.returned (.pointer (some ⟨b,0,none⟩))∧RAt b cs w')∧Below w.heap.size w w')) (HT:Hid (∀ b w,WAt b ps w→Calls Tryz.prog 63 #[.pointer (some ⟨b,0,none⟩),.int .i64 x] w fun e w'=>(e=.returned (.tuple #[.agg #[.int .i64 0,.string q],.int .i64 E1]))∧Below w.heap.size w w')) (HU:Hid (∀ b w,RAt b cs w→Calls Tryz.prog 64 #[.pointer (some ⟨b,0,none⟩),.int .i64 x] w fun e w'=>(e=.returned (.tuple #[.agg #[.int .i64 0,.string q],.int .i64 E1]))∧Below w.heap.size w w')) (HM:Hid (∀ w:World,Calls Tryz.prog 65 #[.agg #[.int .i64 0,.string q],.agg #[.int .i64 0,.string q]] w fun e w'=>e=.returned (.bool true)∧Below w.heap.size w w')) (HL:Hid (∀ b w,WAt b ps w→Calls Tryz.prog 66 #[.pointer (some ⟨b,0,none⟩),.agg #[.int .i64 y,.string r]] w fun e w'=>(e=.returned (.tuple #[.int .i64 H2,.int .i64 E2]))∧Below w.heap.size w w')) (HK:Hid (∀ b w,RAt b cs w→Calls Tryz.prog 67 #[.pointer (some ⟨b,0,none⟩),.agg #[.int .i64 y,.string r]] w fun e w'=>(e=.returned (.tuple #[.int .i64 H2,.int .i64 E2]))∧Below w.heap.size w w')) (HV:Hid (∀ b w,WAt b ps w→Calls Tryz.prog 68 #[.pointer (some ⟨b,0,none⟩),.agg #[.int .i64 y,.string r]] w fun e w'=>(∃ v,e=.returned (.tuple #[v,.int .i64 E3])∧w'.ownsRow w.heap.size 24 2 v us.length (flatU us))∧Below w.heap.size w w')) (HX:Hid (∀ b w,RAt b cs w→Calls Tryz.prog 69 #[.pointer (some ⟨b,0,none⟩),.agg #[.int .i64 y,.string r]] w fun e w'=>(∃ v,e=.returned (.tuple #[v,.int .i64 E3])∧w'.ownsRow w.heap.size 24 2 v us.length (flatU us))∧Below w.heap.size w w')) :
    Calls Tryz.prog 13 #[v,.agg #[.int .i64 y,.string r],.int .i64 x] W fun e w'=>e=.returned (.bool true)∧Below W.heap.size W w':=by
  have HA:Hid (∀ w:World,Calls Tryz.prog 61 #[] w fun e w'=>e=.returned (.bool true)∧Below w.heap.size w w'):=awake7_c
  have BB:Hid (Below W.heap.size W W):=Below.refl _ _
  go_enter Tryz.func13,Tryz.ntmps13
  go_wp2_with (first
    | (go_at_call 61;refine (HA.out _).mono ?_;rintro e w1 ⟨rfl,hb⟩;have uud:=kp2 (n:=W.heap.size) hb;(try clear uuB uu0 uu1 uuf uuL uuN);obtain ⟨uuB,uu0,uu1,uuf,uuL,uuN⟩:=uud;have BB2:Below W.heap.size W w1:=bstep (by repeat (first|refine Below.setCell ?_ (by simp;try omega) _|refine Below.alloc ?_ (by have:=BB.out.size;simp;try omega) _|refine Below.drew ?_|exact BB.out)) hb;clear BB;have BB:Hid (Below W.heap.size W w1):=BB2;clear BB2;clear hb HA)
    | (go_at_call 62;refine (HB.out _ BB.out).mono ?_;rintro e w2 ⟨⟨b,rfl,hw⟩,hb⟩;have HH:Hid (WAt b ps w2):=hw;have uud:=kp2 (n:=W.heap.size) hb;(try clear uuB uu0 uu1 uuf uuL uuN);obtain ⟨uuB,uu0,uu1,uuf,uuL,uuN⟩:=uud;have BB2:Below W.heap.size W w2:=bstep (by repeat (first|refine Below.setCell ?_ (by simp;try omega) _|refine Below.alloc ?_ (by have:=BB.out.size;simp;try omega) _|refine Below.drew ?_|exact BB.out)) hb;clear BB;have BB:Hid (Below W.heap.size W w2):=BB2;clear BB2;clear hb HB hw)
    | (go_at_call 30;refine (HO.out _ (by repeat (first|refine Below.setCell ?_ (by simp;try omega) _|refine Below.alloc ?_ (by have:=BB.out.size;simp;try omega) _|refine Below.drew ?_|exact BB.out))).mono ?_;rintro e w3 ⟨⟨bx,rfl,hw⟩,hb⟩;have HR:Hid (RAt bx cs w3):=hw;have uud:=kp2 (n:=W.heap.size) hb;(try clear uuB uu0 uu1 uuf uuL uuN);obtain ⟨uuB,uu0,uu1,uuf,uuL,uuN⟩:=uud;have BB2:Below W.heap.size W w3:=bstep (by repeat (first|refine Below.setCell ?_ (by simp;try omega) _|refine Below.alloc ?_ (by have:=BB.out.size;simp;try omega) _|refine Below.drew ?_|exact BB.out)) hb;clear BB;have BB:Hid (Below W.heap.size W w3):=BB2;clear BB2;have HH2:=HH.out.below hb;clear HH;have HH:Hid (WAt b ps w3):=HH2;clear HH2;clear hb HO hw)
    | (go_at_call 63;refine (HT.out _ _ HH.out).mono ?_;rintro e w4 ⟨rfl,hb⟩;have uud:=kp2 (n:=W.heap.size) hb;(try clear uuB uu0 uu1 uuf uuL uuN);obtain ⟨uuB,uu0,uu1,uuf,uuL,uuN⟩:=uud;have BB2:Below W.heap.size W w4:=bstep (by repeat (first|refine Below.setCell ?_ (by simp;try omega) _|refine Below.alloc ?_ (by have:=BB.out.size;simp;try omega) _|refine Below.drew ?_|exact BB.out)) hb;clear BB;have BB:Hid (Below W.heap.size W w4):=BB2;clear BB2;have HH2:=HH.out.below hb;clear HH;have HH:Hid (WAt b ps w4):=HH2;clear HH2;have HR2:=HR.out.below hb;clear HR;have HR:Hid (RAt bx cs w4):=HR2;clear HR2;clear hb HT)
    | (go_at_call 64;refine (HU.out _ _ (HR.out.below (by repeat (first|refine Below.setCell ?_ (by simp;try omega) _|refine Below.alloc ?_ (by simp;try omega) _|refine Below.drew ?_|exact Below.refl _ _)))).mono ?_;rintro e w5 ⟨rfl,hb⟩;have uud:=kp2 (n:=W.heap.size) hb;(try clear uuB uu0 uu1 uuf uuL uuN);obtain ⟨uuB,uu0,uu1,uuf,uuL,uuN⟩:=uud;have aad:=kp2 (n:=w4.heap.size) hb;(try clear aaB aa0 aa1 aaf aaL aaN);obtain ⟨aaB,aa0,aa1,aaf,aaL,aaN⟩:=aad;have BB2:Below W.heap.size W w5:=bstep (by repeat (first|refine Below.setCell ?_ (by simp;try omega) _|refine Below.alloc ?_ (by have:=BB.out.size;simp;try omega) _|refine Below.drew ?_|exact BB.out)) hb;clear BB;have BB:Hid (Below W.heap.size W w5):=BB2;clear BB2;have HH2:=(HH.out.below (by repeat (first|refine Below.setCell ?_ (by simp;try omega) _|refine Below.alloc ?_ (by simp;try omega) _|refine Below.drew ?_|exact Below.refl _ _))).below hb;clear HH;have HH:Hid (WAt b ps w5):=HH2;clear HH2;have HR2:=(HR.out.below (by repeat (first|refine Below.setCell ?_ (by simp;try omega) _|refine Below.alloc ?_ (by simp;try omega) _|refine Below.drew ?_|exact Below.refl _ _))).below hb;clear HR;have HR:Hid (RAt bx cs w5):=HR2;clear HR2;clear hb HU)
    | (go_at_call 65;refine (HM.out _).mono ?_;rintro e w6 ⟨rfl,hb⟩;have uud:=kp2 (n:=W.heap.size) hb;(try clear uuB uu0 uu1 uuf uuL uuN);obtain ⟨uuB,uu0,uu1,uuf,uuL,uuN⟩:=uud;have BB2:Below W.heap.size W w6:=bstep (by repeat (first|refine Below.setCell ?_ (by simp;try omega) _|refine Below.alloc ?_ (by have:=BB.out.size;simp;try omega) _|refine Below.drew ?_|exact BB.out)) hb;clear BB;have BB:Hid (Below W.heap.size W w6):=BB2;clear BB2;have HH2:=(HH.out.below (by repeat (first|refine Below.setCell ?_ (by simp;try omega) _|refine Below.alloc ?_ (by simp;try omega) _|refine Below.drew ?_|exact Below.refl _ _))).below hb;clear HH;have HH:Hid (WAt b ps w6):=HH2;clear HH2;have HR2:=(HR.out.below (by repeat (first|refine Below.setCell ?_ (by simp;try omega) _|refine Below.alloc ?_ (by simp;try omega) _|refine Below.drew ?_|exact Below.refl _ _))).below hb;clear HR;have HR:Hid (RAt bx cs w6):=HR2;clear HR2;clear hb HM)
    | (go_at_call 66;refine (HL.out _ _ HH.out).mono ?_;rintro e w7 ⟨rfl,hb⟩;have uud:=kp2 (n:=W.heap.size) hb;(try clear uuB uu0 uu1 uuf uuL uuN);obtain ⟨uuB,uu0,uu1,uuf,uuL,uuN⟩:=uud;have BB2:Below W.heap.size W w7:=bstep (by repeat (first|refine Below.setCell ?_ (by simp;try omega) _|refine Below.alloc ?_ (by have:=BB.out.size;simp;try omega) _|refine Below.drew ?_|exact BB.out)) hb;clear BB;have BB:Hid (Below W.heap.size W w7):=BB2;clear BB2;have HH2:=HH.out.below hb;clear HH;have HH:Hid (WAt b ps w7):=HH2;clear HH2;have HR2:=HR.out.below hb;clear HR;have HR:Hid (RAt bx cs w7):=HR2;clear HR2;clear hb HL)
    | (go_at_call 67;refine (HK.out _ _ HR.out).mono ?_;rintro e w8 ⟨rfl,hb⟩;have uud:=kp2 (n:=W.heap.size) hb;(try clear uuB uu0 uu1 uuf uuL uuN);obtain ⟨uuB,uu0,uu1,uuf,uuL,uuN⟩:=uud;have BB2:Below W.heap.size W w8:=bstep (by repeat (first|refine Below.setCell ?_ (by simp;try omega) _|refine Below.alloc ?_ (by have:=BB.out.size;simp;try omega) _|refine Below.drew ?_|exact BB.out)) hb;clear BB;have BB:Hid (Below W.heap.size W w8):=BB2;clear BB2;have HH2:=HH.out.below hb;clear HH;have HH:Hid (WAt b ps w8):=HH2;clear HH2;have HR2:=HR.out.below hb;clear HR;have HR:Hid (RAt bx cs w8):=HR2;clear HR2;clear hb HK)
    | (go_at_call 68;refine (HV.out _ _ HH.out).mono ?_;rintro e w9 ⟨⟨va,rfl,ho⟩,hb⟩;obtain ⟨a9,c9,rfl⟩:=ownv ho;have O9:Hid (w9.ownsRow w8.heap.size 24 2 (.slice a9 us.length c9) us.length (flatU us)):=ho;clear ho;have uud:=kp2 (n:=W.heap.size) hb;(try clear uuB uu0 uu1 uuf uuL uuN);obtain ⟨uuB,uu0,uu1,uuf,uuL,uuN⟩:=uud;have BB2:Below W.heap.size W w9:=bstep (by repeat (first|refine Below.setCell ?_ (by simp;try omega) _|refine Below.alloc ?_ (by have:=BB.out.size;simp;try omega) _|refine Below.drew ?_|exact BB.out)) hb;clear BB;have BB:Hid (Below W.heap.size W w9):=BB2;clear BB2;have HH2:=HH.out.below hb;clear HH;have HH:Hid (WAt b ps w9):=HH2;clear HH2;have HR2:=HR.out.below hb;clear HR;have HR:Hid (RAt bx cs w9):=HR2;clear HR2;clear hb HV)
    | (go_at_call 69;refine (HX.out _ _ HR.out).mono ?_;rintro e w10 ⟨⟨vb,rfl,ho⟩,hb⟩;obtain ⟨a10,c10,rfl⟩:=ownv ho;have O10:Hid (w10.ownsRow w9.heap.size 24 2 (.slice a10 us.length c10) us.length (flatU us)):=ho;have O9b:=own_kb O9.out hb;clear ho O9;have O9:Hid (w10.ownsRow w8.heap.size 24 2 (.slice a9 us.length c9) us.length (flatU us)):=O9b;clear O9b;have uud:=kp2 (n:=W.heap.size) hb;(try clear uuB uu0 uu1 uuf uuL uuN);obtain ⟨uuB,uu0,uu1,uuf,uuL,uuN⟩:=uud;have BB2:Below W.heap.size W w10:=bstep (by repeat (first|refine Below.setCell ?_ (by simp;try omega) _|refine Below.alloc ?_ (by have:=BB.out.size;simp;try omega) _|refine Below.drew ?_|exact BB.out)) hb;clear BB;have BB:Hid (Below W.heap.size W w10):=BB2;clear BB2;have HH2:=HH.out.below hb;clear HH;have HH:Hid (WAt b ps w10):=HH2;clear HH2;have HR2:=HR.out.below hb;clear HR;have HR:Hid (RAt bx cs w10):=HR2;clear HR2;clear hb HX)
    | (go_at_call 70;refine (sameTys_eq _ _ us _ _ _ O9.out O10.out hn).mono ?_;rintro e w11 ⟨rfl,hb⟩;have BB2:Below W.heap.size W w11:=bstep (by repeat (first|refine Below.setCell ?_ (by simp;try omega) _|refine Below.alloc ?_ (by have:=BB.out.size;simp;try omega) _|refine Below.drew ?_|exact BB.out)) hb;clear BB;have BB:Hid (Below W.heap.size W w11):=BB2;clear BB2;clear hb))
  all_goals go_ret
  all_goals exact ⟨retB (by simp [*]),(by repeat (first|refine Below.setCell ?_ (by simp;try omega) _|refine Below.alloc ?_ (by have:=BB.out.size;simp;try omega) _|refine Below.drew ?_|exact BB.out))⟩
theorem ArraysPlays_any (v:Value) (l:List Cls) (y:Int) (r:ByteArray) (x:Int) (W:World) (h:IsClss W v l) (hr:r.size≤maxLen):Calls Tryz.prog 13 #[v,.agg #[.int .i64 y,.string r],.int .i64 x] W fun e w'=>e=.returned (.bool true)∧Below W.heap.size W w':=by
  have hC:=clss_w h
  have hW:=wld_wi l hC
  have hT:=twW l hC
  have hS:=stW l hC
  generalize hps:wld l=ps at hW hT hS
  generalize hcs:wldC l=cs at hT
  refine plays_w ps cs W v x y (tofR ps x).1 r (tofR ps x).2 (hldR ps y r).2 (abvR ps y r).2 (hldR ps y r).1 (abvR ps y r).1 (abv_len hS y r) (fun w hb=>?_) (fun w hb=>?_) (fun b w hw=>tof_c hw hW x) (fun b w hw=>rTof_c hw hT x) (fun w=>?_) (fun b w hw=>hld_c hw y r hr) (fun b w hw=>rHld_c hw hT y r hr) (fun b w hw=>abv_c hw hS y r hr) (fun b w hw=>rAbv_c hw hT hS y r hr)
  · have:=built7_c v l w (clss_keep h hb)
    rw [hps] at this
    exact this
  · have:=of_c v l w (clss_keep h hb)
    rw [hcs] at this
    exact this
  · have:=tySame_any 0 0 (tofR ps x).1 (tofR ps x).1 w
    simpa using this
end Go.Proofs.YtkclpcmkplbclaaGreat
