import Derived.Test.YtjlfnelihbdhjaaGreatWsA
import Derived.Test.YtjlfnelihbdhjaaGreatHrP
import Derived.Test.YtjlfnelihbdhjaaGreatHrQ
import Derived.Test.YtjlfnelihbdhjaaGreatOwnX
import Derived.Test.YtjlfnelihbdhjaaGreatCurB
import Derived.Test.YtjlfnelihbdhjaaGreatTypesPure
import Derived.Test.YtjlfnelihbdhjaaGreatGrA
import Derived.Test.YtjlfnelihbdhjaaGreatHrS
import Derived.Test.YtjlfnelihbdhjaaGreatHrT
import Derived.Test.YtjlfnelihbdhjaaGreatHrH
import Derived.Test.YtjlfnelihbdhjaaGreatRnF
import Derived.Lib.Join
import GoSem.Op.String
import Derived.Deep.QuietTactic
import Derived.BigQuiet
import Derived.Deep.DeepCutAuto
set_option maxRecDepth 100000
namespace Go.Proofs.YtjlfnelihbdhjaaGreat
open Go.RowKit Go.Maps
def clsA:Cls:=⟨⟨#[65]⟩,⟨#[79,98,106,101,99,116]⟩,[],1,0,[]⟩
theorem defA:dfV P3.length (defN P3 clsA)=.tuple #[.int .i64 3,.int .i64 0]:=by kernel_rfl
theorem extA:extI P3 2 0=true:=by kernel_rfl
theorem clsA_in (w:World):ClsIn w (.slice none 0 0) (.slice none 0 0) clsA :=
  ⟨⟨none,0,rfl,Nat.le_refl _,by unfold maxLen;omega,fun h=>absurd rfl h⟩,⟨none,0,rfl,Nat.le_refl _,by unfold maxLen;omega,fun h=>absurd rfl h⟩,.inl rfl,.inl rfl,(fun _ _ _ _ h=>by cases h),⟨by unfold maxLen;decide,by unfold maxLen;decide,(fun p hp=>by cases hp),by decide,by decide,(fun m hm=>by cases hm)⟩⟩
set_option maxHeartbeats 4000000 in
theorem awakeT_n (W:World) (HN:Hid (∀ w:World,Calls Tryz.prog 60 #[] w fun e w'=>∃ b,e=.returned (.pointer (some ⟨b,0,none⟩))∧(∃ vp pv,HW w' w.heap.size b w.heap.size P3 vp pv)∧Below w.heap.size w w'))
    (HL:Hid (∀ b w,WAt b P3 w→Calls Tryz.prog 28 #[.pointer (some ⟨b,0,none⟩)] w fun e w'=>e=.returned (.int .i64 3)∧w'=w))
    (HX:Hid (∀ b w,WAt b P3 w→Calls Tryz.prog 57 #[.pointer (some ⟨b,0,none⟩),.int .i64 2,.int .i64 0] w fun e w'=>e=.returned (.bool true)∧Below w.heap.size w w'))
    (HD:Hid (∀ N b w,N≤w.heap.size→(∃ vp pv,HW w N b N P3 vp pv)→Calls Tryz.prog 29 #[.pointer (some ⟨b,0,none⟩),.agg #[.string ⟨#[65]⟩,.string ⟨#[79,98,106,101,99,116]⟩,.slice none 0 0,.int .i64 1,.int .i64 0,.slice none 0 0]] w fun e w'=>e=.returned (.tuple #[.int .i64 3,.int .i64 0])∧Below N w w')):Calls Tryz.prog 59 #[] W fun e w'=>e=.returned (.bool true)∧Below W.heap.size W w':=by
  go_enter Tryz.func59,Tryz.ntmps59
  go_wp2_with (first
    | (go_at_call 60;refine (HN.out _).mono ?_;rintro e w1 ⟨b,rfl,hw,hb⟩;have H1:Hid (∃ vp pv,HW w1 W.heap.size b W.heap.size P3 vp pv):=hw;have H2:Hid (WAt b P3 w1):=(by obtain ⟨vp,pv,hw⟩:=hw;exact hw.wat);have B1:Hid (Below W.heap.size W w1):=hb;clear hw hb HN)
    | (go_at_call 28;refine (HL.out _ _ H2.out).mono ?_;rintro e w9 ⟨rfl,hw9⟩;rw [hw9];clear hw9 w9 HL)
    | (go_at_call 57;refine (HX.out _ _ H2.out).mono ?_;rintro e w2 ⟨rfl,hb⟩;have H3:Hid (∃ vp pv,HW w2 W.heap.size b W.heap.size P3 vp pv):=(by obtain ⟨vp,pv,hw⟩:=H1.out;exact ⟨vp,pv,hw.below hb⟩);have B2:Hid (Below W.heap.size W w2):=bstep B1.out hb;clear hb HX H1 H2)
    | (go_at_call 29;refine (HD.out _ _ _ B2.out.size H3.out).mono ?_;rintro e w3 ⟨rfl,hb⟩;have B3:Hid (Below W.heap.size W w3):=B2.out.trans hb;clear hb HD H3))
  all_goals go_ret
  all_goals exact ⟨retB (by simp),B3.out⟩
theorem awakeT_c (W:World):Calls Tryz.prog 59 #[] W fun e w'=>e=.returned (.bool true)∧Below W.heap.size W w' :=
  awakeT_n W (fun w=>(new_any w).mono fun e w' zz=>⟨_,zz.1,zz.2.1,zz.2.2⟩) (fun b w hw=>len_c hw) (fun b w hw=>(extends_c hw wi3 2 0).mono fun e w' zz=>⟨by rw [zz.1,extA],zz.2⟩) (fun N b w hN hw=>by
    obtain ⟨vp,pv,hw⟩:=hw
    exact (define_any N b N P3 vp pv clsA _ _ w hw hN (clsA_in w) wi3.nm).mono fun e w' zz=>⟨by rw [zz.1,defA],zz.2.2.1⟩)
set_option maxHeartbeats 8000000 in
theorem WholeSlots_any (v:Value) (l:List Cls) (W:World) (h:IsClss W v l):Calls Tryz.prog 14 #[v] W fun e w'=>e=.returned (.bool true)∧Below W.heap.size W w':=by
  have hCW:=clss_w h
  obtain ⟨ao,cap,rfl,h1,h2,h3⟩:=h
  unfold maxLen at h2
  obtain ⟨L,hL⟩:∃ L,l.length=L:=⟨_,rfl⟩
  have HL:Hid (l.length=L):=hL
  have HI:Hid _:=h3
  have HCW:Hid (∀ c∈l,ClsW c):=hCW
  rw [hL] at h1 ⊢
  clear hL h3 hCW
  have HA:Hid (∀ w:World,Calls Tryz.prog 59 #[] w fun e w'=>e=.returned (.bool true)∧Below w.heap.size w w'):=awakeT_c
  have HN:Hid (∀ w:World,Calls Tryz.prog 60 #[] w fun e w'=>e=.returned (.pointer (some ⟨w.heap.size+1,0,none⟩))∧(∃ vp pv,HW w' w.heap.size (w.heap.size+1) w.heap.size P3 vp pv)∧Below w.heap.size w w'):=new_any
  have HSl:Hid (∀ (i:Nat) (r:Int) b w,WAt b (wld (l.take i)) w→Calls Tryz.prog 61 #[.pointer (some ⟨b,0,none⟩),.int .i64 r] w fun e w'=>e=.returned (.bool true)∧Below w.heap.size w w'):=fun i r b w hw=>slots_c hw (wld_wi _ (fun c hc=>HCW.out c (List.mem_of_mem_take hc))) (unqM_wld _ (fun c hc=>HCW.out c (List.mem_of_mem_take hc))) (sndM_wld _ (fun c hc=>HCW.out c (List.mem_of_mem_take hc))) r
  have HLn:Hid (∀ (ps:List Plc) b w,WAt b ps w→Calls Tryz.prog 28 #[.pointer (some ⟨b,0,none⟩)] w fun e w'=>e=.returned (.int .i64 (ps.length:Int))∧w'=w):=fun ps b w hw=>len_c hw
  go_enter Tryz.func14,Tryz.ntmps14
  go_wp2_with (first
    | (go_at_call 59;refine (HA.out _).mono ?_;rintro e w1 ⟨rfl,hb⟩;have B1:Hid (Below W.heap.size W w1):=bstep (by repeat (first|exact Below.refl _ _|refine Below.setCell ?_ (by simp;try omega) _|refine Below.alloc ?_ (by simp;try omega) _|refine Below.drew ?_)) hb;clear hb HA)
    | (go_at_call 60;refine (HN.out _).mono ?_;rintro e w2 ⟨rfl,hw,hb⟩;have H2:Hid (∃ vp pv,HW w2 w1.heap.size (w1.heap.size+1) w1.heap.size P3 vp pv):=hw;have q1:W.heap.size≤w1.heap.size:=B1.out.size;have B2:Hid (Below w1.heap.size w1 w2):=hb;clear hb hw HN))
  go_loopw [4] (fun iv wr=>∃ (i:Nat),iv=.int .i64 i∧i≤L∧i≤12∧Hid (∃ vp pv,HW wr w1.heap.size (w1.heap.size+1) w1.heap.size (wld (l.take i)) vp pv)∧Hid (Below w1.heap.size w1 wr)) (fun iv _=>12 - (intOf iv).toNat)
  case atStart=>exact ⟨0,rfl,Nat.zero_le _,by omega,H2,B2⟩
  case round =>
    clear H2 B2
    obtain ⟨i,rfl,hi,hi12,hHW,hB⟩:=hrel
    by_cases hlt:i<L∧i<12
    · obtain ⟨hlt,hlt12⟩:=hlt
      have hltI:(i:Int)<(L:Int):=by omega
      have hltI2:(i:Int)<12:=by omega
      obtain ⟨c,hc⟩:∃ c,l[i]?=some c:=⟨_,List.getElem?_eq_getElem (by rw [HL.out];exact hlt)⟩
      obtain ⟨bk,o,rfl,hbk,hcl⟩:=HI.out (fun e=>by rw [e] at hc;simp at hc)
      obtain ⟨vi,vm,hcell,hin⟩:=hcl i c hc
      have bel:Below W.heap.size W wr:=bstep B1.out hB.out
      have p0:wr.cell? ⟨bk,o+i * 6,none⟩=some (.string c.nm):=(bel.cell (p:=⟨bk,o+i * 6,none⟩) hbk).trans (hcell 0 _ rfl)
      have p1:wr.cell? ⟨bk,o+i * 6+1,none⟩=some (.string c.su):=(bel.cell (p:=⟨bk,o+i * 6+1,none⟩) hbk).trans (hcell 1 _ rfl)
      have p2:wr.cell? ⟨bk,o+i * 6+2,none⟩=some vi:=(bel.cell (p:=⟨bk,o+i * 6+2,none⟩) hbk).trans (hcell 2 _ rfl)
      have p3:wr.cell? ⟨bk,o+i * 6+3,none⟩=some (.int .i64 c.fl):=(bel.cell (p:=⟨bk,o+i * 6+3,none⟩) hbk).trans (hcell 3 _ rfl)
      have p4:wr.cell? ⟨bk,o+i * 6+4,none⟩=some (.int .i64 c.ld):=(bel.cell (p:=⟨bk,o+i * 6+4,none⟩) hbk).trans (hcell 4 _ rfl)
      have p5:wr.cell? ⟨bk,o+i * 6+5,none⟩=some vm:=(bel.cell (p:=⟨bk,o+i * 6+5,none⟩) hbk).trans (hcell 5 _ rfl)
      have hWI:WI (wld (l.take i)):=wld_wi _ (fun c hc=>HCW.out c (List.mem_of_mem_take hc))
      obtain ⟨d,HD,hd⟩:∃ d:Int×Int,Hid (Calls Tryz.prog 29 #[.pointer (some ⟨w1.heap.size+1,0,none⟩),.agg #[.string c.nm,.string c.su,vi,.int .i64 c.fl,.int .i64 c.ld,vm]] wr fun e w'=>e=.returned (.tuple #[.int .i64 d.1,.int .i64 d.2])∧Hid (∃ vp pv,HW w' w1.heap.size (w1.heap.size+1) w1.heap.size (wld (l.take (i+1))) vp pv)∧Hid (Below w1.heap.size w1 w'))∧True:=by
        obtain ⟨vp,pv,hw⟩:=hHW.out
        have hdef:=define_any w1.heap.size (w1.heap.size+1) w1.heap.size _ vp pv c vi vm wr hw hB.out.size (hin.keep bel) hWI.nm
        have hv:∃ d:Int×Int,dfV (wld (l.take i)).length (defN (wld (l.take i)) c)=.tuple #[.int .i64 d.1,.int .i64 d.2]:=by
          cases defN (wld (l.take i)) c with
          | ok p=>exact ⟨(_,0),rfl⟩
          | error e=>exact ⟨(0,e),rfl⟩
        obtain ⟨d,hv⟩:=hv
        refine ⟨d,hdef.mono ?_,trivial⟩
        rintro e w' ⟨rfl,hw',hb',_⟩
        rw [wld_at hc,hv]
        exact ⟨rfl,hw',hB.out.trans hb'⟩
      obtain ⟨d1,d2⟩:=d
      simp only at HD
      clear hcl hcell hin hc bel hWI hHW hB HI hd
      have HS1:=HSl.out (i+1)
      have HS:Hid _:=HS1
      clear HS1 HSl
      obtain ⟨ps,hps⟩:∃ ps,wld (l.take (i+1))=ps:=⟨_,rfl⟩
      have HPS:Hid (wld (l.take (i+1))=ps):=hps
      rw [hps] at HS HD
      clear hps
      by_cases hd:d2=0
      · subst hd
        go_wp2_with (first
          | (go_at_call 29;refine HD.out.mono ?_;rintro e w3 ⟨rfl,hw3,hb3⟩;have HH:Hid (WAt (w1.heap.size+1) ps w3):=(by obtain ⟨vp,pv,hw⟩:=hw3.out;exact hw.wat);clear HD)
          | (go_at_call 28;refine (HLn.out _ _ _ HH.out).mono ?_;rintro e w9 ⟨rfl,hw9⟩;rw [hw9];clear hw9 w9 HLn)
          | (go_at_call 61;refine (HS.out _ _ _ HH.out).mono ?_;rintro e w4 ⟨rfl,hb⟩;have hw4:Hid (∃ vp pv,HW w4 w1.heap.size (w1.heap.size+1) w1.heap.size ps vp pv):=(by obtain ⟨vp,pv,hw⟩:=hw3.out;exact ⟨vp,pv,hw.below hb⟩);have hb4:Hid (Below w1.heap.size w1 w4):=bstep hb3.out hb;clear hb HS))
        go_roundw
        case rel=>exact ⟨i+1,by go_num,by omega,by omega,(by rw [HPS.out];exact hw4),hb4⟩
        case measure=>simp [intOf];omega
      · have hdb:(d2 == 0)=false:=by simp [hd]
        go_wp2_with (go_at_call 29;refine HD.out.mono ?_;rintro e w3 ⟨rfl,hw3,hb3⟩;clear HD)
        go_roundw
        case rel=>exact ⟨i+1,by go_num,by omega,by omega,(by rw [HPS.out];exact hw3),hb3⟩
        case measure=>simp [intOf];omega
    · have HH:Hid (WAt (w1.heap.size+1) (wld (l.take i)) wr):=by obtain ⟨vp,pv,hw⟩:=hHW.out;exact hw.wat
      have HS:Hid (∀ (r:Int) b w,WAt b (wld (l.take i)) w→Calls Tryz.prog 61 #[.pointer (some ⟨b,0,none⟩),.int .i64 r] w fun e w'=>e=.returned (.bool true)∧Below w.heap.size w w'):=HSl.out i
      clear hHW HI HSl
      generalize wld (l.take i)=ps at *
      have hlt2:¬ (i:Int)<(L:Int)∨((i:Int)<(L:Int)∧¬ (i:Int)<12):=by omega
      clear hlt
      rcases hlt2 with hlt|⟨hlt,hlt12⟩
      all_goals
        go_wp2_with (go_at_call 61;refine (HS.out _ _ _ HH.out).mono ?_;rintro e w4 ⟨rfl,hb⟩;have hb4:Hid (Below w1.heap.size w1 w4):=bstep hB.out hb;clear hb HS)
      all_goals go_ret
      all_goals exact ⟨retB (by simp),bstep B1.out hb4.out⟩
end Go.Proofs.YtjlfnelihbdhjaaGreat
