import Derived.Test.YtkclpcmkplbclaaGreatWdB
import Derived.Test.YtkclpcmkplbclaaGreatOrdB
import Derived.Test.YtkclpcmkplbclaaGreatFOwnA
import Derived.Test.YtkclpcmkplbclaaGreatTyC
import Derived.Test.YtkclpcmkplbclaaGreatSoD
import Derived.Deep.RegionHeld3
import Derived.Deep.LoopGhost
set_option maxRecDepth 100000
namespace Go.Proofs.YtkclpcmkplbclaaGreat
open Go.RowKit Go.Maps
def wld (l:List Cls):List Plc:=l.foldl (fun ps c=>dfP ps (defN ps c)) P3
theorem wld_snoc (l:List Cls) (c:Cls):wld (l++[c])=dfP (wld l) (defN (wld l) c):=by
  rw [wld,List.foldl_append];rfl
theorem wld_at {l:List Cls} {i:Nat} {c:Cls} (h:l[i]?=some c):wld (l.take (i+1))=dfP (wld (l.take i)) (defN (wld (l.take i)) c):=by
  rw [List.take_add_one,h];exact wld_snoc _ _
theorem wld_ind {P:List Plc→Prop} (h3:P P3) (hd:∀ ps c,P ps→ClsW c→P (dfP ps (defN ps c))):∀ l:List Cls,(∀ c∈l,ClsW c)→P (wld l):=by
  have key:∀ (l:List Cls) (ps:List Plc),(∀ c∈l,ClsW c)→P ps→P (l.foldl (fun ps c=>dfP ps (defN ps c)) ps):=by
    intro l
    induction l with
    | nil=>exact fun ps _ h=>h
    | cons c l ih=>exact fun ps hl h=>ih _ (fun x hx=>hl x (List.mem_cons_of_mem _ hx)) (hd ps c h (hl c (by simp)))
  exact fun l hl=>key l P3 hl h3
theorem wld_wi (l:List Cls) (hl:∀ c∈l,ClsW c):WI (wld l):=wld_ind wi3 (fun _ c h hc=>h.define c hc) l hl
theorem clss_w {w:World} {v:Value} {l:List Cls} (h:IsClss w v l):∀ c∈l,ClsW c:=by
  obtain ⟨ao,cap,e,h1,h2,h3⟩:=h
  intro c hc
  obtain ⟨bk,o,_,_,h4⟩:=h3 (fun e=>by rw [e] at hc;simp at hc)
  obtain ⟨i,hi⟩:=List.mem_iff_getElem?.1 hc
  obtain ⟨vi,vm,_,hin⟩:=h4 i c hi
  exact hin.ok
set_option maxHeartbeats 4000000 in
theorem built7_c (v:Value) (l:List Cls) (W:World) (h:IsClss W v l):Calls Tryz.prog 62 #[v] W fun e w'=>(∃ b,e=.returned (.pointer (some ⟨b,0,none⟩))∧WAt b (wld l) w')∧Below W.heap.size W w':=by
  have hCW:=clss_w h
  obtain ⟨ao,cap,rfl,h1,h2,h3⟩:=h
  unfold maxLen at h2
  obtain ⟨L,hL⟩:∃ L,l.length=L:=⟨_,rfl⟩
  have HL:Hid (l.length=L):=hL
  have HI:Hid _:=h3
  have HCW:Hid (∀ c∈l,ClsW c):=hCW
  rw [hL] at h1 ⊢
  clear hL h3 hCW
  have HN:Hid (∀ w:World,Calls Tryz.prog 38 #[] w fun e w'=>e=.returned (.pointer (some ⟨w.heap.size+1,0,none⟩))∧(∃ vp pv,HW w' w.heap.size (w.heap.size+1) w.heap.size P3 vp pv)∧Below w.heap.size w w'):=new_any
  go_enter Tryz.func62,Tryz.ntmps62
  go_wp2_with (first
    | (go_at_call 38;refine (HN.out _).mono ?_;rintro e w2 ⟨rfl,hw,hb⟩;have H2:Hid (∃ vp pv,HW w2 W.heap.size (W.heap.size+1) W.heap.size P3 vp pv):=hw;have B2:Hid (Below W.heap.size W w2):=hb;clear hb hw HN))
  go_loopw [4] (fun iv wr=>∃ (i:Nat),iv=.int .i64 i∧i≤L∧Hid (∃ vp pv,HW wr W.heap.size (W.heap.size+1) W.heap.size (wld (l.take i)) vp pv)∧Hid (Below W.heap.size W wr)) (fun iv _=>L - (intOf iv).toNat)
  case atStart=>exact ⟨0,rfl,Nat.zero_le _,H2,B2⟩
  case round =>
    clear H2 B2
    obtain ⟨i,rfl,hi,hHW,hB⟩:=hrel
    by_cases hlt:i<L
    · obtain ⟨c,hc⟩:∃ c,l[i]?=some c:=⟨_,List.getElem?_eq_getElem (by rw [HL.out];exact hlt)⟩
      obtain ⟨bk,o,rfl,hbk,hcl⟩:=HI.out (fun e=>by rw [e] at hc;simp at hc)
      obtain ⟨vi,vm,hcell,hin⟩:=hcl i c hc
      have bel:Below W.heap.size W wr:=hB.out
      have p0:wr.cell? ⟨bk,o+i * 6,none⟩=some (.string c.nm):=(bel.cell (p:=⟨bk,o+i * 6,none⟩) hbk).trans (hcell 0 _ rfl)
      have p1:wr.cell? ⟨bk,o+i * 6+1,none⟩=some (.string c.su):=(bel.cell (p:=⟨bk,o+i * 6+1,none⟩) hbk).trans (hcell 1 _ rfl)
      have p2:wr.cell? ⟨bk,o+i * 6+2,none⟩=some vi:=(bel.cell (p:=⟨bk,o+i * 6+2,none⟩) hbk).trans (hcell 2 _ rfl)
      have p3:wr.cell? ⟨bk,o+i * 6+3,none⟩=some (.int .i64 c.fl):=(bel.cell (p:=⟨bk,o+i * 6+3,none⟩) hbk).trans (hcell 3 _ rfl)
      have p4:wr.cell? ⟨bk,o+i * 6+4,none⟩=some (.int .i64 c.ld):=(bel.cell (p:=⟨bk,o+i * 6+4,none⟩) hbk).trans (hcell 4 _ rfl)
      have p5:wr.cell? ⟨bk,o+i * 6+5,none⟩=some vm:=(bel.cell (p:=⟨bk,o+i * 6+5,none⟩) hbk).trans (hcell 5 _ rfl)
      have hWI:WI (wld (l.take i)):=wld_wi _ (fun c hc=>HCW.out c (List.mem_of_mem_take hc))
      have HD:Hid (Calls Tryz.prog 40 #[.pointer (some ⟨W.heap.size+1,0,none⟩),.agg #[.string c.nm,.string c.su,vi,.int .i64 c.fl,.int .i64 c.ld,vm]] wr fun e w'=>(∃ u,e=.returned u)∧Hid (∃ vp pv,HW w' W.heap.size (W.heap.size+1) W.heap.size (wld (l.take (i+1))) vp pv)∧Hid (Below W.heap.size W w')):=by
        obtain ⟨vp,pv,hw⟩:=hHW.out
        refine (define_any W.heap.size (W.heap.size+1) W.heap.size _ vp pv c vi vm wr hw hB.out.size (hin.keep bel) hWI.nm).mono ?_
        rintro e w' ⟨rfl,hw',hb',_⟩
        rw [wld_at hc]
        exact ⟨⟨_,rfl⟩,hw',hB.out.trans hb'⟩
      clear hcl hcell hin hc bel hWI hHW hB HI
      go_wp2_with (go_at_call 40;refine HD.out.mono ?_;rintro e w3 ⟨⟨u3,rfl⟩,hw3,hb3⟩;clear HD)
      go_roundw
      case rel=>exact ⟨i+1,by go_num,by omega,hw3,hb3⟩
      case measure=>simp [intOf];omega
    · have e:i=L:=by omega
      subst e
      have HF:Hid (WAt (W.heap.size+1) (wld l) wr):=by
        obtain ⟨vp,pv,hw⟩:=hHW.out
        rw [List.take_of_length_le (by rw [HL.out];exact Nat.le_refl _)] at hw
        exact hw.wat
      clear hHW HI
      go_wp2
      exact bodyPost_ret (results_tmp rfl _ _ _) rfl ⟨⟨_,rfl,HF.out⟩,hB.out⟩
def extI (ps:List Plc) (a b:Int):Bool:=(plcI ps a).isSome&&(plcI ps b).isSome&&extB (ps.map nd) a.toNat b.toNat
theorem extends_no {b:Nat} {ps:List Plc} {W:World} (h:WAt b ps W) (x y:Int) (hxy:plcI ps x=none∨plcI ps y=none):Calls Tryz.prog 20 #[.pointer (some ⟨b,0,none⟩),.int .i64 x,.int .i64 y] W fun e w'=>e=.returned (.bool false)∧Below W.heap.size W w':=by
  have HX:Hid (∀ i z w,Below W.heap.size W w→plcI ps i=z→Calls Tryz.prog 74 #[.pointer (some ⟨b,0,none⟩),.int .i64 i] w fun e w'=>e=.returned (.bool z.isSome)∧w'=w):=fun i z w hb hi=>by
    have:=has_c (h.below hb) i
    rw [hi] at this;exact this
  clear h
  generalize hpx:plcI ps x=px at *
  generalize hpy:plcI ps y=py at *
  have HPX:Hid _:=hpx
  have HPY:Hid _:=hpy
  clear hpx hpy
  cases px with
  | none =>
    go_enter Tryz.func20,Tryz.ntmps20
    go_wp2_with (go_at_call 74;refine (HX.out _ _ _ (by repeat (first|exact Below.refl _ _|refine Below.setCell ?_ (by simp;try omega) _|refine Below.alloc ?_ (by simp;try omega) _|refine Below.drew ?_)) HPX.out).mono ?_;rintro e w9 ⟨rfl,hw9⟩;rw [hw9];clear hw9 w9)
    refine bodyPost_ret (v:=.bool false) (by simp [results,Tryz.results20,go_sem]) rfl ⟨rfl,(by repeat (first|exact Below.refl _ _|refine Below.setCell ?_ (by simp;try omega) _|refine Below.alloc ?_ (by simp;try omega) _|refine Below.drew ?_))⟩
  | some p =>
    obtain rfl:py=none:=hxy.resolve_left (by simp)
    clear hxy
    have HX1:Hid (∀ i w,Below W.heap.size W w→i=x→Calls Tryz.prog 74 #[.pointer (some ⟨b,0,none⟩),.int .i64 i] w fun e w'=>e=.returned (.bool true)∧w'=w):=fun i w hb hi=>by rw [hi];exact HX.out x _ w hb HPX.out
    have HY1:Hid (∀ i w,Below W.heap.size W w→i=y→Calls Tryz.prog 74 #[.pointer (some ⟨b,0,none⟩),.int .i64 i] w fun e w'=>e=.returned (.bool false)∧w'=w):=fun i w hb hi=>by rw [hi];exact HX.out y _ w hb HPY.out
    go_enter Tryz.func20,Tryz.ntmps20
    go_wp2_with (first
      | (go_at_call 74;refine (HX1.out _ _ (by repeat (first|exact Below.refl _ _|refine Below.setCell ?_ (by simp;try omega) _|refine Below.alloc ?_ (by simp;try omega) _|refine Below.drew ?_)) (by rfl)).mono ?_;rintro e w9 ⟨rfl,hw9⟩;rw [hw9];clear hw9 w9)
      | (go_at_call 74;refine (HY1.out _ _ (by repeat (first|exact Below.refl _ _|refine Below.setCell ?_ (by simp;try omega) _|refine Below.alloc ?_ (by simp;try omega) _|refine Below.drew ?_)) (by rfl)).mono ?_;rintro e w9 ⟨rfl,hw9⟩;rw [hw9];clear hw9 w9))
    refine bodyPost_ret (v:=.bool false) (by simp [results,Tryz.results20,go_sem]) rfl ⟨rfl,(by repeat (first|exact Below.refl _ _|refine Below.setCell ?_ (by simp;try omega) _|refine Below.alloc ?_ (by simp;try omega) _|refine Below.drew ?_))⟩
theorem extends_c {b:Nat} {ps:List Plc} {W:World} (h:WAt b ps W) (hi:WI ps) (x y:Int):Calls Tryz.prog 20 #[.pointer (some ⟨b,0,none⟩),.int .i64 x,.int .i64 y] W fun e w'=>e=.returned (.bool (extI ps x y))∧Below W.heap.size W w':=by
  rcases plcI_cases ps x with ⟨h1,_⟩|⟨k,p,rfl,h2,h1⟩
  · have e:extI ps x y=false:=by rw [extI,h1];rfl
    rw [e];exact extends_no h x y (.inl h1)
  · rcases plcI_cases ps y with ⟨g1,_⟩|⟨j,q,rfl,g2,g1⟩
    · have e:extI ps k y=false:=by rw [extI,h1,g1];rfl
      rw [e];exact extends_no h k y (.inr g1)
    · have e:extI ps k j=extB (ps.map nd) k j:=by rw [extI,h1,g1];rfl
      obtain ⟨N,mb,vp,pv,h⟩:=h
      rw [e];exact extends_yes N b mb ps vp pv k j (List.getElem?_eq_some_iff.1 h2).1 (List.getElem?_eq_some_iff.1 g2).1 hi.wo hi.hi W h
def bnV:Option Nat→Value
  | some j=>.tuple #[.int .i64 (j:Int),.int .i64 0]
  | none=>.tuple #[.int .i64 0,.int .i64 6]
theorem byName_c {b:Nat} {ps:List Plc} {W:World} (h:WAt b ps W) (nm:ByteArray) (hnz:nm.size≤maxLen):Calls Tryz.prog 56 #[.pointer (some ⟨b,0,none⟩),.string nm] W fun e w'=>e=.returned (bnV (lookL ps nm.data.toList))∧Below W.heap.size W w':=by
  obtain ⟨N,mb,vp,pv,h⟩:=h
  refine (byName_look N b mb ps vp pv nm hnz W h).mono ?_
  rintro e w' ⟨rfl,hb⟩
  exact ⟨by cases lookL ps nm.data.toList <;> rfl,hb⟩
def pkB (nm:ByteArray):ByteArray:=⟨(pkgL nm.data.toList).toArray⟩
theorem retB {a b:Bool} (h:a=b):Ending.returned (.bool a)=Ending.returned (.bool b):=by rw [h]
theorem isOverInt_c (d:Int) (s:ByteArray) (W:World):Calls Tryz.prog 109 #[.agg #[.int .i64 d,.string s]] W fun e w'=>e=.returned (.bool s.toList.isEmpty)∧Below W.heap.size W w':=by
  cases he:s.toList.isEmpty
  all_goals
    go_enter Tryz.func109,Tryz.ntmps109
    go_wp2
    go_ret
    exact ⟨by first|rfl|simp_all,(by repeat (first|exact Below.refl _ _|refine Below.setCell ?_ (by simp;try omega) _|refine Below.alloc ?_ (by simp;try omega) _|refine Below.drew ?_))⟩
def ldI (ps:List Plc) (d:Int) (s:ByteArray):Int:=if sndB d s.data.toList then (if s.toList.isEmpty then 0 else match lookL ps s.data.toList with
  | some _=>0
  | none=>20) else 1
theorem loaded_c {b:Nat} {ps:List Plc} {W:World} (h:WAt b ps W) (d:Int) (s:ByteArray) (hs:s.size≤maxLen):Calls Tryz.prog 71 #[.pointer (some ⟨b,0,none⟩),.agg #[.int .i64 d,.string s]] W fun e w'=>e=.returned (.int .i64 (ldI ps d s))∧Below W.heap.size W w':=by
  have HC:Hid (∀ w:World,Calls Tryz.prog 113 #[.agg #[.int .i64 d,.string s]] w fun e w'=>e=.returned (.int .i64 (chkI (sndB d s.data.toList)))∧Below w.heap.size w w'):=tyCheck_any d s hs
  have HO:Hid (∀ w:World,Calls Tryz.prog 109 #[.agg #[.int .i64 d,.string s]] w fun e w'=>e=.returned (.bool s.toList.isEmpty)∧Below w.heap.size w w'):=isOverInt_c d s
  have HN:Hid (∀ w:World,Below W.heap.size W w→Calls Tryz.prog 56 #[.pointer (some ⟨b,0,none⟩),.string s] w fun e w'=>e=.returned (bnV (lookL ps s.data.toList))∧Below w.heap.size w w'):=fun w hb=>byName_c (h.below hb) s hs
  obtain ⟨R,hR⟩:∃ R,ldI ps d s=R:=⟨_,rfl⟩
  rw [hR]
  have HR:Hid (ldI ps d s=R):=hR
  clear hR h
  unfold ldI at HR
  generalize sndB d s.data.toList=sn at *
  generalize s.toList.isEmpty=em at *
  generalize lookL ps s.data.toList=lk at *
  cases sn with
  | false =>
    have e:chkI false=1:=rfl
    rw [e] at HC
    have HS:Hid (R=1):=HR.out.symm
    clear HR
    go_enter Tryz.func71,Tryz.ntmps71
    go_wp2_with (go_at_call 113;refine (HC.out _).mono ?_;rintro e w1 ⟨rfl,hb⟩;have B1:Hid (Below W.heap.size W w1):=bstep (by repeat (first|exact Below.refl _ _|refine Below.setCell ?_ (by simp;try omega) _|refine Below.alloc ?_ (by simp;try omega) _|refine Below.drew ?_)) hb;clear hb HC)
    exact bodyPost_ret (results_tmp rfl _ _ _) rfl ⟨by rw [HS.out];rfl,B1.out⟩
  | true =>
    have e:chkI true=0:=rfl
    rw [e] at HC
    cases em with
    | true =>
      have HS:Hid (R=0):=HR.out.symm
      clear HR
      go_enter Tryz.func71,Tryz.ntmps71
      go_wp2_with (first
        | (go_at_call 113;refine (HC.out _).mono ?_;rintro e w1 ⟨rfl,hb⟩;have h0:=(hb.block W.heap.size (by simp)).trans (halloc1 W _);have r0:=cell_of_row w1 W.heap.size 0 _ _ _ h0;have r1:=cell_of_row w1 W.heap.size 1 _ _ _ h0;simp only [List.getElem?_toArray,List.getElem?_cons_zero,List.getElem?_cons_succ] at r0 r1;have B1:Hid (Below W.heap.size W w1):=bstep (by repeat (first|exact Below.refl _ _|refine Below.setCell ?_ (by simp;try omega) _|refine Below.alloc ?_ (by simp;try omega) _|refine Below.drew ?_)) hb;clear hb HC h0)
        | (go_at_call 109;refine (HO.out _).mono ?_;rintro e w2 ⟨rfl,hb⟩;have B2:Hid (Below W.heap.size W w2):=bstep B1.out hb;clear hb HO))
      exact bodyPost_ret (results_tmp rfl _ _ _) rfl ⟨by rw [HS.out];rfl,B2.out⟩
    | false =>
      cases lk
      all_goals
        first|have HS:Hid (R=20):=HR.out.symm|have HS:Hid (R=0):=HR.out.symm
        clear HR
        simp only [bnV] at HN
        go_enter Tryz.func71,Tryz.ntmps71
        go_wp2_with (first
          | (go_at_call 113;refine (HC.out _).mono ?_;rintro e w1 ⟨rfl,hb⟩;have h0:=(hb.block W.heap.size (by simp)).trans (halloc1 W _);have r0:=cell_of_row w1 W.heap.size 0 _ _ _ h0;have r1:=cell_of_row w1 W.heap.size 1 _ _ _ h0;simp only [List.getElem?_toArray,List.getElem?_cons_zero,List.getElem?_cons_succ] at r0 r1;have hl:W.heap.size<w1.heap.size:=(Array.getElem?_eq_some_iff.1 h0).1;have B1:Hid (Below W.heap.size W w1):=bstep (by repeat (first|exact Below.refl _ _|refine Below.setCell ?_ (by simp;try omega) _|refine Below.alloc ?_ (by simp;try omega) _|refine Below.drew ?_)) hb;clear hb HC h0)
          | (go_at_call 109;refine (HO.out _).mono ?_;rintro e w2 ⟨rfl,hb⟩;have B2:Hid (Below W.heap.size W w2):=bstep B1.out hb;replace r0:=(hb.cell (p:=⟨W.heap.size,0,none⟩) hl).trans r0;replace r1:=(hb.cell (p:=⟨W.heap.size,1,none⟩) hl).trans r1;clear hb HO)
          | (go_at_call 56;refine (HN.out _ B2.out).mono ?_;rintro e w3 ⟨rfl,hb⟩;have B3:Hid (Below W.heap.size W w3):=bstep B2.out hb;clear hb HN))
        exact bodyPost_ret (results_tmp rfl _ _ _) rfl ⟨by rw [HS.out];rfl,B3.out⟩
def intB (d:Int) (s:ByteArray):Bool:=(d == 0)&&s.toList.isEmpty
theorem isInt_c (d:Int) (s:ByteArray) (W:World):Calls Tryz.prog 105 #[.agg #[.int .i64 d,.string s]] W fun e w'=>e=.returned (.bool (intB d s))∧Below W.heap.size W w':=by
  obtain ⟨R,hR⟩:∃ R,intB d s=R:=⟨_,rfl⟩
  have HR:Hid (((d == 0)&&s.toList.isEmpty)=R):=hR
  rw [hR]
  clear hR
  go_enter Tryz.func105,Tryz.ntmps105
  go_wp2
  all_goals go_ret
  all_goals exact ⟨retB (by rw [← HR.out];simp [*]),(by repeat (first|exact Below.refl _ _|refine Below.setCell ?_ (by simp;try omega) _|refine Below.alloc ?_ (by simp;try omega) _|refine Below.drew ?_))⟩
def sObj:List UInt8:=[79,98,106,101,99,116]
def sClo:List UInt8:=[67,108,111,110,101,97,98,108,101]
def sSer:List UInt8:=[83,101,114,105,97,108,105,122,97,98,108,101]
def abv3:List (List UInt8):=[sObj,sClo,sSer]
theorem above3_c (W:World):Calls Tryz.prog 110 #[] W fun e w'=>(∃ v,e=.returned v∧IsStrs w' v abv3)∧Below W.heap.size W w':=by
  go_enter Tryz.func110,Tryz.ntmps110
  go_wp2
  refine bodyPost_ret (results_tmp rfl _ _ _) rfl ⟨⟨_,rfl,_,_,rfl,by decide,by decide,fun _=>⟨W.heap.size,0,rfl,by simp,fun k p hk=>?_⟩⟩,(by repeat (first|exact Below.refl _ _|refine Below.setCell ?_ (by simp;try omega) _|refine Below.alloc ?_ (by simp;try omega) _|refine Below.drew ?_))⟩
  match k,hk with
  | 0,hk=>cases hk;simp [go_sem,sObj]
  | 1,hk=>cases hk;simp [go_sem,sClo]
  | 2,hk=>cases hk;simp [go_sem,sSer]
  | (k+3),hk=>simp [abv3] at hk
theorem aExt_c {b:Nat} {ps:List Plc} {W:World} (h:WAt b ps W) (hi:WI ps) (s t:ByteArray) (hs:s.size≤maxLen) (ht:t.size≤maxLen) (x y:Nat) (hx:lookL ps s.data.toList=some x) (hy:lookL ps t.data.toList=some y):Calls Tryz.prog 123 #[.pointer (some ⟨b,0,none⟩),.string s,.string t] W fun e w'=>e=.returned (.bool (extB (ps.map nd) x y))∧Below W.heap.size W w':=by
  obtain ⟨p,hp,_⟩:=look_place hx
  obtain ⟨q,hq,_⟩:=look_place hy
  have he:extI ps x y=extB (ps.map nd) x y:=by rw [extI,plcI_nat,plcI_nat,hp,hq];rfl
  have HX:Hid (∀ u w,Below W.heap.size W w→u=s→Calls Tryz.prog 56 #[.pointer (some ⟨b,0,none⟩),.string u] w fun e w'=>e=.returned (.tuple #[.int .i64 (x:Int),.int .i64 0])∧Below W.heap.size W w'):=fun u w hb hu=>(byName_c (h.below hb) u (by rw [hu];exact hs)).mono fun e w' zz=>⟨by rw [zz.1,hu,hx];rfl,bstep hb zz.2⟩
  have HY:Hid (∀ u w,Below W.heap.size W w→u=t→Calls Tryz.prog 56 #[.pointer (some ⟨b,0,none⟩),.string u] w fun e w'=>e=.returned (.tuple #[.int .i64 (y:Int),.int .i64 0])∧Below W.heap.size W w'):=fun u w hb hu=>(byName_c (h.below hb) u (by rw [hu];exact ht)).mono fun e w' zz=>⟨by rw [zz.1,hu,hy];rfl,bstep hb zz.2⟩
  have HE:Hid (∀ w,Below W.heap.size W w→Calls Tryz.prog 20 #[.pointer (some ⟨b,0,none⟩),.int .i64 (x:Int),.int .i64 (y:Int)] w fun e w'=>e=.returned (.bool (extB (ps.map nd) x y))∧Below W.heap.size W w'):=fun w hb=>(extends_c (h.below hb) hi x y).mono fun e w' zz=>⟨by rw [zz.1,he],bstep hb zz.2⟩
  generalize extB (ps.map nd) x y=R at *
  clear h hi hs ht hx hy hp hq he
  go_enter Tryz.func123,Tryz.ntmps123
  go_wp2_with (first
    | (go_at_call 56;refine (HX.out _ _ (Below.refl _ _) (by rfl)).mono ?_;rintro e w1 ⟨rfl,hb⟩;have B1:Hid (Below W.heap.size W w1):=hb;clear hb HX)
    | (go_at_call 56;refine (HY.out _ _ B1.out (by rfl)).mono ?_;rintro e w2 ⟨rfl,hb⟩;have B2:Hid (Below W.heap.size W w2):=hb;clear hb HY)
    | (go_at_call 20;refine (HE.out _ B2.out).mono ?_;rintro e w3 ⟨rfl,hb⟩;have B3:Hid (Below W.heap.size W w3):=hb;clear hb HE))
  exact bodyPost_ret (results_tmp rfl _ _ _) rfl ⟨rfl,B3.out⟩
def belB (ps:List Plc) (a:Nat) (s:ByteArray) (b:Nat) (t:ByteArray):Bool :=
  if intB (a:Int) s||intB (b:Int) t then ((a:Int) == (b:Int))&&(s.toList == t.toList)
  else if 0<b then false else if 0<a then abv3.contains t.data.toList
  else match lookL ps s.data.toList,lookL ps t.data.toList with
    | some x,some y=>extB (ps.map nd) x y
    | _,_=>false
set_option maxHeartbeats 4000000 in
theorem arrBelow_c {b:Nat} {ps:List Plc} {W:World} (h:WAt b ps W) (hi:WI ps) (da db M:Nat) (s t:ByteArray) (hs:s.size≤maxLen) (ht:t.size≤maxLen) (hab:da=0∨db=0) (hbg:da+M≤255∧db+M≤255) (hld:s.toList.isEmpty=false→∃ x,lookL ps s.data.toList=some x) (hlt:t.toList.isEmpty=false→∃ x,lookL ps t.data.toList=some x) :
    Calls Tryz.prog 81 #[.pointer (some ⟨b,0,none⟩),.agg #[.int .i64 ((da+M:Nat):Int),.string s],.agg #[.int .i64 ((db+M:Nat):Int),.string t]] W fun e w'=>e=.returned (.bool (belB ps da s db t))∧Below W.heap.size W w':=by
  have HI:Hid (∀ d u y w,intB d u=y→Calls Tryz.prog 105 #[.agg #[.int .i64 d,.string u]] w fun e w'=>e=.returned (.bool y)∧Below w.heap.size w w'):=fun d u y w hy=>by rw [← hy];exact isInt_c d u w
  have H3:Hid (∀ w:World,Calls Tryz.prog 110 #[] w fun e w'=>(∃ v,e=.returned v∧IsStrs w' v abv3)∧Below w.heap.size w w'):=above3_c
  have HCo:Hid (∀ v w,IsStrs w v abv3→Calls Tryz.prog 122 #[v,.string t] w fun e w'=>e=.returned (.bool (abv3.contains t.data.toList))∧Below w.heap.size w w'):=fun v w hv=>sContains_any v abv3 t.data.toList w hv
  have HX:Hid (∀ x y,lookL ps s.data.toList=some x→lookL ps t.data.toList=some y→∀ w,Below W.heap.size W w→Calls Tryz.prog 123 #[.pointer (some ⟨b,0,none⟩),.string s,.string t] w fun e w'=>e=.returned (.bool (extB (ps.map nd) x y))∧Below w.heap.size w w'):=fun x y hx hy w hb=>aExt_c (h.below hb) hi s t hs ht x y hx hy
  obtain ⟨R,hR⟩:∃ R,belB ps da s db t=R:=⟨_,rfl⟩
  have HR:Hid (belB ps da s db t=R):=hR
  rw [hR]
  have HLD:Hid _:=hld
  have HLT:Hid _:=hlt
  clear hR h hi hs ht hld hlt
  go_enter Tryz.func81,Tryz.ntmps81
  go_wp2
  go_loopg [] M (fun k wr=>k≤M∧Hid (wr.heap[W.heap.size]?=some (.cells #[.int .i64 ((da+k:Nat):Int),.string s] 24 (0,0)))∧Hid (wr.heap[W.heap.size+1]?=some (.cells #[.int .i64 ((db+k:Nat):Int),.string t] 24 (0,0)))∧Hid (Below W.heap.size W wr))
  case atStart=>exact ⟨Nat.le_refl _,heap_alloc2_old W _ _,heap_alloc2_new W _ _,(by repeat (first|exact Below.refl _ _|refine Below.setCell ?_ (by simp;try omega) _|refine Below.alloc ?_ (by simp;try omega) _|refine Below.drew ?_))⟩
  case round =>
    obtain ⟨hkM,hA,hB,hb⟩:=hrel
    have hsA:W.heap.size<wr.heap.size:=(Array.getElem?_eq_some_iff.1 hA.out).1
    have hsB:W.heap.size+1<wr.heap.size:=(Array.getElem?_eq_some_iff.1 hB.out).1
    have a0:=cell_of_row wr W.heap.size 0 _ _ _ hA.out
    have fa0:=frozen_of_row wr W.heap.size 0 _ _ hA.out
    have a1:=cell_of_row wr W.heap.size 1 _ _ _ hA.out
    have b0:=cell_of_row wr (W.heap.size+1) 0 _ _ _ hB.out
    have fb0:=frozen_of_row wr (W.heap.size+1) 0 _ _ hB.out
    have b1:=cell_of_row wr (W.heap.size+1) 1 _ _ _ hB.out
    simp only [List.getElem?_toArray,List.getElem?_cons_zero,List.getElem?_cons_succ] at a0 a1 b0 b1
    cases gk with
    | succ k =>
      have h1:(0:Int)<((da+(k+1):Nat):Int):=by omega
      have h2:(0:Int)<((db+(k+1):Nat):Int):=by omega
      go_wp2
      go_roundg k
      case rel =>
        have ea:((da:Int)+((k:Int)+1) - 1)=((da+k:Nat):Int):=by omega
        have eb:((db:Int)+((k:Int)+1) - 1)=((db+k:Nat):Int):=by omega
        rw [ea,eb]
        refine ⟨by omega,?_,?_,?_⟩
        · rw [Hid,heap_setCell_other _ _ _ _ (by simp),heap_setCell_same _ _ _ _ _ _ hA.out];rfl
        · rw [Hid,heap_setCell_same _ _ _ #[.int .i64 ((db+(k+1):Nat):Int),.string t] 24 _ (by rw [heap_setCell_other _ _ _ _ (by simp)];exact hB.out)];rfl
        · exact (hb.out.setCell (by simp) _).setCell (by simp) _
      case measure=>omega
    | zero =>
      simp only [Nat.add_zero] at a0 b0
      have hN:¬ ((0:Int)<(da:Int)∧(0:Int)<(db:Int)):=by omega
      clear hA hB fa0 fb0
      obtain ⟨i1,hi1⟩:∃ x,intB (da:Int) s=x:=⟨_,rfl⟩
      obtain ⟨i2,hi2⟩:∃ x,intB (db:Int) t=x:=⟨_,rfl⟩
      unfold belB at HR
      rw [hi1,hi2] at HR
      have E1:Hid _:=hi1
      have E2:Hid _:=hi2
      clear hi1 hi2
      have BB:Hid (Below W.heap.size W wr):=hb
      clear hb
      cases i1 with
      | true =>
        simp only [Bool.true_or,if_true] at HR
        clear HX HLD HLT hab hbg hkM
        generalize (da:Int)=xa at *
        generalize (db:Int)=xb at *
        go_wp2_with (first
          | (go_at_call 105;refine (HI.out _ _ _ _ (by first|exact E1.out|exact E2.out)).mono ?_;rintro e w1 ⟨rfl,hb1⟩;have BB2:Below W.heap.size W w1:=bstep BB.out hb1;replace a0:=(hb1.cell (p:=⟨W.heap.size,0,none⟩) hsA).trans a0;replace a1:=(hb1.cell (p:=⟨W.heap.size,1,none⟩) hsA).trans a1;replace b0:=(hb1.cell (p:=⟨W.heap.size+1,0,none⟩) hsB).trans b0;replace b1:=(hb1.cell (p:=⟨W.heap.size+1,1,none⟩) hsB).trans b1;replace hsA:=Nat.lt_of_lt_of_le hsA hb1.size;replace hsB:=Nat.lt_of_lt_of_le hsB hb1.size;clear BB;have BB:Hid (Below W.heap.size W w1):=BB2;clear hb1 BB2)
          | (go_at_call 110;refine (H3.out _).mono ?_;rintro e w1 ⟨⟨vv,rfl,hv⟩,hb1⟩;have HV:Hid (IsStrs w1 vv abv3):=hv;have BB2:Below W.heap.size W w1:=bstep BB.out hb1;replace b1:=(hb1.cell (p:=⟨W.heap.size+1,1,none⟩) hsB).trans b1;clear BB;have BB:Hid (Below W.heap.size W w1):=BB2;clear hb1 BB2 hv)
          | (go_at_call 122;refine (HCo.out _ _ HV.out).mono ?_;rintro e w2 ⟨rfl,hb1⟩;have BB2:Below W.heap.size W w2:=bstep BB.out hb1;clear BB;have BB:Hid (Below W.heap.size W w2):=BB2;clear hb1 BB2)
          | (go_at_call 123;refine (HX.out _ BB.out).mono ?_;rintro e w2 ⟨rfl,hb1⟩;have BB2:Below W.heap.size W w2:=bstep BB.out hb1;clear BB;have BB:Hid (Below W.heap.size W w2):=BB2;clear hb1 BB2))
        all_goals go_ret
        all_goals exact ⟨retB (by rw [← HR.out];first|(simp [*];done)|(simp [*];intro h;exfalso;omega)),BB.out⟩
      | false =>
        cases i2 with
        | true =>
          simp only [Bool.or_true,if_true] at HR
          clear HX HLD HLT hab hbg hkM
          generalize (da:Int)=xa at *
          generalize (db:Int)=xb at *
          go_wp2_with (first
            | (go_at_call 105;refine (HI.out _ _ _ _ (by first|exact E1.out|exact E2.out)).mono ?_;rintro e w1 ⟨rfl,hb1⟩;have BB2:Below W.heap.size W w1:=bstep BB.out hb1;replace a0:=(hb1.cell (p:=⟨W.heap.size,0,none⟩) hsA).trans a0;replace a1:=(hb1.cell (p:=⟨W.heap.size,1,none⟩) hsA).trans a1;replace b0:=(hb1.cell (p:=⟨W.heap.size+1,0,none⟩) hsB).trans b0;replace b1:=(hb1.cell (p:=⟨W.heap.size+1,1,none⟩) hsB).trans b1;replace hsA:=Nat.lt_of_lt_of_le hsA hb1.size;replace hsB:=Nat.lt_of_lt_of_le hsB hb1.size;clear BB;have BB:Hid (Below W.heap.size W w1):=BB2;clear hb1 BB2)
            | (go_at_call 110;refine (H3.out _).mono ?_;rintro e w1 ⟨⟨vv,rfl,hv⟩,hb1⟩;have HV:Hid (IsStrs w1 vv abv3):=hv;have BB2:Below W.heap.size W w1:=bstep BB.out hb1;replace b1:=(hb1.cell (p:=⟨W.heap.size+1,1,none⟩) hsB).trans b1;clear BB;have BB:Hid (Below W.heap.size W w1):=BB2;clear hb1 BB2 hv)
            | (go_at_call 122;refine (HCo.out _ _ HV.out).mono ?_;rintro e w2 ⟨rfl,hb1⟩;have BB2:Below W.heap.size W w2:=bstep BB.out hb1;clear BB;have BB:Hid (Below W.heap.size W w2):=BB2;clear hb1 BB2)
            | (go_at_call 123;refine (HX.out _ BB.out).mono ?_;rintro e w2 ⟨rfl,hb1⟩;have BB2:Below W.heap.size W w2:=bstep BB.out hb1;clear BB;have BB:Hid (Below W.heap.size W w2):=BB2;clear hb1 BB2))
          all_goals go_ret
          all_goals exact ⟨retB (by rw [← HR.out];first|(simp [*];done)|(simp [*];intro h;exfalso;omega)),BB.out⟩
        | false =>
          simp only [Bool.or_false,Bool.false_eq_true,if_false] at HR
          by_cases hdb:0<db
          · rw [if_pos hdb] at HR
            have hdb2:(0:Int)<(db:Int):=by omega
            clear HX HLD HLT
            go_wp2_with (first
              | (go_at_call 105;refine (HI.out _ _ _ _ (by first|exact E1.out|exact E2.out)).mono ?_;rintro e w1 ⟨rfl,hb1⟩;have BB2:Below W.heap.size W w1:=bstep BB.out hb1;replace a0:=(hb1.cell (p:=⟨W.heap.size,0,none⟩) hsA).trans a0;replace a1:=(hb1.cell (p:=⟨W.heap.size,1,none⟩) hsA).trans a1;replace b0:=(hb1.cell (p:=⟨W.heap.size+1,0,none⟩) hsB).trans b0;replace b1:=(hb1.cell (p:=⟨W.heap.size+1,1,none⟩) hsB).trans b1;replace hsA:=Nat.lt_of_lt_of_le hsA hb1.size;replace hsB:=Nat.lt_of_lt_of_le hsB hb1.size;clear BB;have BB:Hid (Below W.heap.size W w1):=BB2;clear hb1 BB2)
              | (go_at_call 110;refine (H3.out _).mono ?_;rintro e w1 ⟨⟨vv,rfl,hv⟩,hb1⟩;have HV:Hid (IsStrs w1 vv abv3):=hv;have BB2:Below W.heap.size W w1:=bstep BB.out hb1;replace b1:=(hb1.cell (p:=⟨W.heap.size+1,1,none⟩) hsB).trans b1;clear BB;have BB:Hid (Below W.heap.size W w1):=BB2;clear hb1 BB2 hv)
              | (go_at_call 122;refine (HCo.out _ _ HV.out).mono ?_;rintro e w2 ⟨rfl,hb1⟩;have BB2:Below W.heap.size W w2:=bstep BB.out hb1;clear BB;have BB:Hid (Below W.heap.size W w2):=BB2;clear hb1 BB2)
              | (go_at_call 123;refine (HX.out _ BB.out).mono ?_;rintro e w2 ⟨rfl,hb1⟩;have BB2:Below W.heap.size W w2:=bstep BB.out hb1;clear BB;have BB:Hid (Below W.heap.size W w2):=BB2;clear hb1 BB2))
            all_goals go_ret
            all_goals exact ⟨retB HR.out,BB.out⟩
          · rw [if_neg hdb] at HR
            have hdb2:¬ (0:Int)<(db:Int):=by omega
            by_cases hda:0<da
            · rw [if_pos hda] at HR
              generalize abv3.contains t.data.toList=ct at *
              have hda2:(0:Int)<(da:Int):=by omega
              clear HX HLD HLT
              go_wp2_with (first
                | (go_at_call 105;refine (HI.out _ _ _ _ (by first|exact E1.out|exact E2.out)).mono ?_;rintro e w1 ⟨rfl,hb1⟩;have BB2:Below W.heap.size W w1:=bstep BB.out hb1;replace a0:=(hb1.cell (p:=⟨W.heap.size,0,none⟩) hsA).trans a0;replace a1:=(hb1.cell (p:=⟨W.heap.size,1,none⟩) hsA).trans a1;replace b0:=(hb1.cell (p:=⟨W.heap.size+1,0,none⟩) hsB).trans b0;replace b1:=(hb1.cell (p:=⟨W.heap.size+1,1,none⟩) hsB).trans b1;replace hsA:=Nat.lt_of_lt_of_le hsA hb1.size;replace hsB:=Nat.lt_of_lt_of_le hsB hb1.size;clear BB;have BB:Hid (Below W.heap.size W w1):=BB2;clear hb1 BB2)
                | (go_at_call 110;refine (H3.out _).mono ?_;rintro e w1 ⟨⟨vv,rfl,hv⟩,hb1⟩;have HV:Hid (IsStrs w1 vv abv3):=hv;have BB2:Below W.heap.size W w1:=bstep BB.out hb1;replace b1:=(hb1.cell (p:=⟨W.heap.size+1,1,none⟩) hsB).trans b1;clear BB;have BB:Hid (Below W.heap.size W w1):=BB2;clear hb1 BB2 hv)
                | (go_at_call 122;refine (HCo.out _ _ HV.out).mono ?_;rintro e w2 ⟨rfl,hb1⟩;have BB2:Below W.heap.size W w2:=bstep BB.out hb1;clear BB;have BB:Hid (Below W.heap.size W w2):=BB2;clear hb1 BB2)
                | (go_at_call 123;refine (HX.out _ BB.out).mono ?_;rintro e w2 ⟨rfl,hb1⟩;have BB2:Below W.heap.size W w2:=bstep BB.out hb1;clear BB;have BB:Hid (Below W.heap.size W w2):=BB2;clear hb1 BB2))
              go_region_held3 (fun w'=>w'.cell? ⟨W.heap.size+1,1,none⟩=some (.string t)) (go_keep) (first
                | (go_at_call 110;refine (H3.out _).mono ?_;rintro e w3 ⟨⟨vv,rfl,hv⟩,hb1⟩;have HV:Hid (IsStrs w3 vv abv3):=hv;obtain ⟨ao,cap,rfl,_,_,_⟩:=hv;have BB2:Below W.heap.size W w3:=bstep BB.out.drew hb1;replace b1:w3.cell? ⟨W.heap.size+1,1,none⟩=some (.string t):=(hb1.cell (p:=⟨W.heap.size+1,1,none⟩) hsB).trans b1;clear BB;have BB:Hid (Below W.heap.size W w3):=BB2;clear hb1 BB2 H3)
                | (go_at_call 122;refine (HCo.out _ _ HV.out).mono ?_;rintro e w4 ⟨rfl,hb1⟩;have BB2:Below W.heap.size W w4:=bstep BB.out hb1;replace b1:w4.cell? ⟨W.heap.size+1,1,none⟩=some (.string t):=(hb1.cell (p:=⟨W.heap.size+1,1,none⟩) (World.block_lt_of_cell? _ _ b1)).trans b1;clear BB;have BB:Hid (Below W.heap.size W w4):=BB2;clear hb1 BB2 HCo))
              go_wp2
              all_goals go_ret
              all_goals exact ⟨retB HR.out,BB.out⟩
            · rw [if_neg hda] at HR
              have hda2:¬ (0:Int)<(da:Int):=by omega
              have hes:s.toList.isEmpty=false:=by
                have:=E1.out
                unfold intB at this
                rw [show (da:Int)=0 by omega] at this
                simpa using this
              have het:t.toList.isEmpty=false:=by
                have:=E2.out
                unfold intB at this
                rw [show (db:Int)=0 by omega] at this
                simpa using this
              obtain ⟨x,hx⟩:=HLD.out hes
              obtain ⟨y,hy⟩:=HLT.out het
              rw [hx,hy] at HR
              simp only at HR
              have HX:Hid _:=HX.out x y hx hy
              clear HLD HLT hes het hx hy
              go_wp2_with (first
                | (go_at_call 105;refine (HI.out _ _ _ _ (by first|exact E1.out|exact E2.out)).mono ?_;rintro e w1 ⟨rfl,hb1⟩;have BB2:Below W.heap.size W w1:=bstep BB.out hb1;replace a0:=(hb1.cell (p:=⟨W.heap.size,0,none⟩) hsA).trans a0;replace a1:=(hb1.cell (p:=⟨W.heap.size,1,none⟩) hsA).trans a1;replace b0:=(hb1.cell (p:=⟨W.heap.size+1,0,none⟩) hsB).trans b0;replace b1:=(hb1.cell (p:=⟨W.heap.size+1,1,none⟩) hsB).trans b1;replace hsA:=Nat.lt_of_lt_of_le hsA hb1.size;replace hsB:=Nat.lt_of_lt_of_le hsB hb1.size;clear BB;have BB:Hid (Below W.heap.size W w1):=BB2;clear hb1 BB2)
                | (go_at_call 110;refine (H3.out _).mono ?_;rintro e w1 ⟨⟨vv,rfl,hv⟩,hb1⟩;have HV:Hid (IsStrs w1 vv abv3):=hv;have BB2:Below W.heap.size W w1:=bstep BB.out hb1;replace b1:=(hb1.cell (p:=⟨W.heap.size+1,1,none⟩) hsB).trans b1;clear BB;have BB:Hid (Below W.heap.size W w1):=BB2;clear hb1 BB2 hv)
                | (go_at_call 122;refine (HCo.out _ _ HV.out).mono ?_;rintro e w2 ⟨rfl,hb1⟩;have BB2:Below W.heap.size W w2:=bstep BB.out hb1;clear BB;have BB:Hid (Below W.heap.size W w2):=BB2;clear hb1 BB2)
                | (go_at_call 123;refine (HX.out _ BB.out).mono ?_;rintro e w2 ⟨rfl,hb1⟩;have BB2:Below W.heap.size W w2:=bstep BB.out hb1;clear BB;have BB:Hid (Below W.heap.size W w2):=BB2;clear hb1 BB2))
              all_goals go_ret
              all_goals exact ⟨retB HR.out,BB.out⟩
def subB (ps:List Plc) (x:Int) (s:ByteArray) (y:Int) (t:ByteArray):Bool:=belB ps (x.toNat - min x.toNat y.toNat) s (y.toNat - min x.toNat y.toNat) t
def suI (ps:List Plc) (x:Int) (s:ByteArray) (y:Int) (t:ByteArray):Value :=
  if ldI ps x s=0 then (if ldI ps y t=0 then .tuple #[.bool (subB ps x s y t),.int .i64 0] else .tuple #[.bool false,.int .i64 (ldI ps y t)]) else .tuple #[.bool false,.int .i64 (ldI ps x s)]
theorem ld_facts {ps:List Plc} {x:Int} {s:ByteArray} (h:ldI ps x s=0):0≤x∧x≤255∧(s.toList.isEmpty=false→∃ k,lookL ps s.data.toList=some k):=by
  unfold ldI at h
  cases hs:sndB x s.data.toList with
  | false=>rw [hs] at h;revert h;simp
  | true =>
    rw [hs] at h
    have hs2:=hs
    unfold sndB at hs2
    simp only [Bool.and_eq_true,decide_eq_true_eq] at hs2
    refine ⟨hs2.1.1,hs2.1.2,fun he=>?_⟩
    rw [he] at h
    cases hl:lookL ps s.data.toList with
    | some k=>exact ⟨k,rfl⟩
    | none=>rw [hl] at h;revert h;simp
set_option maxHeartbeats 1000000 in
theorem sub_c {b:Nat} {ps:List Plc} {W:World} (h:WAt b ps W) (hi:WI ps) (x:Int) (s:ByteArray) (y:Int) (t:ByteArray) (hs:s.size≤maxLen) (ht:t.size≤maxLen):Calls Tryz.prog 23 #[.pointer (some ⟨b,0,none⟩),.agg #[.int .i64 x,.string s],.agg #[.int .i64 y,.string t]] W fun e w'=>e=.returned (suI ps x s y t)∧Below W.heap.size W w':=by
  have HL:Hid (∀ z u r w,Below W.heap.size W w→u.size≤maxLen→ldI ps z u=r→Calls Tryz.prog 71 #[.pointer (some ⟨b,0,none⟩),.agg #[.int .i64 z,.string u]] w fun e w'=>e=.returned (.int .i64 r)∧Below w.heap.size w w'):=fun z u r w hb hu hr=>by rw [← hr];exact loaded_c (h.below hb) z u hu
  have HL1:Hid (∀ z u w,Below W.heap.size W w→z=x→u=s→Calls Tryz.prog 71 #[.pointer (some ⟨b,0,none⟩),.agg #[.int .i64 z,.string u]] w fun e w'=>e=.returned (.int .i64 (ldI ps x s))∧Below w.heap.size w w'):=fun z u w hb hz hu=>by rw [hz,hu];exact HL.out x s _ w hb hs rfl
  have HL2:Hid (∀ z u w,Below W.heap.size W w→z=y→u=t→Calls Tryz.prog 71 #[.pointer (some ⟨b,0,none⟩),.agg #[.int .i64 z,.string u]] w fun e w'=>e=.returned (.int .i64 (ldI ps y t))∧Below w.heap.size w w'):=fun z u w hb hz hu=>by rw [hz,hu];exact HL.out y t _ w hb ht rfl
  clear HL
  have tl:∀ (w1:World) (o1 o2:Obj),Below ((W.alloc o1).alloc o2).heap.size ((W.alloc o1).alloc o2) w1→True:=fun _ _ _ _=>trivial
  clear tl
  by_cases h1:ldI ps x s=0
  · by_cases h2:ldI ps y t=0
    · have e:suI ps x s y t=.tuple #[.bool (subB ps x s y t),.int .i64 0]:=by rw [suI,if_pos h1,if_pos h2]
      rw [e]
      obtain ⟨x0,x1,xk⟩:=ld_facts h1
      obtain ⟨y0,y1,yk⟩:=ld_facts h2
      have HB:Hid (∀ w,Below W.heap.size W w→Calls Tryz.prog 81 #[.pointer (some ⟨b,0,none⟩),.agg #[.int .i64 x,.string s],.agg #[.int .i64 y,.string t]] w fun e w'=>e=.returned (.bool (subB ps x s y t))∧Below w.heap.size w w'):=fun w hb=>by
        have hq:=arrBelow_c (h.below hb) hi (x.toNat - min x.toNat y.toNat) (y.toNat - min x.toNat y.toNat) (min x.toNat y.toNat) s t hs ht (by omega) (by omega) xk yk
        rw [show ((x.toNat - min x.toNat y.toNat+min x.toNat y.toNat:Nat):Int)=x by omega,show ((y.toNat - min x.toNat y.toNat+min x.toNat y.toNat:Nat):Int)=y by omega] at hq
        exact hq
      rw [h1] at HL1
      rw [h2] at HL2
      generalize subB ps x s y t=R at *
      clear h hi hs ht h1 h2 e x0 x1 xk y0 y1 yk
      go_enter Tryz.func23,Tryz.ntmps23
      go_wp2_with (first
        | (go_at_call 71;refine (HL1.out _ _ _ (by repeat (first|exact Below.refl _ _|refine Below.setCell ?_ (by simp;try omega) _|refine Below.alloc ?_ (by simp;try omega) _|refine Below.drew ?_)) (by rfl) (by rfl)).mono ?_;rintro e w1 ⟨rfl,hb⟩;have hA:=(hb.block W.heap.size (by simp;omega)).trans (heap_alloc2_old W _ _);have hB:=(hb.block (W.heap.size+1) (by simp)).trans (heap_alloc2_new W _ _);have hsA:W.heap.size<w1.heap.size:=(Array.getElem?_eq_some_iff.1 hA).1;have hsB:W.heap.size+1<w1.heap.size:=(Array.getElem?_eq_some_iff.1 hB).1;have a0:=cell_of_row w1 W.heap.size 0 _ _ _ hA;have a1:=cell_of_row w1 W.heap.size 1 _ _ _ hA;have b0:=cell_of_row w1 (W.heap.size+1) 0 _ _ _ hB;have b1:=cell_of_row w1 (W.heap.size+1) 1 _ _ _ hB;simp only [List.getElem?_toArray,List.getElem?_cons_zero,List.getElem?_cons_succ] at a0 a1 b0 b1;have BB:Hid (Below W.heap.size W w1):=bstep (by repeat (first|exact Below.refl _ _|refine Below.setCell ?_ (by simp;try omega) _|refine Below.alloc ?_ (by simp;try omega) _|refine Below.drew ?_)) hb;clear hb HL1 hA hB)
        | (go_at_call 71;refine (HL2.out _ _ _ BB.out (by rfl) (by rfl)).mono ?_;rintro e w2 ⟨rfl,hb⟩;replace a0:=(hb.cell (p:=⟨W.heap.size,0,none⟩) hsA).trans a0;replace a1:=(hb.cell (p:=⟨W.heap.size,1,none⟩) hsA).trans a1;replace b0:=(hb.cell (p:=⟨W.heap.size+1,0,none⟩) hsB).trans b0;replace b1:=(hb.cell (p:=⟨W.heap.size+1,1,none⟩) hsB).trans b1;have BB2:Below W.heap.size W w2:=bstep BB.out hb;clear BB;have BB:Hid (Below W.heap.size W w2):=BB2;clear hb BB2 HL2)
        | (go_at_call 81;refine (HB.out _ BB.out).mono ?_;rintro e w3 ⟨rfl,hb⟩;have BB2:Below W.heap.size W w3:=bstep BB.out hb;clear BB;have BB:Hid (Below W.heap.size W w3):=BB2;clear hb BB2 HB))
      exact bodyPost_ret (results_tmp2 rfl _ _ _) rfl ⟨rfl,BB.out⟩
    · have e:suI ps x s y t=.tuple #[.bool false,.int .i64 (ldI ps y t)]:=by rw [suI,if_pos h1,if_neg h2]
      rw [e]
      rw [h1] at HL1
      generalize ldI ps y t=R at *
      clear h hi hs ht h1 e
      go_enter Tryz.func23,Tryz.ntmps23
      go_wp2_with (first
        | (go_at_call 71;refine (HL1.out _ _ _ (by repeat (first|exact Below.refl _ _|refine Below.setCell ?_ (by simp;try omega) _|refine Below.alloc ?_ (by simp;try omega) _|refine Below.drew ?_)) (by rfl) (by rfl)).mono ?_;rintro e w1 ⟨rfl,hb⟩;have hA:=(hb.block W.heap.size (by simp;omega)).trans (heap_alloc2_old W _ _);have hB:=(hb.block (W.heap.size+1) (by simp)).trans (heap_alloc2_new W _ _);have a0:=cell_of_row w1 W.heap.size 0 _ _ _ hA;have a1:=cell_of_row w1 W.heap.size 1 _ _ _ hA;have b0:=cell_of_row w1 (W.heap.size+1) 0 _ _ _ hB;have b1:=cell_of_row w1 (W.heap.size+1) 1 _ _ _ hB;simp only [List.getElem?_toArray,List.getElem?_cons_zero,List.getElem?_cons_succ] at a0 a1 b0 b1;have BB:Hid (Below W.heap.size W w1):=bstep (by repeat (first|exact Below.refl _ _|refine Below.setCell ?_ (by simp;try omega) _|refine Below.alloc ?_ (by simp;try omega) _|refine Below.drew ?_)) hb;clear hb HL1 hA hB)
        | (go_at_call 71;refine (HL2.out _ _ _ BB.out (by rfl) (by rfl)).mono ?_;rintro e w2 ⟨rfl,hb⟩;have BB2:Below W.heap.size W w2:=bstep BB.out hb;clear BB;have BB:Hid (Below W.heap.size W w2):=BB2;clear hb BB2 HL2))
      exact bodyPost_ret (results_tmp2 rfl _ _ _) rfl ⟨rfl,BB.out⟩
  · have e:suI ps x s y t=.tuple #[.bool false,.int .i64 (ldI ps x s)]:=by rw [suI,if_neg h1]
    rw [e]
    generalize ldI ps x s=R at *
    clear h hi hs ht e
    go_enter Tryz.func23,Tryz.ntmps23
    go_wp2_with (first
      | (go_at_call 71;refine (HL1.out _ _ _ (by repeat (first|exact Below.refl _ _|refine Below.setCell ?_ (by simp;try omega) _|refine Below.alloc ?_ (by simp;try omega) _|refine Below.drew ?_)) (by rfl) (by rfl)).mono ?_;rintro e w1 ⟨rfl,hb⟩;have BB:Hid (Below W.heap.size W w1):=bstep (by repeat (first|exact Below.refl _ _|refine Below.setCell ?_ (by simp;try omega) _|refine Below.alloc ?_ (by simp;try omega) _|refine Below.drew ?_)) hb;clear hb HL1))
    exact bodyPost_ret (results_tmp2 rfl _ _ _) rfl ⟨rfl,BB.out⟩
def NmW (ps:List Plc):Prop:=∀ k q,ps[k]?=some q→lookL ps (nameL q)=some k∧validL (nameL q)=true
theorem cls_name {c:Cls} (h:clsB c=true):validL c.nm.data.toList=true:=by
  unfold clsB at h
  simp only [Bool.and_eq_true] at h
  exact h.1.1.1.1.1.1.1.1.1
theorem nmW (l:List Cls) (hl:∀ c∈l,ClsW c):NmW (wld l):=by
  refine wld_ind (P:=NmW) (fun k q hk=>?_) (fun ps c h hc=>?_) l hl
  · match k,hk with
    | 0,hk=>simp [P3] at hk;subst hk;exact ⟨by decide,by decide⟩
    | 1,hk=>simp [P3] at hk;subst hk;exact ⟨by decide,by decide⟩
    | 2,hk=>simp [P3] at hk;subst hk;exact ⟨by decide,by decide⟩
    | (k+3),hk=>simp [P3] at hk
  · cases hd:defN ps c with
    | error e=>exact h
    | ok p =>
      obtain ⟨h1,_,hn,s,l,_,_,rfl⟩:=def_ok hd
      intro k q hk
      have hk2:(ps++[(⟨hcOf c,s,gathL (ps.map Plc.cl) s l⟩:Plc)])[k]?=some q:=hk
      show lookL (ps++[_]) (nameL q)=some k∧_
      by_cases hlt:k<ps.length
      · rw [List.getElem?_append_left hlt] at hk2
        obtain ⟨h2,h3⟩:=h k q hk2
        exact ⟨look_snoc h2 hn,h3⟩
      · rw [List.getElem?_append_right (by omega)] at hk2
        have he:k - ps.length=0:=by
          have:=(List.getElem?_eq_some_iff.1 hk2).1
          simp at this;omega
        rw [he] at hk2
        simp at hk2
        subst hk2
        refine ⟨?_,cls_name h1⟩
        rw [lookL,lookF_snoc,if_pos rfl]
        congr 1;omega
theorem wld_pre (l:List Cls) (hl:∀ c∈l,ClsW c):∃ r,wld l=P3++r:=by
  refine wld_ind (P:=fun ps=>∃ r,ps=P3++r) ⟨[],by simp⟩ (fun ps c h _=>?_) l hl
  obtain ⟨r,rfl⟩:=h
  cases defN (P3++r) c with
  | error e=>exact ⟨r,rfl⟩
  | ok p=>exact ⟨r++[p],by simp [dfP]⟩
structure TyW (ps:List Plc):Prop where
  wi:WI ps
  nm:NmW ps
  pre:∃ r,ps=P3++r
theorem tyW (l:List Cls) (hl:∀ c∈l,ClsW c):TyW (wld l):=⟨wld_wi l hl,nmW l hl,wld_pre l hl⟩
theorem TyW.first {ps:List Plc} (h:TyW ps):ps[0]?=some ⟨objH,0,[]⟩∧ps[1]?=some ⟨cloH,0,[]⟩∧ps[2]?=some ⟨serH,0,[]⟩:=by
  obtain ⟨r,rfl⟩:=h.pre
  exact ⟨rfl,rfl,rfl⟩
theorem TyW.name {ps:List Plc} (_h:TyW ps) {key:List UInt8} {k:Nat} (hk:lookL ps key=some k):∃ q,ps[k]?=some q∧nameL q=key:=look_place hk
theorem TyW.look3 {ps:List Plc} (h:TyW ps):lookL ps sObj=some 0∧lookL ps sClo=some 1∧lookL ps sSer=some 2:=by
  obtain ⟨h0,h1,h2⟩:=h.first
  exact ⟨(h.nm 0 _ h0).1,(h.nm 1 _ h1).1,(h.nm 2 _ h2).1⟩
theorem TyW.inj {ps:List Plc} (h:TyW ps) {a b:List UInt8} {k:Nat} (ha:lookL ps a=some k) (hb:lookL ps b=some k):a=b:=by
  obtain ⟨q,h1,h2⟩:=h.name ha
  obtain ⟨q',h3,h4⟩:=h.name hb
  rw [h1] at h3
  cases h3
  rw [← h2,← h4]
theorem sub_iff {ps:List Plc} {x y:Int} {s t:ByteArray} (hx:ldI ps x s=0) (hy:ldI ps y t=0):subB ps x s y t=true ↔
    (s.toList.isEmpty=true∧t.toList.isEmpty=true∧x=y)∨(t.toList.isEmpty=false∧y<x∧t.data.toList∈abv3)∨(s.toList.isEmpty=false∧t.toList.isEmpty=false∧x=y∧∃ i j,lookL ps s.data.toList=some i∧lookL ps t.data.toList=some j∧extB (ps.map nd) i j=true):=by
  obtain ⟨x0,x1,xk⟩:=ld_facts hx
  obtain ⟨y0,y1,yk⟩:=ld_facts hy
  obtain ⟨a,rfl⟩:∃ a:Nat,x=(a:Int):=⟨x.toNat,by omega⟩
  obtain ⟨b,rfl⟩:∃ b:Nat,y=(b:Int):=⟨y.toNat,by omega⟩
  unfold subB belB intB
  simp only [Int.toNat_natCast]
  have em:∀ u v:ByteArray,u.toList.isEmpty=true→v.toList.isEmpty=true→u.toList=v.toList:=fun u v hu hv=>by
    rw [List.isEmpty_iff] at hu hv;rw [hu,hv]
  cases hs:s.toList.isEmpty with
  | true =>
    cases ht:t.toList.isEmpty with
    | true =>
      have e:=em s t hs ht
      simp only [Bool.and_true,e,beq_self_eq_true]
      by_cases hab:a=b
      · subst hab;simp
      · have:((a - min a b:Nat):Int)=0∨((b - min a b:Nat):Int)=0:=by omega
        rw [if_pos (by rcases this with h|h <;> simp [h])]
        simp only [beq_iff_eq,false_and,or_false,reduceCtorEq,true_and]
        omega
    | false =>
      by_cases hab:a≤b
      · rw [if_pos (by simp;omega)]
        have hne:(s.toList == t.toList)=false:=by
          rw [Bool.eq_false_iff];intro h;rw [beq_iff_eq] at h;rw [h,ht] at hs;cases hs
        rw [hne];simp;intro h;omega
      · rw [if_neg (by simp;omega),if_neg (by omega),if_pos (by omega)]
        simp only [List.contains_iff_mem,Bool.false_eq_true,false_and,and_false,or_false,false_or,reduceCtorEq,true_and]
        constructor
        · exact fun h=>⟨by omega,h⟩
        · exact fun h=>h.2
  | false =>
    cases ht:t.toList.isEmpty with
    | true =>
      have hne:(s.toList == t.toList)=false:=by
        rw [Bool.eq_false_iff];intro h;rw [beq_iff_eq] at h;rw [h,ht] at hs;cases hs
      rw [hne]
      by_cases hab:b≤a
      · rw [if_pos (by simp;omega)];simp
      · rw [if_neg (by simp;omega),if_pos (by omega)];simp
    | false =>
      rw [if_neg (by simp)]
      obtain ⟨i,hi⟩:=xk hs
      obtain ⟨j,hj⟩:=yk ht
      simp only [hi,hj,Bool.false_eq_true,false_and,false_or,true_and,Option.some.injEq]
      by_cases h1:a<b
      · rw [if_pos (by omega)]
        constructor
        · intro h;cases h
        · rintro (⟨h,_⟩|⟨h,_⟩) <;> omega
      · rw [if_neg (by omega)]
        by_cases h2:b<a
        · rw [if_pos (by omega),List.contains_iff_mem]
          constructor
          · exact fun h=>.inl ⟨by omega,h⟩
          · rintro (⟨_,h⟩|⟨h,_⟩)
            · exact h
            · omega
        · rw [if_neg (by omega)]
          constructor
          · exact fun h=>.inr ⟨by omega,i,j,rfl,rfl,h⟩
          · rintro (⟨h,_⟩|⟨_,i',j',rfl,rfl,h⟩)
            · omega
            · exact h
end Go.Proofs.YtkclpcmkplbclaaGreat
