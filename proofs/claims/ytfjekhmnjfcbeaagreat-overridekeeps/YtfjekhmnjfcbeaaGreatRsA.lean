import Derived.Test.YtfjekhmnjfcbeaaGreatHrQ
import Derived.Test.YtfjekhmnjfcbeaaGreatOrdB
import Derived.Test.YtfjekhmnjfcbeaaGreatMxC
import Derived.Test.YtfjekhmnjfcbeaaGreatRfA
import Derived.Test.YtfjekhmnjfcbeaaGreatFOwnA
import Derived.Test.YtfjekhmnjfcbeaaGreatHrX
import Derived.Lib.SliceRun
import Derived.Deep.RegionHeld3
set_option maxRecDepth 100000
namespace Go.Proofs.YtfjekhmnjfcbeaaGreat
open Go.RowKit Go.Maps
def wld (l:List Cls):List Plc:=l.foldl (fun ps c=>dfP ps (defN ps c)) P3
theorem wld_snoc (l:List Cls) (c:Cls):wld (l++[c])=dfP (wld l) (defN (wld l) c):=by
  rw [wld,List.foldl_append];rfl
theorem wld_at {l:List Cls} {i:Nat} {c:Cls} (h:l[i]?=some c):wld (l.take (i+1))=dfP (wld (l.take i)) (defN (wld (l.take i)) c):=by
  rw [List.take_add_one,h];exact wld_snoc _ _
theorem wld_ind {P:List Plc→Prop} (h3:P P3) (hd:∀ ps c,P ps→ClsW c→P (dfP ps (defN ps c))):∀ l:List Cls,(∀ c∈l,ClsW c)→P (wld l):=by
  have key:∀ (l:List Cls) (ps:List Plc),(∀ c∈l,ClsW c)→P ps→P (l.foldl (fun ps c=>dfP ps (defN ps c)) ps):=by
    intro l
    induction l with
    | nil=>exact fun ps _ h=>h
    | cons c l ih=>exact fun ps hl h=>ih _ (fun x hx=>hl x (List.mem_cons_of_mem _ hx)) (hd ps c h (hl c (by simp)))
  exact fun l hl=>key l P3 hl h3
theorem wld_wi (l:List Cls) (hl:∀ c∈l,ClsW c):WI (wld l):=wld_ind wi3 (fun _ c h hc=>h.define c hc) l hl
theorem clss_w {w:World} {v:Value} {l:List Cls} (h:IsClss w v l):∀ c∈l,ClsW c:=by
  obtain ⟨ao,cap,e,h1,h2,h3⟩:=h
  intro c hc
  obtain ⟨bk,o,_,_,h4⟩:=h3 (fun e=>by rw [e] at hc;simp at hc)
  obtain ⟨i,hi⟩:=List.mem_iff_getElem?.1 hc
  obtain ⟨vi,vm,_,hin⟩:=h4 i c hi
  exact hin.ok
set_option maxHeartbeats 4000000 in
theorem built9_c (v:Value) (l:List Cls) (W:World) (h:IsClss W v l):Calls Tryz.prog 32 #[v] W fun e w'=>(∃ b,e=.returned (.pointer (some ⟨b,0,none⟩))∧WAt b (wld l) w')∧Below W.heap.size W w':=by
  have hCW:=clss_w h
  obtain ⟨ao,cap,rfl,h1,h2,h3⟩:=h
  unfold maxLen at h2
  obtain ⟨L,hL⟩:∃ L,l.length=L:=⟨_,rfl⟩
  have HL:Hid (l.length=L):=hL
  have HI:Hid _:=h3
  have HCW:Hid (∀ c∈l,ClsW c):=hCW
  rw [hL] at h1 ⊢
  clear hL h3 hCW
  have HN:Hid (∀ w:World,Calls Tryz.prog 9 #[] w fun e w'=>e=.returned (.pointer (some ⟨w.heap.size+1,0,none⟩))∧(∃ vp pv,HW w' w.heap.size (w.heap.size+1) w.heap.size P3 vp pv)∧Below w.heap.size w w'):=new_any
  go_enter Tryz.func32,Tryz.ntmps32
  go_wp2_with (first
    | (go_at_call 9;refine (HN.out _).mono ?_;rintro e w2 ⟨rfl,hw,hb⟩;have H2:Hid (∃ vp pv,HW w2 W.heap.size (W.heap.size+1) W.heap.size P3 vp pv):=hw;have B2:Hid (Below W.heap.size W w2):=hb;clear hb hw HN))
  go_loopw [4] (fun iv wr=>∃ (i:Nat),iv=.int .i64 i∧i≤L∧Hid (∃ vp pv,HW wr W.heap.size (W.heap.size+1) W.heap.size (wld (l.take i)) vp pv)∧Hid (Below W.heap.size W wr)) (fun iv _=>L - (intOf iv).toNat)
  case atStart=>exact ⟨0,rfl,Nat.zero_le _,H2,B2⟩
  case round =>
    clear H2 B2
    obtain ⟨i,rfl,hi,hHW,hB⟩:=hrel
    by_cases hlt:i<L
    · obtain ⟨c,hc⟩:∃ c,l[i]?=some c:=⟨_,List.getElem?_eq_getElem (by rw [HL.out];exact hlt)⟩
      obtain ⟨bk,o,rfl,hbk,hcl⟩:=HI.out (fun e=>by rw [e] at hc;simp at hc)
      obtain ⟨vi,vm,hcell,hin⟩:=hcl i c hc
      have bel:Below W.heap.size W wr:=hB.out
      have p0:wr.cell? ⟨bk,o+i * 6,none⟩=some (.string c.nm):=(bel.cell (p:=⟨bk,o+i * 6,none⟩) hbk).trans (hcell 0 _ rfl)
      have p1:wr.cell? ⟨bk,o+i * 6+1,none⟩=some (.string c.su):=(bel.cell (p:=⟨bk,o+i * 6+1,none⟩) hbk).trans (hcell 1 _ rfl)
      have p2:wr.cell? ⟨bk,o+i * 6+2,none⟩=some vi:=(bel.cell (p:=⟨bk,o+i * 6+2,none⟩) hbk).trans (hcell 2 _ rfl)
      have p3:wr.cell? ⟨bk,o+i * 6+3,none⟩=some (.int .i64 c.fl):=(bel.cell (p:=⟨bk,o+i * 6+3,none⟩) hbk).trans (hcell 3 _ rfl)
      have p4:wr.cell? ⟨bk,o+i * 6+4,none⟩=some (.int .i64 c.ld):=(bel.cell (p:=⟨bk,o+i * 6+4,none⟩) hbk).trans (hcell 4 _ rfl)
      have p5:wr.cell? ⟨bk,o+i * 6+5,none⟩=some vm:=(bel.cell (p:=⟨bk,o+i * 6+5,none⟩) hbk).trans (hcell 5 _ rfl)
      have hWI:WI (wld (l.take i)):=wld_wi _ (fun c hc=>HCW.out c (List.mem_of_mem_take hc))
      have HD:Hid (Calls Tryz.prog 10 #[.pointer (some ⟨W.heap.size+1,0,none⟩),.agg #[.string c.nm,.string c.su,vi,.int .i64 c.fl,.int .i64 c.ld,vm]] wr fun e w'=>(∃ u,e=.returned u)∧Hid (∃ vp pv,HW w' W.heap.size (W.heap.size+1) W.heap.size (wld (l.take (i+1))) vp pv)∧Hid (Below W.heap.size W w')):=by
        obtain ⟨vp,pv,hw⟩:=hHW.out
        refine (define_any W.heap.size (W.heap.size+1) W.heap.size _ vp pv c vi vm wr hw hB.out.size (hin.keep bel) hWI.nm).mono ?_
        rintro e w' ⟨rfl,hw',hb',_⟩
        rw [wld_at hc]
        exact ⟨⟨_,rfl⟩,hw',hB.out.trans hb'⟩
      clear hcl hcell hin hc bel hWI hHW hB HI
      go_wp2_with (go_at_call 10;refine HD.out.mono ?_;rintro e w3 ⟨⟨u3,rfl⟩,hw3,hb3⟩;clear HD)
      go_roundw
      case rel=>exact ⟨i+1,by go_num,by omega,hw3,hb3⟩
      case measure=>simp [intOf];omega
    · have e:i=L:=by omega
      subst e
      have HF:Hid (WAt (W.heap.size+1) (wld l) wr):=by
        obtain ⟨vp,pv,hw⟩:=hHW.out
        rw [List.take_of_length_le (by rw [HL.out];exact Nat.le_refl _)] at hw
        exact hw.wat
      clear hHW HI
      go_wp2
      exact bodyPost_ret (results_tmp rfl _ _ _) rfl ⟨⟨_,rfl,HF.out⟩,hB.out⟩
theorem wld_wj (l:List Cls) (hl:∀ c∈l,ClsW c):WI (wld l)∧WJ (wld l):=wld_ind (P:=fun ps=>WI ps∧WJ ps) ⟨wi3,wj3⟩ (fun _ c h hc=>⟨h.1.define c hc,WJ.define h.1 h.2 c hc⟩) l hl
def extI (ps:List Plc) (a b:Int):Bool:=(plcI ps a).isSome&&(plcI ps b).isSome&&extB (ps.map nd) a.toNat b.toNat
theorem extends_no {b:Nat} {ps:List Plc} {W:World} (h:WAt b ps W) (x y:Int) (hxy:plcI ps x=none∨plcI ps y=none):Calls Tryz.prog 18 #[.pointer (some ⟨b,0,none⟩),.int .i64 x,.int .i64 y] W fun e w'=>e=.returned (.bool false)∧Below W.heap.size W w':=by
  have HX:Hid (∀ i z w,Below W.heap.size W w→plcI ps i=z→Calls Tryz.prog 60 #[.pointer (some ⟨b,0,none⟩),.int .i64 i] w fun e w'=>e=.returned (.bool z.isSome)∧w'=w):=fun i z w hb hi=>by
    have:=has_c (h.below hb) i
    rw [hi] at this;exact this
  clear h
  generalize hpx:plcI ps x=px at *
  generalize hpy:plcI ps y=py at *
  have HPX:Hid _:=hpx
  have HPY:Hid _:=hpy
  clear hpx hpy
  cases px with
  | none =>
    go_enter Tryz.func18,Tryz.ntmps18
    go_wp2_with (go_at_call 60;refine (HX.out _ _ _ (by repeat (first|exact Below.refl _ _|refine Below.setCell ?_ (by simp;try omega) _|refine Below.alloc ?_ (by simp;try omega) _|refine Below.drew ?_)) HPX.out).mono ?_;rintro e w9 ⟨rfl,hw9⟩;rw [hw9];clear hw9 w9)
    refine bodyPost_ret (v:=.bool false) (by simp [results,Tryz.results18,go_sem]) rfl ⟨rfl,(by repeat (first|exact Below.refl _ _|refine Below.setCell ?_ (by simp;try omega) _|refine Below.alloc ?_ (by simp;try omega) _|refine Below.drew ?_))⟩
  | some p =>
    obtain rfl:py=none:=hxy.resolve_left (by simp)
    clear hxy
    have HX1:Hid (∀ i w,Below W.heap.size W w→i=x→Calls Tryz.prog 60 #[.pointer (some ⟨b,0,none⟩),.int .i64 i] w fun e w'=>e=.returned (.bool true)∧w'=w):=fun i w hb hi=>by rw [hi];exact HX.out x _ w hb HPX.out
    have HY1:Hid (∀ i w,Below W.heap.size W w→i=y→Calls Tryz.prog 60 #[.pointer (some ⟨b,0,none⟩),.int .i64 i] w fun e w'=>e=.returned (.bool false)∧w'=w):=fun i w hb hi=>by rw [hi];exact HX.out y _ w hb HPY.out
    go_enter Tryz.func18,Tryz.ntmps18
    go_wp2_with (first
      | (go_at_call 60;refine (HX1.out _ _ (by repeat (first|exact Below.refl _ _|refine Below.setCell ?_ (by simp;try omega) _|refine Below.alloc ?_ (by simp;try omega) _|refine Below.drew ?_)) (by rfl)).mono ?_;rintro e w9 ⟨rfl,hw9⟩;rw [hw9];clear hw9 w9)
      | (go_at_call 60;refine (HY1.out _ _ (by repeat (first|exact Below.refl _ _|refine Below.setCell ?_ (by simp;try omega) _|refine Below.alloc ?_ (by simp;try omega) _|refine Below.drew ?_)) (by rfl)).mono ?_;rintro e w9 ⟨rfl,hw9⟩;rw [hw9];clear hw9 w9))
    refine bodyPost_ret (v:=.bool false) (by simp [results,Tryz.results18,go_sem]) rfl ⟨rfl,(by repeat (first|exact Below.refl _ _|refine Below.setCell ?_ (by simp;try omega) _|refine Below.alloc ?_ (by simp;try omega) _|refine Below.drew ?_))⟩
theorem extends_c {b:Nat} {ps:List Plc} {W:World} (h:WAt b ps W) (hi:WI ps) (x y:Int):Calls Tryz.prog 18 #[.pointer (some ⟨b,0,none⟩),.int .i64 x,.int .i64 y] W fun e w'=>e=.returned (.bool (extI ps x y))∧Below W.heap.size W w':=by
  rcases plcI_cases ps x with ⟨h1,_⟩|⟨k,p,rfl,h2,h1⟩
  · have e:extI ps x y=false:=by rw [extI,h1];rfl
    rw [e];exact extends_no h x y (.inl h1)
  · rcases plcI_cases ps y with ⟨g1,_⟩|⟨j,q,rfl,g2,g1⟩
    · have e:extI ps k y=false:=by rw [extI,h1,g1];rfl
      rw [e];exact extends_no h k y (.inr g1)
    · have e:extI ps k j=extB (ps.map nd) k j:=by rw [extI,h1,g1];rfl
      obtain ⟨N,mb,vp,pv,h⟩:=h
      rw [e];exact extends_yes N b mb ps vp pv k j (List.getElem?_eq_some_iff.1 h2).1 (List.getElem?_eq_some_iff.1 g2).1 hi.wo hi.hi W h
def ifcI (ps:List Plc) (i:Int):Bool:=match plcI ps i with
  | some q=>ifB q.c.fl
  | none=>false
theorem isIface_c {b:Nat} {ps:List Plc} {W:World} (h:WAt b ps W) (x:Int):Calls Tryz.prog 113 #[.pointer (some ⟨b,0,none⟩),.int .i64 x] W fun e w'=>e=.returned (.bool (ifcI ps x))∧Below W.heap.size W w':=by
  obtain ⟨N,mb,vp,pv,h⟩:=h
  rcases plcI_cases ps x with ⟨h1,h2⟩|⟨k,p,rfl,h2,h1⟩
  · have e:ifcI ps x=false:=by rw [ifcI,h1]
    rw [e];exact isIfaceW_no N b mb ps vp pv x W h h2
  · have e:ifcI ps k=ifB p.c.fl:=by rw [ifcI,h1]
    rw [e];exact isIfaceW_yes N b mb ps vp pv k p W h h2
theorem len_c {b:Nat} {ps:List Plc} {W:World} (h:WAt b ps W):Calls Tryz.prog 11 #[.pointer (some ⟨b,0,none⟩)] W fun e w'=>e=.returned (.int .i64 (ps.length:Int))∧w'=W:=by
  obtain ⟨N,mb,vp,pv,h⟩:=h
  exact len_any N b mb ps vp pv W h
theorem extI_nat {ps:List Plc} {a b:Nat} (ha:a<ps.length) (hb:b<ps.length):extI ps (a:Int) (b:Int)=extB (ps.map nd) a b:=by
  rw [extI,plcI_nat,plcI_nat,List.getElem?_eq_getElem ha,List.getElem?_eq_getElem hb];rfl
theorem halloc2 (w:World) {n:Nat} (o:Obj) (hn:w.heap.size=n):(w.alloc o).heap[n]?=some o:=by subst hn;exact halloc1 w o
def idE (x:(Int×Int)×Int):Value:=.tuple #[.agg #[.int .i64 x.1.1,.int .i64 x.1.2],.int .i64 x.2]
theorem sameID_c (a b:Int×Int) (w:World):Calls Tryz.prog 82 #[.agg #[.int .i64 a.1,.int .i64 a.2],.agg #[.int .i64 b.1,.int .i64 b.2]] w fun e w'=>e=.returned (.bool ((a.1 == b.1)&&(a.2 == b.2)))∧Below w.heap.size w w':=by
  obtain ⟨a1,a2⟩:=a
  obtain ⟨b1,b2⟩:=b
  by_cases h1:a1=b1
  · by_cases h2:a2=b2
    · subst h1 h2
      go_enter Tryz.func82,Tryz.ntmps82
      go_wp2
      exact bodyPost_ret (results_tmp rfl _ _ _) rfl ⟨by simp,(by repeat (first|exact Below.refl _ _|refine Below.setCell ?_ (by simp;try omega) _|refine Below.alloc ?_ (by simp;try omega) _|refine Below.drew ?_))⟩
    · subst h1
      go_enter Tryz.func82,Tryz.ntmps82
      go_wp2
      exact bodyPost_ret (results_tmp rfl _ _ _) rfl ⟨by simp,(by repeat (first|exact Below.refl _ _|refine Below.setCell ?_ (by simp;try omega) _|refine Below.alloc ?_ (by simp;try omega) _|refine Below.drew ?_))⟩
  · go_enter Tryz.func82,Tryz.ntmps82
    go_wp2
    exact bodyPost_ret (results_tmp rfl _ _ _) rfl ⟨by simp [h1],(by repeat (first|exact Below.refl _ _|refine Below.setCell ?_ (by simp;try omega) _|refine Below.alloc ?_ (by simp;try omega) _|refine Below.drew ?_))⟩
theorem open_c (f:Int) (W:World):Calls Tryz.prog 137 #[.int .i64 f] W fun e w'=>e=.returned (.int .i64 (openI f))∧w'=W:=by
  have HR:Hid (openI f=if hasI f 1 then 1 else if hasI f 4 then 4 else bits .and .i64 f 2):=Fl.own_open f
  have HH:Hid (∀ (x:Int) (y:Bool) (w:World),hasI f x=y→Calls Tryz.prog 174 #[.int .i64 f,.int .i64 x] w fun e w'=>e=.returned (.bool y)∧w'=w):=fun x y w hy=>by rw [← hy];exact Fl.hasAny_any f x w
  generalize openI f=r at *
  generalize hasI f=hz at *
  obtain ⟨b1,h1⟩:∃ b,hz 1=b:=⟨_,rfl⟩
  obtain ⟨b4,h4⟩:∃ b,hz 4=b:=⟨_,rfl⟩
  rw [h1,h4] at HR
  have H1:Hid _:=h1
  have H4:Hid _:=h4
  clear h1 h4
  cases b1 <;> cases b4
  all_goals
    go_enter Tryz.func137,Tryz.ntmps137
    go_wp2_with (go_at_call 174;refine (HH.out _ _ _ (by first|exact H1.out|exact H4.out)).mono ?_;rintro e w9 ⟨rfl,hw9⟩;rw [hw9];clear hw9 w9)
    exact bodyPost_ret (results_tmp rfl _ _ _) rfl ⟨by rw [HR.out];rfl,rfl⟩
def pkB (nm:ByteArray):ByteArray:=⟨(pkgL nm.data.toList).toArray⟩
theorem retB {a b:Bool} (h:a=b):Ending.returned (.bool a)=Ending.returned (.bool b):=by rw [h]
theorem open_cases (f:Int):openI f=1∨openI f=2∨openI f=4∨openI f=0:=by
  unfold openI
  split
  · exact .inl rfl
  · split
    · exact .inr (.inr (.inl rfl))
    · split
      · exact .inr (.inl rfl)
      · exact .inr (.inr (.inr rfl))
theorem meth_plc {ps:List Plc} {c i:Int} {m:HM} (h:methI ps c i=some m):∃ (k:Nat) (q:Plc),c=(k:Int)∧ps[k]?=some q∧plcI ps c=some q∧methP q i=some m:=by
  rcases plcI_cases ps c with ⟨h1,_⟩|⟨k,q,rfl,h2,h1⟩
  · rw [methI,h1] at h;cases h
  · rw [methI,h1] at h
    exact ⟨k,q,rfl,h2,h1,h⟩
def stB (f:Int):Bool:=bits .and .i64 f 8 != 0
def freB (f:Int) (n:ByteArray):Bool:=!stB f&&!(n.toList == [60,105,110,105,116,62])
theorem isStatic_c (b:Nat) (xn xd:ByteArray) (xf xl xs:Int) (xa:Option Addr) (xk xo:Nat) (xc xi:Int) (W:World):Calls Tryz.prog 130 #[.agg #[.string xn,.string xd,.int .i64 xf,.int .i64 xl,.int .i64 xs,.slice xa xk xo,.int .i64 xc,.int .i64 xi,.pointer (some ⟨b,0,none⟩)]] W fun e w'=>e=.returned (.bool (stB xf))∧Below W.heap.size W w':=by
  go_enter Tryz.func130,Tryz.ntmps130
  go_wp2
  go_ret
  exact ⟨retB (by simp [stB]),(by repeat (first|exact Below.refl _ _|refine Below.setCell ?_ (by simp;try omega) _|refine Below.alloc ?_ (by simp;try omega) _|refine Below.drew ?_))⟩
theorem isFree_c (b:Nat) (xn xd:ByteArray) (xf xl xs:Int) (xa:Option Addr) (xk xo:Nat) (xc xi:Int) (W:World):Calls Tryz.prog 135 #[.agg #[.string xn,.string xd,.int .i64 xf,.int .i64 xl,.int .i64 xs,.slice xa xk xo,.int .i64 xc,.int .i64 xi,.pointer (some ⟨b,0,none⟩)]] W fun e w'=>e=.returned (.bool (freB xf xn))∧Below W.heap.size W w':=by
  have HS:Hid (∀ w:World,Calls Tryz.prog 130 #[.agg #[.string xn,.string xd,.int .i64 xf,.int .i64 xl,.int .i64 xs,.slice xa xk xo,.int .i64 xc,.int .i64 xi,.pointer (some ⟨b,0,none⟩)]] w fun e w'=>e=.returned (.bool (stB xf))∧Below w.heap.size w w'):=fun w=>isStatic_c b xn xd xf xl xs xa xk xo xc xi w
  unfold freB
  generalize stB xf=S at *
  cases S
  all_goals
    have BB:Hid (Below W.heap.size W W):=Below.refl _ _
    go_enter Tryz.func135,Tryz.ntmps135
    go_wp2_with (first
      | (go_at_call 130;refine (HS.out _).mono ?_;rintro e w1 ⟨rfl,hb⟩;have qd:w1.heap[W.heap.size]?=some (.cells #[.string xn,.string xd,.int .i64 xf,.int .i64 xl,.int .i64 xs,.slice xa xk xo,.int .i64 xc,.int .i64 xi,.pointer (some ⟨b,0,none⟩)] 128 (0,0)):=(hb.block (W.heap.size) (by first|omega|(simp;try omega))).trans (by first|exact qB.out|exact hkeep qB.out|exact hkeep (hkeep qB.out)|exact halloc2 _ _ rfl|exact heap_alloc2_old _ _ _|exact heap_alloc2_new _ _ _|exact hkeep (halloc2 _ _ rfl)|exact hkeep (hkeep (halloc2 _ _ rfl))|exact halloc2 _ _ (by simp;done));(try clear qB qL qN q0 q1 q2 q3 q4 q5 q6 q7 q8 qf0 qf1 qf2 qf3 qf4 qf5 qf6 qf7 qf8);have qB:Hid (w1.heap[W.heap.size]?=some (.cells #[.string xn,.string xd,.int .i64 xf,.int .i64 xl,.int .i64 xs,.slice xa xk xo,.int .i64 xc,.int .i64 xi,.pointer (some ⟨b,0,none⟩)] 128 (0,0))):=qd;have q0:w1.cell? ⟨W.heap.size,0,none⟩=some (.string xn):=(cell_of_row w1 (W.heap.size) 0 _ _ _ qd).trans rfl;have qf0:=frozen_of_row w1 (W.heap.size) 0 _ _ qd;have q1:w1.cell? ⟨W.heap.size,1,none⟩=some (.string xd):=(cell_of_row w1 (W.heap.size) 1 _ _ _ qd).trans rfl;have qf1:=frozen_of_row w1 (W.heap.size) 1 _ _ qd;have q2:w1.cell? ⟨W.heap.size,2,none⟩=some (.int .i64 xf):=(cell_of_row w1 (W.heap.size) 2 _ _ _ qd).trans rfl;have qf2:=frozen_of_row w1 (W.heap.size) 2 _ _ qd;have q3:w1.cell? ⟨W.heap.size,3,none⟩=some (.int .i64 xl):=(cell_of_row w1 (W.heap.size) 3 _ _ _ qd).trans rfl;have qf3:=frozen_of_row w1 (W.heap.size) 3 _ _ qd;have q4:w1.cell? ⟨W.heap.size,4,none⟩=some (.int .i64 xs):=(cell_of_row w1 (W.heap.size) 4 _ _ _ qd).trans rfl;have qf4:=frozen_of_row w1 (W.heap.size) 4 _ _ qd;have q5:w1.cell? ⟨W.heap.size,5,none⟩=some (.slice xa xk xo):=(cell_of_row w1 (W.heap.size) 5 _ _ _ qd).trans rfl;have qf5:=frozen_of_row w1 (W.heap.size) 5 _ _ qd;have q6:w1.cell? ⟨W.heap.size,6,none⟩=some (.int .i64 xc):=(cell_of_row w1 (W.heap.size) 6 _ _ _ qd).trans rfl;have qf6:=frozen_of_row w1 (W.heap.size) 6 _ _ qd;have q7:w1.cell? ⟨W.heap.size,7,none⟩=some (.int .i64 xi):=(cell_of_row w1 (W.heap.size) 7 _ _ _ qd).trans rfl;have qf7:=frozen_of_row w1 (W.heap.size) 7 _ _ qd;have q8:w1.cell? ⟨W.heap.size,8,none⟩=some (.pointer (some ⟨b,0,none⟩)):=(cell_of_row w1 (W.heap.size) 8 _ _ _ qd).trans rfl;have qf8:=frozen_of_row w1 (W.heap.size) 8 _ _ qd;have qL:W.heap.size<w1.heap.size:=(Array.getElem?_eq_some_iff.1 qd).1;have qN:¬ W.heap.size=w1.heap.size:=(by omega);clear qd;have BB2:Below W.heap.size W w1:=bstep (by repeat (first|exact Below.refl _ _|refine Below.setCell ?_ (by simp;try omega) _|refine Below.alloc ?_ (by simp;try omega) _|refine Below.drew ?_)) hb;clear BB;have BB:Hid (Below W.heap.size W w1):=BB2;clear BB2 hb;clear HS))
    all_goals go_ret
    all_goals exact ⟨retB (by simp [*]),(by repeat (first|exact BB.out|exact Below.refl _ _|refine Below.setCell ?_ (by simp;try omega) _|refine Below.alloc ?_ (by have:=BB.out.size;simp;try omega) _|refine Below.drew ?_))⟩
theorem is_c (b:Nat) (xn xd:ByteArray) (xf xl xs:Int) (xa:Option Addr) (xk xo:Nat) (xc xi:Int) (yn yd:ByteArray) (yf yl ys:Int) (ya:Option Addr) (yk yo:Nat) (yc yi:Int) (W:World):Calls Tryz.prog 87 #[.agg #[.string xn,.string xd,.int .i64 xf,.int .i64 xl,.int .i64 xs,.slice xa xk xo,.int .i64 xc,.int .i64 xi,.pointer (some ⟨b,0,none⟩)],.agg #[.string yn,.string yd,.int .i64 yf,.int .i64 yl,.int .i64 ys,.slice ya yk yo,.int .i64 yc,.int .i64 yi,.pointer (some ⟨b,0,none⟩)]] W fun e w'=>e=.returned (.bool ((xc == yc)&&(xi == yi)))∧Below W.heap.size W w':=by
  go_enter Tryz.func87,Tryz.ntmps87
  go_wp2
  all_goals go_ret
  all_goals exact ⟨retB (by simp [*]),(by repeat (first|exact Below.refl _ _|refine Below.setCell ?_ (by simp;try omega) _|refine Below.alloc ?_ (by simp;try omega) _|refine Below.drew ?_))⟩
def bloB (ps:List Plc) (c a:Int):Bool:=!(c == a)&&!ifcI ps c&&extI ps c a
set_option maxHeartbeats 1000000 in
theorem isBelow_c {b:Nat} {ps:List Plc} {W:World} (h:WAt b ps W) (hi:WI ps) (xn xd:ByteArray) (xf xl xs:Int) (xa:Option Addr) (xk xo:Nat) (xc xi:Int) (yn yd:ByteArray) (yf yl ys:Int) (ya:Option Addr) (yk yo:Nat) (yc yi:Int):Calls Tryz.prog 136 #[.agg #[.string xn,.string xd,.int .i64 xf,.int .i64 xl,.int .i64 xs,.slice xa xk xo,.int .i64 xc,.int .i64 xi,.pointer (some ⟨b,0,none⟩)],.agg #[.string yn,.string yd,.int .i64 yf,.int .i64 yl,.int .i64 ys,.slice ya yk yo,.int .i64 yc,.int .i64 yi,.pointer (some ⟨b,0,none⟩)]] W fun e w'=>e=.returned (.bool (bloB ps xc yc))∧Below W.heap.size W w':=by
  have HI:Hid (∀ w,Below W.heap.size W w→Calls Tryz.prog 113 #[.pointer (some ⟨b,0,none⟩),.int .i64 xc] w fun e w'=>e=.returned (.bool (ifcI ps xc))∧Below w.heap.size w w'):=fun w hb=>isIface_c (h.below hb) xc
  have HE:Hid (∀ w,Below W.heap.size W w→Calls Tryz.prog 18 #[.pointer (some ⟨b,0,none⟩),.int .i64 xc,.int .i64 yc] w fun e w'=>e=.returned (.bool (extI ps xc yc))∧Below w.heap.size w w'):=fun w hb=>extends_c (h.below hb) hi xc yc
  unfold bloB
  generalize ifcI ps xc=I at *
  generalize extI ps xc yc=E at *
  clear h hi
  cases hz:(xc == yc)
  all_goals cases I
  all_goals
    have BB:Hid (Below W.heap.size W W):=Below.refl _ _
    go_enter Tryz.func136,Tryz.ntmps136
    go_wp2
    go_region
    go_wp2_with (first
      | (go_at_call 113;refine (HI.out _ (by repeat (first|exact Below.refl _ _|refine Below.setCell ?_ (by simp;try omega) _|refine Below.alloc ?_ (by simp;try omega) _|refine Below.drew ?_))).mono ?_;rintro e w1 ⟨rfl,hb⟩;have qd:w1.heap[W.heap.size]?=some (.cells #[.string xn,.string xd,.int .i64 xf,.int .i64 xl,.int .i64 xs,.slice xa xk xo,.int .i64 xc,.int .i64 xi,.pointer (some ⟨b,0,none⟩)] 128 (0,0)):=(hb.block (W.heap.size) (by first|omega|(simp;try omega))).trans (by first|exact qB.out|exact hkeep qB.out|exact hkeep (hkeep qB.out)|exact halloc2 _ _ rfl|exact heap_alloc2_old _ _ _|exact heap_alloc2_new _ _ _|exact hkeep (halloc2 _ _ rfl)|exact hkeep (hkeep (halloc2 _ _ rfl))|exact halloc2 _ _ (by simp;done));(try clear qB qL qN q0 q1 q2 q3 q4 q5 q6 q7 q8 qf0 qf1 qf2 qf3 qf4 qf5 qf6 qf7 qf8);have qB:Hid (w1.heap[W.heap.size]?=some (.cells #[.string xn,.string xd,.int .i64 xf,.int .i64 xl,.int .i64 xs,.slice xa xk xo,.int .i64 xc,.int .i64 xi,.pointer (some ⟨b,0,none⟩)] 128 (0,0))):=qd;have q0:w1.cell? ⟨W.heap.size,0,none⟩=some (.string xn):=(cell_of_row w1 (W.heap.size) 0 _ _ _ qd).trans rfl;have qf0:=frozen_of_row w1 (W.heap.size) 0 _ _ qd;have q1:w1.cell? ⟨W.heap.size,1,none⟩=some (.string xd):=(cell_of_row w1 (W.heap.size) 1 _ _ _ qd).trans rfl;have qf1:=frozen_of_row w1 (W.heap.size) 1 _ _ qd;have q2:w1.cell? ⟨W.heap.size,2,none⟩=some (.int .i64 xf):=(cell_of_row w1 (W.heap.size) 2 _ _ _ qd).trans rfl;have qf2:=frozen_of_row w1 (W.heap.size) 2 _ _ qd;have q3:w1.cell? ⟨W.heap.size,3,none⟩=some (.int .i64 xl):=(cell_of_row w1 (W.heap.size) 3 _ _ _ qd).trans rfl;have qf3:=frozen_of_row w1 (W.heap.size) 3 _ _ qd;have q4:w1.cell? ⟨W.heap.size,4,none⟩=some (.int .i64 xs):=(cell_of_row w1 (W.heap.size) 4 _ _ _ qd).trans rfl;have qf4:=frozen_of_row w1 (W.heap.size) 4 _ _ qd;have q5:w1.cell? ⟨W.heap.size,5,none⟩=some (.slice xa xk xo):=(cell_of_row w1 (W.heap.size) 5 _ _ _ qd).trans rfl;have qf5:=frozen_of_row w1 (W.heap.size) 5 _ _ qd;have q6:w1.cell? ⟨W.heap.size,6,none⟩=some (.int .i64 xc):=(cell_of_row w1 (W.heap.size) 6 _ _ _ qd).trans rfl;have qf6:=frozen_of_row w1 (W.heap.size) 6 _ _ qd;have q7:w1.cell? ⟨W.heap.size,7,none⟩=some (.int .i64 xi):=(cell_of_row w1 (W.heap.size) 7 _ _ _ qd).trans rfl;have qf7:=frozen_of_row w1 (W.heap.size) 7 _ _ qd;have q8:w1.cell? ⟨W.heap.size,8,none⟩=some (.pointer (some ⟨b,0,none⟩)):=(cell_of_row w1 (W.heap.size) 8 _ _ _ qd).trans rfl;have qf8:=frozen_of_row w1 (W.heap.size) 8 _ _ qd;have qL:W.heap.size<w1.heap.size:=(Array.getElem?_eq_some_iff.1 qd).1;have qN:¬ W.heap.size=w1.heap.size:=(by omega);clear qd;have BB2:Below W.heap.size W w1:=bstep (by repeat (first|exact Below.refl _ _|refine Below.setCell ?_ (by simp;try omega) _|refine Below.alloc ?_ (by simp;try omega) _|refine Below.drew ?_)) hb;clear BB;have BB:Hid (Below W.heap.size W w1):=BB2;clear BB2 hb;clear HI)
      | (go_at_call 18;refine (HE.out _ BB.out).mono ?_;rintro e w2 ⟨rfl,hb⟩;have BB2:Below W.heap.size W w2:=bstep BB.out hb;clear BB;have BB:Hid (Below W.heap.size W w2):=BB2;clear BB2 hb;clear HE))
    all_goals go_ret
    all_goals first
      | (exfalso;rename_i hq;rw [hq] at hz;simp at hz;done)
      | (exfalso;rename_i hq;exact hq (by simpa using hz))
      | exact ⟨retB (by simp [*]),(by repeat (first|exact BB.out|exact Below.refl _ _|refine Below.setCell ?_ (by simp;try omega) _|refine Below.alloc ?_ (by have:=BB.out.size;simp;try omega) _|refine Below.drew ?_))⟩
def reaB (ps:List Plc) (c a f:Int):Bool:=if openI f=2 then false else if ifcI ps a then true else if openI f=1 then true else if openI f=4 then true else spI ps c a
set_option maxHeartbeats 1000000 in
theorem reaches_c {b:Nat} {ps:List Plc} {W:World} (h:WAt b ps W) (hi:WI ps) (xn xd:ByteArray) (xf xl xs:Int) (xa:Option Addr) (xk xo:Nat) (xc xi:Int) (yn yd:ByteArray) (yf yl ys:Int) (ya:Option Addr) (yk yo:Nat) (yc yi:Int):Calls Tryz.prog 138 #[.agg #[.string xn,.string xd,.int .i64 xf,.int .i64 xl,.int .i64 xs,.slice xa xk xo,.int .i64 xc,.int .i64 xi,.pointer (some ⟨b,0,none⟩)],.agg #[.string yn,.string yd,.int .i64 yf,.int .i64 yl,.int .i64 ys,.slice ya yk yo,.int .i64 yc,.int .i64 yi,.pointer (some ⟨b,0,none⟩)]] W fun e w'=>e=.returned (.bool (reaB ps xc yc yf))∧Below W.heap.size W w':=by
  have HI:Hid (∀ w,Below W.heap.size W w→Calls Tryz.prog 113 #[.pointer (some ⟨b,0,none⟩),.int .i64 yc] w fun e w'=>e=.returned (.bool (ifcI ps yc))∧Below w.heap.size w w'):=fun w hb=>isIface_c (h.below hb) yc
  have HP:Hid (∀ w,Below W.heap.size W w→Calls Tryz.prog 19 #[.pointer (some ⟨b,0,none⟩),.int .i64 xc,.int .i64 yc] w fun e w'=>e=.returned (.bool (spI ps xc yc))∧Below w.heap.size w w'):=fun w hb=>samePk_c (h.below hb) hi.nm xc yc
  have HO:Hid (∀ w:World,Calls Tryz.prog 137 #[.int .i64 yf] w fun e w'=>e=.returned (.int .i64 (openI yf))∧w'=w):=fun w=>open_c yf w
  have ho:=open_cases yf
  unfold reaB
  generalize ifcI ps yc=I at *
  generalize spI ps xc yc=E at *
  generalize openI yf=O at *
  clear h hi
  rcases ho with rfl|rfl|rfl|rfl
  all_goals cases I
  all_goals
    have BB:Hid (Below W.heap.size W W):=Below.refl _ _
    go_enter Tryz.func138,Tryz.ntmps138
    go_wp2_with (first
      | (go_at_call 137;refine (HO.out _).mono ?_;rintro e w9 ⟨rfl,hw9⟩;rw [hw9];clear hw9 w9 HO)
      | (go_at_call 113;refine (HI.out _ (by repeat (first|exact Below.refl _ _|refine Below.setCell ?_ (by simp;try omega) _|refine Below.alloc ?_ (by simp;try omega) _|refine Below.drew ?_))).mono ?_;rintro e w1 ⟨rfl,hb⟩;have qd:w1.heap[W.heap.size]?=some (.cells #[.string xn,.string xd,.int .i64 xf,.int .i64 xl,.int .i64 xs,.slice xa xk xo,.int .i64 xc,.int .i64 xi,.pointer (some ⟨b,0,none⟩)] 128 (0,0)):=(hb.block (W.heap.size) (by first|omega|(simp;try omega))).trans (by first|exact qB.out|exact hkeep qB.out|exact hkeep (hkeep qB.out)|exact halloc2 _ _ rfl|exact heap_alloc2_old _ _ _|exact heap_alloc2_new _ _ _|exact hkeep (halloc2 _ _ rfl)|exact hkeep (hkeep (halloc2 _ _ rfl))|exact halloc2 _ _ (by simp;done));(try clear qB qL qN q0 q1 q2 q3 q4 q5 q6 q7 q8 qf0 qf1 qf2 qf3 qf4 qf5 qf6 qf7 qf8);have qB:Hid (w1.heap[W.heap.size]?=some (.cells #[.string xn,.string xd,.int .i64 xf,.int .i64 xl,.int .i64 xs,.slice xa xk xo,.int .i64 xc,.int .i64 xi,.pointer (some ⟨b,0,none⟩)] 128 (0,0))):=qd;have q0:w1.cell? ⟨W.heap.size,0,none⟩=some (.string xn):=(cell_of_row w1 (W.heap.size) 0 _ _ _ qd).trans rfl;have qf0:=frozen_of_row w1 (W.heap.size) 0 _ _ qd;have q1:w1.cell? ⟨W.heap.size,1,none⟩=some (.string xd):=(cell_of_row w1 (W.heap.size) 1 _ _ _ qd).trans rfl;have qf1:=frozen_of_row w1 (W.heap.size) 1 _ _ qd;have q2:w1.cell? ⟨W.heap.size,2,none⟩=some (.int .i64 xf):=(cell_of_row w1 (W.heap.size) 2 _ _ _ qd).trans rfl;have qf2:=frozen_of_row w1 (W.heap.size) 2 _ _ qd;have q3:w1.cell? ⟨W.heap.size,3,none⟩=some (.int .i64 xl):=(cell_of_row w1 (W.heap.size) 3 _ _ _ qd).trans rfl;have qf3:=frozen_of_row w1 (W.heap.size) 3 _ _ qd;have q4:w1.cell? ⟨W.heap.size,4,none⟩=some (.int .i64 xs):=(cell_of_row w1 (W.heap.size) 4 _ _ _ qd).trans rfl;have qf4:=frozen_of_row w1 (W.heap.size) 4 _ _ qd;have q5:w1.cell? ⟨W.heap.size,5,none⟩=some (.slice xa xk xo):=(cell_of_row w1 (W.heap.size) 5 _ _ _ qd).trans rfl;have qf5:=frozen_of_row w1 (W.heap.size) 5 _ _ qd;have q6:w1.cell? ⟨W.heap.size,6,none⟩=some (.int .i64 xc):=(cell_of_row w1 (W.heap.size) 6 _ _ _ qd).trans rfl;have qf6:=frozen_of_row w1 (W.heap.size) 6 _ _ qd;have q7:w1.cell? ⟨W.heap.size,7,none⟩=some (.int .i64 xi):=(cell_of_row w1 (W.heap.size) 7 _ _ _ qd).trans rfl;have qf7:=frozen_of_row w1 (W.heap.size) 7 _ _ qd;have q8:w1.cell? ⟨W.heap.size,8,none⟩=some (.pointer (some ⟨b,0,none⟩)):=(cell_of_row w1 (W.heap.size) 8 _ _ _ qd).trans rfl;have qf8:=frozen_of_row w1 (W.heap.size) 8 _ _ qd;have qL:W.heap.size<w1.heap.size:=(Array.getElem?_eq_some_iff.1 qd).1;have qN:¬ W.heap.size=w1.heap.size:=(by omega);clear qd;have rd:w1.heap[W.heap.size+1]?=some (.cells #[.string yn,.string yd,.int .i64 yf,.int .i64 yl,.int .i64 ys,.slice ya yk yo,.int .i64 yc,.int .i64 yi,.pointer (some ⟨b,0,none⟩)] 128 (0,0)):=(hb.block (W.heap.size+1) (by first|omega|(simp;try omega))).trans (by first|exact rB.out|exact hkeep rB.out|exact hkeep (hkeep rB.out)|exact halloc2 _ _ rfl|exact heap_alloc2_old _ _ _|exact heap_alloc2_new _ _ _|exact hkeep (halloc2 _ _ rfl)|exact hkeep (hkeep (halloc2 _ _ rfl))|exact halloc2 _ _ (by simp;done));(try clear rB rL rN r0 r1 r2 r3 r4 r5 r6 r7 r8 rf0 rf1 rf2 rf3 rf4 rf5 rf6 rf7 rf8);have rB:Hid (w1.heap[W.heap.size+1]?=some (.cells #[.string yn,.string yd,.int .i64 yf,.int .i64 yl,.int .i64 ys,.slice ya yk yo,.int .i64 yc,.int .i64 yi,.pointer (some ⟨b,0,none⟩)] 128 (0,0))):=rd;have r0:w1.cell? ⟨W.heap.size+1,0,none⟩=some (.string yn):=(cell_of_row w1 (W.heap.size+1) 0 _ _ _ rd).trans rfl;have rf0:=frozen_of_row w1 (W.heap.size+1) 0 _ _ rd;have r1:w1.cell? ⟨W.heap.size+1,1,none⟩=some (.string yd):=(cell_of_row w1 (W.heap.size+1) 1 _ _ _ rd).trans rfl;have rf1:=frozen_of_row w1 (W.heap.size+1) 1 _ _ rd;have r2:w1.cell? ⟨W.heap.size+1,2,none⟩=some (.int .i64 yf):=(cell_of_row w1 (W.heap.size+1) 2 _ _ _ rd).trans rfl;have rf2:=frozen_of_row w1 (W.heap.size+1) 2 _ _ rd;have r3:w1.cell? ⟨W.heap.size+1,3,none⟩=some (.int .i64 yl):=(cell_of_row w1 (W.heap.size+1) 3 _ _ _ rd).trans rfl;have rf3:=frozen_of_row w1 (W.heap.size+1) 3 _ _ rd;have r4:w1.cell? ⟨W.heap.size+1,4,none⟩=some (.int .i64 ys):=(cell_of_row w1 (W.heap.size+1) 4 _ _ _ rd).trans rfl;have rf4:=frozen_of_row w1 (W.heap.size+1) 4 _ _ rd;have r5:w1.cell? ⟨W.heap.size+1,5,none⟩=some (.slice ya yk yo):=(cell_of_row w1 (W.heap.size+1) 5 _ _ _ rd).trans rfl;have rf5:=frozen_of_row w1 (W.heap.size+1) 5 _ _ rd;have r6:w1.cell? ⟨W.heap.size+1,6,none⟩=some (.int .i64 yc):=(cell_of_row w1 (W.heap.size+1) 6 _ _ _ rd).trans rfl;have rf6:=frozen_of_row w1 (W.heap.size+1) 6 _ _ rd;have r7:w1.cell? ⟨W.heap.size+1,7,none⟩=some (.int .i64 yi):=(cell_of_row w1 (W.heap.size+1) 7 _ _ _ rd).trans rfl;have rf7:=frozen_of_row w1 (W.heap.size+1) 7 _ _ rd;have r8:w1.cell? ⟨W.heap.size+1,8,none⟩=some (.pointer (some ⟨b,0,none⟩)):=(cell_of_row w1 (W.heap.size+1) 8 _ _ _ rd).trans rfl;have rf8:=frozen_of_row w1 (W.heap.size+1) 8 _ _ rd;have rL:W.heap.size+1<w1.heap.size:=(Array.getElem?_eq_some_iff.1 rd).1;have rN:¬ W.heap.size+1=w1.heap.size:=(by omega);clear rd;have BB2:Below W.heap.size W w1:=bstep (by repeat (first|exact Below.refl _ _|refine Below.setCell ?_ (by simp;try omega) _|refine Below.alloc ?_ (by simp;try omega) _|refine Below.drew ?_)) hb;clear BB;have BB:Hid (Below W.heap.size W w1):=BB2;clear BB2 hb;clear HI)
      | (go_at_call 19;refine (HP.out _ BB.out).mono ?_;rintro e w2 ⟨rfl,hb⟩;have BB2:Below W.heap.size W w2:=bstep BB.out hb;clear BB;have BB:Hid (Below W.heap.size W w2):=BB2;clear BB2 hb;clear HP))
    all_goals go_ret
    all_goals exact ⟨retB (by simp [*]),(by repeat (first|exact BB.out|exact Below.refl _ _|refine Below.setCell ?_ (by simp;try omega) _|refine Below.alloc ?_ (by have:=BB.out.size;simp;try omega) _|refine Below.drew ?_))⟩
def plnB (ps:List Plc) (xn xd:ByteArray) (xf xc:Int) (yn yd:ByteArray) (yf yc:Int):Bool:=freB xf xn&&freB yf yn&&(xn.toList == yn.toList)&&(xd.toList == yd.toList)&&bloB ps xc yc&&!(openI xf == 2)&&reaB ps xc yc yf
set_option maxHeartbeats 4000000 in
theorem plain_c {b:Nat} {ps:List Plc} {W:World} (h:WAt b ps W) (hi:WI ps) (xn xd:ByteArray) (xf xl xs:Int) (xa:Option Addr) (xk xo:Nat) (xc xi:Int) (yn yd:ByteArray) (yf yl ys:Int) (ya:Option Addr) (yk yo:Nat) (yc yi:Int):Calls Tryz.prog 84 #[.agg #[.string xn,.string xd,.int .i64 xf,.int .i64 xl,.int .i64 xs,.slice xa xk xo,.int .i64 xc,.int .i64 xi,.pointer (some ⟨b,0,none⟩)],.agg #[.string yn,.string yd,.int .i64 yf,.int .i64 yl,.int .i64 ys,.slice ya yk yo,.int .i64 yc,.int .i64 yi,.pointer (some ⟨b,0,none⟩)]] W fun e w'=>e=.returned (.bool (plnB ps xn xd xf xc yn yd yf yc))∧Below W.heap.size W w':=by
  have HF:Hid (∀ w:World,Calls Tryz.prog 135 #[.agg #[.string xn,.string xd,.int .i64 xf,.int .i64 xl,.int .i64 xs,.slice xa xk xo,.int .i64 xc,.int .i64 xi,.pointer (some ⟨b,0,none⟩)]] w fun e w'=>e=.returned (.bool (freB xf xn))∧Below w.heap.size w w'):=fun w=>isFree_c b xn xd xf xl xs xa xk xo xc xi w
  have HG:Hid (∀ w:World,Calls Tryz.prog 135 #[.agg #[.string yn,.string yd,.int .i64 yf,.int .i64 yl,.int .i64 ys,.slice ya yk yo,.int .i64 yc,.int .i64 yi,.pointer (some ⟨b,0,none⟩)]] w fun e w'=>e=.returned (.bool (freB yf yn))∧Below w.heap.size w w'):=fun w=>isFree_c b yn yd yf yl ys ya yk yo yc yi w
  have HL:Hid (∀ w,Below W.heap.size W w→Calls Tryz.prog 136 #[.agg #[.string xn,.string xd,.int .i64 xf,.int .i64 xl,.int .i64 xs,.slice xa xk xo,.int .i64 xc,.int .i64 xi,.pointer (some ⟨b,0,none⟩)],.agg #[.string yn,.string yd,.int .i64 yf,.int .i64 yl,.int .i64 ys,.slice ya yk yo,.int .i64 yc,.int .i64 yi,.pointer (some ⟨b,0,none⟩)]] w fun e w'=>e=.returned (.bool (bloB ps xc yc))∧Below w.heap.size w w'):=fun w hb=>isBelow_c (h.below hb) hi xn xd xf xl xs xa xk xo xc xi yn yd yf yl ys ya yk yo yc yi
  have HR:Hid (∀ w,Below W.heap.size W w→Calls Tryz.prog 138 #[.agg #[.string xn,.string xd,.int .i64 xf,.int .i64 xl,.int .i64 xs,.slice xa xk xo,.int .i64 xc,.int .i64 xi,.pointer (some ⟨b,0,none⟩)],.agg #[.string yn,.string yd,.int .i64 yf,.int .i64 yl,.int .i64 ys,.slice ya yk yo,.int .i64 yc,.int .i64 yi,.pointer (some ⟨b,0,none⟩)]] w fun e w'=>e=.returned (.bool (reaB ps xc yc yf))∧Below w.heap.size w w'):=fun w hb=>reaches_c (h.below hb) hi xn xd xf xl xs xa xk xo xc xi yn yd yf yl ys ya yk yo yc yi
  have HO:Hid (∀ w:World,Calls Tryz.prog 137 #[.int .i64 xf] w fun e w'=>e=.returned (.int .i64 (openI xf))∧w'=w):=fun w=>open_c xf w
  unfold plnB
  generalize freB xf xn=A1 at *
  generalize freB yf yn=A2 at *
  generalize bloB ps xc yc=A3 at *
  generalize reaB ps xc yc yf=A4 at *
  generalize openI xf=O at *
  clear h hi
  cases A1
  case' true=>cases A2
  case' true.true=>cases hn:(xn.toList == yn.toList)
  case' true.true.true=>cases hd:(xd.toList == yd.toList)
  case' true.true.true.true=>cases A3
  case' true.true.true.true.true=>cases ho:(O == 2)
  all_goals
    have BB:Hid (Below W.heap.size W W):=Below.refl _ _
    go_enter Tryz.func84,Tryz.ntmps84
    go_wp2_with (first
      | (go_at_call 135;refine (HF.out _).mono ?_;rintro e w1 ⟨rfl,hb⟩;have qd:w1.heap[W.heap.size]?=some (.cells #[.string xn,.string xd,.int .i64 xf,.int .i64 xl,.int .i64 xs,.slice xa xk xo,.int .i64 xc,.int .i64 xi,.pointer (some ⟨b,0,none⟩)] 128 (0,0)):=(hb.block (W.heap.size) (by first|omega|(simp;try omega))).trans (by first|exact qB.out|exact hkeep qB.out|exact hkeep (hkeep qB.out)|exact halloc2 _ _ rfl|exact heap_alloc2_old _ _ _|exact heap_alloc2_new _ _ _|exact hkeep (halloc2 _ _ rfl)|exact hkeep (hkeep (halloc2 _ _ rfl))|exact halloc2 _ _ (by simp;done));(try clear qB qL qN q0 q1 q2 q3 q4 q5 q6 q7 q8 qf0 qf1 qf2 qf3 qf4 qf5 qf6 qf7 qf8);have qB:Hid (w1.heap[W.heap.size]?=some (.cells #[.string xn,.string xd,.int .i64 xf,.int .i64 xl,.int .i64 xs,.slice xa xk xo,.int .i64 xc,.int .i64 xi,.pointer (some ⟨b,0,none⟩)] 128 (0,0))):=qd;have q0:w1.cell? ⟨W.heap.size,0,none⟩=some (.string xn):=(cell_of_row w1 (W.heap.size) 0 _ _ _ qd).trans rfl;have qf0:=frozen_of_row w1 (W.heap.size) 0 _ _ qd;have q1:w1.cell? ⟨W.heap.size,1,none⟩=some (.string xd):=(cell_of_row w1 (W.heap.size) 1 _ _ _ qd).trans rfl;have qf1:=frozen_of_row w1 (W.heap.size) 1 _ _ qd;have q2:w1.cell? ⟨W.heap.size,2,none⟩=some (.int .i64 xf):=(cell_of_row w1 (W.heap.size) 2 _ _ _ qd).trans rfl;have qf2:=frozen_of_row w1 (W.heap.size) 2 _ _ qd;have q3:w1.cell? ⟨W.heap.size,3,none⟩=some (.int .i64 xl):=(cell_of_row w1 (W.heap.size) 3 _ _ _ qd).trans rfl;have qf3:=frozen_of_row w1 (W.heap.size) 3 _ _ qd;have q4:w1.cell? ⟨W.heap.size,4,none⟩=some (.int .i64 xs):=(cell_of_row w1 (W.heap.size) 4 _ _ _ qd).trans rfl;have qf4:=frozen_of_row w1 (W.heap.size) 4 _ _ qd;have q5:w1.cell? ⟨W.heap.size,5,none⟩=some (.slice xa xk xo):=(cell_of_row w1 (W.heap.size) 5 _ _ _ qd).trans rfl;have qf5:=frozen_of_row w1 (W.heap.size) 5 _ _ qd;have q6:w1.cell? ⟨W.heap.size,6,none⟩=some (.int .i64 xc):=(cell_of_row w1 (W.heap.size) 6 _ _ _ qd).trans rfl;have qf6:=frozen_of_row w1 (W.heap.size) 6 _ _ qd;have q7:w1.cell? ⟨W.heap.size,7,none⟩=some (.int .i64 xi):=(cell_of_row w1 (W.heap.size) 7 _ _ _ qd).trans rfl;have qf7:=frozen_of_row w1 (W.heap.size) 7 _ _ qd;have q8:w1.cell? ⟨W.heap.size,8,none⟩=some (.pointer (some ⟨b,0,none⟩)):=(cell_of_row w1 (W.heap.size) 8 _ _ _ qd).trans rfl;have qf8:=frozen_of_row w1 (W.heap.size) 8 _ _ qd;have qL:W.heap.size<w1.heap.size:=(Array.getElem?_eq_some_iff.1 qd).1;have qN:¬ W.heap.size=w1.heap.size:=(by omega);clear qd;have rd:w1.heap[W.heap.size+1]?=some (.cells #[.string yn,.string yd,.int .i64 yf,.int .i64 yl,.int .i64 ys,.slice ya yk yo,.int .i64 yc,.int .i64 yi,.pointer (some ⟨b,0,none⟩)] 128 (0,0)):=(hb.block (W.heap.size+1) (by first|omega|(simp;try omega))).trans (by first|exact rB.out|exact hkeep rB.out|exact hkeep (hkeep rB.out)|exact halloc2 _ _ rfl|exact heap_alloc2_old _ _ _|exact heap_alloc2_new _ _ _|exact hkeep (halloc2 _ _ rfl)|exact hkeep (hkeep (halloc2 _ _ rfl))|exact halloc2 _ _ (by simp;done));(try clear rB rL rN r0 r1 r2 r3 r4 r5 r6 r7 r8 rf0 rf1 rf2 rf3 rf4 rf5 rf6 rf7 rf8);have rB:Hid (w1.heap[W.heap.size+1]?=some (.cells #[.string yn,.string yd,.int .i64 yf,.int .i64 yl,.int .i64 ys,.slice ya yk yo,.int .i64 yc,.int .i64 yi,.pointer (some ⟨b,0,none⟩)] 128 (0,0))):=rd;have r0:w1.cell? ⟨W.heap.size+1,0,none⟩=some (.string yn):=(cell_of_row w1 (W.heap.size+1) 0 _ _ _ rd).trans rfl;have rf0:=frozen_of_row w1 (W.heap.size+1) 0 _ _ rd;have r1:w1.cell? ⟨W.heap.size+1,1,none⟩=some (.string yd):=(cell_of_row w1 (W.heap.size+1) 1 _ _ _ rd).trans rfl;have rf1:=frozen_of_row w1 (W.heap.size+1) 1 _ _ rd;have r2:w1.cell? ⟨W.heap.size+1,2,none⟩=some (.int .i64 yf):=(cell_of_row w1 (W.heap.size+1) 2 _ _ _ rd).trans rfl;have rf2:=frozen_of_row w1 (W.heap.size+1) 2 _ _ rd;have r3:w1.cell? ⟨W.heap.size+1,3,none⟩=some (.int .i64 yl):=(cell_of_row w1 (W.heap.size+1) 3 _ _ _ rd).trans rfl;have rf3:=frozen_of_row w1 (W.heap.size+1) 3 _ _ rd;have r4:w1.cell? ⟨W.heap.size+1,4,none⟩=some (.int .i64 ys):=(cell_of_row w1 (W.heap.size+1) 4 _ _ _ rd).trans rfl;have rf4:=frozen_of_row w1 (W.heap.size+1) 4 _ _ rd;have r5:w1.cell? ⟨W.heap.size+1,5,none⟩=some (.slice ya yk yo):=(cell_of_row w1 (W.heap.size+1) 5 _ _ _ rd).trans rfl;have rf5:=frozen_of_row w1 (W.heap.size+1) 5 _ _ rd;have r6:w1.cell? ⟨W.heap.size+1,6,none⟩=some (.int .i64 yc):=(cell_of_row w1 (W.heap.size+1) 6 _ _ _ rd).trans rfl;have rf6:=frozen_of_row w1 (W.heap.size+1) 6 _ _ rd;have r7:w1.cell? ⟨W.heap.size+1,7,none⟩=some (.int .i64 yi):=(cell_of_row w1 (W.heap.size+1) 7 _ _ _ rd).trans rfl;have rf7:=frozen_of_row w1 (W.heap.size+1) 7 _ _ rd;have r8:w1.cell? ⟨W.heap.size+1,8,none⟩=some (.pointer (some ⟨b,0,none⟩)):=(cell_of_row w1 (W.heap.size+1) 8 _ _ _ rd).trans rfl;have rf8:=frozen_of_row w1 (W.heap.size+1) 8 _ _ rd;have rL:W.heap.size+1<w1.heap.size:=(Array.getElem?_eq_some_iff.1 rd).1;have rN:¬ W.heap.size+1=w1.heap.size:=(by omega);clear rd;have BB2:Below W.heap.size W w1:=bstep (by repeat (first|exact Below.refl _ _|refine Below.setCell ?_ (by simp;try omega) _|refine Below.alloc ?_ (by simp;try omega) _|refine Below.drew ?_)) hb;clear BB;have BB:Hid (Below W.heap.size W w1):=BB2;clear BB2 hb;clear HF)
      | (go_at_call 135;refine (HG.out _).mono ?_;rintro e w2 ⟨rfl,hb⟩;have qd:w2.heap[W.heap.size]?=some (.cells #[.string xn,.string xd,.int .i64 xf,.int .i64 xl,.int .i64 xs,.slice xa xk xo,.int .i64 xc,.int .i64 xi,.pointer (some ⟨b,0,none⟩)] 128 (0,0)):=(hb.block (W.heap.size) (by first|omega|(simp;try omega))).trans (by first|exact qB.out|exact hkeep qB.out|exact hkeep (hkeep qB.out)|exact halloc2 _ _ rfl|exact heap_alloc2_old _ _ _|exact heap_alloc2_new _ _ _|exact hkeep (halloc2 _ _ rfl)|exact hkeep (hkeep (halloc2 _ _ rfl))|exact halloc2 _ _ (by simp;done));(try clear qB qL qN q0 q1 q2 q3 q4 q5 q6 q7 q8 qf0 qf1 qf2 qf3 qf4 qf5 qf6 qf7 qf8);have qB:Hid (w2.heap[W.heap.size]?=some (.cells #[.string xn,.string xd,.int .i64 xf,.int .i64 xl,.int .i64 xs,.slice xa xk xo,.int .i64 xc,.int .i64 xi,.pointer (some ⟨b,0,none⟩)] 128 (0,0))):=qd;have q0:w2.cell? ⟨W.heap.size,0,none⟩=some (.string xn):=(cell_of_row w2 (W.heap.size) 0 _ _ _ qd).trans rfl;have qf0:=frozen_of_row w2 (W.heap.size) 0 _ _ qd;have q1:w2.cell? ⟨W.heap.size,1,none⟩=some (.string xd):=(cell_of_row w2 (W.heap.size) 1 _ _ _ qd).trans rfl;have qf1:=frozen_of_row w2 (W.heap.size) 1 _ _ qd;have q2:w2.cell? ⟨W.heap.size,2,none⟩=some (.int .i64 xf):=(cell_of_row w2 (W.heap.size) 2 _ _ _ qd).trans rfl;have qf2:=frozen_of_row w2 (W.heap.size) 2 _ _ qd;have q3:w2.cell? ⟨W.heap.size,3,none⟩=some (.int .i64 xl):=(cell_of_row w2 (W.heap.size) 3 _ _ _ qd).trans rfl;have qf3:=frozen_of_row w2 (W.heap.size) 3 _ _ qd;have q4:w2.cell? ⟨W.heap.size,4,none⟩=some (.int .i64 xs):=(cell_of_row w2 (W.heap.size) 4 _ _ _ qd).trans rfl;have qf4:=frozen_of_row w2 (W.heap.size) 4 _ _ qd;have q5:w2.cell? ⟨W.heap.size,5,none⟩=some (.slice xa xk xo):=(cell_of_row w2 (W.heap.size) 5 _ _ _ qd).trans rfl;have qf5:=frozen_of_row w2 (W.heap.size) 5 _ _ qd;have q6:w2.cell? ⟨W.heap.size,6,none⟩=some (.int .i64 xc):=(cell_of_row w2 (W.heap.size) 6 _ _ _ qd).trans rfl;have qf6:=frozen_of_row w2 (W.heap.size) 6 _ _ qd;have q7:w2.cell? ⟨W.heap.size,7,none⟩=some (.int .i64 xi):=(cell_of_row w2 (W.heap.size) 7 _ _ _ qd).trans rfl;have qf7:=frozen_of_row w2 (W.heap.size) 7 _ _ qd;have q8:w2.cell? ⟨W.heap.size,8,none⟩=some (.pointer (some ⟨b,0,none⟩)):=(cell_of_row w2 (W.heap.size) 8 _ _ _ qd).trans rfl;have qf8:=frozen_of_row w2 (W.heap.size) 8 _ _ qd;have qL:W.heap.size<w2.heap.size:=(Array.getElem?_eq_some_iff.1 qd).1;have qN:¬ W.heap.size=w2.heap.size:=(by omega);clear qd;have rd:w2.heap[W.heap.size+1]?=some (.cells #[.string yn,.string yd,.int .i64 yf,.int .i64 yl,.int .i64 ys,.slice ya yk yo,.int .i64 yc,.int .i64 yi,.pointer (some ⟨b,0,none⟩)] 128 (0,0)):=(hb.block (W.heap.size+1) (by first|omega|(simp;try omega))).trans (by first|exact rB.out|exact hkeep rB.out|exact hkeep (hkeep rB.out)|exact halloc2 _ _ rfl|exact heap_alloc2_old _ _ _|exact heap_alloc2_new _ _ _|exact hkeep (halloc2 _ _ rfl)|exact hkeep (hkeep (halloc2 _ _ rfl))|exact halloc2 _ _ (by simp;done));(try clear rB rL rN r0 r1 r2 r3 r4 r5 r6 r7 r8 rf0 rf1 rf2 rf3 rf4 rf5 rf6 rf7 rf8);have rB:Hid (w2.heap[W.heap.size+1]?=some (.cells #[.string yn,.string yd,.int .i64 yf,.int .i64 yl,.int .i64 ys,.slice ya yk yo,.int .i64 yc,.int .i64 yi,.pointer (some ⟨b,0,none⟩)] 128 (0,0))):=rd;have r0:w2.cell? ⟨W.heap.size+1,0,none⟩=some (.string yn):=(cell_of_row w2 (W.heap.size+1) 0 _ _ _ rd).trans rfl;have rf0:=frozen_of_row w2 (W.heap.size+1) 0 _ _ rd;have r1:w2.cell? ⟨W.heap.size+1,1,none⟩=some (.string yd):=(cell_of_row w2 (W.heap.size+1) 1 _ _ _ rd).trans rfl;have rf1:=frozen_of_row w2 (W.heap.size+1) 1 _ _ rd;have r2:w2.cell? ⟨W.heap.size+1,2,none⟩=some (.int .i64 yf):=(cell_of_row w2 (W.heap.size+1) 2 _ _ _ rd).trans rfl;have rf2:=frozen_of_row w2 (W.heap.size+1) 2 _ _ rd;have r3:w2.cell? ⟨W.heap.size+1,3,none⟩=some (.int .i64 yl):=(cell_of_row w2 (W.heap.size+1) 3 _ _ _ rd).trans rfl;have rf3:=frozen_of_row w2 (W.heap.size+1) 3 _ _ rd;have r4:w2.cell? ⟨W.heap.size+1,4,none⟩=some (.int .i64 ys):=(cell_of_row w2 (W.heap.size+1) 4 _ _ _ rd).trans rfl;have rf4:=frozen_of_row w2 (W.heap.size+1) 4 _ _ rd;have r5:w2.cell? ⟨W.heap.size+1,5,none⟩=some (.slice ya yk yo):=(cell_of_row w2 (W.heap.size+1) 5 _ _ _ rd).trans rfl;have rf5:=frozen_of_row w2 (W.heap.size+1) 5 _ _ rd;have r6:w2.cell? ⟨W.heap.size+1,6,none⟩=some (.int .i64 yc):=(cell_of_row w2 (W.heap.size+1) 6 _ _ _ rd).trans rfl;have rf6:=frozen_of_row w2 (W.heap.size+1) 6 _ _ rd;have r7:w2.cell? ⟨W.heap.size+1,7,none⟩=some (.int .i64 yi):=(cell_of_row w2 (W.heap.size+1) 7 _ _ _ rd).trans rfl;have rf7:=frozen_of_row w2 (W.heap.size+1) 7 _ _ rd;have r8:w2.cell? ⟨W.heap.size+1,8,none⟩=some (.pointer (some ⟨b,0,none⟩)):=(cell_of_row w2 (W.heap.size+1) 8 _ _ _ rd).trans rfl;have rf8:=frozen_of_row w2 (W.heap.size+1) 8 _ _ rd;have rL:W.heap.size+1<w2.heap.size:=(Array.getElem?_eq_some_iff.1 rd).1;have rN:¬ W.heap.size+1=w2.heap.size:=(by omega);clear rd;have BB2:Below W.heap.size W w2:=bstep BB.out hb;clear BB;have BB:Hid (Below W.heap.size W w2):=BB2;clear BB2 hb;clear HG)
      | (go_at_call 136;refine (HL.out _ BB.out).mono ?_;rintro e w3 ⟨rfl,hb⟩;have qd:w3.heap[W.heap.size]?=some (.cells #[.string xn,.string xd,.int .i64 xf,.int .i64 xl,.int .i64 xs,.slice xa xk xo,.int .i64 xc,.int .i64 xi,.pointer (some ⟨b,0,none⟩)] 128 (0,0)):=(hb.block (W.heap.size) (by first|omega|(simp;try omega))).trans (by first|exact qB.out|exact hkeep qB.out|exact hkeep (hkeep qB.out)|exact halloc2 _ _ rfl|exact heap_alloc2_old _ _ _|exact heap_alloc2_new _ _ _|exact hkeep (halloc2 _ _ rfl)|exact hkeep (hkeep (halloc2 _ _ rfl))|exact halloc2 _ _ (by simp;done));(try clear qB qL qN q0 q1 q2 q3 q4 q5 q6 q7 q8 qf0 qf1 qf2 qf3 qf4 qf5 qf6 qf7 qf8);have qB:Hid (w3.heap[W.heap.size]?=some (.cells #[.string xn,.string xd,.int .i64 xf,.int .i64 xl,.int .i64 xs,.slice xa xk xo,.int .i64 xc,.int .i64 xi,.pointer (some ⟨b,0,none⟩)] 128 (0,0))):=qd;have q0:w3.cell? ⟨W.heap.size,0,none⟩=some (.string xn):=(cell_of_row w3 (W.heap.size) 0 _ _ _ qd).trans rfl;have qf0:=frozen_of_row w3 (W.heap.size) 0 _ _ qd;have q1:w3.cell? ⟨W.heap.size,1,none⟩=some (.string xd):=(cell_of_row w3 (W.heap.size) 1 _ _ _ qd).trans rfl;have qf1:=frozen_of_row w3 (W.heap.size) 1 _ _ qd;have q2:w3.cell? ⟨W.heap.size,2,none⟩=some (.int .i64 xf):=(cell_of_row w3 (W.heap.size) 2 _ _ _ qd).trans rfl;have qf2:=frozen_of_row w3 (W.heap.size) 2 _ _ qd;have q3:w3.cell? ⟨W.heap.size,3,none⟩=some (.int .i64 xl):=(cell_of_row w3 (W.heap.size) 3 _ _ _ qd).trans rfl;have qf3:=frozen_of_row w3 (W.heap.size) 3 _ _ qd;have q4:w3.cell? ⟨W.heap.size,4,none⟩=some (.int .i64 xs):=(cell_of_row w3 (W.heap.size) 4 _ _ _ qd).trans rfl;have qf4:=frozen_of_row w3 (W.heap.size) 4 _ _ qd;have q5:w3.cell? ⟨W.heap.size,5,none⟩=some (.slice xa xk xo):=(cell_of_row w3 (W.heap.size) 5 _ _ _ qd).trans rfl;have qf5:=frozen_of_row w3 (W.heap.size) 5 _ _ qd;have q6:w3.cell? ⟨W.heap.size,6,none⟩=some (.int .i64 xc):=(cell_of_row w3 (W.heap.size) 6 _ _ _ qd).trans rfl;have qf6:=frozen_of_row w3 (W.heap.size) 6 _ _ qd;have q7:w3.cell? ⟨W.heap.size,7,none⟩=some (.int .i64 xi):=(cell_of_row w3 (W.heap.size) 7 _ _ _ qd).trans rfl;have qf7:=frozen_of_row w3 (W.heap.size) 7 _ _ qd;have q8:w3.cell? ⟨W.heap.size,8,none⟩=some (.pointer (some ⟨b,0,none⟩)):=(cell_of_row w3 (W.heap.size) 8 _ _ _ qd).trans rfl;have qf8:=frozen_of_row w3 (W.heap.size) 8 _ _ qd;have qL:W.heap.size<w3.heap.size:=(Array.getElem?_eq_some_iff.1 qd).1;have qN:¬ W.heap.size=w3.heap.size:=(by omega);clear qd;have rd:w3.heap[W.heap.size+1]?=some (.cells #[.string yn,.string yd,.int .i64 yf,.int .i64 yl,.int .i64 ys,.slice ya yk yo,.int .i64 yc,.int .i64 yi,.pointer (some ⟨b,0,none⟩)] 128 (0,0)):=(hb.block (W.heap.size+1) (by first|omega|(simp;try omega))).trans (by first|exact rB.out|exact hkeep rB.out|exact hkeep (hkeep rB.out)|exact halloc2 _ _ rfl|exact heap_alloc2_old _ _ _|exact heap_alloc2_new _ _ _|exact hkeep (halloc2 _ _ rfl)|exact hkeep (hkeep (halloc2 _ _ rfl))|exact halloc2 _ _ (by simp;done));(try clear rB rL rN r0 r1 r2 r3 r4 r5 r6 r7 r8 rf0 rf1 rf2 rf3 rf4 rf5 rf6 rf7 rf8);have rB:Hid (w3.heap[W.heap.size+1]?=some (.cells #[.string yn,.string yd,.int .i64 yf,.int .i64 yl,.int .i64 ys,.slice ya yk yo,.int .i64 yc,.int .i64 yi,.pointer (some ⟨b,0,none⟩)] 128 (0,0))):=rd;have r0:w3.cell? ⟨W.heap.size+1,0,none⟩=some (.string yn):=(cell_of_row w3 (W.heap.size+1) 0 _ _ _ rd).trans rfl;have rf0:=frozen_of_row w3 (W.heap.size+1) 0 _ _ rd;have r1:w3.cell? ⟨W.heap.size+1,1,none⟩=some (.string yd):=(cell_of_row w3 (W.heap.size+1) 1 _ _ _ rd).trans rfl;have rf1:=frozen_of_row w3 (W.heap.size+1) 1 _ _ rd;have r2:w3.cell? ⟨W.heap.size+1,2,none⟩=some (.int .i64 yf):=(cell_of_row w3 (W.heap.size+1) 2 _ _ _ rd).trans rfl;have rf2:=frozen_of_row w3 (W.heap.size+1) 2 _ _ rd;have r3:w3.cell? ⟨W.heap.size+1,3,none⟩=some (.int .i64 yl):=(cell_of_row w3 (W.heap.size+1) 3 _ _ _ rd).trans rfl;have rf3:=frozen_of_row w3 (W.heap.size+1) 3 _ _ rd;have r4:w3.cell? ⟨W.heap.size+1,4,none⟩=some (.int .i64 ys):=(cell_of_row w3 (W.heap.size+1) 4 _ _ _ rd).trans rfl;have rf4:=frozen_of_row w3 (W.heap.size+1) 4 _ _ rd;have r5:w3.cell? ⟨W.heap.size+1,5,none⟩=some (.slice ya yk yo):=(cell_of_row w3 (W.heap.size+1) 5 _ _ _ rd).trans rfl;have rf5:=frozen_of_row w3 (W.heap.size+1) 5 _ _ rd;have r6:w3.cell? ⟨W.heap.size+1,6,none⟩=some (.int .i64 yc):=(cell_of_row w3 (W.heap.size+1) 6 _ _ _ rd).trans rfl;have rf6:=frozen_of_row w3 (W.heap.size+1) 6 _ _ rd;have r7:w3.cell? ⟨W.heap.size+1,7,none⟩=some (.int .i64 yi):=(cell_of_row w3 (W.heap.size+1) 7 _ _ _ rd).trans rfl;have rf7:=frozen_of_row w3 (W.heap.size+1) 7 _ _ rd;have r8:w3.cell? ⟨W.heap.size+1,8,none⟩=some (.pointer (some ⟨b,0,none⟩)):=(cell_of_row w3 (W.heap.size+1) 8 _ _ _ rd).trans rfl;have rf8:=frozen_of_row w3 (W.heap.size+1) 8 _ _ rd;have rL:W.heap.size+1<w3.heap.size:=(Array.getElem?_eq_some_iff.1 rd).1;have rN:¬ W.heap.size+1=w3.heap.size:=(by omega);clear rd;have BB2:Below W.heap.size W w3:=bstep BB.out hb;clear BB;have BB:Hid (Below W.heap.size W w3):=BB2;clear BB2 hb;clear HL)
      | (go_at_call 137;refine (HO.out _).mono ?_;rintro e w9 ⟨rfl,hw9⟩;rw [hw9];clear hw9 w9 HO)
      | (go_at_call 138;refine (HR.out _ BB.out).mono ?_;rintro e w4 ⟨rfl,hb⟩;have BB2:Below W.heap.size W w4:=bstep BB.out hb;clear BB;have BB:Hid (Below W.heap.size W w4):=BB2;clear BB2 hb;clear HR))
    all_goals go_ret
    all_goals exact ⟨retB (by simp [*]),(by repeat (first|exact BB.out|exact Below.refl _ _|refine Below.setCell ?_ (by simp;try omega) _|refine Below.alloc ?_ (by have:=BB.out.size;simp;try omega) _|refine Below.drew ?_))⟩
theorem hkeep {w:World} {n:Nat} {x o:Obj} (h:w.heap[n]?=some x):(w.alloc o).heap[n]?=some x:=by
  have hb:Below w.heap.size w (w.alloc o):=(Below.refl _ w).alloc (Nat.le_refl _) _
  exact (hb.block n (Array.getElem?_eq_some_iff.1 h).1).trans h
end Go.Proofs.YtfjekhmnjfcbeaaGreat
