import Derived.Test.YthfifobokpfpkaaGreatHrQ
import Derived.Test.YthfifobokpfpkaaGreatHrY
import Derived.Test.YthfifobokpfpkaaGreatFOwnA
import Derived.Test.YthfifobokpfpkaaGreatMxC
import Derived.Test.YthfifobokpfpkaaGreatRfX
import Derived.Test.YthfifobokpfpkaaGreatHrX
import Derived.Test.YthfifobokpfpkaaGreatTypesParse
import Derived.Test.YthfifobokpfpkaaGreatCurB
import Derived.Test.YthfifobokpfpkaaGreatSoD
import Derived.Test.YthfifobokpfpkaaGreatOwnRefs
import Derived.Test.YthfifobokpfpkaaGreatOwnL
import Derived.Deep.RegionHeld3
import Derived.Lib.SliceRun
import Derived.Laws.IdiomStrings
import Derived.Deep.LoopGhost
set_option maxRecDepth 100000
namespace Go.Proofs.YthfifobokpfpkaaGreat
open Go.RowKit Go.Maps
def wld (l:List Cls):List Plc:=l.foldl (fun ps c=>dfP ps (defN ps c)) P3
theorem wld_snoc (l:List Cls) (c:Cls):wld (l++[c])=dfP (wld l) (defN (wld l) c):=by
  rw [wld,List.foldl_append];rfl
theorem wld_at {l:List Cls} {i:Nat} {c:Cls} (h:l[i]?=some c):wld (l.take (i+1))=dfP (wld (l.take i)) (defN (wld (l.take i)) c):=by
  rw [List.take_add_one,h];exact wld_snoc _ _
theorem wld_ind {P:List Plc→Prop} (h3:P P3) (hd:∀ ps c,P ps→ClsW c→P (dfP ps (defN ps c))):∀ l:List Cls,(∀ c∈l,ClsW c)→P (wld l):=by
  have key:∀ (l:List Cls) (ps:List Plc),(∀ c∈l,ClsW c)→P ps→P (l.foldl (fun ps c=>dfP ps (defN ps c)) ps):=by
    intro l
    induction l with
    | nil=>exact fun ps _ h=>h
    | cons c l ih=>exact fun ps hl h=>ih _ (fun x hx=>hl x (List.mem_cons_of_mem _ hx)) (hd ps c h (hl c (by simp)))
  exact fun l hl=>key l P3 hl h3
theorem wld_wi (l:List Cls) (hl:∀ c∈l,ClsW c):WI (wld l):=wld_ind wi3 (fun _ c h hc=>h.define c hc) l hl
theorem clss_w {w:World} {v:Value} {l:List Cls} (h:IsClss w v l):∀ c∈l,ClsW c:=by
  obtain ⟨ao,cap,e,h1,h2,h3⟩:=h
  intro c hc
  obtain ⟨bk,o,_,_,h4⟩:=h3 (fun e=>by rw [e] at hc;simp at hc)
  obtain ⟨i,hi⟩:=List.mem_iff_getElem?.1 hc
  obtain ⟨vi,vm,_,hin⟩:=h4 i c hi
  exact hin.ok
set_option maxHeartbeats 4000000 in
theorem built9_c (v:Value) (l:List Cls) (W:World) (h:IsClss W v l):Calls Tryz.prog 16 #[v] W fun e w'=>(∃ b,e=.returned (.pointer (some ⟨b,0,none⟩))∧WAt b (wld l) w')∧Below W.heap.size W w':=by
  have hCW:=clss_w h
  obtain ⟨ao,cap,rfl,h1,h2,h3⟩:=h
  unfold maxLen at h2
  obtain ⟨L,hL⟩:∃ L,l.length=L:=⟨_,rfl⟩
  have HL:Hid (l.length=L):=hL
  have HI:Hid _:=h3
  have HCW:Hid (∀ c∈l,ClsW c):=hCW
  rw [hL] at h1 ⊢
  clear hL h3 hCW
  have HN:Hid (∀ w:World,Calls Tryz.prog 27 #[] w fun e w'=>e=.returned (.pointer (some ⟨w.heap.size+1,0,none⟩))∧(∃ vp pv,HW w' w.heap.size (w.heap.size+1) w.heap.size P3 vp pv)∧Below w.heap.size w w'):=new_any
  go_enter Tryz.func16,Tryz.ntmps16
  go_wp2_with (first
    | (go_at_call 27;refine (HN.out _).mono ?_;rintro e w2 ⟨rfl,hw,hb⟩;have H2:Hid (∃ vp pv,HW w2 W.heap.size (W.heap.size+1) W.heap.size P3 vp pv):=hw;have B2:Hid (Below W.heap.size W w2):=hb;clear hb hw HN))
  go_loopw [4] (fun iv wr=>∃ (i:Nat),iv=.int .i64 i∧i≤L∧Hid (∃ vp pv,HW wr W.heap.size (W.heap.size+1) W.heap.size (wld (l.take i)) vp pv)∧Hid (Below W.heap.size W wr)) (fun iv _=>L - (intOf iv).toNat)
  case atStart=>exact ⟨0,rfl,Nat.zero_le _,H2,B2⟩
  case round =>
    clear H2 B2
    obtain ⟨i,rfl,hi,hHW,hB⟩:=hrel
    by_cases hlt:i<L
    · obtain ⟨c,hc⟩:∃ c,l[i]?=some c:=⟨_,List.getElem?_eq_getElem (by rw [HL.out];exact hlt)⟩
      obtain ⟨bk,o,rfl,hbk,hcl⟩:=HI.out (fun e=>by rw [e] at hc;simp at hc)
      obtain ⟨vi,vm,hcell,hin⟩:=hcl i c hc
      have bel:Below W.heap.size W wr:=hB.out
      have p0:wr.cell? ⟨bk,o+i * 6,none⟩=some (.string c.nm):=(bel.cell (p:=⟨bk,o+i * 6,none⟩) hbk).trans (hcell 0 _ rfl)
      have p1:wr.cell? ⟨bk,o+i * 6+1,none⟩=some (.string c.su):=(bel.cell (p:=⟨bk,o+i * 6+1,none⟩) hbk).trans (hcell 1 _ rfl)
      have p2:wr.cell? ⟨bk,o+i * 6+2,none⟩=some vi:=(bel.cell (p:=⟨bk,o+i * 6+2,none⟩) hbk).trans (hcell 2 _ rfl)
      have p3:wr.cell? ⟨bk,o+i * 6+3,none⟩=some (.int .i64 c.fl):=(bel.cell (p:=⟨bk,o+i * 6+3,none⟩) hbk).trans (hcell 3 _ rfl)
      have p4:wr.cell? ⟨bk,o+i * 6+4,none⟩=some (.int .i64 c.ld):=(bel.cell (p:=⟨bk,o+i * 6+4,none⟩) hbk).trans (hcell 4 _ rfl)
      have p5:wr.cell? ⟨bk,o+i * 6+5,none⟩=some vm:=(bel.cell (p:=⟨bk,o+i * 6+5,none⟩) hbk).trans (hcell 5 _ rfl)
      have hWI:WI (wld (l.take i)):=wld_wi _ (fun c hc=>HCW.out c (List.mem_of_mem_take hc))
      have HD:Hid (Calls Tryz.prog 28 #[.pointer (some ⟨W.heap.size+1,0,none⟩),.agg #[.string c.nm,.string c.su,vi,.int .i64 c.fl,.int .i64 c.ld,vm]] wr fun e w'=>(∃ u,e=.returned u)∧Hid (∃ vp pv,HW w' W.heap.size (W.heap.size+1) W.heap.size (wld (l.take (i+1))) vp pv)∧Hid (Below W.heap.size W w')):=by
        obtain ⟨vp,pv,hw⟩:=hHW.out
        refine (define_any W.heap.size (W.heap.size+1) W.heap.size _ vp pv c vi vm wr hw hB.out.size (hin.keep bel) hWI.nm).mono ?_
        rintro e w' ⟨rfl,hw',hb',_⟩
        rw [wld_at hc]
        exact ⟨⟨_,rfl⟩,hw',hB.out.trans hb'⟩
      clear hcl hcell hin hc bel hWI hHW hB HI
      go_wp2_with (go_at_call 28;refine HD.out.mono ?_;rintro e w3 ⟨⟨u3,rfl⟩,hw3,hb3⟩;clear HD)
      go_roundw
      case rel=>exact ⟨i+1,by go_num,by omega,hw3,hb3⟩
      case measure=>simp [intOf];omega
    · have e:i=L:=by omega
      subst e
      have HF:Hid (WAt (W.heap.size+1) (wld l) wr):=by
        obtain ⟨vp,pv,hw⟩:=hHW.out
        rw [List.take_of_length_le (by rw [HL.out];exact Nat.le_refl _)] at hw
        exact hw.wat
      clear hHW HI
      go_wp2
      exact bodyPost_ret (results_tmp rfl _ _ _) rfl ⟨⟨_,rfl,HF.out⟩,hB.out⟩
def extI (ps:List Plc) (a b:Int):Bool:=(plcI ps a).isSome&&(plcI ps b).isSome&&extB (ps.map nd) a.toNat b.toNat
theorem extends_no {b:Nat} {ps:List Plc} {W:World} (h:WAt b ps W) (x y:Int) (hxy:plcI ps x=none∨plcI ps y=none):Calls Tryz.prog 25 #[.pointer (some ⟨b,0,none⟩),.int .i64 x,.int .i64 y] W fun e w'=>e=.returned (.bool false)∧Below W.heap.size W w':=by
  have HX:Hid (∀ i z w,Below W.heap.size W w→plcI ps i=z→Calls Tryz.prog 81 #[.pointer (some ⟨b,0,none⟩),.int .i64 i] w fun e w'=>e=.returned (.bool z.isSome)∧w'=w):=fun i z w hb hi=>by
    have:=has_c (h.below hb) i
    rw [hi] at this;exact this
  clear h
  generalize hpx:plcI ps x=px at *
  generalize hpy:plcI ps y=py at *
  have HPX:Hid _:=hpx
  have HPY:Hid _:=hpy
  clear hpx hpy
  cases px with
  | none =>
    go_enter Tryz.func25,Tryz.ntmps25
    go_wp2_with (go_at_call 81;refine (HX.out _ _ _ (by repeat (first|exact Below.refl _ _|refine Below.setCell ?_ (by simp;try omega) _|refine Below.alloc ?_ (by simp;try omega) _|refine Below.drew ?_)) HPX.out).mono ?_;rintro e w9 ⟨rfl,hw9⟩;rw [hw9];clear hw9 w9)
    refine bodyPost_ret (v:=.bool false) (by simp [results,Tryz.results25,go_sem]) rfl ⟨rfl,(by repeat (first|exact Below.refl _ _|refine Below.setCell ?_ (by simp;try omega) _|refine Below.alloc ?_ (by simp;try omega) _|refine Below.drew ?_))⟩
  | some p =>
    obtain rfl:py=none:=hxy.resolve_left (by simp)
    clear hxy
    have HX1:Hid (∀ i w,Below W.heap.size W w→i=x→Calls Tryz.prog 81 #[.pointer (some ⟨b,0,none⟩),.int .i64 i] w fun e w'=>e=.returned (.bool true)∧w'=w):=fun i w hb hi=>by rw [hi];exact HX.out x _ w hb HPX.out
    have HY1:Hid (∀ i w,Below W.heap.size W w→i=y→Calls Tryz.prog 81 #[.pointer (some ⟨b,0,none⟩),.int .i64 i] w fun e w'=>e=.returned (.bool false)∧w'=w):=fun i w hb hi=>by rw [hi];exact HX.out y _ w hb HPY.out
    go_enter Tryz.func25,Tryz.ntmps25
    go_wp2_with (first
      | (go_at_call 81;refine (HX1.out _ _ (by repeat (first|exact Below.refl _ _|refine Below.setCell ?_ (by simp;try omega) _|refine Below.alloc ?_ (by simp;try omega) _|refine Below.drew ?_)) (by rfl)).mono ?_;rintro e w9 ⟨rfl,hw9⟩;rw [hw9];clear hw9 w9)
      | (go_at_call 81;refine (HY1.out _ _ (by repeat (first|exact Below.refl _ _|refine Below.setCell ?_ (by simp;try omega) _|refine Below.alloc ?_ (by simp;try omega) _|refine Below.drew ?_)) (by rfl)).mono ?_;rintro e w9 ⟨rfl,hw9⟩;rw [hw9];clear hw9 w9))
    refine bodyPost_ret (v:=.bool false) (by simp [results,Tryz.results25,go_sem]) rfl ⟨rfl,(by repeat (first|exact Below.refl _ _|refine Below.setCell ?_ (by simp;try omega) _|refine Below.alloc ?_ (by simp;try omega) _|refine Below.drew ?_))⟩
theorem extends_c {b:Nat} {ps:List Plc} {W:World} (h:WAt b ps W) (hi:WI ps) (x y:Int):Calls Tryz.prog 25 #[.pointer (some ⟨b,0,none⟩),.int .i64 x,.int .i64 y] W fun e w'=>e=.returned (.bool (extI ps x y))∧Below W.heap.size W w':=by
  rcases plcI_cases ps x with ⟨h1,_⟩|⟨k,p,rfl,h2,h1⟩
  · have e:extI ps x y=false:=by rw [extI,h1];rfl
    rw [e];exact extends_no h x y (.inl h1)
  · rcases plcI_cases ps y with ⟨g1,_⟩|⟨j,q,rfl,g2,g1⟩
    · have e:extI ps k y=false:=by rw [extI,h1,g1];rfl
      rw [e];exact extends_no h k y (.inr g1)
    · have e:extI ps k j=extB (ps.map nd) k j:=by rw [extI,h1,g1];rfl
      obtain ⟨N,mb,vp,pv,h⟩:=h
      rw [e];exact extends_yes N b mb ps vp pv k j (List.getElem?_eq_some_iff.1 h2).1 (List.getElem?_eq_some_iff.1 g2).1 hi.wo hi.hi W h
def ifcI (ps:List Plc) (i:Int):Bool:=match plcI ps i with
  | some q=>ifB q.c.fl
  | none=>false
theorem isIface_c {b:Nat} {ps:List Plc} {W:World} (h:WAt b ps W) (x:Int):Calls Tryz.prog 23 #[.pointer (some ⟨b,0,none⟩),.int .i64 x] W fun e w'=>e=.returned (.bool (ifcI ps x))∧Below W.heap.size W w':=by
  obtain ⟨N,mb,vp,pv,h⟩:=h
  rcases plcI_cases ps x with ⟨h1,h2⟩|⟨k,p,rfl,h2,h1⟩
  · have e:ifcI ps x=false:=by rw [ifcI,h1]
    rw [e];exact isIfaceW_no N b mb ps vp pv x W h h2
  · have e:ifcI ps k=ifB p.c.fl:=by rw [ifcI,h1]
    rw [e];exact isIfaceW_yes N b mb ps vp pv k p W h h2
theorem len_c {b:Nat} {ps:List Plc} {W:World} (h:WAt b ps W):Calls Tryz.prog 29 #[.pointer (some ⟨b,0,none⟩)] W fun e w'=>e=.returned (.int .i64 (ps.length:Int))∧w'=W:=by
  obtain ⟨N,mb,vp,pv,h⟩:=h
  exact len_any N b mb ps vp pv W h
theorem open_c (f:Int) (W:World):Calls Tryz.prog 191 #[.int .i64 f] W fun e w'=>e=.returned (.int .i64 (openI f))∧w'=W:=by
  have HR:Hid (openI f=if hasI f 1 then 1 else if hasI f 4 then 4 else bits .and .i64 f 2):=Fl.own_open f
  have HH:Hid (∀ (x:Int) (y:Bool) (w:World),hasI f x=y→Calls Tryz.prog 216 #[.int .i64 f,.int .i64 x] w fun e w'=>e=.returned (.bool y)∧w'=w):=fun x y w hy=>by rw [← hy];exact Fl.hasAny_any f x w
  generalize openI f=r at *
  generalize hasI f=hz at *
  obtain ⟨b1,h1⟩:∃ b,hz 1=b:=⟨_,rfl⟩
  obtain ⟨b4,h4⟩:∃ b,hz 4=b:=⟨_,rfl⟩
  rw [h1,h4] at HR
  have H1:Hid _:=h1
  have H4:Hid _:=h4
  clear h1 h4
  cases b1 <;> cases b4
  all_goals
    go_enter Tryz.func191,Tryz.ntmps191
    go_wp2_with (go_at_call 216;refine (HH.out _ _ _ (by first|exact H1.out|exact H4.out)).mono ?_;rintro e w9 ⟨rfl,hw9⟩;rw [hw9];clear hw9 w9)
    exact bodyPost_ret (results_tmp rfl _ _ _) rfl ⟨by rw [HR.out];rfl,rfl⟩
theorem retB {a b:Bool} (h:a=b):Ending.returned (.bool a)=Ending.returned (.bool b):=by rw [h]
theorem open_cases (f:Int):openI f=1∨openI f=2∨openI f=4∨openI f=0:=by
  unfold openI
  split
  · exact .inl rfl
  · split
    · exact .inr (.inr (.inl rfl))
    · split
      · exact .inr (.inl rfl)
      · exact .inr (.inr (.inr rfl))
theorem meth_plc {ps:List Plc} {c i:Int} {m:HM} (h:methI ps c i=some m):∃ (k:Nat) (q:Plc),c=(k:Int)∧ps[k]?=some q∧plcI ps c=some q∧methP q i=some m:=by
  rcases plcI_cases ps c with ⟨h1,_⟩|⟨k,q,rfl,h2,h1⟩
  · rw [methI,h1] at h;cases h
  · rw [methI,h1] at h
    exact ⟨k,q,rfl,h2,h1,h⟩
theorem extI_nat {ps:List Plc} {a b:Nat} (ha:a<ps.length) (hb:b<ps.length):extI ps (a:Int) (b:Int)=extB (ps.map nd) a b:=by
  rw [extI,plcI_nat,plcI_nat,List.getElem?_eq_getElem ha,List.getElem?_eq_getElem hb];rfl
theorem halloc2 (w:World) {n:Nat} (o:Obj) (hn:w.heap.size=n):(w.alloc o).heap[n]?=some o:=by subst hn;exact halloc1 w o
def idE (x:(Int×Int)×Int):Value:=.tuple #[.agg #[.int .i64 x.1.1,.int .i64 x.1.2],.int .i64 x.2]
theorem hkeep {w:World} {n:Nat} {x o:Obj} (h:w.heap[n]?=some x):(w.alloc o).heap[n]?=some x:=by
  have hb:Below w.heap.size w (w.alloc o):=(Below.refl _ w).alloc (Nat.le_refl _) _
  exact (hb.block n (Array.getElem?_eq_some_iff.1 h).1).trans h
theorem sameID_c (a b:Int×Int) (w:World):Calls Tryz.prog 20 #[.agg #[.int .i64 a.1,.int .i64 a.2],.agg #[.int .i64 b.1,.int .i64 b.2]] w fun e w'=>e=.returned (.bool ((a.1 == b.1)&&(a.2 == b.2)))∧Below w.heap.size w w':=by
  obtain ⟨a1,a2⟩:=a
  obtain ⟨b1,b2⟩:=b
  by_cases h1:a1=b1
  · by_cases h2:a2=b2
    · subst h1 h2
      go_enter Tryz.func20,Tryz.ntmps20
      go_wp2
      exact bodyPost_ret (results_tmp rfl _ _ _) rfl ⟨by simp,(by repeat (first|exact Below.refl _ _|refine Below.setCell ?_ (by simp;try omega) _|refine Below.alloc ?_ (by simp;try omega) _|refine Below.drew ?_))⟩
    · subst h1
      go_enter Tryz.func20,Tryz.ntmps20
      go_wp2
      exact bodyPost_ret (results_tmp rfl _ _ _) rfl ⟨by simp,(by repeat (first|exact Below.refl _ _|refine Below.setCell ?_ (by simp;try omega) _|refine Below.alloc ?_ (by simp;try omega) _|refine Below.drew ?_))⟩
  · go_enter Tryz.func20,Tryz.ntmps20
    go_wp2
    exact bodyPost_ret (results_tmp rfl _ _ _) rfl ⟨by simp [h1],(by repeat (first|exact Below.refl _ _|refine Below.setCell ?_ (by simp;try omega) _|refine Below.alloc ?_ (by simp;try omega) _|refine Below.drew ?_))⟩
theorem rw2 {w:World} {n:Nat} {t:TypeId} {a0 a1:Value} (h:w.heap[n]?=some (.cells #[a0,a1] t (0,0))):w.cell? ⟨n,0,none⟩=some a0∧w.cell? ⟨n,1,none⟩=some a1∧(∀ k,w.frozen? ⟨n,k,none⟩=false)∧n<w.heap.size :=
  ⟨(cell_of_row w n 0 _ _ _ h).trans rfl,(cell_of_row w n 1 _ _ _ h).trans rfl,fun k=>frozen_of_row w n k _ _ h,(Array.getElem?_eq_some_iff.1 h).1⟩
theorem rw6 {w:World} {n:Nat} {t:TypeId} {a0 a1 a2 a3 a4 a5:Value} (h:w.heap[n]?=some (.cells #[a0,a1,a2,a3,a4,a5] t (0,0))):w.cell? ⟨n,0,none⟩=some a0∧w.cell? ⟨n,1,none⟩=some a1∧w.cell? ⟨n,2,none⟩=some a2∧w.cell? ⟨n,3,none⟩=some a3∧w.cell? ⟨n,4,none⟩=some a4∧w.cell? ⟨n,5,none⟩=some a5∧(∀ k,w.frozen? ⟨n,k,none⟩=false)∧n<w.heap.size :=
  ⟨(cell_of_row w n 0 _ _ _ h).trans rfl,(cell_of_row w n 1 _ _ _ h).trans rfl,(cell_of_row w n 2 _ _ _ h).trans rfl,(cell_of_row w n 3 _ _ _ h).trans rfl,(cell_of_row w n 4 _ _ _ h).trans rfl,(cell_of_row w n 5 _ _ _ h).trans rfl,fun k=>frozen_of_row w n k _ _ h,(Array.getElem?_eq_some_iff.1 h).1⟩
theorem kp2 {V w:World} {N n:Nat} {t:TypeId} {a0 a1:Value} (hb:Below N V w) (hn:n<N:=by first|omega|(simp;try omega)) (h:V.heap[n]?=some (.cells #[a0,a1] t (0,0)):=by first|exact Hid.out (by assumption)|exact hkeep (Hid.out (by assumption))|exact hkeep (hkeep (Hid.out (by assumption)))|exact halloc2 _ _ rfl|exact hkeep (halloc2 _ _ rfl)|exact hkeep (hkeep (halloc2 _ _ rfl))|exact halloc2 _ _ (by simp;done)):Hid (w.heap[n]?=some (.cells #[a0,a1] t (0,0)))∧w.cell? ⟨n,0,none⟩=some a0∧w.cell? ⟨n,1,none⟩=some a1∧(∀ k,w.frozen? ⟨n,k,none⟩=false)∧n<w.heap.size∧¬ n=w.heap.size:=by
  have h2:=(hb.block n hn).trans h
  obtain ⟨c0,c1,f,l⟩:=rw2 h2
  exact ⟨h2,c0,c1,f,l,by omega⟩
theorem kp6 {V w:World} {N n:Nat} {t:TypeId} {a0 a1 a2 a3 a4 a5:Value} (hb:Below N V w) (hn:n<N:=by first|omega|(simp;try omega)) (h:V.heap[n]?=some (.cells #[a0,a1,a2,a3,a4,a5] t (0,0)):=by first|exact Hid.out (by assumption)|exact hkeep (Hid.out (by assumption))|exact hkeep (hkeep (Hid.out (by assumption)))|exact halloc2 _ _ rfl|exact hkeep (halloc2 _ _ rfl)|exact hkeep (hkeep (halloc2 _ _ rfl))|exact halloc2 _ _ (by simp;done)):Hid (w.heap[n]?=some (.cells #[a0,a1,a2,a3,a4,a5] t (0,0)))∧w.cell? ⟨n,0,none⟩=some a0∧w.cell? ⟨n,1,none⟩=some a1∧w.cell? ⟨n,2,none⟩=some a2∧w.cell? ⟨n,3,none⟩=some a3∧w.cell? ⟨n,4,none⟩=some a4∧w.cell? ⟨n,5,none⟩=some a5∧(∀ k,w.frozen? ⟨n,k,none⟩=false)∧n<w.heap.size∧¬ n=w.heap.size:=by
  have h2:=(hb.block n hn).trans h
  obtain ⟨c0,c1,c2,c3,c4,c5,f,l⟩:=rw6 h2
  exact ⟨h2,c0,c1,c2,c3,c4,c5,f,l,by omega⟩
theorem chL_len {ps:List Plc} (hi:WI ps) {k:Nat} (hk:k<ps.length):(chL (ps.map nd) k).length≤1000000:=by
  have:=ch_len hi.wo k (by simpa using hk)
  have:=hi.hi
  omega
def FndF (ps:List Plc) (nm ds:ByteArray) (m:Int×Int):Prop:=∃ x,methI ps m.1 m.2=some x∧x.nm.toList=nm.toList∧x.ds.toList=ds.toList
theorem fnd_facts {ps:List Plc} {c:Int} {nm ds:ByteArray} (h:(fndI ps c nm ds).2=0):FndF ps nm ds (c,(fndI ps c nm ds).1)∧∃ (k:Nat) (q:Plc),c=(k:Int)∧ps[k]?=some q:=by
  rcases plcI_cases ps c with ⟨h1,h2⟩|⟨k,q,rfl,h2,h1⟩
  · rw [fndI,h1] at h;exact absurd h (by show ¬ (3:Int)=0;decide)
  · have e:fndI ps k nm ds=if findH nm ds q.c.ms 0<0 then (0,6) else (findH nm ds q.c.ms 0,0):=by rw [fndI,h1]
    refine ⟨?_,k,q,rfl,h2⟩
    rw [e] at h ⊢
    rcases findH_range nm ds q.c.ms 0 with e2|⟨j,x,e2,hj,hn,hd⟩
    · rw [e2,if_pos (by decide)] at h;exact absurd h (by decide)
    · rw [e2,if_neg (by omega)]
      refine ⟨x,?_,hn,hd⟩
      rw [methI,h1]
      show methP q ((0+j:Nat):Int)=some x
      rw [methP,if_pos (Int.natCast_nonneg _)]
      simpa using hj
theorem ch_in {ns:List Nd} (h:WO ns):∀ k,k<ns.length→∀ i∈chL ns k,i<ns.length:=by
  refine ch_ind h (P:=fun k=>∀ i∈chL ns k,i<ns.length) ?_ ?_
  · intro i hi
    have h0:chL ns 0=[0]:=by rfl
    rw [h0] at hi
    obtain ⟨n,hn,_⟩:=h.top
    have:=(List.getElem?_eq_some_iff.1 hn).1
    simp at hi;omega
  · intro k hk h0 _ ih i hi
    rw [chL_cons h hk h0] at hi
    rcases List.mem_cons.1 hi with rfl|hi
    · exact hk
    · exact ih i hi
section
variable {ps:List Plc} {p:Plc}
end
end Go.Proofs.YthfifobokpfpkaaGreat
