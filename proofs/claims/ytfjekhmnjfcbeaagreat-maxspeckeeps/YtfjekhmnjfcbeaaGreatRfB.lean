import Derived.Test.YtfjekhmnjfcbeaaGreatHrQ
import Derived.Test.YtfjekhmnjfcbeaaGreatOrdB
import Derived.Test.YtfjekhmnjfcbeaaGreatMxC
import Derived.Test.YtfjekhmnjfcbeaaGreatRfA
import Derived.Test.YtfjekhmnjfcbeaaGreatFOwnA
import Derived.Deep.RegionHeld3
set_option maxRecDepth 100000
namespace Go.Proofs.YtfjekhmnjfcbeaaGreat
open Go.RowKit Go.Maps
def wld (l:List Cls):List Plc:=l.foldl (fun ps c=>dfP ps (defN ps c)) P3
theorem wld_snoc (l:List Cls) (c:Cls):wld (l++[c])=dfP (wld l) (defN (wld l) c):=by
  rw [wld,List.foldl_append];rfl
theorem wld_at {l:List Cls} {i:Nat} {c:Cls} (h:l[i]?=some c):wld (l.take (i+1))=dfP (wld (l.take i)) (defN (wld (l.take i)) c):=by
  rw [List.take_add_one,h];exact wld_snoc _ _
theorem wld_ind {P:List Plc→Prop} (h3:P P3) (hd:∀ ps c,P ps→ClsW c→P (dfP ps (defN ps c))):∀ l:List Cls,(∀ c∈l,ClsW c)→P (wld l):=by
  have key:∀ (l:List Cls) (ps:List Plc),(∀ c∈l,ClsW c)→P ps→P (l.foldl (fun ps c=>dfP ps (defN ps c)) ps):=by
    intro l
    induction l with
    | nil=>exact fun ps _ h=>h
    | cons c l ih=>exact fun ps hl h=>ih _ (fun x hx=>hl x (List.mem_cons_of_mem _ hx)) (hd ps c h (hl c (by simp)))
  exact fun l hl=>key l P3 hl h3
theorem wld_wi (l:List Cls) (hl:∀ c∈l,ClsW c):WI (wld l):=wld_ind wi3 (fun _ c h hc=>h.define c hc) l hl
theorem clss_w {w:World} {v:Value} {l:List Cls} (h:IsClss w v l):∀ c∈l,ClsW c:=by
  obtain ⟨ao,cap,e,h1,h2,h3⟩:=h
  intro c hc
  obtain ⟨bk,o,_,_,h4⟩:=h3 (fun e=>by rw [e] at hc;simp at hc)
  obtain ⟨i,hi⟩:=List.mem_iff_getElem?.1 hc
  obtain ⟨vi,vm,_,hin⟩:=h4 i c hi
  exact hin.ok
theorem wld_wj (l:List Cls) (hl:∀ c∈l,ClsW c):WI (wld l)∧WJ (wld l):=wld_ind (P:=fun ps=>WI ps∧WJ ps) ⟨wi3,wj3⟩ (fun _ c h hc=>⟨h.1.define c hc,WJ.define h.1 h.2 c hc⟩) l hl
def extI (ps:List Plc) (a b:Int):Bool:=(plcI ps a).isSome&&(plcI ps b).isSome&&extB (ps.map nd) a.toNat b.toNat
theorem extends_no {b:Nat} {ps:List Plc} {W:World} (h:WAt b ps W) (x y:Int) (hxy:plcI ps x=none∨plcI ps y=none):Calls Tryz.prog 18 #[.pointer (some ⟨b,0,none⟩),.int .i64 x,.int .i64 y] W fun e w'=>e=.returned (.bool false)∧Below W.heap.size W w':=by
  have HX:Hid (∀ i z w,Below W.heap.size W w→plcI ps i=z→Calls Tryz.prog 60 #[.pointer (some ⟨b,0,none⟩),.int .i64 i] w fun e w'=>e=.returned (.bool z.isSome)∧w'=w):=fun i z w hb hi=>by
    have:=has_c (h.below hb) i
    rw [hi] at this;exact this
  clear h
  generalize hpx:plcI ps x=px at *
  generalize hpy:plcI ps y=py at *
  have HPX:Hid _:=hpx
  have HPY:Hid _:=hpy
  clear hpx hpy
  cases px with
  | none =>
    go_enter Tryz.func18,Tryz.ntmps18
    go_wp2_with (go_at_call 60;refine (HX.out _ _ _ (by repeat (first|exact Below.refl _ _|refine Below.setCell ?_ (by simp;try omega) _|refine Below.alloc ?_ (by simp;try omega) _|refine Below.drew ?_)) HPX.out).mono ?_;rintro e w9 ⟨rfl,hw9⟩;rw [hw9];clear hw9 w9)
    refine bodyPost_ret (v:=.bool false) (by simp [results,Tryz.results18,go_sem]) rfl ⟨rfl,(by repeat (first|exact Below.refl _ _|refine Below.setCell ?_ (by simp;try omega) _|refine Below.alloc ?_ (by simp;try omega) _|refine Below.drew ?_))⟩
  | some p =>
    obtain rfl:py=none:=hxy.resolve_left (by simp)
    clear hxy
    have HX1:Hid (∀ i w,Below W.heap.size W w→i=x→Calls Tryz.prog 60 #[.pointer (some ⟨b,0,none⟩),.int .i64 i] w fun e w'=>e=.returned (.bool true)∧w'=w):=fun i w hb hi=>by rw [hi];exact HX.out x _ w hb HPX.out
    have HY1:Hid (∀ i w,Below W.heap.size W w→i=y→Calls Tryz.prog 60 #[.pointer (some ⟨b,0,none⟩),.int .i64 i] w fun e w'=>e=.returned (.bool false)∧w'=w):=fun i w hb hi=>by rw [hi];exact HX.out y _ w hb HPY.out
    go_enter Tryz.func18,Tryz.ntmps18
    go_wp2_with (first
      | (go_at_call 60;refine (HX1.out _ _ (by repeat (first|exact Below.refl _ _|refine Below.setCell ?_ (by simp;try omega) _|refine Below.alloc ?_ (by simp;try omega) _|refine Below.drew ?_)) (by rfl)).mono ?_;rintro e w9 ⟨rfl,hw9⟩;rw [hw9];clear hw9 w9)
      | (go_at_call 60;refine (HY1.out _ _ (by repeat (first|exact Below.refl _ _|refine Below.setCell ?_ (by simp;try omega) _|refine Below.alloc ?_ (by simp;try omega) _|refine Below.drew ?_)) (by rfl)).mono ?_;rintro e w9 ⟨rfl,hw9⟩;rw [hw9];clear hw9 w9))
    refine bodyPost_ret (v:=.bool false) (by simp [results,Tryz.results18,go_sem]) rfl ⟨rfl,(by repeat (first|exact Below.refl _ _|refine Below.setCell ?_ (by simp;try omega) _|refine Below.alloc ?_ (by simp;try omega) _|refine Below.drew ?_))⟩
theorem extends_c {b:Nat} {ps:List Plc} {W:World} (h:WAt b ps W) (hi:WI ps) (x y:Int):Calls Tryz.prog 18 #[.pointer (some ⟨b,0,none⟩),.int .i64 x,.int .i64 y] W fun e w'=>e=.returned (.bool (extI ps x y))∧Below W.heap.size W w':=by
  rcases plcI_cases ps x with ⟨h1,_⟩|⟨k,p,rfl,h2,h1⟩
  · have e:extI ps x y=false:=by rw [extI,h1];rfl
    rw [e];exact extends_no h x y (.inl h1)
  · rcases plcI_cases ps y with ⟨g1,_⟩|⟨j,q,rfl,g2,g1⟩
    · have e:extI ps k y=false:=by rw [extI,h1,g1];rfl
      rw [e];exact extends_no h k y (.inr g1)
    · have e:extI ps k j=extB (ps.map nd) k j:=by rw [extI,h1,g1];rfl
      obtain ⟨N,mb,vp,pv,h⟩:=h
      rw [e];exact extends_yes N b mb ps vp pv k j (List.getElem?_eq_some_iff.1 h2).1 (List.getElem?_eq_some_iff.1 g2).1 hi.wo hi.hi W h
def overB (ps:List Plc) (l:List (Int×Int)) (m:Int×Int):Bool:=l.any fun o=>!(o.1 == m.1)&&extI ps o.1 m.1
def maxL (ps:List Plc) (l:List (Int×Int)):List (Int×Int):=l.filter fun m=>!overB ps l m
def oneL (ps:List Plc) (l:List (Int×Int)):List (Int×Int):=(maxL ps l).filter fun m=>!hasS ps m.1 m.2 1024
def oneV (ps:List Plc) (l:List (Int×Int)):(Int×Int)×Int:=match oneL ps l with
  | []=>((0,0),24)
  | [m]=>(m,0)
  | _=>((0,0),23)
def overP (ps:List Plc) (m o:Int×Int):Bool:=!(o.1 == m.1)&&extI ps o.1 m.1
theorem overB_eq (ps:List Plc) (l:List (Int×Int)) (m:Int×Int):overB ps l m=l.any (overP ps m):=rfl
set_option maxHeartbeats 1000000 in
theorem maxIn_c {b:Nat} {ps:List Plc} {W:World} (h:WAt b ps W) (hi:WI ps) (bm bw:Nat) (m o:Int×Int) (hm:W.cell? ⟨bm,0,none⟩=some (.int .i64 m.1)) (hw:W.cell? ⟨bw,0,none⟩=some (.pointer (some ⟨b,0,none⟩))):Calls Tryz.prog 94 (#[.agg #[.int .i64 o.1,.int .i64 o.2]]++#[.pointer (some ⟨bm,0,none⟩),.pointer (some ⟨bw,0,none⟩)]) W fun e w'=>e=.returned (.bool (overP ps m o))∧Below W.heap.size W w':=by
  show Calls Tryz.prog 94 #[.agg #[.int .i64 o.1,.int .i64 o.2],.pointer (some ⟨bm,0,none⟩),.pointer (some ⟨bw,0,none⟩)] W _
  have hlm:bm<W.heap.size:=World.block_lt_of_cell? W _ hm
  have hlw:bw<W.heap.size:=World.block_lt_of_cell? W _ hw
  have n1:¬ bm=W.heap.size:=by omega
  have n2:¬ bw=W.heap.size:=by omega
  have HE:Hid (∀ w,Below W.heap.size W w→Calls Tryz.prog 18 #[.pointer (some ⟨b,0,none⟩),.int .i64 o.1,.int .i64 m.1] w fun e w'=>e=.returned (.bool (extI ps o.1 m.1))∧Below W.heap.size W w'):=fun w hb=>(extends_c (h.below hb) hi o.1 m.1).mono fun e w' zz=>⟨zz.1,bstep hb zz.2⟩
  have HR:Hid (overP ps m o=(!(o.1 == m.1)&&extI ps o.1 m.1)):=rfl
  generalize overP ps m o=R at *
  generalize extI ps o.1 m.1=E at *
  obtain ⟨o1,o2⟩:=o
  obtain ⟨m1,m2⟩:=m
  simp only at HE HR hm
  clear h hi
  by_cases hq:o1=m1
  · have hR:R=false:=by rw [HR.out,hq];simp
    subst hR
    subst hq
    go_enter Tryz.func94,Tryz.ntmps94
    go_wp2
    exact bodyPost_ret (results_tmp rfl _ _ _) rfl ⟨rfl,(by repeat (first|exact Below.refl _ _|refine Below.setCell ?_ (by simp;try omega) _|refine Below.alloc ?_ (by simp;try omega) _|refine Below.drew ?_))⟩
  · have hR:R=E:=by
      have e:(o1 == m1)=false:=by simpa using hq
      rw [HR.out,e];simp
    subst hR
    clear HR
    have hne:(o1 != m1)=true:=by simpa using hq
    go_enter Tryz.func94,Tryz.ntmps94
    go_wp2_with (go_at_call 18;refine (HE.out _ (by repeat (first|exact Below.refl _ _|refine Below.setCell ?_ (by simp;try omega) _|refine Below.alloc ?_ (by simp;try omega) _|refine Below.drew ?_))).mono ?_;rintro e w1 ⟨rfl,hb⟩;have B1:Hid (Below W.heap.size W w1):=hb;clear hb HE)
    exact bodyPost_ret (results_tmp rfl _ _ _) rfl ⟨rfl,B1.out⟩
theorem callMx (vs:Array Value) (w:World):(callFunc 94 vs).run Tryz.prog w=.ok (.enter 94 vs) w:=by simp [go_sem]
theorem callMy (vs:Array Value) (w:World):(callFunc 92 vs).run Tryz.prog w=.ok (.enter 92 vs) w:=by simp [go_sem]
set_option maxHeartbeats 1000000 in
theorem maxOver_c {b:Nat} {ps:List Plc} {W:World} (h:WAt b ps W) (hi:WI ps) (ba bw N:Nat) (v:Value) (l:List (Int×Int)) (m:Int×Int) (ho:W.ownsRow N 60 2 v l.length (flatD l)) (hn:l.length≤1000000) (ha:W.cell? ⟨ba,0,none⟩=some v) (hw:W.cell? ⟨bw,0,none⟩=some (.pointer (some ⟨b,0,none⟩))):Calls Tryz.prog 92 (#[.agg #[.int .i64 m.1,.int .i64 m.2]]++#[.pointer (some ⟨ba,0,none⟩),.pointer (some ⟨bw,0,none⟩)]) W fun e w'=>e=.returned (.bool (overB ps l m))∧Below W.heap.size W w':=by
  show Calls Tryz.prog 92 #[.agg #[.int .i64 m.1,.int .i64 m.2],.pointer (some ⟨ba,0,none⟩),.pointer (some ⟨bw,0,none⟩)] W _
  have hla:ba<W.heap.size:=World.block_lt_of_cell? W _ ha
  have hlw:bw<W.heap.size:=World.block_lt_of_cell? W _ hw
  have n1:¬ ba=W.heap.size:=by omega
  have HC:Hid (∀ w,w=W.alloc (.cells #[.int .i64 m.1,.int .i64 m.2] 60)→Calls Tryz.prog 93 #[v,.func (.func 94) #[] #[.pointer (some ⟨W.heap.size,0,none⟩),.pointer (some ⟨bw,0,none⟩)]] w fun e w'=>e=.returned (.bool (overB ps l m))∧Below w.heap.size w w'):=by
    intro w hwe
    have hb0:Below W.heap.size W w:=by rw [hwe];exact (Below.refl _ _).alloc (Nat.le_refl _) _
    refine conD_any 94 callMx _ (overP ps m) N l v w (rowBelow ho hb0) hn (fun o _ w2 hb=>?_)
    have c0:w.cell? ⟨W.heap.size,0,none⟩=some (.int .i64 m.1):=by rw [hwe];simp [go_sem]
    exact maxIn_c (h.below (bstep hb0 hb)) hi W.heap.size bw m o ((hb.cell (p:=⟨W.heap.size,0,none⟩) (World.block_lt_of_cell? w _ c0)).trans c0) (((bstep hb0 hb).cell (p:=⟨bw,0,none⟩) hlw).trans hw)
  generalize overB ps l m=R at *
  obtain ⟨va,vn,rfl⟩:=ownv ho
  clear h hi ho
  go_enter Tryz.func92,Tryz.ntmps92
  go_wp2_with (go_at_call 93;refine (HC.out _ rfl).mono ?_;rintro e w1 ⟨rfl,hb⟩;have B1:Hid (Below W.heap.size W w1):=bstep (by repeat (first|exact Below.refl _ _|refine Below.setCell ?_ (by simp;try omega) _|refine Below.alloc ?_ (by simp;try omega) _|refine Below.drew ?_)) hb;clear hb HC)
  exact bodyPost_ret (results_tmp rfl _ _ _) rfl ⟨rfl,B1.out⟩
theorem max_pred {b:Nat} {ps:List Plc} {W w1 w2:World} {N:Nat} {va:Option Addr} {vn:Nat} {l:List (Int×Int)} (h:WAt b ps W) (hi:WI ps) (O1:w1.ownsRow N 60 2 (.slice va l.length vn) l.length (flatD l)) (c0:w1.cell? ⟨W.heap.size,0,none⟩=some (.pointer (some ⟨b,0,none⟩))) (hn:l.length≤1000000) (B1:Below W.heap.size W w1) (B2:Below (w1.heap.size+1) (w1.alloc (.cells #[.slice va l.length vn] 70)) w2):PredD 92 #[.pointer (some ⟨w1.heap.size,0,none⟩),.pointer (some ⟨W.heap.size,0,none⟩)] (overB ps l) l (w1.heap.size+1) w2:=by
  intro m _ w hb
  have hU:Below (w1.alloc (.cells #[.slice va l.length vn] 70)).heap.size (w1.alloc (.cells #[.slice va l.length vn] 70)) w:=by
    have:=B2.trans hb
    simpa using this
  have hl:W.heap.size<w1.heap.size:=World.block_lt_of_cell? w1 _ c0
  exact maxOver_c (h.below (bstep (B1.alloc B1.size _) hU)) hi w1.heap.size W.heap.size N _ l m (rowBelow (O1.alloc _) hU) hn ((hU.cell (p:=⟨w1.heap.size,0,none⟩) (by simp)).trans (by simp [go_sem])) ((hU.cell (p:=⟨W.heap.size,0,none⟩) (by simp;omega)).trans (Lib.cell?_alloc_some _ c0))
set_option maxHeartbeats 1000000 in
theorem max_yes {b:Nat} {ps:List Plc} {W:World} (h:WAt b ps W) (hi:WI ps) (k:Nat) (q:Plc) (hq:ps[k]?=some q) (nm ds:ByteArray):Calls Tryz.prog 43 #[.pointer (some ⟨b,0,none⟩),.int .i64 (k:Int),.string nm,.string ds] W fun e w'=>(∃ v,e=.returned (.tuple #[v,.int .i64 0])∧w'.ownsRow W.heap.size 60 2 v (maxL ps (candL ps nm ds q.cl)).length (flatD (maxL ps (candL ps nm ds q.cl))))∧Below W.heap.size W w':=by
  have hKb:(candL ps nm ds q.cl).length≤1000000:=by
    obtain ⟨N,mb,vp,pv,h⟩:=h
    have hwf:=h.wf q (List.mem_of_getElem? hq)
    have:=nodup_lt_len _ _ hwf.2 hwf.1
    have:=candL_len ps nm ds q.cl
    have:=hi.hi
    omega
  have HC:Hid (∀ w,Below W.heap.size W w→Calls Tryz.prog 42 #[.pointer (some ⟨b,0,none⟩),.int .i64 (k:Int),.string nm,.string ds] w fun e w'=>(∃ v,e=.returned (.tuple #[v,.int .i64 0])∧w'.ownsRow w.heap.size 60 2 v (candL ps nm ds q.cl).length (flatD (candL ps nm ds q.cl)))∧Below w.heap.size w w'):=fun w hb=>cand_yes (h.below hb) hi.pb hi.hi k q hq nm ds
  have HW0:Hid (WAt b ps W):=h
  have HWI:Hid (WI ps):=hi
  obtain ⟨l,hl⟩:∃ l,candL ps nm ds q.cl=l:=⟨_,rfl⟩
  rw [hl] at hKb HC ⊢
  have HKb:Hid (l.length≤1000000):=hKb
  clear h hi hq hl
  have HCL:Hid (∀ (N:Nat) (v:Value) (w:World),w.ownsRow N 60 2 v l.length (flatD l)→Calls Tryz.prog 91 #[v] w fun e w'=>∃ v',e=.returned v'∧w'.ownsRow w.heap.size 60 2 v' l.length (flatD l)∧Below w.heap.size w w'):=fun N v w ho=>cloD_any N l v w ho hKb
  go_enter Tryz.func43,Tryz.ntmps43
  go_wp2_with (first
    | (go_at_call 42;refine (HC.out _ (by repeat (first|exact Below.refl _ _|refine Below.setCell ?_ (by simp;try omega) _|refine Below.alloc ?_ (by simp;try omega) _|refine Below.drew ?_))).mono ?_;rintro e w1 ⟨⟨v,rfl,ho⟩,hb⟩;obtain ⟨va,vn,rfl⟩:=ownv ho;have O1:Hid (w1.ownsRow (W.heap.size+1) 60 2 (.slice va l.length vn) l.length (flatD l)):=Go.Joins.ownsRow_le ho (by simp);have c0:w1.cell? ⟨W.heap.size,0,none⟩=some (.pointer (some ⟨b,0,none⟩)):=(hb.cell (p:=⟨W.heap.size,0,none⟩) (by simp)).trans (by simp [go_sem]);have hl1:W.heap.size<w1.heap.size:=World.block_lt_of_cell? w1 _ c0;have B1:Hid (Below W.heap.size W w1):=bstep (by repeat (first|exact Below.refl _ _|refine Below.setCell ?_ (by simp;try omega) _|refine Below.alloc ?_ (by simp;try omega) _|refine Below.drew ?_)) hb;clear hb HC ho)
    | (go_at_call 91;refine (HCL.out _ _ _ (O1.out.alloc _)).mono ?_;rintro e w2 ⟨v2,rfl,ho,hb⟩;obtain ⟨va2,vn2,rfl⟩:=ownv ho;have O2:Hid (w2.ownsRow (w1.heap.size+1) 60 2 (.slice va2 l.length vn2) l.length (flatD l)):=Go.Joins.ownsRow_le ho (by simp);have B2:Hid (Below (w1.heap.size+1) (w1.alloc (.cells #[.slice va l.length vn] 70)) w2):=hb.mono (by simp);clear hb HCL ho)
    | (go_at_call 90;have hpd:=max_pred HW0.out HWI.out O1.out c0 HKb.out B1.out B2.out;refine (delD_any 92 callMy #[.pointer (some ⟨w1.heap.size,0,none⟩),.pointer (some ⟨W.heap.size,0,none⟩)] (overB ps l) (w1.heap.size+1) l _ w2 O2.out (by have:=B2.out.size;simpa using this) HKb.out hpd).mono ?_;rintro e w3 ⟨v3,rfl,ho,hb⟩;obtain ⟨va3,vn3,rfl⟩:=ownv ho;have O3:Hid (w3.ownsRow (w1.heap.size+1) 60 2 (.slice va3 (maxL ps l).length vn3) (maxL ps l).length (flatD (maxL ps l))):=ho;have B3:Hid (Below (w1.heap.size+1) w2 w3):=hb;clear hb ho hpd))
  refine bodyPost_ret (results_tmp2 rfl _ _ _) rfl ⟨⟨.slice va3 (maxL ps l).length vn3,rfl,Go.Joins.ownsRow_le O3.out (by omega)⟩,?_⟩
  have hb3:=B2.out.trans B3.out
  exact (B1.out.alloc B1.out.size _).trans (hb3.mono (by omega))
theorem max_no {b:Nat} {ps:List Plc} {W:World} (h:WAt b ps W) (c:Int) (hc:plcI ps c=none) (nm ds:ByteArray):Calls Tryz.prog 43 #[.pointer (some ⟨b,0,none⟩),.int .i64 c,.string nm,.string ds] W fun e w'=>e=.returned (.tuple #[.slice none 0 0,.int .i64 3])∧Below W.heap.size W w':=by
  have HC:Hid (∀ w,Below W.heap.size W w→Calls Tryz.prog 42 #[.pointer (some ⟨b,0,none⟩),.int .i64 c,.string nm,.string ds] w fun e w'=>e=.returned (.tuple #[.slice none 0 0,.int .i64 3])∧Below w.heap.size w w'):=fun w hb=>cand_no (h.below hb) c hc nm ds
  clear h hc
  go_enter Tryz.func43,Tryz.ntmps43
  go_wp2_with (go_at_call 42;refine (HC.out _ (by repeat (first|exact Below.refl _ _|refine Below.setCell ?_ (by simp;try omega) _|refine Below.alloc ?_ (by simp;try omega) _|refine Below.drew ?_))).mono ?_;rintro e w1 ⟨rfl,hb⟩;have B1:Hid (Below W.heap.size W w1):=bstep (by repeat (first|exact Below.refl _ _|refine Below.setCell ?_ (by simp;try omega) _|refine Below.alloc ?_ (by simp;try omega) _|refine Below.drew ?_)) hb;clear hb HC)
  exact bodyPost_ret (results_tmp2 rfl _ _ _) rfl ⟨rfl,B1.out.alloc B1.out.size _⟩
theorem callMz (vs:Array Value) (w:World):(callFunc 97 vs).run Tryz.prog w=.ok (.enter 97 vs) w:=by simp [go_sem]
set_option maxHeartbeats 1000000 in
theorem oneIn_c {b:Nat} {ps:List Plc} {W:World} (h:WAt b ps W) (hi:WI ps) (bw:Nat) (m:Int×Int) (hw:W.cell? ⟨bw,0,none⟩=some (.pointer (some ⟨b,0,none⟩))):Calls Tryz.prog 97 (#[.agg #[.int .i64 m.1,.int .i64 m.2]]++#[.pointer (some ⟨bw,0,none⟩)]) W fun e w'=>e=.returned (.bool (hasS ps m.1 m.2 1024))∧Below W.heap.size W w':=by
  show Calls Tryz.prog 97 #[.agg #[.int .i64 m.1,.int .i64 m.2],.pointer (some ⟨bw,0,none⟩)] W _
  have hlw:bw<W.heap.size:=World.block_lt_of_cell? W _ hw
  have n2:¬ bw=W.heap.size:=by omega
  have HS:Hid (∀ w,Below W.heap.size W w→Calls Tryz.prog 89 #[.pointer (some ⟨b,0,none⟩),.agg #[.int .i64 m.1,.int .i64 m.2],.int .i64 1024] w fun e w'=>e=.returned (.bool (hasS ps m.1 m.2 1024))∧Below W.heap.size W w'):=fun w hb=>(hasS_c (h.below hb) hi.pb m.1 m.2 1024).mono fun e w' zz=>⟨zz.1,bstep hb zz.2⟩
  generalize hasS ps m.1 m.2 1024=R at *
  obtain ⟨m1,m2⟩:=m
  simp only at HS
  clear h hi
  go_enter Tryz.func97,Tryz.ntmps97
  go_wp2_with (go_at_call 89;refine (HS.out _ (by repeat (first|exact Below.refl _ _|refine Below.setCell ?_ (by simp;try omega) _|refine Below.alloc ?_ (by simp;try omega) _|refine Below.drew ?_))).mono ?_;rintro e w1 ⟨rfl,hb⟩;have B1:Hid (Below W.heap.size W w1):=hb;clear hb HS)
  exact bodyPost_ret (results_tmp rfl _ _ _) rfl ⟨rfl,B1.out⟩
theorem halloc2 (w:World) {n:Nat} (o:Obj) (hn:w.heap.size=n):(w.alloc o).heap[n]?=some o:=by subst hn;exact halloc1 w o
def idE (x:(Int×Int)×Int):Value:=.tuple #[.agg #[.int .i64 x.1.1,.int .i64 x.1.2],.int .i64 x.2]
set_option maxHeartbeats 1000000 in
theorem one_yes {b:Nat} {ps:List Plc} {W:World} (h:WAt b ps W) (hi:WI ps) (k:Nat) (q:Plc) (hq:ps[k]?=some q) (nm ds:ByteArray):Calls Tryz.prog 45 #[.pointer (some ⟨b,0,none⟩),.int .i64 (k:Int),.string nm,.string ds] W fun e w'=>e=.returned (idE (oneV ps (candL ps nm ds q.cl)))∧Below W.heap.size W w':=by
  have hKb:(candL ps nm ds q.cl).length≤1000000:=by
    obtain ⟨N,mb,vp,pv,h⟩:=h
    have hwf:=h.wf q (List.mem_of_getElem? hq)
    have:=nodup_lt_len _ _ hwf.2 hwf.1
    have:=candL_len ps nm ds q.cl
    have:=hi.hi
    omega
  have HC:Hid (∀ w,Below W.heap.size W w→Calls Tryz.prog 43 #[.pointer (some ⟨b,0,none⟩),.int .i64 (k:Int),.string nm,.string ds] w fun e w'=>(∃ v,e=.returned (.tuple #[v,.int .i64 0])∧w'.ownsRow w.heap.size 60 2 v (maxL ps (candL ps nm ds q.cl)).length (flatD (maxL ps (candL ps nm ds q.cl))))∧Below w.heap.size w w'):=fun w hb=>max_yes (h.below hb) hi k q hq nm ds
  have HW0:Hid (WAt b ps W):=h
  have HWI:Hid (WI ps):=hi
  obtain ⟨l,hl⟩:∃ l,candL ps nm ds q.cl=l:=⟨_,rfl⟩
  rw [hl] at hKb HC ⊢
  have HMb:Hid ((maxL ps l).length≤1000000):=Nat.le_trans (List.length_filter_le _ _) hKb
  have HOL:Hid ((maxL ps l).filter (fun m=>!hasS ps m.1 m.2 1024)=oneL ps l):=rfl
  obtain ⟨R,hR⟩:∃ R,oneV ps l=R:=⟨_,rfl⟩
  have HR:Hid ((match oneL ps l with | []=>((0,0),24) | [m]=>(m,0)|_=>((0,0),23))=R):=hR
  rw [hR]
  generalize oneL ps l=ol at *
  generalize maxL ps l=ml at *
  clear h hi hq hl hR
  have hpred:Hid (∀ (w1 w:World),Below (W.heap.size+2) w1 w→Below W.heap.size W w1→w1.cell? ⟨W.heap.size,0,none⟩=some (.pointer (some ⟨b,0,none⟩))→∀ m:Int×Int,Calls Tryz.prog 97 (#[.agg #[.int .i64 m.1,.int .i64 m.2]]++#[.pointer (some ⟨W.heap.size,0,none⟩)]) w fun e w'=>e=.returned (.bool (hasS ps m.1 m.2 1024))∧Below w.heap.size w w'):=fun w1 w hb hb1 hc m=>oneIn_c (HW0.out.below (hb1.trans (hb.mono (by omega)))) HWI.out W.heap.size m ((hb.cell (p:=⟨W.heap.size,0,none⟩) (show W.heap.size<W.heap.size+2 by omega)).trans hc)
  match ol with
  | [] =>
    have eR:R=((0,0),24):=HR.out.symm
    subst eR
    clear HR
    go_enter Tryz.func45,Tryz.ntmps45
    go_wp2_with (first
      | (go_at_call 43;refine (HC.out _ (by repeat (first|exact Below.refl _ _|refine Below.setCell ?_ (by simp;try omega) _|refine Below.alloc ?_ (by simp;try omega) _|refine Below.drew ?_))).mono ?_;rintro e w1 ⟨⟨v,rfl,ho⟩,hb⟩;obtain ⟨va,vn,rfl⟩:=ownv ho;have O1:Hid (w1.ownsRow (W.heap.size+2) 60 2 (.slice va ml.length vn) ml.length (flatD ml)):=Go.Joins.ownsRow_le ho (by simp);have c0:w1.cell? ⟨W.heap.size,0,none⟩=some (.pointer (some ⟨b,0,none⟩)):=(hb.cell (p:=⟨W.heap.size,0,none⟩) (by simp;try omega)).trans (by simp [go_sem]);have d0:w1.heap[W.heap.size+1]?=some (.cells #[.int .i64 0,.int .i64 0] 60 (0,0)):=(hb.block (W.heap.size+1) (by simp)).trans (halloc2 _ _ (by simp));have B1:Hid (Below W.heap.size W w1):=bstep (by repeat (first|exact Below.refl _ _|refine Below.setCell ?_ (by simp;try omega) _|refine Below.alloc ?_ (by simp;try omega) _|refine Below.drew ?_)) hb;have L1:Hid (W.heap.size+2≤w1.heap.size):=Nat.le_trans (by simp) hb.size;clear hb HC ho)
      | (go_at_call 90;refine (delD_any 97 callMz #[.pointer (some ⟨W.heap.size,0,none⟩)] (fun m=>hasS ps m.1 m.2 1024) (W.heap.size+2) ml _ w1 O1.out L1.out HMb.out (fun m _ w hb=>hpred.out w1 w hb B1.out c0 m)).mono ?_;rintro e w3 ⟨v3,rfl,ho,hb⟩;rw [HOL.out] at ho;obtain ⟨va3,vn3,rfl⟩:=ownv ho;have d1:=(hb.block (W.heap.size+1) (by omega)).trans d0;have z0:w3.cell? ⟨W.heap.size+1,0,none⟩=some (.int .i64 0):=(cell_of_row w3 (W.heap.size+1) 0 _ _ _ d1).trans rfl;have z1:w3.cell? ⟨W.heap.size+1,1,none⟩=some (.int .i64 0):=(cell_of_row w3 (W.heap.size+1) 1 _ _ _ d1).trans rfl;have f0:=frozen_of_row w3 (W.heap.size+1) 0 _ _ d1;have f1:=frozen_of_row w3 (W.heap.size+1) 1 _ _ d1;have B3:Hid (Below W.heap.size W w3):=B1.out.trans (hb.mono (by omega));clear hb ho d0 d1 c0))
    exact bodyPost_ret (v:=idE ((0,0),24)) (by simp [results,Tryz.results45,go_sem,idE, *]) rfl ⟨rfl,(B3.out.setCell (by simp) _).setCell (by simp) _⟩
  | [m] =>
    have eR:R=(m,0):=HR.out.symm
    subst eR
    clear HR
    have hlen:(List.length [m])=1:=rfl
    go_enter Tryz.func45,Tryz.ntmps45
    go_wp2_with (first
      | (go_at_call 43;refine (HC.out _ (by repeat (first|exact Below.refl _ _|refine Below.setCell ?_ (by simp;try omega) _|refine Below.alloc ?_ (by simp;try omega) _|refine Below.drew ?_))).mono ?_;rintro e w1 ⟨⟨v,rfl,ho⟩,hb⟩;obtain ⟨va,vn,rfl⟩:=ownv ho;have O1:Hid (w1.ownsRow (W.heap.size+2) 60 2 (.slice va ml.length vn) ml.length (flatD ml)):=Go.Joins.ownsRow_le ho (by simp);have c0:w1.cell? ⟨W.heap.size,0,none⟩=some (.pointer (some ⟨b,0,none⟩)):=(hb.cell (p:=⟨W.heap.size,0,none⟩) (by simp;try omega)).trans (by simp [go_sem]);have d0:w1.heap[W.heap.size+1]?=some (.cells #[.int .i64 0,.int .i64 0] 60 (0,0)):=(hb.block (W.heap.size+1) (by simp)).trans (halloc2 _ _ (by simp));have B1:Hid (Below W.heap.size W w1):=bstep (by repeat (first|exact Below.refl _ _|refine Below.setCell ?_ (by simp;try omega) _|refine Below.alloc ?_ (by simp;try omega) _|refine Below.drew ?_)) hb;have L1:Hid (W.heap.size+2≤w1.heap.size):=Nat.le_trans (by simp) hb.size;clear hb HC ho)
      | (go_at_call 90;refine (delD_any 97 callMz #[.pointer (some ⟨W.heap.size,0,none⟩)] (fun m=>hasS ps m.1 m.2 1024) (W.heap.size+2) ml _ w1 O1.out L1.out HMb.out (fun m _ w hb=>hpred.out w1 w hb B1.out c0 m)).mono ?_;rintro e w3 ⟨v3,rfl,ho,hb⟩;rw [HOL.out] at ho;obtain ⟨g3,vn3,rfl⟩:=Go.Joins.ownsRow_form ho (by simp);obtain ⟨r0,r1,_⟩:=rowD_cells (l:=[m]) ho (i:=0) rfl;simp only [Nat.zero_mul,Nat.zero_add] at r0 r1;have hg3:¬ g3=W.heap.size+1:=(by have:=(ho.lt g3 rfl).1;omega);have d1:=(hb.block (W.heap.size+1) (by omega)).trans d0;have z0:w3.cell? ⟨W.heap.size+1,0,none⟩=some (.int .i64 0):=(cell_of_row w3 (W.heap.size+1) 0 _ _ _ d1).trans rfl;have z1:w3.cell? ⟨W.heap.size+1,1,none⟩=some (.int .i64 0):=(cell_of_row w3 (W.heap.size+1) 1 _ _ _ d1).trans rfl;have f0:=frozen_of_row w3 (W.heap.size+1) 0 _ _ d1;have f1:=frozen_of_row w3 (W.heap.size+1) 1 _ _ d1;have B3:Hid (Below W.heap.size W w3):=B1.out.trans (hb.mono (by omega));clear hb ho d0 d1 c0))
    exact bodyPost_ret (v:=idE (m,0)) (by simp [results,Tryz.results45,go_sem,idE, *]) rfl ⟨rfl,(B3.out.setCell (by simp) _).setCell (by simp) _⟩
  | m::m'::r =>
    have eR:R=((0,0),23):=HR.out.symm
    subst eR
    clear HR
    have hl2:(m::m'::r).length=r.length+2:=rfl
    generalize (m::m'::r)=ol at *
    have n1:¬ (ol.length:Int)=0:=by omega
    have n2:¬ (ol.length:Int)=1:=by omega
    clear hl2
    go_enter Tryz.func45,Tryz.ntmps45
    go_wp2_with (first
      | (go_at_call 43;refine (HC.out _ (by repeat (first|exact Below.refl _ _|refine Below.setCell ?_ (by simp;try omega) _|refine Below.alloc ?_ (by simp;try omega) _|refine Below.drew ?_))).mono ?_;rintro e w1 ⟨⟨v,rfl,ho⟩,hb⟩;obtain ⟨va,vn,rfl⟩:=ownv ho;have O1:Hid (w1.ownsRow (W.heap.size+2) 60 2 (.slice va ml.length vn) ml.length (flatD ml)):=Go.Joins.ownsRow_le ho (by simp);have c0:w1.cell? ⟨W.heap.size,0,none⟩=some (.pointer (some ⟨b,0,none⟩)):=(hb.cell (p:=⟨W.heap.size,0,none⟩) (by simp;try omega)).trans (by simp [go_sem]);have d0:w1.heap[W.heap.size+1]?=some (.cells #[.int .i64 0,.int .i64 0] 60 (0,0)):=(hb.block (W.heap.size+1) (by simp)).trans (halloc2 _ _ (by simp));have B1:Hid (Below W.heap.size W w1):=bstep (by repeat (first|exact Below.refl _ _|refine Below.setCell ?_ (by simp;try omega) _|refine Below.alloc ?_ (by simp;try omega) _|refine Below.drew ?_)) hb;have L1:Hid (W.heap.size+2≤w1.heap.size):=Nat.le_trans (by simp) hb.size;clear hb HC ho)
      | (go_at_call 90;refine (delD_any 97 callMz #[.pointer (some ⟨W.heap.size,0,none⟩)] (fun m=>hasS ps m.1 m.2 1024) (W.heap.size+2) ml _ w1 O1.out L1.out HMb.out (fun m _ w hb=>hpred.out w1 w hb B1.out c0 m)).mono ?_;rintro e w3 ⟨v3,rfl,ho,hb⟩;rw [HOL.out] at ho;obtain ⟨va3,vn3,rfl⟩:=ownv ho;have d1:=(hb.block (W.heap.size+1) (by omega)).trans d0;have z0:w3.cell? ⟨W.heap.size+1,0,none⟩=some (.int .i64 0):=(cell_of_row w3 (W.heap.size+1) 0 _ _ _ d1).trans rfl;have z1:w3.cell? ⟨W.heap.size+1,1,none⟩=some (.int .i64 0):=(cell_of_row w3 (W.heap.size+1) 1 _ _ _ d1).trans rfl;have f0:=frozen_of_row w3 (W.heap.size+1) 0 _ _ d1;have f1:=frozen_of_row w3 (W.heap.size+1) 1 _ _ d1;have B3:Hid (Below W.heap.size W w3):=B1.out.trans (hb.mono (by omega));clear hb ho d0 d1 c0))
    exact bodyPost_ret (v:=idE ((0,0),23)) (by simp [results,Tryz.results45,go_sem,idE, *]) rfl ⟨rfl,(B3.out.setCell (by simp) _).setCell (by simp) _⟩
def someV:List (Int×Int)→(Int×Int)×Int
  | []=>((0,0),6)
  | m::_=>(m,0)
set_option maxHeartbeats 1000000 in
theorem some_yes {b:Nat} {ps:List Plc} {W:World} (h:WAt b ps W) (hi:WI ps) (k:Nat) (q:Plc) (hq:ps[k]?=some q) (nm ds:ByteArray):Calls Tryz.prog 46 #[.pointer (some ⟨b,0,none⟩),.int .i64 (k:Int),.string nm,.string ds] W fun e w'=>e=.returned (idE (someV (candL ps nm ds q.cl)))∧Below W.heap.size W w':=by
  have HC:Hid (∀ w,Below W.heap.size W w→Calls Tryz.prog 42 #[.pointer (some ⟨b,0,none⟩),.int .i64 (k:Int),.string nm,.string ds] w fun e w'=>(∃ v,e=.returned (.tuple #[v,.int .i64 0])∧w'.ownsRow w.heap.size 60 2 v (candL ps nm ds q.cl).length (flatD (candL ps nm ds q.cl)))∧Below w.heap.size w w'):=fun w hb=>cand_yes (h.below hb) hi.pb hi.hi k q hq nm ds
  generalize candL ps nm ds q.cl=l at *
  clear h hi hq
  match l with
  | [] =>
    rw [someV]
    go_enter Tryz.func46,Tryz.ntmps46
    go_wp2_with (go_at_call 42;refine (HC.out _ (by repeat (first|exact Below.refl _ _|refine Below.setCell ?_ (by simp;try omega) _|refine Below.alloc ?_ (by simp;try omega) _|refine Below.drew ?_))).mono ?_;rintro e w3 ⟨⟨v,rfl,ho⟩,hb⟩;obtain ⟨va3,vn3,rfl⟩:=ownv ho;have d1:w3.heap[W.heap.size]?=some (.cells #[.int .i64 0,.int .i64 0] 60 (0,0)):=(hb.block W.heap.size (by simp)).trans (halloc2 _ _ rfl);have z0:w3.cell? ⟨W.heap.size,0,none⟩=some (.int .i64 0):=(cell_of_row w3 W.heap.size 0 _ _ _ d1).trans rfl;have z1:w3.cell? ⟨W.heap.size,1,none⟩=some (.int .i64 0):=(cell_of_row w3 W.heap.size 1 _ _ _ d1).trans rfl;have f0:=frozen_of_row w3 W.heap.size 0 _ _ d1;have f1:=frozen_of_row w3 W.heap.size 1 _ _ d1;have B3:Hid (Below W.heap.size W w3):=bstep (by repeat (first|exact Below.refl _ _|refine Below.setCell ?_ (by simp;try omega) _|refine Below.alloc ?_ (by simp;try omega) _|refine Below.drew ?_)) hb;clear hb d1 HC ho)
    exact bodyPost_ret (v:=idE ((0,0),6)) (by simp [results,Tryz.results46,go_sem,idE, *]) rfl ⟨rfl,(B3.out.setCell (by simp) _).setCell (by simp) _⟩
  | m::r =>
    rw [someV]
    have hl2:(m::r).length=r.length+1:=rfl
    have hat:Hid ((m::r)[0]?=some m):=rfl
    generalize (m::r)=l at *
    have n1:¬ (l.length:Int)=0:=by omega
    have n2:(0:Int)<(l.length:Int):=by omega
    have n3:Hid (0<l.length):=by rw [Hid,hl2];omega
    clear hl2
    go_enter Tryz.func46,Tryz.ntmps46
    go_wp2_with (go_at_call 42;refine (HC.out _ (by repeat (first|exact Below.refl _ _|refine Below.setCell ?_ (by simp;try omega) _|refine Below.alloc ?_ (by simp;try omega) _|refine Below.drew ?_))).mono ?_;rintro e w3 ⟨⟨v,rfl,ho⟩,hb⟩;obtain ⟨g3,vn3,rfl⟩:=Go.Joins.ownsRow_form ho n3.out;obtain ⟨r0,r1,_⟩:=rowD_cells ho hat.out;simp only [Nat.zero_mul,Nat.zero_add] at r0 r1;have hg3:¬ g3=W.heap.size:=(by have:=(ho.lt g3 rfl).1;simp at this;omega);have d1:w3.heap[W.heap.size]?=some (.cells #[.int .i64 0,.int .i64 0] 60 (0,0)):=(hb.block W.heap.size (by simp)).trans (halloc2 _ _ rfl);have z0:w3.cell? ⟨W.heap.size,0,none⟩=some (.int .i64 0):=(cell_of_row w3 W.heap.size 0 _ _ _ d1).trans rfl;have z1:w3.cell? ⟨W.heap.size,1,none⟩=some (.int .i64 0):=(cell_of_row w3 W.heap.size 1 _ _ _ d1).trans rfl;have f0:=frozen_of_row w3 W.heap.size 0 _ _ d1;have f1:=frozen_of_row w3 W.heap.size 1 _ _ d1;have B3:Hid (Below W.heap.size W w3):=bstep (by repeat (first|exact Below.refl _ _|refine Below.setCell ?_ (by simp;try omega) _|refine Below.alloc ?_ (by simp;try omega) _|refine Below.drew ?_)) hb;clear hb d1 HC ho)
    exact bodyPost_ret (v:=idE (m,0)) (by simp [results,Tryz.results46,go_sem,idE, *]) rfl ⟨rfl,(B3.out.setCell (by simp) _).setCell (by simp) _⟩
set_option maxHeartbeats 4000000 in
theorem built10_c (v:Value) (l:List Cls) (W:World) (h:IsClss W v l):Calls Tryz.prog 41 #[v] W fun e w'=>(∃ b,e=.returned (.pointer (some ⟨b,0,none⟩))∧WAt b (wld l) w')∧Below W.heap.size W w':=by
  have hCW:=clss_w h
  obtain ⟨ao,cap,rfl,h1,h2,h3⟩:=h
  unfold maxLen at h2
  obtain ⟨L,hL⟩:∃ L,l.length=L:=⟨_,rfl⟩
  have HL:Hid (l.length=L):=hL
  have HI:Hid _:=h3
  have HCW:Hid (∀ c∈l,ClsW c):=hCW
  rw [hL] at h1 ⊢
  clear hL h3 hCW
  have HN:Hid (∀ w:World,Calls Tryz.prog 9 #[] w fun e w'=>e=.returned (.pointer (some ⟨w.heap.size+1,0,none⟩))∧(∃ vp pv,HW w' w.heap.size (w.heap.size+1) w.heap.size P3 vp pv)∧Below w.heap.size w w'):=new_any
  go_enter Tryz.func41,Tryz.ntmps41
  go_wp2_with (first
    | (go_at_call 9;refine (HN.out _).mono ?_;rintro e w2 ⟨rfl,hw,hb⟩;have H2:Hid (∃ vp pv,HW w2 W.heap.size (W.heap.size+1) W.heap.size P3 vp pv):=hw;have B2:Hid (Below W.heap.size W w2):=hb;clear hb hw HN))
  go_loopw [4] (fun iv wr=>∃ (i:Nat),iv=.int .i64 i∧i≤L∧Hid (∃ vp pv,HW wr W.heap.size (W.heap.size+1) W.heap.size (wld (l.take i)) vp pv)∧Hid (Below W.heap.size W wr)) (fun iv _=>L - (intOf iv).toNat)
  case atStart=>exact ⟨0,rfl,Nat.zero_le _,H2,B2⟩
  case round =>
    clear H2 B2
    obtain ⟨i,rfl,hi,hHW,hB⟩:=hrel
    by_cases hlt:i<L
    · obtain ⟨c,hc⟩:∃ c,l[i]?=some c:=⟨_,List.getElem?_eq_getElem (by rw [HL.out];exact hlt)⟩
      obtain ⟨bk,o,rfl,hbk,hcl⟩:=HI.out (fun e=>by rw [e] at hc;simp at hc)
      obtain ⟨vi,vm,hcell,hin⟩:=hcl i c hc
      have bel:Below W.heap.size W wr:=hB.out
      have p0:wr.cell? ⟨bk,o+i * 6,none⟩=some (.string c.nm):=(bel.cell (p:=⟨bk,o+i * 6,none⟩) hbk).trans (hcell 0 _ rfl)
      have p1:wr.cell? ⟨bk,o+i * 6+1,none⟩=some (.string c.su):=(bel.cell (p:=⟨bk,o+i * 6+1,none⟩) hbk).trans (hcell 1 _ rfl)
      have p2:wr.cell? ⟨bk,o+i * 6+2,none⟩=some vi:=(bel.cell (p:=⟨bk,o+i * 6+2,none⟩) hbk).trans (hcell 2 _ rfl)
      have p3:wr.cell? ⟨bk,o+i * 6+3,none⟩=some (.int .i64 c.fl):=(bel.cell (p:=⟨bk,o+i * 6+3,none⟩) hbk).trans (hcell 3 _ rfl)
      have p4:wr.cell? ⟨bk,o+i * 6+4,none⟩=some (.int .i64 c.ld):=(bel.cell (p:=⟨bk,o+i * 6+4,none⟩) hbk).trans (hcell 4 _ rfl)
      have p5:wr.cell? ⟨bk,o+i * 6+5,none⟩=some vm:=(bel.cell (p:=⟨bk,o+i * 6+5,none⟩) hbk).trans (hcell 5 _ rfl)
      have hWI:WI (wld (l.take i)):=wld_wi _ (fun c hc=>HCW.out c (List.mem_of_mem_take hc))
      have HD:Hid (Calls Tryz.prog 10 #[.pointer (some ⟨W.heap.size+1,0,none⟩),.agg #[.string c.nm,.string c.su,vi,.int .i64 c.fl,.int .i64 c.ld,vm]] wr fun e w'=>(∃ u,e=.returned u)∧Hid (∃ vp pv,HW w' W.heap.size (W.heap.size+1) W.heap.size (wld (l.take (i+1))) vp pv)∧Hid (Below W.heap.size W w')):=by
        obtain ⟨vp,pv,hw⟩:=hHW.out
        refine (define_any W.heap.size (W.heap.size+1) W.heap.size _ vp pv c vi vm wr hw hB.out.size (hin.keep bel) hWI.nm).mono ?_
        rintro e w' ⟨rfl,hw',hb',_⟩
        rw [wld_at hc]
        exact ⟨⟨_,rfl⟩,hw',hB.out.trans hb'⟩
      clear hcl hcell hin hc bel hWI hHW hB HI
      go_wp2_with (go_at_call 10;refine HD.out.mono ?_;rintro e w3 ⟨⟨u3,rfl⟩,hw3,hb3⟩;clear HD)
      go_roundw
      case rel=>exact ⟨i+1,by go_num,by omega,hw3,hb3⟩
      case measure=>simp [intOf];omega
    · have e:i=L:=by omega
      subst e
      have HF:Hid (WAt (W.heap.size+1) (wld l) wr):=by
        obtain ⟨vp,pv,hw⟩:=hHW.out
        rw [List.take_of_length_le (by rw [HL.out];exact Nat.le_refl _)] at hw
        exact hw.wat
      clear hHW HI
      go_wp2
      exact bodyPost_ret (results_tmp rfl _ _ _) rfl ⟨⟨_,rfl,HF.out⟩,hB.out⟩
theorem awake10_c (W:World):Calls Tryz.prog 40 #[] W fun e w'=>e=.returned (.bool true)∧Below W.heap.size W w':=by
  have HN:Hid (∀ w:World,Calls Tryz.prog 9 #[] w fun e w'=>∃ b,e=.returned (.pointer (some ⟨b,0,none⟩))∧WAt b P3 w'∧Below w.heap.size w w'):=fun w=>(new_any w).mono fun e w' zz=>⟨_,zz.1,by obtain ⟨vp,pv,hw⟩:=zz.2.1;exact hw.wat,zz.2.2⟩
  have HO:Hid (∀ (w:World) (b:Nat) (nm ds:ByteArray),WAt b P3 w→Calls Tryz.prog 45 #[.pointer (some ⟨b,0,none⟩),.int .i64 0,.string nm,.string ds] w fun e w'=>e=.returned (.tuple #[.agg #[.int .i64 0,.int .i64 0],.int .i64 24])∧Below w.heap.size w w'):=fun w b nm ds h=>one_yes h wi3 0 _ rfl nm ds
  have HS:Hid (∀ (w:World) (b:Nat) (nm ds:ByteArray),WAt b P3 w→Calls Tryz.prog 46 #[.pointer (some ⟨b,0,none⟩),.int .i64 0,.string nm,.string ds] w fun e w'=>e=.returned (.tuple #[.agg #[.int .i64 0,.int .i64 0],.int .i64 6])∧Below w.heap.size w w'):=fun w b nm ds h=>some_yes h wi3 0 _ rfl nm ds
  have BB:Hid (Below W.heap.size W W):=Below.refl _ _
  go_enter Tryz.func40,Tryz.ntmps40
  go_wp2_with (first
    | (go_at_call 9;refine (HN.out _).mono ?_;rintro e w1 ⟨b,rfl,hw,hb⟩;have BB2:Below W.heap.size W w1:=bstep (by repeat (first|exact BB.out|exact Below.refl _ _|refine Below.setCell ?_ (by simp;try omega) _|refine Below.alloc ?_ (by have:=BB.out.size;simp;try omega) _|refine Below.drew ?_)) hb;clear BB;have BB:Hid (Below W.heap.size W w1):=BB2;(try clear HH);have HH:Hid (WAt b P3 w1):=hw;clear hw hb BB2)
    | (go_at_call 45;refine (HO.out _ _ _ _ HH.out).mono ?_;rintro e w2 ⟨rfl,hb⟩;have BB2:=bstep BB.out hb;clear BB;have BB:Hid (Below W.heap.size W w2):=BB2;clear hb BB2 HO)
    | (go_at_call 46;refine (HS.out _ _ _ _ HH.out).mono ?_;rintro e w2 ⟨rfl,hb⟩;have BB2:=bstep BB.out hb;clear BB;have BB:Hid (Below W.heap.size W w2):=BB2;clear hb BB2 HS))
  exact bodyPost_ret (results_tmp rfl _ _ _) rfl ⟨rfl,(by repeat (first|exact BB.out|exact Below.refl _ _|refine Below.setCell ?_ (by simp;try omega) _|refine Below.alloc ?_ (by have:=BB.out.size;simp;try omega) _|refine Below.drew ?_))⟩
theorem sameID_c (a b:Int×Int) (w:World):Calls Tryz.prog 82 #[.agg #[.int .i64 a.1,.int .i64 a.2],.agg #[.int .i64 b.1,.int .i64 b.2]] w fun e w'=>e=.returned (.bool ((a.1 == b.1)&&(a.2 == b.2)))∧Below w.heap.size w w':=by
  obtain ⟨a1,a2⟩:=a
  obtain ⟨b1,b2⟩:=b
  by_cases h1:a1=b1
  · by_cases h2:a2=b2
    · subst h1 h2
      go_enter Tryz.func82,Tryz.ntmps82
      go_wp2
      exact bodyPost_ret (results_tmp rfl _ _ _) rfl ⟨by simp,(by repeat (first|exact Below.refl _ _|refine Below.setCell ?_ (by simp;try omega) _|refine Below.alloc ?_ (by simp;try omega) _|refine Below.drew ?_))⟩
    · subst h1
      go_enter Tryz.func82,Tryz.ntmps82
      go_wp2
      exact bodyPost_ret (results_tmp rfl _ _ _) rfl ⟨by simp,(by repeat (first|exact Below.refl _ _|refine Below.setCell ?_ (by simp;try omega) _|refine Below.alloc ?_ (by simp;try omega) _|refine Below.drew ?_))⟩
  · go_enter Tryz.func82,Tryz.ntmps82
    go_wp2
    exact bodyPost_ret (results_tmp rfl _ _ _) rfl ⟨by simp [h1],(by repeat (first|exact Below.refl _ _|refine Below.setCell ?_ (by simp;try omega) _|refine Below.alloc ?_ (by simp;try omega) _|refine Below.drew ?_))⟩
theorem own_far {w w':World} {N e s n:Nat} {v:Value} {r:Option Nat} {xs:List Value} (h:w.ownsRow N e s v n xs) (hne:∀ k,v.ownBlock=some k→r=some k→False) (hg:w.grownBy w' r):w'.ownsRow N e s v n xs:=by
  refine h.kept hg ?_
  cases ob:v.ownBlock with
  | none=>exact .inl rfl
  | some k=>exact .inr fun e1=>hne k ob e1.symm
theorem candn_c (W:World) (c:Int) (nm ds:ByteArray):Calls Tryz.prog 42 #[.pointer none,.int .i64 c,.string nm,.string ds] W fun e w'=>e=.returned (.tuple #[.slice none 0 0,.int .i64 2])∧Below W.heap.size W w':=by
  go_enter Tryz.func42,Tryz.ntmps42
  go_wp2
  exact bodyPost_ret (results_tmp2 rfl _ _ _) rfl ⟨rfl,(by repeat (first|exact Below.refl _ _|refine Below.setCell ?_ (by simp;try omega) _|refine Below.alloc ?_ (by simp;try omega) _|refine Below.drew ?_))⟩
theorem maxn_c (W:World) (c:Int) (nm ds:ByteArray):Calls Tryz.prog 43 #[.pointer none,.int .i64 c,.string nm,.string ds] W fun e w'=>e=.returned (.tuple #[.slice none 0 0,.int .i64 2])∧Below W.heap.size W w':=by
  have HC:Hid (∀ w:World,Calls Tryz.prog 42 #[.pointer none,.int .i64 c,.string nm,.string ds] w fun e w'=>e=.returned (.tuple #[.slice none 0 0,.int .i64 2])∧Below w.heap.size w w'):=fun w=>candn_c w c nm ds
  go_enter Tryz.func43,Tryz.ntmps43
  go_wp2_with (go_at_call 42;refine (HC.out _).mono ?_;rintro e w1 ⟨rfl,hb⟩;have B1:Hid (Below W.heap.size W w1):=bstep (by repeat (first|exact Below.refl _ _|refine Below.setCell ?_ (by simp;try omega) _|refine Below.alloc ?_ (by simp;try omega) _|refine Below.drew ?_)) hb;clear hb HC)
  exact bodyPost_ret (results_tmp2 rfl _ _ _) rfl ⟨rfl,B1.out.alloc B1.out.size _⟩
theorem onen_c (W:World) (c:Int) (nm ds:ByteArray):Calls Tryz.prog 45 #[.pointer none,.int .i64 c,.string nm,.string ds] W fun e w'=>e=.returned (.tuple #[.agg #[.int .i64 0,.int .i64 0],.int .i64 2])∧Below W.heap.size W w':=by
  have HC:Hid (∀ w:World,Calls Tryz.prog 43 #[.pointer none,.int .i64 c,.string nm,.string ds] w fun e w'=>e=.returned (.tuple #[.slice none 0 0,.int .i64 2])∧Below w.heap.size w w'):=fun w=>maxn_c w c nm ds
  go_enter Tryz.func45,Tryz.ntmps45
  go_wp2_with (go_at_call 43;refine (HC.out _).mono ?_;rintro e w3 ⟨rfl,hb⟩;have d1:w3.heap[W.heap.size+1]?=some (.cells #[.int .i64 0,.int .i64 0] 60 (0,0)):=(hb.block (W.heap.size+1) (by simp)).trans (halloc2 _ _ (by simp));have z0:w3.cell? ⟨W.heap.size+1,0,none⟩=some (.int .i64 0):=(cell_of_row w3 (W.heap.size+1) 0 _ _ _ d1).trans rfl;have z1:w3.cell? ⟨W.heap.size+1,1,none⟩=some (.int .i64 0):=(cell_of_row w3 (W.heap.size+1) 1 _ _ _ d1).trans rfl;have f0:=frozen_of_row w3 (W.heap.size+1) 0 _ _ d1;have f1:=frozen_of_row w3 (W.heap.size+1) 1 _ _ d1;have B3:Hid (Below W.heap.size W w3):=bstep (by repeat (first|exact Below.refl _ _|refine Below.setCell ?_ (by simp;try omega) _|refine Below.alloc ?_ (by simp;try omega) _|refine Below.drew ?_)) hb;clear hb d1 HC)
  exact bodyPost_ret (v:=.tuple #[.agg #[.int .i64 0,.int .i64 0],.int .i64 2]) (by simp [results,Tryz.results45,go_sem, *]) rfl ⟨rfl,(B3.out.setCell (by simp) _).setCell (by simp) _⟩
theorem somen_c (W:World) (c:Int) (nm ds:ByteArray):Calls Tryz.prog 46 #[.pointer none,.int .i64 c,.string nm,.string ds] W fun e w'=>e=.returned (.tuple #[.agg #[.int .i64 0,.int .i64 0],.int .i64 2])∧Below W.heap.size W w':=by
  have HC:Hid (∀ w:World,Calls Tryz.prog 42 #[.pointer none,.int .i64 c,.string nm,.string ds] w fun e w'=>e=.returned (.tuple #[.slice none 0 0,.int .i64 2])∧Below w.heap.size w w'):=fun w=>candn_c w c nm ds
  go_enter Tryz.func46,Tryz.ntmps46
  go_wp2_with (go_at_call 42;refine (HC.out _).mono ?_;rintro e w3 ⟨rfl,hb⟩;have zd:w3.heap[W.heap.size]?=some (.cells #[.int .i64 0,.int .i64 0] 60 (0,0)):=(hb.block (W.heap.size) (by first|omega|(simp;try omega))).trans (by first|exact zB.out|exact hkeep zB.out|exact hkeep (hkeep zB.out)|exact halloc2 _ _ rfl|exact heap_alloc2_old _ _ _|exact heap_alloc2_new _ _ _|exact hkeep (halloc2 _ _ rfl)|exact hkeep (hkeep (halloc2 _ _ rfl))|exact halloc2 _ _ (by simp;done));(try clear zB zL zN z0 z1 zf0 zf1);have zB:Hid (w3.heap[W.heap.size]?=some (.cells #[.int .i64 0,.int .i64 0] 60 (0,0))):=zd;have z0:w3.cell? ⟨W.heap.size,0,none⟩=some (.int .i64 0):=(cell_of_row w3 (W.heap.size) 0 _ _ _ zd).trans rfl;have zf0:=frozen_of_row w3 (W.heap.size) 0 _ _ zd;have z1:w3.cell? ⟨W.heap.size,1,none⟩=some (.int .i64 0):=(cell_of_row w3 (W.heap.size) 1 _ _ _ zd).trans rfl;have zf1:=frozen_of_row w3 (W.heap.size) 1 _ _ zd;have zL:W.heap.size<w3.heap.size:=(Array.getElem?_eq_some_iff.1 zd).1;have zN:¬ W.heap.size=w3.heap.size:=(by omega);clear zd;have B3:Hid (Below W.heap.size W w3):=bstep (by repeat (first|exact Below.refl _ _|refine Below.setCell ?_ (by simp;try omega) _|refine Below.alloc ?_ (by simp;try omega) _|refine Below.drew ?_)) hb;clear hb HC)
  exact bodyPost_ret (v:=.tuple #[.agg #[.int .i64 0,.int .i64 0],.int .i64 2]) (by simp [results,Tryz.results46,go_sem, *]) rfl ⟨rfl,(by repeat (first|exact B3.out|refine Below.setCell ?_ (by simp;try omega) _|refine Below.alloc ?_ (by have:=B3.out.size;simp;try omega) _|refine Below.drew ?_))⟩
set_option maxHeartbeats 4000000 in
theorem sameIDs_eq (N1 N2:Nat) (l:List (Int×Int)) (v1 v2:Value) (W:World) (h1:W.ownsRow N1 60 2 v1 l.length (flatD l)) (h2:W.ownsRow N2 60 2 v2 l.length (flatD l)) (hn:l.length≤1000000):Calls Tryz.prog 36 #[v1,v2] W fun e w'=>e=.returned (.bool true)∧Below W.heap.size W w':=by
  obtain ⟨a1,c1,rfl⟩:=ownv h1
  obtain ⟨a2,c2,rfl⟩:=ownv h2
  have H1:Hid (W.ownsRow N1 60 2 (.slice a1 l.length c1) l.length (flatD l)):=h1
  have H2:Hid (W.ownsRow N2 60 2 (.slice a2 l.length c2) l.length (flatD l)):=h2
  obtain ⟨K,hK⟩:∃ K,l.length=K:=⟨_,rfl⟩
  have HK:Hid (l.length=K):=hK
  rw [hK] at hn ⊢
  clear h1 h2 hK
  go_enter Tryz.func36,Tryz.ntmps36
  go_wp2
  go_loopw [5] (fun iv wr=>∃ i:Nat,iv=.int .i64 i∧i≤K∧Hid (Below W.heap.size W wr)) (fun iv _=>K - (intOf iv).toNat)
  case atStart=>exact ⟨0,rfl,Nat.zero_le _,Below.refl _ _⟩
  case round =>
    obtain ⟨i,rfl,hi,hb⟩:=hrel
    by_cases hlt:i<K
    · have hlq:i<l.length:=by rw [HK.out];exact hlt
      obtain ⟨x,hx⟩:∃ x,l[i]?=some x:=⟨_,List.getElem?_eq_getElem hlq⟩
      obtain ⟨g1,d1,hf1⟩:=Go.Joins.ownsRow_form H1.out (by omega)
      obtain ⟨g2,d2,hf2⟩:=Go.Joins.ownsRow_form H2.out (by omega)
      have r1:=H1.out
      have r2:=H2.out
      rw [hf1] at r1
      rw [hf2] at r2
      obtain ⟨e0,e1,hgl1⟩:=rowD_cells r1 hx
      obtain ⟨f0,f1,hgl2⟩:=rowD_cells r2 hx
      injection hf1 with ha1 _ hc1
      injection hf2 with ha2 _ hc2
      subst ha1 hc1 ha2 hc2
      obtain ⟨σ,V,hne,V1,V2⟩:=class_of' (fun w'=>Below W.heap.size W w') ⟨_,Below.refl _ _⟩
      have kp:∀ (s:σ) (bb j:Nat) (v:Value),bb<W.heap.size→W.cell? ⟨bb,j,none⟩=some v→(V s).cell? ⟨bb,j,none⟩=some v:=fun s bb j v hl h=>((V1.out s).cell (p:=⟨bb,j,none⟩) hl).trans h
      replace e0:=fun s=>kp s _ _ _ hgl1 e0
      replace e1:=fun s=>kp s _ _ _ hgl1 e1
      replace f0:=fun s=>kp s _ _ _ hgl2 f0
      replace f1:=fun s=>kp s _ _ _ hgl2 f1
      have HS:Hid (∀ s,Calls Tryz.prog 82 #[.agg #[.int .i64 x.1,.int .i64 x.2],.agg #[.int .i64 x.1,.int .i64 x.2]] (V s) fun e w'=>e=.returned (.bool true)∧∃ s',w'=V s'):=fun s=>(sameID_c x x (V s)).mono fun e w' zz=>⟨by rw [zz.1];simp,V2.out _ (bstep (V1.out s) zz.2)⟩
      have hiI:(i:Int)<(K:Int):=by omega
      obtain ⟨x1,x2⟩:=x
      simp only at e0 e1 f0 f1 HS
      clear hx r1 r2 kp hlq H1 H2
      go_wp2
      refine wp_region_class (C:=fun w'=>∃ s,w'=V s) (by kernel_rfl) (by kernel_rfl) (V2.out _ (hb.out.drew)) ?_
      repeat (go_big_quiet_step ((go_at_call 82;exact HS.out _)))
      refine wpQuiet_nil ?_
      intro w9 hw9
      obtain ⟨s9,rfl⟩:=hw9
      have B9:Hid (Below W.heap.size W (V s9)):=V1.out s9
      go_wp2
      go_roundw
      case rel=>exact ⟨i+1,by go_num,by omega,B9⟩
      case measure=>simp [intOf];omega
    · have e:i=K:=by omega
      subst e
      go_wp2
      exact bodyPost_ret (results_tmp rfl _ _ _) rfl ⟨rfl,hb.out⟩
def pkB (nm:ByteArray):ByteArray:=⟨(pkgL nm.data.toList).toArray⟩
theorem meth_plc {ps:List Plc} {c i:Int} {m:HM} (h:methI ps c i=some m):∃ (k:Nat) (q:Plc),c=(k:Int)∧ps[k]?=some q∧plcI ps c=some q∧methP q i=some m:=by
  rcases plcI_cases ps c with ⟨h1,_⟩|⟨k,q,rfl,h2,h1⟩
  · rw [methI,h1] at h;cases h
  · rw [methI,h1] at h
    exact ⟨k,q,rfl,h2,h1,h⟩
def ifcC (cs:List Cls) (i:Int):Bool:=match clsI cs i with
  | some c=>hasI c.fl 512
  | none=>false
theorem rIsIface_c {b:Nat} {cs:List Cls} {W:World} (h:RAt b cs W) (i:Int):Calls Tryz.prog 72 #[.pointer (some ⟨b,0,none⟩),.int .i64 i] W fun e w'=>e=.returned (.bool (ifcC cs i))∧w'=W:=by
  have HI:Hid (∀ y,(clsI cs i).isSome=y→Calls Tryz.prog 75 #[.pointer (some ⟨b,0,none⟩),.int .i64 i] W fun e w'=>e=.returned (.bool y)∧w'=W):=fun y hy=>by rw [← hy];exact rIn_c h i
  rcases clsI_cases cs i with ⟨h1,h2⟩|⟨k,c,rfl,h2,h1⟩
  · have e:ifcC cs i=false:=by rw [ifcC,h1]
    rw [e]
    have HI:Hid (Calls Tryz.prog 75 #[.pointer (some ⟨b,0,none⟩),.int .i64 i] W fun e w'=>e=.returned (.bool false)∧w'=W):=HI.out false (by rw [h1];rfl)
    clear h h1 h2 e
    go_enter Tryz.func72,Tryz.ntmps72
    go_wp2_with (go_at_call 75;refine HI.out.mono ?_;rintro e w9 ⟨rfl,hw9⟩;rw [hw9];clear hw9 w9)
    exact bodyPost_ret (results_tmp rfl _ _ _) rfl ⟨rfl,rfl⟩
  · have e:ifcC cs k=hasI c.fl 512:=by rw [ifcC,h1]
    rw [e]
    have HI:Hid (Calls Tryz.prog 75 #[.pointer (some ⟨b,0,none⟩),.int .i64 (k:Int)] W fun e w'=>e=.returned (.bool true)∧w'=W):=HI.out true (by rw [h1];rfl)
    obtain ⟨g,cap,vi,vm,b0,_,_,c0,c1,c2,c3,c4,c5,_⟩:=h.cells h2
    have hkI:(k:Int)<(cs.length:Int):=by have:=(List.getElem?_eq_some_iff.1 h2).1;omega
    have HF:Hid (∀ w:World,Calls Tryz.prog 73 #[.int .i64 c.fl,.int .i64 512] w fun e w'=>e=.returned (.bool (hasI c.fl 512))∧w'=w):=has_any c.fl 512
    generalize hasI c.fl 512=R at *
    clear h h1 h2 e
    go_enter Tryz.func72,Tryz.ntmps72
    go_wp2_with (first
      | (go_at_call 75;refine HI.out.mono ?_;rintro e w9 ⟨rfl,hw9⟩;rw [hw9];clear hw9 w9)
      | (go_at_call 73;refine (HF.out _).mono ?_;rintro e w9 ⟨rfl,hw9⟩;rw [hw9];clear hw9 w9))
    exact bodyPost_ret (results_tmp rfl _ _ _) rfl ⟨rfl,rfl⟩
def togB (p q:Cls):Bool:=(p.ld == q.ld)&&(pkgL p.nm.data.toList == pkgL q.nm.data.toList)
set_option maxHeartbeats 1000000 in
theorem rTog_c (p q:Cls) (vi vm vi' vm':Value) (hp:p.nm.size≤maxLen) (hq:q.nm.size≤maxLen) (W:World):Calls Tryz.prog 126 #[.agg #[.string p.nm,.string p.su,vi,.int .i64 p.fl,.int .i64 p.ld,vm],.agg #[.string q.nm,.string q.su,vi',.int .i64 q.fl,.int .i64 q.ld,vm']] W fun e w'=>e=.returned (.bool (togB p q))∧Below W.heap.size W w':=by
  have HP:Hid (∀ u w,u=p.nm→Calls Tryz.prog 170 #[.string u] w fun e w'=>e=.returned (.string (pkB p.nm))∧w'=w):=fun u w hu=>by rw [hu];exact rPackage_any p.nm hp w
  have HQ:Hid (∀ u w,u=q.nm→Calls Tryz.prog 170 #[.string u] w fun e w'=>e=.returned (.string (pkB q.nm))∧w'=w):=fun u w hu=>by rw [hu];exact rPackage_any q.nm hq w
  have HR:Hid (togB p q=((p.ld == q.ld)&&((pkB p.nm).toList == (pkB q.nm).toList))):=by
    rw [Hid,togB,Lib.toList_data,Lib.toList_data];rfl
  generalize togB p q=R at *
  generalize pkB p.nm=s1 at *
  generalize pkB q.nm=s2 at *
  clear hp hq
  by_cases hld:p.ld=q.ld
  · have hld2:(p.ld == q.ld)=true:=by rw [hld];simp
    cases hz:(s1.toList == s2.toList)
    all_goals
      rw [hld2,hz] at HR
      go_enter Tryz.func126,Tryz.ntmps126
      go_wp2
      go_quiet (first|(go_at_call 170;refine Calls.quiet_of_same (HP.out _ _ rfl))|(go_at_call 170;refine Calls.quiet_of_same (HQ.out _ _ rfl)))
      go_wp2
      exact bodyPost_ret (results_tmp rfl _ _ _) rfl ⟨by rw [HR.out];rfl,below_drewN (by repeat (first|exact Below.refl _ _|refine Below.setCell ?_ (by simp;try omega) _|refine Below.alloc ?_ (by simp;try omega) _|refine Below.drew ?_)) _⟩
  · have hld2:(p.ld == q.ld)=false:=by simpa using hld
    rw [hld2] at HR
    go_enter Tryz.func126,Tryz.ntmps126
    go_wp2
    go_quiet (first|(go_at_call 170;refine Calls.quiet_of_same (HP.out _ _ rfl)))
    go_wp2
    exact bodyPost_ret (results_tmp rfl _ _ _) rfl ⟨by rw [HR.out];rfl,below_drewN (by repeat (first|exact Below.refl _ _|refine Below.setCell ?_ (by simp;try omega) _|refine Below.alloc ?_ (by simp;try omega) _|refine Below.drew ?_)) _⟩
theorem strs_slice {w:World} {v:Value} {l:List (List UInt8)} (h:IsStrs w v l):∃ a c,v=.slice a l.length c:=by
  obtain ⟨a,c,e,_⟩:=h
  exact ⟨a,c,e⟩
theorem mths_slice {w:World} {v:Value} {l:List Mth} (h:IsMths w v l):∃ a c,v=.slice a l.length c:=by
  obtain ⟨a,c,e,_⟩:=h
  exact ⟨a,c,e⟩
set_option maxHeartbeats 1000000 in
theorem rOpen_c (c p:Cls) (vi vm vi' vm':Value) (hc:c.nm.size≤maxLen) (hp:p.nm.size≤maxLen) (W:World):Calls Tryz.prog 74 #[.agg #[.string c.nm,.string c.su,vi,.int .i64 c.fl,.int .i64 c.ld,vm],.agg #[.string p.nm,.string p.su,vi',.int .i64 p.fl,.int .i64 p.ld,vm']] W fun e w'=>e=.returned (.bool (hasI p.fl 1||togB c p))∧Below W.heap.size W w':=by
  have HT:Hid (∀ w,Calls Tryz.prog 126 #[.agg #[.string c.nm,.string c.su,vi,.int .i64 c.fl,.int .i64 c.ld,vm],.agg #[.string p.nm,.string p.su,vi',.int .i64 p.fl,.int .i64 p.ld,vm']] w fun e w'=>e=.returned (.bool (togB c p))∧Below w.heap.size w w'):=fun w=>rTog_c c p vi vm vi' vm' hc hp w
  have HF:Hid (∀ w:World,Calls Tryz.prog 73 #[.int .i64 p.fl,.int .i64 1] w fun e w'=>e=.returned (.bool (hasI p.fl 1))∧w'=w):=has_any p.fl 1
  generalize hasI p.fl 1=b1 at *
  generalize togB c p=b2 at *
  clear hc hp
  cases b1
  all_goals
    go_enter Tryz.func74,Tryz.ntmps74
    go_wp2_with (first
      | (go_at_call 73;refine (HF.out _).mono ?_;rintro e w9 ⟨rfl,hw9⟩;rw [hw9];clear hw9 w9)
      | (go_at_call 126;refine (HT.out _).mono ?_;rintro e w1 ⟨rfl,hb⟩;have B1:Hid (Below W.heap.size W w1):=bstep (by repeat (first|exact Below.refl _ _|refine Below.setCell ?_ (by simp;try omega) _|refine Below.alloc ?_ (by simp;try omega) _|refine Below.drew ?_)) hb;clear hb HT))
    first
      | exact bodyPost_ret (results_tmp rfl _ _ _) rfl ⟨rfl,B1.out⟩
      | exact bodyPost_ret (results_tmp rfl _ _ _) rfl ⟨rfl,(by repeat (first|exact Below.refl _ _|refine Below.setCell ?_ (by simp;try omega) _|refine Below.alloc ?_ (by simp;try omega) _|refine Below.drew ?_))⟩
end Go.Proofs.YtfjekhmnjfcbeaaGreat
