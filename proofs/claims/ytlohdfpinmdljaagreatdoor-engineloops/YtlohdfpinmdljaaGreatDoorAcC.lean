import Derived.Test.YtlohdfpinmdljaaGreatDoorWdB
import Derived.Test.YtlohdfpinmdljaaGreatDoorHrY
import Derived.Test.YtlohdfpinmdljaaGreatDoorMxC
import Derived.Test.YtlohdfpinmdljaaGreatDoorHrS
import Derived.Test.YtlohdfpinmdljaaGreatDoorHrX
import Derived.Test.YtlohdfpinmdljaaGreatDoorFOwnA
import Derived.Deep.RegionHeld3
set_option maxRecDepth 100000
namespace Go.Proofs.YtlohdfpinmdljaaGreatDoor
open Go.RowKit Go.Maps
def wld (l:List Cls):List Plc:=l.foldl (fun ps c=>dfP ps (defN ps c)) P3
theorem wld_snoc (l:List Cls) (c:Cls):wld (l++[c])=dfP (wld l) (defN (wld l) c):=by
  rw [wld,List.foldl_append];rfl
theorem wld_at {l:List Cls} {i:Nat} {c:Cls} (h:l[i]?=some c):wld (l.take (i+1))=dfP (wld (l.take i)) (defN (wld (l.take i)) c):=by
  rw [List.take_add_one,h];exact wld_snoc _ _
theorem wld_ind {P:List Plc→Prop} (h3:P P3) (hd:∀ ps c,P ps→ClsW c→P (dfP ps (defN ps c))):∀ l:List Cls,(∀ c∈l,ClsW c)→P (wld l):=by
  have key:∀ (l:List Cls) (ps:List Plc),(∀ c∈l,ClsW c)→P ps→P (l.foldl (fun ps c=>dfP ps (defN ps c)) ps):=by
    intro l
    induction l with
    | nil=>exact fun ps _ h=>h
    | cons c l ih=>exact fun ps hl h=>ih _ (fun x hx=>hl x (List.mem_cons_of_mem _ hx)) (hd ps c h (hl c (by simp)))
  exact fun l hl=>key l P3 hl h3
theorem wld_wi (l:List Cls) (hl:∀ c∈l,ClsW c):WI (wld l):=wld_ind wi3 (fun _ c h hc=>h.define c hc) l hl
theorem clss_w {w:World} {v:Value} {l:List Cls} (h:IsClss w v l):∀ c∈l,ClsW c:=by
  obtain ⟨ao,cap,e,h1,h2,h3⟩:=h
  intro c hc
  obtain ⟨bk,o,_,_,h4⟩:=h3 (fun e=>by rw [e] at hc;simp at hc)
  obtain ⟨i,hi⟩:=List.mem_iff_getElem?.1 hc
  obtain ⟨vi,vm,_,hin⟩:=h4 i c hi
  exact hin.ok
def extI (ps:List Plc) (a b:Int):Bool:=(plcI ps a).isSome&&(plcI ps b).isSome&&extB (ps.map nd) a.toNat b.toNat
theorem extends_no {b:Nat} {ps:List Plc} {W:World} (h:WAt b ps W) (x y:Int) (hxy:plcI ps x=none∨plcI ps y=none):Calls Tryz.prog 219 #[.pointer (some ⟨b,0,none⟩),.int .i64 x,.int .i64 y] W fun e w'=>e=.returned (.bool false)∧Below W.heap.size W w':=by
  have HX:Hid (∀ i z w,Below W.heap.size W w→plcI ps i=z→Calls Tryz.prog 115 #[.pointer (some ⟨b,0,none⟩),.int .i64 i] w fun e w'=>e=.returned (.bool z.isSome)∧w'=w):=fun i z w hb hi=>by
    have:=has_c (h.below hb) i
    rw [hi] at this;exact this
  clear h
  generalize hpx:plcI ps x=px at *
  generalize hpy:plcI ps y=py at *
  have HPX:Hid _:=hpx
  have HPY:Hid _:=hpy
  clear hpx hpy
  cases px with
  | none =>
    go_enter Tryz.func219,Tryz.ntmps219
    go_wp2_with (go_at_call 115;refine (HX.out _ _ _ (by repeat (first|exact Below.refl _ _|refine Below.setCell ?_ (by simp;try omega) _|refine Below.alloc ?_ (by simp;try omega) _|refine Below.drew ?_)) HPX.out).mono ?_;rintro e w9 ⟨rfl,hw9⟩;rw [hw9];clear hw9 w9)
    refine bodyPost_ret (v:=.bool false) (by simp [results,Tryz.results219,go_sem]) rfl ⟨rfl,(by repeat (first|exact Below.refl _ _|refine Below.setCell ?_ (by simp;try omega) _|refine Below.alloc ?_ (by simp;try omega) _|refine Below.drew ?_))⟩
  | some p =>
    obtain rfl:py=none:=hxy.resolve_left (by simp)
    clear hxy
    have HX1:Hid (∀ i w,Below W.heap.size W w→i=x→Calls Tryz.prog 115 #[.pointer (some ⟨b,0,none⟩),.int .i64 i] w fun e w'=>e=.returned (.bool true)∧w'=w):=fun i w hb hi=>by rw [hi];exact HX.out x _ w hb HPX.out
    have HY1:Hid (∀ i w,Below W.heap.size W w→i=y→Calls Tryz.prog 115 #[.pointer (some ⟨b,0,none⟩),.int .i64 i] w fun e w'=>e=.returned (.bool false)∧w'=w):=fun i w hb hi=>by rw [hi];exact HX.out y _ w hb HPY.out
    go_enter Tryz.func219,Tryz.ntmps219
    go_wp2_with (first
      | (go_at_call 115;refine (HX1.out _ _ (by repeat (first|exact Below.refl _ _|refine Below.setCell ?_ (by simp;try omega) _|refine Below.alloc ?_ (by simp;try omega) _|refine Below.drew ?_)) (by rfl)).mono ?_;rintro e w9 ⟨rfl,hw9⟩;rw [hw9];clear hw9 w9)
      | (go_at_call 115;refine (HY1.out _ _ (by repeat (first|exact Below.refl _ _|refine Below.setCell ?_ (by simp;try omega) _|refine Below.alloc ?_ (by simp;try omega) _|refine Below.drew ?_)) (by rfl)).mono ?_;rintro e w9 ⟨rfl,hw9⟩;rw [hw9];clear hw9 w9))
    refine bodyPost_ret (v:=.bool false) (by simp [results,Tryz.results219,go_sem]) rfl ⟨rfl,(by repeat (first|exact Below.refl _ _|refine Below.setCell ?_ (by simp;try omega) _|refine Below.alloc ?_ (by simp;try omega) _|refine Below.drew ?_))⟩
theorem extends_c {b:Nat} {ps:List Plc} {W:World} (h:WAt b ps W) (hi:WI ps) (x y:Int):Calls Tryz.prog 219 #[.pointer (some ⟨b,0,none⟩),.int .i64 x,.int .i64 y] W fun e w'=>e=.returned (.bool (extI ps x y))∧Below W.heap.size W w':=by
  rcases plcI_cases ps x with ⟨h1,_⟩|⟨k,p,rfl,h2,h1⟩
  · have e:extI ps x y=false:=by rw [extI,h1];rfl
    rw [e];exact extends_no h x y (.inl h1)
  · rcases plcI_cases ps y with ⟨g1,_⟩|⟨j,q,rfl,g2,g1⟩
    · have e:extI ps k y=false:=by rw [extI,h1,g1];rfl
      rw [e];exact extends_no h k y (.inr g1)
    · have e:extI ps k j=extB (ps.map nd) k j:=by rw [extI,h1,g1];rfl
      obtain ⟨N,mb,vp,pv,h⟩:=h
      rw [e];exact extends_yes N b mb ps vp pv k j (List.getElem?_eq_some_iff.1 h2).1 (List.getElem?_eq_some_iff.1 g2).1 hi.wo hi.hi W h
def ifcI (ps:List Plc) (i:Int):Bool:=match plcI ps i with
  | some q=>ifB q.c.fl
  | none=>false
theorem isIface_c {b:Nat} {ps:List Plc} {W:World} (h:WAt b ps W) (x:Int):Calls Tryz.prog 61 #[.pointer (some ⟨b,0,none⟩),.int .i64 x] W fun e w'=>e=.returned (.bool (ifcI ps x))∧Below W.heap.size W w':=by
  obtain ⟨N,mb,vp,pv,h⟩:=h
  rcases plcI_cases ps x with ⟨h1,h2⟩|⟨k,p,rfl,h2,h1⟩
  · have e:ifcI ps x=false:=by rw [ifcI,h1]
    rw [e];exact isIfaceW_no N b mb ps vp pv x W h h2
  · have e:ifcI ps k=ifB p.c.fl:=by rw [ifcI,h1]
    rw [e];exact isIfaceW_yes N b mb ps vp pv k p W h h2
theorem len_c {b:Nat} {ps:List Plc} {W:World} (h:WAt b ps W):Calls Tryz.prog 199 #[.pointer (some ⟨b,0,none⟩)] W fun e w'=>e=.returned (.int .i64 (ps.length:Int))∧w'=W:=by
  obtain ⟨N,mb,vp,pv,h⟩:=h
  exact len_any N b mb ps vp pv W h
def bnV:Option Nat→Value
  | some j=>.tuple #[.int .i64 (j:Int),.int .i64 0]
  | none=>.tuple #[.int .i64 0,.int .i64 6]
theorem byName_c {b:Nat} {ps:List Plc} {W:World} (h:WAt b ps W) (nm:ByteArray) (hnz:nm.size≤maxLen):Calls Tryz.prog 140 #[.pointer (some ⟨b,0,none⟩),.string nm] W fun e w'=>e=.returned (bnV (lookL ps nm.data.toList))∧Below W.heap.size W w':=by
  obtain ⟨N,mb,vp,pv,h⟩:=h
  refine (byName_look N b mb ps vp pv nm hnz W h).mono ?_
  rintro e w' ⟨rfl,hb⟩
  exact ⟨by cases lookL ps nm.data.toList <;> rfl,hb⟩
def overB (ps:List Plc) (l:List (Int×Int)) (m:Int×Int):Bool:=l.any fun o=>!(o.1 == m.1)&&extI ps o.1 m.1
def maxL (ps:List Plc) (l:List (Int×Int)):List (Int×Int):=l.filter fun m=>!overB ps l m
def oneL (ps:List Plc) (l:List (Int×Int)):List (Int×Int):=(maxL ps l).filter fun m=>!hasS ps m.1 m.2 1024
def oneV (ps:List Plc) (l:List (Int×Int)):(Int×Int)×Int:=match oneL ps l with
  | []=>((0,0),24)
  | [m]=>(m,0)
  | _=>((0,0),23)
def overP (ps:List Plc) (m o:Int×Int):Bool:=!(o.1 == m.1)&&extI ps o.1 m.1
set_option maxHeartbeats 1000000 in
theorem maxIn_c {b:Nat} {ps:List Plc} {W:World} (h:WAt b ps W) (hi:WI ps) (bm bw:Nat) (m o:Int×Int) (hm:W.cell? ⟨bm,0,none⟩=some (.int .i64 m.1)) (hw:W.cell? ⟨bw,0,none⟩=some (.pointer (some ⟨b,0,none⟩))):Calls Tryz.prog 276 (#[.agg #[.int .i64 o.1,.int .i64 o.2]]++#[.pointer (some ⟨bm,0,none⟩),.pointer (some ⟨bw,0,none⟩)]) W fun e w'=>e=.returned (.bool (overP ps m o))∧Below W.heap.size W w':=by
  show Calls Tryz.prog 276 #[.agg #[.int .i64 o.1,.int .i64 o.2],.pointer (some ⟨bm,0,none⟩),.pointer (some ⟨bw,0,none⟩)] W _
  have hlm:bm<W.heap.size:=World.block_lt_of_cell? W _ hm
  have hlw:bw<W.heap.size:=World.block_lt_of_cell? W _ hw
  have n1:¬ bm=W.heap.size:=by omega
  have n2:¬ bw=W.heap.size:=by omega
  have HE:Hid (∀ w,Below W.heap.size W w→Calls Tryz.prog 219 #[.pointer (some ⟨b,0,none⟩),.int .i64 o.1,.int .i64 m.1] w fun e w'=>e=.returned (.bool (extI ps o.1 m.1))∧Below W.heap.size W w'):=fun w hb=>(extends_c (h.below hb) hi o.1 m.1).mono fun e w' zz=>⟨zz.1,bstep hb zz.2⟩
  have HR:Hid (overP ps m o=(!(o.1 == m.1)&&extI ps o.1 m.1)):=rfl
  generalize overP ps m o=R at *
  generalize extI ps o.1 m.1=E at *
  obtain ⟨o1,o2⟩:=o
  obtain ⟨m1,m2⟩:=m
  simp only at HE HR hm
  clear h hi
  by_cases hq:o1=m1
  · have hR:R=false:=by rw [HR.out,hq];simp
    subst hR
    subst hq
    go_enter Tryz.func276,Tryz.ntmps276
    go_wp2
    exact bodyPost_ret (results_tmp rfl _ _ _) rfl ⟨rfl,(by repeat (first|exact Below.refl _ _|refine Below.setCell ?_ (by simp;try omega) _|refine Below.alloc ?_ (by simp;try omega) _|refine Below.drew ?_))⟩
  · have hR:R=E:=by
      have e:(o1 == m1)=false:=by simpa using hq
      rw [HR.out,e];simp
    subst hR
    clear HR
    have hne:(o1 != m1)=true:=by simpa using hq
    go_enter Tryz.func276,Tryz.ntmps276
    go_wp2_with (go_at_call 219;refine (HE.out _ (by repeat (first|exact Below.refl _ _|refine Below.setCell ?_ (by simp;try omega) _|refine Below.alloc ?_ (by simp;try omega) _|refine Below.drew ?_))).mono ?_;rintro e w1 ⟨rfl,hb⟩;have B1:Hid (Below W.heap.size W w1):=hb;clear hb HE)
    exact bodyPost_ret (results_tmp rfl _ _ _) rfl ⟨rfl,B1.out⟩
theorem callMx (vs:Array Value) (w:World):(callFunc 276 vs).run Tryz.prog w=.ok (.enter 276 vs) w:=by simp [go_sem]
theorem callMy (vs:Array Value) (w:World):(callFunc 274 vs).run Tryz.prog w=.ok (.enter 274 vs) w:=by simp [go_sem]
set_option maxHeartbeats 1000000 in
theorem maxOver_c {b:Nat} {ps:List Plc} {W:World} (h:WAt b ps W) (hi:WI ps) (ba bw N:Nat) (v:Value) (l:List (Int×Int)) (m:Int×Int) (ho:W.ownsRow N 138 2 v l.length (flatD l)) (hn:l.length≤1000000) (ha:W.cell? ⟨ba,0,none⟩=some v) (hw:W.cell? ⟨bw,0,none⟩=some (.pointer (some ⟨b,0,none⟩))):Calls Tryz.prog 274 (#[.agg #[.int .i64 m.1,.int .i64 m.2]]++#[.pointer (some ⟨ba,0,none⟩),.pointer (some ⟨bw,0,none⟩)]) W fun e w'=>e=.returned (.bool (overB ps l m))∧Below W.heap.size W w':=by
  show Calls Tryz.prog 274 #[.agg #[.int .i64 m.1,.int .i64 m.2],.pointer (some ⟨ba,0,none⟩),.pointer (some ⟨bw,0,none⟩)] W _
  have hla:ba<W.heap.size:=World.block_lt_of_cell? W _ ha
  have hlw:bw<W.heap.size:=World.block_lt_of_cell? W _ hw
  have n1:¬ ba=W.heap.size:=by omega
  have HC:Hid (∀ w,w=W.alloc (.cells #[.int .i64 m.1,.int .i64 m.2] 138)→Calls Tryz.prog 275 #[v,.func (.func 276) #[] #[.pointer (some ⟨W.heap.size,0,none⟩),.pointer (some ⟨bw,0,none⟩)]] w fun e w'=>e=.returned (.bool (overB ps l m))∧Below w.heap.size w w'):=by
    intro w hwe
    have hb0:Below W.heap.size W w:=by rw [hwe];exact (Below.refl _ _).alloc (Nat.le_refl _) _
    refine conD_any 276 callMx _ (overP ps m) N l v w (rowBelow ho hb0) hn (fun o _ w2 hb=>?_)
    have c0:w.cell? ⟨W.heap.size,0,none⟩=some (.int .i64 m.1):=by rw [hwe];simp [go_sem]
    exact maxIn_c (h.below (bstep hb0 hb)) hi W.heap.size bw m o ((hb.cell (p:=⟨W.heap.size,0,none⟩) (World.block_lt_of_cell? w _ c0)).trans c0) (((bstep hb0 hb).cell (p:=⟨bw,0,none⟩) hlw).trans hw)
  generalize overB ps l m=R at *
  obtain ⟨va,vn,rfl⟩:=ownv ho
  clear h hi ho
  go_enter Tryz.func274,Tryz.ntmps274
  go_wp2_with (go_at_call 275;refine (HC.out _ rfl).mono ?_;rintro e w1 ⟨rfl,hb⟩;have B1:Hid (Below W.heap.size W w1):=bstep (by repeat (first|exact Below.refl _ _|refine Below.setCell ?_ (by simp;try omega) _|refine Below.alloc ?_ (by simp;try omega) _|refine Below.drew ?_)) hb;clear hb HC)
  exact bodyPost_ret (results_tmp rfl _ _ _) rfl ⟨rfl,B1.out⟩
theorem max_pred {b:Nat} {ps:List Plc} {W w1 w2:World} {N:Nat} {va:Option Addr} {vn:Nat} {l:List (Int×Int)} (h:WAt b ps W) (hi:WI ps) (O1:w1.ownsRow N 138 2 (.slice va l.length vn) l.length (flatD l)) (c0:w1.cell? ⟨W.heap.size,0,none⟩=some (.pointer (some ⟨b,0,none⟩))) (hn:l.length≤1000000) (B1:Below W.heap.size W w1) (B2:Below (w1.heap.size+1) (w1.alloc (.cells #[.slice va l.length vn] 316)) w2):PredD 274 #[.pointer (some ⟨w1.heap.size,0,none⟩),.pointer (some ⟨W.heap.size,0,none⟩)] (overB ps l) l (w1.heap.size+1) w2:=by
  intro m _ w hb
  have hU:Below (w1.alloc (.cells #[.slice va l.length vn] 316)).heap.size (w1.alloc (.cells #[.slice va l.length vn] 316)) w:=by
    have:=B2.trans hb
    simpa using this
  have hl:W.heap.size<w1.heap.size:=World.block_lt_of_cell? w1 _ c0
  exact maxOver_c (h.below (bstep (B1.alloc B1.size _) hU)) hi w1.heap.size W.heap.size N _ l m (rowBelow (O1.alloc _) hU) hn ((hU.cell (p:=⟨w1.heap.size,0,none⟩) (by simp)).trans (by simp [go_sem])) ((hU.cell (p:=⟨W.heap.size,0,none⟩) (by simp;omega)).trans (Lib.cell?_alloc_some _ c0))
set_option maxHeartbeats 1000000 in
theorem max_yes {b:Nat} {ps:List Plc} {W:World} (h:WAt b ps W) (hi:WI ps) (k:Nat) (q:Plc) (hq:ps[k]?=some q) (nm ds:ByteArray):Calls Tryz.prog 212 #[.pointer (some ⟨b,0,none⟩),.int .i64 (k:Int),.string nm,.string ds] W fun e w'=>(∃ v,e=.returned (.tuple #[v,.int .i64 0])∧w'.ownsRow W.heap.size 138 2 v (maxL ps (candL ps nm ds q.cl)).length (flatD (maxL ps (candL ps nm ds q.cl))))∧Below W.heap.size W w':=by
  have hKb:(candL ps nm ds q.cl).length≤1000000:=by
    obtain ⟨N,mb,vp,pv,h⟩:=h
    have hwf:=h.wf q (List.mem_of_getElem? hq)
    have:=nodup_lt_len _ _ hwf.2 hwf.1
    have:=candL_len ps nm ds q.cl
    have:=hi.hi
    omega
  have HC:Hid (∀ w,Below W.heap.size W w→Calls Tryz.prog 272 #[.pointer (some ⟨b,0,none⟩),.int .i64 (k:Int),.string nm,.string ds] w fun e w'=>(∃ v,e=.returned (.tuple #[v,.int .i64 0])∧w'.ownsRow w.heap.size 138 2 v (candL ps nm ds q.cl).length (flatD (candL ps nm ds q.cl)))∧Below w.heap.size w w'):=fun w hb=>cand_yes (h.below hb) hi.pb hi.hi k q hq nm ds
  have HW0:Hid (WAt b ps W):=h
  have HWI:Hid (WI ps):=hi
  obtain ⟨l,hl⟩:∃ l,candL ps nm ds q.cl=l:=⟨_,rfl⟩
  rw [hl] at hKb HC ⊢
  have HKb:Hid (l.length≤1000000):=hKb
  clear h hi hq hl
  have HCL:Hid (∀ (N:Nat) (v:Value) (w:World),w.ownsRow N 138 2 v l.length (flatD l)→Calls Tryz.prog 273 #[v] w fun e w'=>∃ v',e=.returned v'∧w'.ownsRow w.heap.size 138 2 v' l.length (flatD l)∧Below w.heap.size w w'):=fun N v w ho=>cloD_any N l v w ho hKb
  go_enter Tryz.func212,Tryz.ntmps212
  go_wp2_with (first
    | (go_at_call 272;refine (HC.out _ (by repeat (first|exact Below.refl _ _|refine Below.setCell ?_ (by simp;try omega) _|refine Below.alloc ?_ (by simp;try omega) _|refine Below.drew ?_))).mono ?_;rintro e w1 ⟨⟨v,rfl,ho⟩,hb⟩;obtain ⟨va,vn,rfl⟩:=ownv ho;have O1:Hid (w1.ownsRow (W.heap.size+1) 138 2 (.slice va l.length vn) l.length (flatD l)):=Go.Joins.ownsRow_le ho (by simp);have c0:w1.cell? ⟨W.heap.size,0,none⟩=some (.pointer (some ⟨b,0,none⟩)):=(hb.cell (p:=⟨W.heap.size,0,none⟩) (by simp)).trans (by simp [go_sem]);have hl1:W.heap.size<w1.heap.size:=World.block_lt_of_cell? w1 _ c0;have B1:Hid (Below W.heap.size W w1):=bstep (by repeat (first|exact Below.refl _ _|refine Below.setCell ?_ (by simp;try omega) _|refine Below.alloc ?_ (by simp;try omega) _|refine Below.drew ?_)) hb;clear hb HC ho)
    | (go_at_call 273;refine (HCL.out _ _ _ (O1.out.alloc _)).mono ?_;rintro e w2 ⟨v2,rfl,ho,hb⟩;obtain ⟨va2,vn2,rfl⟩:=ownv ho;have O2:Hid (w2.ownsRow (w1.heap.size+1) 138 2 (.slice va2 l.length vn2) l.length (flatD l)):=Go.Joins.ownsRow_le ho (by simp);have B2:Hid (Below (w1.heap.size+1) (w1.alloc (.cells #[.slice va l.length vn] 316)) w2):=hb.mono (by simp);clear hb HCL ho)
    | (go_at_call 213;have hpd:=max_pred HW0.out HWI.out O1.out c0 HKb.out B1.out B2.out;refine (delD_any 274 callMy #[.pointer (some ⟨w1.heap.size,0,none⟩),.pointer (some ⟨W.heap.size,0,none⟩)] (overB ps l) (w1.heap.size+1) l _ w2 O2.out (by have:=B2.out.size;simpa using this) HKb.out hpd).mono ?_;rintro e w3 ⟨v3,rfl,ho,hb⟩;obtain ⟨va3,vn3,rfl⟩:=ownv ho;have O3:Hid (w3.ownsRow (w1.heap.size+1) 138 2 (.slice va3 (maxL ps l).length vn3) (maxL ps l).length (flatD (maxL ps l))):=ho;have B3:Hid (Below (w1.heap.size+1) w2 w3):=hb;clear hb ho hpd))
  refine bodyPost_ret (results_tmp2 rfl _ _ _) rfl ⟨⟨.slice va3 (maxL ps l).length vn3,rfl,Go.Joins.ownsRow_le O3.out (by omega)⟩,?_⟩
  have hb3:=B2.out.trans B3.out
  exact (B1.out.alloc B1.out.size _).trans (hb3.mono (by omega))
theorem callMz (vs:Array Value) (w:World):(callFunc 214 vs).run Tryz.prog w=.ok (.enter 214 vs) w:=by simp [go_sem]
set_option maxHeartbeats 1000000 in
theorem oneIn_c {b:Nat} {ps:List Plc} {W:World} (h:WAt b ps W) (hi:WI ps) (bw:Nat) (m:Int×Int) (hw:W.cell? ⟨bw,0,none⟩=some (.pointer (some ⟨b,0,none⟩))):Calls Tryz.prog 214 (#[.agg #[.int .i64 m.1,.int .i64 m.2]]++#[.pointer (some ⟨bw,0,none⟩)]) W fun e w'=>e=.returned (.bool (hasS ps m.1 m.2 1024))∧Below W.heap.size W w':=by
  show Calls Tryz.prog 214 #[.agg #[.int .i64 m.1,.int .i64 m.2],.pointer (some ⟨bw,0,none⟩)] W _
  have hlw:bw<W.heap.size:=World.block_lt_of_cell? W _ hw
  have n2:¬ bw=W.heap.size:=by omega
  have HS:Hid (∀ w,Below W.heap.size W w→Calls Tryz.prog 215 #[.pointer (some ⟨b,0,none⟩),.agg #[.int .i64 m.1,.int .i64 m.2],.int .i64 1024] w fun e w'=>e=.returned (.bool (hasS ps m.1 m.2 1024))∧Below W.heap.size W w'):=fun w hb=>(hasS_c (h.below hb) hi.pb m.1 m.2 1024).mono fun e w' zz=>⟨zz.1,bstep hb zz.2⟩
  generalize hasS ps m.1 m.2 1024=R at *
  obtain ⟨m1,m2⟩:=m
  simp only at HS
  clear h hi
  go_enter Tryz.func214,Tryz.ntmps214
  go_wp2_with (go_at_call 215;refine (HS.out _ (by repeat (first|exact Below.refl _ _|refine Below.setCell ?_ (by simp;try omega) _|refine Below.alloc ?_ (by simp;try omega) _|refine Below.drew ?_))).mono ?_;rintro e w1 ⟨rfl,hb⟩;have B1:Hid (Below W.heap.size W w1):=hb;clear hb HS)
  exact bodyPost_ret (results_tmp rfl _ _ _) rfl ⟨rfl,B1.out⟩
theorem halloc2 (w:World) {n:Nat} (o:Obj) (hn:w.heap.size=n):(w.alloc o).heap[n]?=some o:=by subst hn;exact halloc1 w o
def idE (x:(Int×Int)×Int):Value:=.tuple #[.agg #[.int .i64 x.1.1,.int .i64 x.1.2],.int .i64 x.2]
set_option maxHeartbeats 1000000 in
theorem one_yes {b:Nat} {ps:List Plc} {W:World} (h:WAt b ps W) (hi:WI ps) (k:Nat) (q:Plc) (hq:ps[k]?=some q) (nm ds:ByteArray):Calls Tryz.prog 143 #[.pointer (some ⟨b,0,none⟩),.int .i64 (k:Int),.string nm,.string ds] W fun e w'=>e=.returned (idE (oneV ps (candL ps nm ds q.cl)))∧Below W.heap.size W w':=by
  have hKb:(candL ps nm ds q.cl).length≤1000000:=by
    obtain ⟨N,mb,vp,pv,h⟩:=h
    have hwf:=h.wf q (List.mem_of_getElem? hq)
    have:=nodup_lt_len _ _ hwf.2 hwf.1
    have:=candL_len ps nm ds q.cl
    have:=hi.hi
    omega
  have HC:Hid (∀ w,Below W.heap.size W w→Calls Tryz.prog 212 #[.pointer (some ⟨b,0,none⟩),.int .i64 (k:Int),.string nm,.string ds] w fun e w'=>(∃ v,e=.returned (.tuple #[v,.int .i64 0])∧w'.ownsRow w.heap.size 138 2 v (maxL ps (candL ps nm ds q.cl)).length (flatD (maxL ps (candL ps nm ds q.cl))))∧Below w.heap.size w w'):=fun w hb=>max_yes (h.below hb) hi k q hq nm ds
  have HW0:Hid (WAt b ps W):=h
  have HWI:Hid (WI ps):=hi
  obtain ⟨l,hl⟩:∃ l,candL ps nm ds q.cl=l:=⟨_,rfl⟩
  rw [hl] at hKb HC ⊢
  have HMb:Hid ((maxL ps l).length≤1000000):=Nat.le_trans (List.length_filter_le _ _) hKb
  have HOL:Hid ((maxL ps l).filter (fun m=>!hasS ps m.1 m.2 1024)=oneL ps l):=rfl
  obtain ⟨R,hR⟩:∃ R,oneV ps l=R:=⟨_,rfl⟩
  have HR:Hid ((match oneL ps l with | []=>((0,0),24) | [m]=>(m,0)|_=>((0,0),23))=R):=hR
  rw [hR]
  generalize oneL ps l=ol at *
  generalize maxL ps l=ml at *
  clear h hi hq hl hR
  have hpred:Hid (∀ (w1 w:World),Below (W.heap.size+2) w1 w→Below W.heap.size W w1→w1.cell? ⟨W.heap.size,0,none⟩=some (.pointer (some ⟨b,0,none⟩))→∀ m:Int×Int,Calls Tryz.prog 214 (#[.agg #[.int .i64 m.1,.int .i64 m.2]]++#[.pointer (some ⟨W.heap.size,0,none⟩)]) w fun e w'=>e=.returned (.bool (hasS ps m.1 m.2 1024))∧Below w.heap.size w w'):=fun w1 w hb hb1 hc m=>oneIn_c (HW0.out.below (hb1.trans (hb.mono (by omega)))) HWI.out W.heap.size m ((hb.cell (p:=⟨W.heap.size,0,none⟩) (show W.heap.size<W.heap.size+2 by omega)).trans hc)
  match ol with
  | [] =>
    have eR:R=((0,0),24):=HR.out.symm
    subst eR
    clear HR
    go_enter Tryz.func143,Tryz.ntmps143
    go_wp2_with (first
      | (go_at_call 212;refine (HC.out _ (by repeat (first|exact Below.refl _ _|refine Below.setCell ?_ (by simp;try omega) _|refine Below.alloc ?_ (by simp;try omega) _|refine Below.drew ?_))).mono ?_;rintro e w1 ⟨⟨v,rfl,ho⟩,hb⟩;obtain ⟨va,vn,rfl⟩:=ownv ho;have O1:Hid (w1.ownsRow (W.heap.size+2) 138 2 (.slice va ml.length vn) ml.length (flatD ml)):=Go.Joins.ownsRow_le ho (by simp);have c0:w1.cell? ⟨W.heap.size,0,none⟩=some (.pointer (some ⟨b,0,none⟩)):=(hb.cell (p:=⟨W.heap.size,0,none⟩) (by simp;try omega)).trans (by simp [go_sem]);have d0:w1.heap[W.heap.size+1]?=some (.cells #[.int .i64 0,.int .i64 0] 138 (0,0)):=(hb.block (W.heap.size+1) (by simp)).trans (halloc2 _ _ (by simp));have B1:Hid (Below W.heap.size W w1):=bstep (by repeat (first|exact Below.refl _ _|refine Below.setCell ?_ (by simp;try omega) _|refine Below.alloc ?_ (by simp;try omega) _|refine Below.drew ?_)) hb;have L1:Hid (W.heap.size+2≤w1.heap.size):=Nat.le_trans (by simp) hb.size;clear hb HC ho)
      | (go_at_call 213;refine (delD_any 214 callMz #[.pointer (some ⟨W.heap.size,0,none⟩)] (fun m=>hasS ps m.1 m.2 1024) (W.heap.size+2) ml _ w1 O1.out L1.out HMb.out (fun m _ w hb=>hpred.out w1 w hb B1.out c0 m)).mono ?_;rintro e w3 ⟨v3,rfl,ho,hb⟩;rw [HOL.out] at ho;obtain ⟨va3,vn3,rfl⟩:=ownv ho;have d1:=(hb.block (W.heap.size+1) (by omega)).trans d0;have z0:w3.cell? ⟨W.heap.size+1,0,none⟩=some (.int .i64 0):=(cell_of_row w3 (W.heap.size+1) 0 _ _ _ d1).trans rfl;have z1:w3.cell? ⟨W.heap.size+1,1,none⟩=some (.int .i64 0):=(cell_of_row w3 (W.heap.size+1) 1 _ _ _ d1).trans rfl;have f0:=frozen_of_row w3 (W.heap.size+1) 0 _ _ d1;have f1:=frozen_of_row w3 (W.heap.size+1) 1 _ _ d1;have B3:Hid (Below W.heap.size W w3):=B1.out.trans (hb.mono (by omega));clear hb ho d0 d1 c0))
    exact bodyPost_ret (v:=idE ((0,0),24)) (by simp [results,Tryz.results143,go_sem,idE, *]) rfl ⟨rfl,(B3.out.setCell (by simp) _).setCell (by simp) _⟩
  | [m] =>
    have eR:R=(m,0):=HR.out.symm
    subst eR
    clear HR
    have hlen:(List.length [m])=1:=rfl
    go_enter Tryz.func143,Tryz.ntmps143
    go_wp2_with (first
      | (go_at_call 212;refine (HC.out _ (by repeat (first|exact Below.refl _ _|refine Below.setCell ?_ (by simp;try omega) _|refine Below.alloc ?_ (by simp;try omega) _|refine Below.drew ?_))).mono ?_;rintro e w1 ⟨⟨v,rfl,ho⟩,hb⟩;obtain ⟨va,vn,rfl⟩:=ownv ho;have O1:Hid (w1.ownsRow (W.heap.size+2) 138 2 (.slice va ml.length vn) ml.length (flatD ml)):=Go.Joins.ownsRow_le ho (by simp);have c0:w1.cell? ⟨W.heap.size,0,none⟩=some (.pointer (some ⟨b,0,none⟩)):=(hb.cell (p:=⟨W.heap.size,0,none⟩) (by simp;try omega)).trans (by simp [go_sem]);have d0:w1.heap[W.heap.size+1]?=some (.cells #[.int .i64 0,.int .i64 0] 138 (0,0)):=(hb.block (W.heap.size+1) (by simp)).trans (halloc2 _ _ (by simp));have B1:Hid (Below W.heap.size W w1):=bstep (by repeat (first|exact Below.refl _ _|refine Below.setCell ?_ (by simp;try omega) _|refine Below.alloc ?_ (by simp;try omega) _|refine Below.drew ?_)) hb;have L1:Hid (W.heap.size+2≤w1.heap.size):=Nat.le_trans (by simp) hb.size;clear hb HC ho)
      | (go_at_call 213;refine (delD_any 214 callMz #[.pointer (some ⟨W.heap.size,0,none⟩)] (fun m=>hasS ps m.1 m.2 1024) (W.heap.size+2) ml _ w1 O1.out L1.out HMb.out (fun m _ w hb=>hpred.out w1 w hb B1.out c0 m)).mono ?_;rintro e w3 ⟨v3,rfl,ho,hb⟩;rw [HOL.out] at ho;obtain ⟨g3,vn3,rfl⟩:=Go.Joins.ownsRow_form ho (by simp);obtain ⟨r0,r1,_⟩:=rowD_cells (l:=[m]) ho (i:=0) rfl;simp only [Nat.zero_mul,Nat.zero_add] at r0 r1;have hg3:¬ g3=W.heap.size+1:=(by have:=(ho.lt g3 rfl).1;omega);have d1:=(hb.block (W.heap.size+1) (by omega)).trans d0;have z0:w3.cell? ⟨W.heap.size+1,0,none⟩=some (.int .i64 0):=(cell_of_row w3 (W.heap.size+1) 0 _ _ _ d1).trans rfl;have z1:w3.cell? ⟨W.heap.size+1,1,none⟩=some (.int .i64 0):=(cell_of_row w3 (W.heap.size+1) 1 _ _ _ d1).trans rfl;have f0:=frozen_of_row w3 (W.heap.size+1) 0 _ _ d1;have f1:=frozen_of_row w3 (W.heap.size+1) 1 _ _ d1;have B3:Hid (Below W.heap.size W w3):=B1.out.trans (hb.mono (by omega));clear hb ho d0 d1 c0))
    exact bodyPost_ret (v:=idE (m,0)) (by simp [results,Tryz.results143,go_sem,idE, *]) rfl ⟨rfl,(B3.out.setCell (by simp) _).setCell (by simp) _⟩
  | m::m'::r =>
    have eR:R=((0,0),23):=HR.out.symm
    subst eR
    clear HR
    have hl2:(m::m'::r).length=r.length+2:=rfl
    generalize (m::m'::r)=ol at *
    have n1:¬ (ol.length:Int)=0:=by omega
    have n2:¬ (ol.length:Int)=1:=by omega
    clear hl2
    go_enter Tryz.func143,Tryz.ntmps143
    go_wp2_with (first
      | (go_at_call 212;refine (HC.out _ (by repeat (first|exact Below.refl _ _|refine Below.setCell ?_ (by simp;try omega) _|refine Below.alloc ?_ (by simp;try omega) _|refine Below.drew ?_))).mono ?_;rintro e w1 ⟨⟨v,rfl,ho⟩,hb⟩;obtain ⟨va,vn,rfl⟩:=ownv ho;have O1:Hid (w1.ownsRow (W.heap.size+2) 138 2 (.slice va ml.length vn) ml.length (flatD ml)):=Go.Joins.ownsRow_le ho (by simp);have c0:w1.cell? ⟨W.heap.size,0,none⟩=some (.pointer (some ⟨b,0,none⟩)):=(hb.cell (p:=⟨W.heap.size,0,none⟩) (by simp;try omega)).trans (by simp [go_sem]);have d0:w1.heap[W.heap.size+1]?=some (.cells #[.int .i64 0,.int .i64 0] 138 (0,0)):=(hb.block (W.heap.size+1) (by simp)).trans (halloc2 _ _ (by simp));have B1:Hid (Below W.heap.size W w1):=bstep (by repeat (first|exact Below.refl _ _|refine Below.setCell ?_ (by simp;try omega) _|refine Below.alloc ?_ (by simp;try omega) _|refine Below.drew ?_)) hb;have L1:Hid (W.heap.size+2≤w1.heap.size):=Nat.le_trans (by simp) hb.size;clear hb HC ho)
      | (go_at_call 213;refine (delD_any 214 callMz #[.pointer (some ⟨W.heap.size,0,none⟩)] (fun m=>hasS ps m.1 m.2 1024) (W.heap.size+2) ml _ w1 O1.out L1.out HMb.out (fun m _ w hb=>hpred.out w1 w hb B1.out c0 m)).mono ?_;rintro e w3 ⟨v3,rfl,ho,hb⟩;rw [HOL.out] at ho;obtain ⟨va3,vn3,rfl⟩:=ownv ho;have d1:=(hb.block (W.heap.size+1) (by omega)).trans d0;have z0:w3.cell? ⟨W.heap.size+1,0,none⟩=some (.int .i64 0):=(cell_of_row w3 (W.heap.size+1) 0 _ _ _ d1).trans rfl;have z1:w3.cell? ⟨W.heap.size+1,1,none⟩=some (.int .i64 0):=(cell_of_row w3 (W.heap.size+1) 1 _ _ _ d1).trans rfl;have f0:=frozen_of_row w3 (W.heap.size+1) 0 _ _ d1;have f1:=frozen_of_row w3 (W.heap.size+1) 1 _ _ d1;have B3:Hid (Below W.heap.size W w3):=B1.out.trans (hb.mono (by omega));clear hb ho d0 d1 c0))
    exact bodyPost_ret (v:=idE ((0,0),23)) (by simp [results,Tryz.results143,go_sem,idE, *]) rfl ⟨rfl,(B3.out.setCell (by simp) _).setCell (by simp) _⟩
def someV:List (Int×Int)→(Int×Int)×Int
  | []=>((0,0),6)
  | m::_=>(m,0)
set_option maxHeartbeats 1000000 in
theorem some_yes {b:Nat} {ps:List Plc} {W:World} (h:WAt b ps W) (hi:WI ps) (k:Nat) (q:Plc) (hq:ps[k]?=some q) (nm ds:ByteArray):Calls Tryz.prog 258 #[.pointer (some ⟨b,0,none⟩),.int .i64 (k:Int),.string nm,.string ds] W fun e w'=>e=.returned (idE (someV (candL ps nm ds q.cl)))∧Below W.heap.size W w':=by
  have HC:Hid (∀ w,Below W.heap.size W w→Calls Tryz.prog 272 #[.pointer (some ⟨b,0,none⟩),.int .i64 (k:Int),.string nm,.string ds] w fun e w'=>(∃ v,e=.returned (.tuple #[v,.int .i64 0])∧w'.ownsRow w.heap.size 138 2 v (candL ps nm ds q.cl).length (flatD (candL ps nm ds q.cl)))∧Below w.heap.size w w'):=fun w hb=>cand_yes (h.below hb) hi.pb hi.hi k q hq nm ds
  generalize candL ps nm ds q.cl=l at *
  clear h hi hq
  match l with
  | [] =>
    rw [someV]
    go_enter Tryz.func258,Tryz.ntmps258
    go_wp2_with (go_at_call 272;refine (HC.out _ (by repeat (first|exact Below.refl _ _|refine Below.setCell ?_ (by simp;try omega) _|refine Below.alloc ?_ (by simp;try omega) _|refine Below.drew ?_))).mono ?_;rintro e w3 ⟨⟨v,rfl,ho⟩,hb⟩;obtain ⟨va3,vn3,rfl⟩:=ownv ho;have d1:w3.heap[W.heap.size]?=some (.cells #[.int .i64 0,.int .i64 0] 138 (0,0)):=(hb.block W.heap.size (by simp)).trans (halloc2 _ _ rfl);have z0:w3.cell? ⟨W.heap.size,0,none⟩=some (.int .i64 0):=(cell_of_row w3 W.heap.size 0 _ _ _ d1).trans rfl;have z1:w3.cell? ⟨W.heap.size,1,none⟩=some (.int .i64 0):=(cell_of_row w3 W.heap.size 1 _ _ _ d1).trans rfl;have f0:=frozen_of_row w3 W.heap.size 0 _ _ d1;have f1:=frozen_of_row w3 W.heap.size 1 _ _ d1;have B3:Hid (Below W.heap.size W w3):=bstep (by repeat (first|exact Below.refl _ _|refine Below.setCell ?_ (by simp;try omega) _|refine Below.alloc ?_ (by simp;try omega) _|refine Below.drew ?_)) hb;clear hb d1 HC ho)
    exact bodyPost_ret (v:=idE ((0,0),6)) (by simp [results,Tryz.results258,go_sem,idE, *]) rfl ⟨rfl,(B3.out.setCell (by simp) _).setCell (by simp) _⟩
  | m::r =>
    rw [someV]
    have hl2:(m::r).length=r.length+1:=rfl
    have hat:Hid ((m::r)[0]?=some m):=rfl
    generalize (m::r)=l at *
    have n1:¬ (l.length:Int)=0:=by omega
    have n2:(0:Int)<(l.length:Int):=by omega
    have n3:Hid (0<l.length):=by rw [Hid,hl2];omega
    clear hl2
    go_enter Tryz.func258,Tryz.ntmps258
    go_wp2_with (go_at_call 272;refine (HC.out _ (by repeat (first|exact Below.refl _ _|refine Below.setCell ?_ (by simp;try omega) _|refine Below.alloc ?_ (by simp;try omega) _|refine Below.drew ?_))).mono ?_;rintro e w3 ⟨⟨v,rfl,ho⟩,hb⟩;obtain ⟨g3,vn3,rfl⟩:=Go.Joins.ownsRow_form ho n3.out;obtain ⟨r0,r1,_⟩:=rowD_cells ho hat.out;simp only [Nat.zero_mul,Nat.zero_add] at r0 r1;have hg3:¬ g3=W.heap.size:=(by have:=(ho.lt g3 rfl).1;simp at this;omega);have d1:w3.heap[W.heap.size]?=some (.cells #[.int .i64 0,.int .i64 0] 138 (0,0)):=(hb.block W.heap.size (by simp)).trans (halloc2 _ _ rfl);have z0:w3.cell? ⟨W.heap.size,0,none⟩=some (.int .i64 0):=(cell_of_row w3 W.heap.size 0 _ _ _ d1).trans rfl;have z1:w3.cell? ⟨W.heap.size,1,none⟩=some (.int .i64 0):=(cell_of_row w3 W.heap.size 1 _ _ _ d1).trans rfl;have f0:=frozen_of_row w3 W.heap.size 0 _ _ d1;have f1:=frozen_of_row w3 W.heap.size 1 _ _ d1;have B3:Hid (Below W.heap.size W w3):=bstep (by repeat (first|exact Below.refl _ _|refine Below.setCell ?_ (by simp;try omega) _|refine Below.alloc ?_ (by simp;try omega) _|refine Below.drew ?_)) hb;clear hb d1 HC ho)
    exact bodyPost_ret (v:=idE (m,0)) (by simp [results,Tryz.results258,go_sem,idE, *]) rfl ⟨rfl,(B3.out.setCell (by simp) _).setCell (by simp) _⟩
def rckI (ps:List Plc) (i:Int):Int:=if (plcI ps i).isSome then 0 else 3
theorem rck_c {b:Nat} {ps:List Plc} {W:World} (h:WAt b ps W) (i:Int):Calls Tryz.prog 131 #[.pointer (some ⟨b,0,none⟩),.int .i64 i] W fun e w'=>e=.returned (.int .i64 (rckI ps i))∧w'=W:=by
  have HL:Hid (Calls Tryz.prog 199 #[.pointer (some ⟨b,0,none⟩)] W fun e w'=>e=.returned (.int .i64 (ps.length:Int))∧w'=W):=len_c h
  rcases plcI_cases ps i with ⟨h1,h2⟩|⟨k,q,rfl,h2,h1⟩
  · have e:rckI ps i=3:=by rw [rckI,h1];rfl
    rw [e]
    clear h h1 e
    by_cases h0:i<0
    · go_enter Tryz.func131,Tryz.ntmps131
      go_wp2
      exact bodyPost_ret (results_tmp rfl _ _ _) rfl ⟨rfl,rfl⟩
    · have h3:(ps.length:Int)≤i:=by omega
      generalize (ps.length:Int)=n at *
      clear h2
      go_enter Tryz.func131,Tryz.ntmps131
      go_wp2_with (go_at_call 199;refine HL.out.mono ?_;rintro e w9 ⟨rfl,hw9⟩;rw [hw9];clear hw9 w9)
      exact bodyPost_ret (results_tmp rfl _ _ _) rfl ⟨rfl,rfl⟩
  · have e:rckI ps k=0:=by rw [rckI,h1];rfl
    rw [e]
    have h3:(k:Int)<(ps.length:Int):=by have:=(List.getElem?_eq_some_iff.1 h2).1;omega
    have h0:¬ (k:Int)<0:=by omega
    generalize (ps.length:Int)=n at *
    have h4:¬ n≤(k:Int):=by omega
    clear h h1 e h2
    go_enter Tryz.func131,Tryz.ntmps131
    go_wp2_with (go_at_call 199;refine HL.out.mono ?_;rintro e w9 ⟨rfl,hw9⟩;rw [hw9];clear hw9 w9)
    exact bodyPost_ret (results_tmp rfl _ _ _) rfl ⟨rfl,rfl⟩
def shuI (o:Bool) (e:Int):Int:=if e=0 then (if o then 0 else 22) else e
theorem shut_c (o:Bool) (x:Int) (W:World):Calls Tryz.prog 134 #[.bool o,.int .i64 x] W fun e w'=>e=.returned (.int .i64 (shuI o x))∧w'=W:=by
  by_cases hx:x=0
  · subst hx
    cases o with
    | true =>
      have e:shuI true 0=0:=rfl
      rw [e];clear e
      go_enter Tryz.func134,Tryz.ntmps134
      go_wp2
      exact bodyPost_ret (results_tmp rfl _ _ _) rfl ⟨rfl,rfl⟩
    | false =>
      have e:shuI false 0=22:=rfl
      rw [e];clear e
      go_enter Tryz.func134,Tryz.ntmps134
      go_wp2
      exact bodyPost_ret (results_tmp rfl _ _ _) rfl ⟨rfl,rfl⟩
  · have e:shuI o x=x:=by rw [shuI,if_neg hx]
    rw [e];clear e
    go_enter Tryz.func134,Tryz.ntmps134
    go_wp2
    exact bodyPost_ret (results_tmp rfl _ _ _) rfl ⟨rfl,rfl⟩
def ownR (ps:List Plc) (nm ds:ByteArray) (c:Int):(Int×Int)×Int:=if (fndI ps c nm ds).2=0 then ((c,(fndI ps c nm ds).1),0) else ((0,0),(fndI ps c nm ds).2)
theorem hkeep {w:World} {n:Nat} {x o:Obj} (h:w.heap[n]?=some x):(w.alloc o).heap[n]?=some x:=by
  have hb:Below w.heap.size w (w.alloc o):=(Below.refl _ w).alloc (Nat.le_refl _) _
  exact (hb.block n (Array.getElem?_eq_some_iff.1 h).1).trans h
theorem own_c {b:Nat} {ps:List Plc} {W:World} (h:WAt b ps W) (hB:∀ q∈ps,PlcB q) (c:Int) (nm ds:ByteArray):Calls Tryz.prog 256 #[.pointer (some ⟨b,0,none⟩),.int .i64 c,.string nm,.string ds] W fun e w'=>e=.returned (idE (ownR ps nm ds c))∧Below W.heap.size W w':=by
  have HF:Hid (∀ w,Below W.heap.size W w→Calls Tryz.prog 280 #[.pointer (some ⟨b,0,none⟩),.int .i64 c,.string nm,.string ds] w fun e w'=>e=.returned (.tuple #[.int .i64 (fndI ps c nm ds).1,.int .i64 (fndI ps c nm ds).2])∧Below w.heap.size w w'):=fun w hb=>find_c (h.below hb) hB c nm ds
  unfold ownR
  generalize fndI ps c nm ds=F at *
  obtain ⟨F1,F2⟩:=F
  simp only at HF ⊢
  clear h hB
  by_cases h0:F2=0
  · subst h0
    rw [if_pos rfl]
    go_enter Tryz.func256,Tryz.ntmps256
    go_wp2_with (go_at_call 280;refine (HF.out _ (by repeat (first|exact Below.refl _ _|refine Below.setCell ?_ (by simp;try omega) _|refine Below.alloc ?_ (by simp;try omega) _|refine Below.drew ?_))).mono ?_;rintro e w1 ⟨rfl,hb⟩;have d1:w1.heap[W.heap.size]?=some (.cells #[.int .i64 0,.int .i64 0] 138 (0,0)):=(hb.block W.heap.size (by first|omega|(simp;try omega))).trans (by first|exact halloc2 _ _ rfl|exact heap_alloc2_old W _ _|exact RB.out|exact hkeep RB.out|exact hkeep (hkeep RB.out)|exact hkeep (heap_alloc2_old W _ _));(try clear RB z0 z1 f0 f1 hL9 hN9);have RB:Hid (w1.heap[W.heap.size]?=some (.cells #[.int .i64 0,.int .i64 0] 138 (0,0))):=d1;have z0:w1.cell? ⟨W.heap.size,0,none⟩=some (.int .i64 0):=(cell_of_row w1 W.heap.size 0 _ _ _ d1).trans rfl;have z1:w1.cell? ⟨W.heap.size,1,none⟩=some (.int .i64 0):=(cell_of_row w1 W.heap.size 1 _ _ _ d1).trans rfl;have f0:=frozen_of_row w1 W.heap.size 0 _ _ d1;have f1:=frozen_of_row w1 W.heap.size 1 _ _ d1;have hL9:W.heap.size<w1.heap.size:=(Array.getElem?_eq_some_iff.1 d1).1;have hN9:¬ W.heap.size=w1.heap.size:=(by omega);clear d1;have B1:Hid (Below W.heap.size W w1):=bstep (by repeat (first|exact Below.refl _ _|refine Below.setCell ?_ (by simp;try omega) _|refine Below.alloc ?_ (by simp;try omega) _|refine Below.drew ?_)) hb;clear hb HF)
    exact bodyPost_ret (v:=idE ((c,F1),0)) (by simp [results,Tryz.results256,go_sem,idE, *]) rfl ⟨rfl,(B1.out.setCell (by simp) _).setCell (by simp) _⟩
  · rw [if_neg h0]
    go_enter Tryz.func256,Tryz.ntmps256
    go_wp2_with (go_at_call 280;refine (HF.out _ (by repeat (first|exact Below.refl _ _|refine Below.setCell ?_ (by simp;try omega) _|refine Below.alloc ?_ (by simp;try omega) _|refine Below.drew ?_))).mono ?_;rintro e w1 ⟨rfl,hb⟩;have d1:w1.heap[W.heap.size]?=some (.cells #[.int .i64 0,.int .i64 0] 138 (0,0)):=(hb.block W.heap.size (by first|omega|(simp;try omega))).trans (by first|exact halloc2 _ _ rfl|exact heap_alloc2_old W _ _|exact RB.out|exact hkeep RB.out|exact hkeep (hkeep RB.out)|exact hkeep (heap_alloc2_old W _ _));(try clear RB z0 z1 f0 f1 hL9 hN9);have RB:Hid (w1.heap[W.heap.size]?=some (.cells #[.int .i64 0,.int .i64 0] 138 (0,0))):=d1;have z0:w1.cell? ⟨W.heap.size,0,none⟩=some (.int .i64 0):=(cell_of_row w1 W.heap.size 0 _ _ _ d1).trans rfl;have z1:w1.cell? ⟨W.heap.size,1,none⟩=some (.int .i64 0):=(cell_of_row w1 W.heap.size 1 _ _ _ d1).trans rfl;have f0:=frozen_of_row w1 W.heap.size 0 _ _ d1;have f1:=frozen_of_row w1 W.heap.size 1 _ _ d1;have hL9:W.heap.size<w1.heap.size:=(Array.getElem?_eq_some_iff.1 d1).1;have hN9:¬ W.heap.size=w1.heap.size:=(by omega);clear d1;have B1:Hid (Below W.heap.size W w1):=bstep (by repeat (first|exact Below.refl _ _|refine Below.setCell ?_ (by simp;try omega) _|refine Below.alloc ?_ (by simp;try omega) _|refine Below.drew ?_)) hb;clear hb HF)
    exact bodyPost_ret (v:=idE ((0,0),F2)) (by simp [results,Tryz.results256,go_sem,idE, *]) rfl ⟨rfl,(B1.out.setCell (by simp) _).setCell (by simp) _⟩
def topR (ps:List Plc) (nm ds:ByteArray):(Int×Int)×Int:=if (ownR ps nm ds 0).2=0 then (match methI ps (ownR ps nm ds 0).1.1 (ownR ps nm ds 0).1.2 with
    | some m=>if bits .and .i64 m.fl 9=1 then ownR ps nm ds 0 else ((0,0),6)
    | none=>((0,0),3)) else ((0,0),(ownR ps nm ds 0).2)
set_option maxHeartbeats 1000000 in
theorem top_c {b:Nat} {ps:List Plc} {W:World} (h:WAt b ps W) (hB:∀ q∈ps,PlcB q) (c:Int) (nm ds:ByteArray):Calls Tryz.prog 257 #[.pointer (some ⟨b,0,none⟩),.int .i64 c,.string nm,.string ds] W fun e w'=>e=.returned (idE (topR ps nm ds))∧Below W.heap.size W w':=by
  have HF:Hid (∀ w,Below W.heap.size W w→Calls Tryz.prog 256 #[.pointer (some ⟨b,0,none⟩),.int .i64 0,.string nm,.string ds] w fun e w'=>e=.returned (idE (ownR ps nm ds 0))∧Below w.heap.size w w'):=fun w hb=>own_c (h.below hb) hB 0 nm ds
  have HM:Hid (∀ c i w,Below W.heap.size W w→Calls Tryz.prog 84 #[.pointer (some ⟨b,0,none⟩),.agg #[.int .i64 c,.int .i64 i]] w fun e w'=>MthR w.heap.size (methI ps c i) e w'∧Below w.heap.size w w'):=fun c i w hb=>method_c (h.below hb) hB c i
  unfold topR
  generalize ownR ps nm ds 0=F at *
  obtain ⟨⟨F1,F2⟩,F3⟩:=F
  simp only [idE] at HF ⊢
  by_cases h0:F3=0
  · subst h0
    rw [if_pos rfl]
    replace HM:Hid (∀ w,Below W.heap.size W w→Calls Tryz.prog 84 #[.pointer (some ⟨b,0,none⟩),.agg #[.int .i64 F1,.int .i64 F2]] w fun e w'=>MthR w.heap.size (methI ps F1 F2) e w'∧Below w.heap.size w w'):=HM.out F1 F2
    clear h hB
    cases hm:methI ps F1 F2 with
    | none =>
      rw [hm] at HM
      clear hm
      simp only
      go_enter Tryz.func257,Tryz.ntmps257
      go_wp2_with (first
        | (go_at_call 256;refine (HF.out _ (by repeat (first|exact Below.refl _ _|refine Below.setCell ?_ (by simp;try omega) _|refine Below.alloc ?_ (by simp;try omega) _|refine Below.drew ?_))).mono ?_;rintro e w1 ⟨rfl,hb⟩;have d1:w1.heap[W.heap.size]?=some (.cells #[.int .i64 0,.int .i64 0] 138 (0,0)):=(hb.block W.heap.size (by first|omega|(simp;try omega))).trans (by first|exact halloc2 _ _ rfl|exact heap_alloc2_old W _ _|exact RB.out|exact hkeep RB.out|exact hkeep (hkeep RB.out)|exact hkeep (heap_alloc2_old W _ _));(try clear RB z0 z1 f0 f1 hL9 hN9);have RB:Hid (w1.heap[W.heap.size]?=some (.cells #[.int .i64 0,.int .i64 0] 138 (0,0))):=d1;have z0:w1.cell? ⟨W.heap.size,0,none⟩=some (.int .i64 0):=(cell_of_row w1 W.heap.size 0 _ _ _ d1).trans rfl;have z1:w1.cell? ⟨W.heap.size,1,none⟩=some (.int .i64 0):=(cell_of_row w1 W.heap.size 1 _ _ _ d1).trans rfl;have f0:=frozen_of_row w1 W.heap.size 0 _ _ d1;have f1:=frozen_of_row w1 W.heap.size 1 _ _ d1;have hL9:W.heap.size<w1.heap.size:=(Array.getElem?_eq_some_iff.1 d1).1;have hN9:¬ W.heap.size=w1.heap.size:=(by omega);clear d1;have B1:Hid (Below W.heap.size W w1):=bstep (by repeat (first|exact Below.refl _ _|refine Below.setCell ?_ (by simp;try omega) _|refine Below.alloc ?_ (by simp;try omega) _|refine Below.drew ?_)) hb;clear hb HF)
        | (go_at_call 84;refine (HM.out _ (B1.out.alloc B1.out.size _)).mono ?_;rintro e w2 ⟨hr,hb⟩;simp only [MthR,noM] at hr;subst hr;have d1:w2.heap[W.heap.size]?=some (.cells #[.int .i64 0,.int .i64 0] 138 (0,0)):=(hb.block W.heap.size (by first|omega|(simp;try omega))).trans (by first|exact halloc2 _ _ rfl|exact heap_alloc2_old W _ _|exact RB.out|exact hkeep RB.out|exact hkeep (hkeep RB.out)|exact hkeep (heap_alloc2_old W _ _));(try clear RB z0 z1 f0 f1 hL9 hN9);have RB:Hid (w2.heap[W.heap.size]?=some (.cells #[.int .i64 0,.int .i64 0] 138 (0,0))):=d1;have z0:w2.cell? ⟨W.heap.size,0,none⟩=some (.int .i64 0):=(cell_of_row w2 W.heap.size 0 _ _ _ d1).trans rfl;have z1:w2.cell? ⟨W.heap.size,1,none⟩=some (.int .i64 0):=(cell_of_row w2 W.heap.size 1 _ _ _ d1).trans rfl;have f0:=frozen_of_row w2 W.heap.size 0 _ _ d1;have f1:=frozen_of_row w2 W.heap.size 1 _ _ d1;have hL9:W.heap.size<w2.heap.size:=(Array.getElem?_eq_some_iff.1 d1).1;have hN9:¬ W.heap.size=w2.heap.size:=(by omega);clear d1;have B2:Hid (Below W.heap.size W w2):=bstep (B1.out.alloc B1.out.size _) hb;clear hb HM))
      exact bodyPost_ret (v:=idE ((0,0),3)) (by simp [results,Tryz.results257,go_sem,idE, *]) rfl ⟨rfl,(by repeat (first|exact B2.out|refine Below.setCell ?_ (by simp;try omega) _|refine Below.alloc ?_ (by have:=B2.out.size;simp;try omega) _|refine Below.drew ?_))⟩
    | some m =>
      rw [hm] at HM
      clear hm
      simp only
      by_cases h9:bits .and .i64 m.fl 9=1
      · rw [if_pos h9]
        go_enter Tryz.func257,Tryz.ntmps257
        go_wp2_with (first
          | (go_at_call 256;refine (HF.out _ (by repeat (first|exact Below.refl _ _|refine Below.setCell ?_ (by simp;try omega) _|refine Below.alloc ?_ (by simp;try omega) _|refine Below.drew ?_))).mono ?_;rintro e w1 ⟨rfl,hb⟩;have d1:w1.heap[W.heap.size]?=some (.cells #[.int .i64 0,.int .i64 0] 138 (0,0)):=(hb.block W.heap.size (by first|omega|(simp;try omega))).trans (by first|exact halloc2 _ _ rfl|exact heap_alloc2_old W _ _|exact RB.out|exact hkeep RB.out|exact hkeep (hkeep RB.out)|exact hkeep (heap_alloc2_old W _ _));(try clear RB z0 z1 f0 f1 hL9 hN9);have RB:Hid (w1.heap[W.heap.size]?=some (.cells #[.int .i64 0,.int .i64 0] 138 (0,0))):=d1;have z0:w1.cell? ⟨W.heap.size,0,none⟩=some (.int .i64 0):=(cell_of_row w1 W.heap.size 0 _ _ _ d1).trans rfl;have z1:w1.cell? ⟨W.heap.size,1,none⟩=some (.int .i64 0):=(cell_of_row w1 W.heap.size 1 _ _ _ d1).trans rfl;have f0:=frozen_of_row w1 W.heap.size 0 _ _ d1;have f1:=frozen_of_row w1 W.heap.size 1 _ _ d1;have hL9:W.heap.size<w1.heap.size:=(Array.getElem?_eq_some_iff.1 d1).1;have hN9:¬ W.heap.size=w1.heap.size:=(by omega);clear d1;have B1:Hid (Below W.heap.size W w1):=bstep (by repeat (first|exact Below.refl _ _|refine Below.setCell ?_ (by simp;try omega) _|refine Below.alloc ?_ (by simp;try omega) _|refine Below.drew ?_)) hb;clear hb HF)
          | (go_at_call 84;refine (HM.out _ (B1.out.alloc B1.out.size _)).mono ?_;rintro e w2 ⟨hr,hb⟩;obtain ⟨vv,rfl,hown⟩:=hr;obtain ⟨a1,c1,rfl⟩:=ownv hown;have d1:w2.heap[W.heap.size]?=some (.cells #[.int .i64 0,.int .i64 0] 138 (0,0)):=(hb.block W.heap.size (by first|omega|(simp;try omega))).trans (by first|exact halloc2 _ _ rfl|exact heap_alloc2_old W _ _|exact RB.out|exact hkeep RB.out|exact hkeep (hkeep RB.out)|exact hkeep (heap_alloc2_old W _ _));(try clear RB z0 z1 f0 f1 hL9 hN9);have RB:Hid (w2.heap[W.heap.size]?=some (.cells #[.int .i64 0,.int .i64 0] 138 (0,0))):=d1;have z0:w2.cell? ⟨W.heap.size,0,none⟩=some (.int .i64 0):=(cell_of_row w2 W.heap.size 0 _ _ _ d1).trans rfl;have z1:w2.cell? ⟨W.heap.size,1,none⟩=some (.int .i64 0):=(cell_of_row w2 W.heap.size 1 _ _ _ d1).trans rfl;have f0:=frozen_of_row w2 W.heap.size 0 _ _ d1;have f1:=frozen_of_row w2 W.heap.size 1 _ _ d1;have hL9:W.heap.size<w2.heap.size:=(Array.getElem?_eq_some_iff.1 d1).1;have hN9:¬ W.heap.size=w2.heap.size:=(by omega);clear d1;have g0:w2.cell? ⟨w1.heap.size,0,none⟩=some (.int .i64 F1):=(hb.cell (p:=⟨w1.heap.size,0,none⟩) (by simp)).trans (by simp [go_sem]);have g1:w2.cell? ⟨w1.heap.size,1,none⟩=some (.int .i64 F2):=(hb.cell (p:=⟨w1.heap.size,1,none⟩) (by simp)).trans (by simp [go_sem]);have B2:Hid (Below W.heap.size W w2):=bstep (B1.out.alloc B1.out.size _) hb;have hl2:w1.heap.size<w2.heap.size:=(by have:=hb.size;simp at this;omega);have hn2:¬ w1.heap.size=w2.heap.size:=(by omega);clear hb HM hown))
        exact bodyPost_ret (v:=idE ((F1,F2),0)) (by simp [results,Tryz.results257,go_sem,idE, *]) rfl ⟨rfl,(by repeat (first|exact B2.out|refine Below.setCell ?_ (by simp;try omega) _|refine Below.alloc ?_ (by have:=B2.out.size;simp;try omega) _|refine Below.drew ?_))⟩
      · rw [if_neg h9]
        go_enter Tryz.func257,Tryz.ntmps257
        go_wp2_with (first
          | (go_at_call 256;refine (HF.out _ (by repeat (first|exact Below.refl _ _|refine Below.setCell ?_ (by simp;try omega) _|refine Below.alloc ?_ (by simp;try omega) _|refine Below.drew ?_))).mono ?_;rintro e w1 ⟨rfl,hb⟩;have d1:w1.heap[W.heap.size]?=some (.cells #[.int .i64 0,.int .i64 0] 138 (0,0)):=(hb.block W.heap.size (by first|omega|(simp;try omega))).trans (by first|exact halloc2 _ _ rfl|exact heap_alloc2_old W _ _|exact RB.out|exact hkeep RB.out|exact hkeep (hkeep RB.out)|exact hkeep (heap_alloc2_old W _ _));(try clear RB z0 z1 f0 f1 hL9 hN9);have RB:Hid (w1.heap[W.heap.size]?=some (.cells #[.int .i64 0,.int .i64 0] 138 (0,0))):=d1;have z0:w1.cell? ⟨W.heap.size,0,none⟩=some (.int .i64 0):=(cell_of_row w1 W.heap.size 0 _ _ _ d1).trans rfl;have z1:w1.cell? ⟨W.heap.size,1,none⟩=some (.int .i64 0):=(cell_of_row w1 W.heap.size 1 _ _ _ d1).trans rfl;have f0:=frozen_of_row w1 W.heap.size 0 _ _ d1;have f1:=frozen_of_row w1 W.heap.size 1 _ _ d1;have hL9:W.heap.size<w1.heap.size:=(Array.getElem?_eq_some_iff.1 d1).1;have hN9:¬ W.heap.size=w1.heap.size:=(by omega);clear d1;have B1:Hid (Below W.heap.size W w1):=bstep (by repeat (first|exact Below.refl _ _|refine Below.setCell ?_ (by simp;try omega) _|refine Below.alloc ?_ (by simp;try omega) _|refine Below.drew ?_)) hb;clear hb HF)
          | (go_at_call 84;refine (HM.out _ (B1.out.alloc B1.out.size _)).mono ?_;rintro e w2 ⟨hr,hb⟩;obtain ⟨vv,rfl,hown⟩:=hr;obtain ⟨a1,c1,rfl⟩:=ownv hown;have d1:w2.heap[W.heap.size]?=some (.cells #[.int .i64 0,.int .i64 0] 138 (0,0)):=(hb.block W.heap.size (by first|omega|(simp;try omega))).trans (by first|exact halloc2 _ _ rfl|exact heap_alloc2_old W _ _|exact RB.out|exact hkeep RB.out|exact hkeep (hkeep RB.out)|exact hkeep (heap_alloc2_old W _ _));(try clear RB z0 z1 f0 f1 hL9 hN9);have RB:Hid (w2.heap[W.heap.size]?=some (.cells #[.int .i64 0,.int .i64 0] 138 (0,0))):=d1;have z0:w2.cell? ⟨W.heap.size,0,none⟩=some (.int .i64 0):=(cell_of_row w2 W.heap.size 0 _ _ _ d1).trans rfl;have z1:w2.cell? ⟨W.heap.size,1,none⟩=some (.int .i64 0):=(cell_of_row w2 W.heap.size 1 _ _ _ d1).trans rfl;have f0:=frozen_of_row w2 W.heap.size 0 _ _ d1;have f1:=frozen_of_row w2 W.heap.size 1 _ _ d1;have hL9:W.heap.size<w2.heap.size:=(Array.getElem?_eq_some_iff.1 d1).1;have hN9:¬ W.heap.size=w2.heap.size:=(by omega);clear d1;have B2:Hid (Below W.heap.size W w2):=bstep (B1.out.alloc B1.out.size _) hb;clear hb HM hown))
        exact bodyPost_ret (v:=idE ((0,0),6)) (by simp [results,Tryz.results257,go_sem,idE, *]) rfl ⟨rfl,(by repeat (first|exact B2.out|refine Below.setCell ?_ (by simp;try omega) _|refine Below.alloc ?_ (by have:=B2.out.size;simp;try omega) _|refine Below.drew ?_))⟩
  · rw [if_neg h0]
    clear h hB HM
    go_enter Tryz.func257,Tryz.ntmps257
    go_wp2_with (first
      | (go_at_call 256;refine (HF.out _ (by repeat (first|exact Below.refl _ _|refine Below.setCell ?_ (by simp;try omega) _|refine Below.alloc ?_ (by simp;try omega) _|refine Below.drew ?_))).mono ?_;rintro e w2 ⟨rfl,hb⟩;have d1:w2.heap[W.heap.size]?=some (.cells #[.int .i64 0,.int .i64 0] 138 (0,0)):=(hb.block W.heap.size (by first|omega|(simp;try omega))).trans (by first|exact halloc2 _ _ rfl|exact heap_alloc2_old W _ _|exact RB.out|exact hkeep RB.out|exact hkeep (hkeep RB.out)|exact hkeep (heap_alloc2_old W _ _));(try clear RB z0 z1 f0 f1 hL9 hN9);have RB:Hid (w2.heap[W.heap.size]?=some (.cells #[.int .i64 0,.int .i64 0] 138 (0,0))):=d1;have z0:w2.cell? ⟨W.heap.size,0,none⟩=some (.int .i64 0):=(cell_of_row w2 W.heap.size 0 _ _ _ d1).trans rfl;have z1:w2.cell? ⟨W.heap.size,1,none⟩=some (.int .i64 0):=(cell_of_row w2 W.heap.size 1 _ _ _ d1).trans rfl;have f0:=frozen_of_row w2 W.heap.size 0 _ _ d1;have f1:=frozen_of_row w2 W.heap.size 1 _ _ d1;have hL9:W.heap.size<w2.heap.size:=(Array.getElem?_eq_some_iff.1 d1).1;have hN9:¬ W.heap.size=w2.heap.size:=(by omega);clear d1;have B2:Hid (Below W.heap.size W w2):=bstep (by repeat (first|exact Below.refl _ _|refine Below.setCell ?_ (by simp;try omega) _|refine Below.alloc ?_ (by simp;try omega) _|refine Below.drew ?_)) hb;clear hb HF))
    exact bodyPost_ret (v:=idE ((0,0),F3)) (by simp [results,Tryz.results257,go_sem,idE, *]) rfl ⟨rfl,(by repeat (first|exact B2.out|refine Below.setCell ?_ (by simp;try omega) _|refine Below.alloc ?_ (by have:=B2.out.size;simp;try omega) _|refine Below.drew ?_))⟩
theorem rw2 {w:World} {n:Nat} {t:TypeId} {a0 a1:Value} (h:w.heap[n]?=some (.cells #[a0,a1] t (0,0))):w.cell? ⟨n,0,none⟩=some a0∧w.cell? ⟨n,1,none⟩=some a1∧(∀ k,w.frozen? ⟨n,k,none⟩=false)∧n<w.heap.size :=
  ⟨(cell_of_row w n 0 _ _ _ h).trans rfl,(cell_of_row w n 1 _ _ _ h).trans rfl,fun k=>frozen_of_row w n k _ _ h,(Array.getElem?_eq_some_iff.1 h).1⟩
theorem rw4 {w:World} {n:Nat} {t:TypeId} {a0 a1 a2 a3:Value} (h:w.heap[n]?=some (.cells #[a0,a1,a2,a3] t (0,0))):w.cell? ⟨n,0,none⟩=some a0∧w.cell? ⟨n,1,none⟩=some a1∧w.cell? ⟨n,2,none⟩=some a2∧w.cell? ⟨n,3,none⟩=some a3∧(∀ k,w.frozen? ⟨n,k,none⟩=false)∧n<w.heap.size :=
  ⟨(cell_of_row w n 0 _ _ _ h).trans rfl,(cell_of_row w n 1 _ _ _ h).trans rfl,(cell_of_row w n 2 _ _ _ h).trans rfl,(cell_of_row w n 3 _ _ _ h).trans rfl,fun k=>frozen_of_row w n k _ _ h,(Array.getElem?_eq_some_iff.1 h).1⟩
def idV (i:Int):Value:=.int .i64 i
def inNs (n:Nat) (l:List Int):Bool:=l.all fun i=>decide (0≤i)&&decide (i<(n:Int))
set_option maxHeartbeats 1000000 in
theorem checkA_any (N b mb:Nat) (ps:List Plc) (vp:Value) (pv:List PV) (v:Value) (ids:List Int) (W:World) (h:HW W N b mb ps vp pv) (hv:Rds W v ids.length 1 (ids.map idV)) (hk9:ids.length≤1000000):Calls Tryz.prog 203 #[.pointer (some ⟨b,0,none⟩),v] W fun e w'=>e=.returned (.int .i64 (if inNs ps.length ids then 0 else 3))∧Below W.heap.size W w':=by
  obtain ⟨L,hL⟩:∃ L,ids.length=L:=⟨_,rfl⟩
  have HL:Hid (ids.length=L):=hL
  obtain ⟨av,cv,rfl⟩:=hv.slice
  have HV:Hid (Rds W (.slice av ids.length cv) ids.length 1 (ids.map idV)):=hv
  have HLen:Hid (∀ w:World,Below W.heap.size W w→Calls Tryz.prog 199 #[.pointer (some ⟨b,0,none⟩)] w fun e w'=>e=.returned (.int .i64 (ps.length:Int))∧w'=w):=fun w hb=>len_any N b mb ps vp pv w (h.below hb)
  rw [hL]
  rw [hL] at hk9
  clear hv h hL
  obtain ⟨R,hR⟩:∃ R,R=(if inNs ps.length ids then (0:Int) else 3):=⟨_,rfl⟩
  rw [← hR]
  have HR:Hid (R=(if inNs ps.length ids then (0:Int) else 3)):=hR
  clear hR
  go_enter Tryz.func203,Tryz.ntmps203
  go_wp2
  go_loopw [11] (fun kv wr=>∃ k:Nat,kv=.int .i64 k∧k≤L∧wr=W∧Hid (inNs ps.length (ids.take k)=true)) (fun kv _=>L - (intOf kv).toNat)
  case atStart=>exact ⟨0,rfl,Nat.zero_le _,rfl,rfl⟩
  case round =>
    obtain ⟨k,rfl,hk,rfl,hin⟩:=hrel
    by_cases hlt:k<L
    · obtain ⟨id,hid⟩:∃ p,ids[k]?=some p:=⟨_,List.getElem?_eq_getElem (by rw [HL.out];exact hlt)⟩
      obtain ⟨bk,o,rfl,hbk,hcell⟩:∃ bk o,av=some ⟨bk,o,none⟩∧bk<wr.heap.size∧wr.cell? ⟨bk,o+k,none⟩=some (.int .i64 id):=by
        rcases HV.out.val with ⟨_,e2⟩|⟨bk,o,c,e,_,_,h3,h4⟩
        · rw [HL.out] at e2;omega
        · simp only [Value.slice.injEq] at e
          exact ⟨bk,o,e.1,h3,h4 k _ (by rw [List.getElem?_map,hid];rfl)⟩
      have hT:ids.take (k+1)=ids.take k++[id]:=by rw [List.take_add_one,hid];rfl
      have HNX:Hid (inNs ps.length (ids.take (k+1))=(decide (0≤id)&&decide (id<(ps.length:Int)))):=by
        rw [Hid,hT,inNs,List.all_append]
        have:=hin.out
        rw [inNs] at this
        rw [this];simp
      have HNO:Hid ((decide (0≤id)&&decide (id<(ps.length:Int)))=false→R=3):=fun hf=>by
        rw [HR.out,if_neg]
        intro hall
        rw [inNs,List.all_eq_true] at hall
        have:=hall id (List.mem_of_getElem? hid)
        rw [hf] at this;cases this
      clear hT hid
      by_cases h0:id<0
      · go_wp2
        exact bodyPost_ret (results_tmp rfl _ _ _) rfl ⟨by have e:=HNO.out (by rw [decide_eq_false (by omega)];rfl);subst e;rfl,Below.refl _ _⟩
      · by_cases h1:(ps.length:Int)≤id
        · go_wp2_with (go_at_call 199;refine (HLen.out _ (Below.refl _ _)).mono ?_;rintro e w9 ⟨rfl,hw9⟩;rw [hw9];clear hw9 w9)
          exact bodyPost_ret (results_tmp rfl _ _ _) rfl ⟨by have e:=HNO.out (by rw [decide_eq_false (p:=id<_) (by omega),Bool.and_false]);subst e;rfl,Below.refl _ _⟩
        · go_wp2_with (go_at_call 199;refine (HLen.out _ (Below.refl _ _)).mono ?_;rintro e w9 ⟨rfl,hw9⟩;rw [hw9];clear hw9 w9)
          go_roundw
          case rel=>exact ⟨k+1,by go_num,by omega,trivial,by rw [Hid,HNX.out,decide_eq_true (by omega),decide_eq_true (by omega)];rfl⟩
          case measure=>simp [intOf];omega
    · have e:k=L:=by omega
      subst e
      have hall:R=0:=by
        rw [HR.out]
        have:=hin.out
        rw [List.take_of_length_le (by rw [HL.out];exact Nat.le_refl _)] at this
        rw [if_pos this]
      go_wp2
      exact bodyPost_ret (results_tmp rfl _ _ _) rfl ⟨by subst hall;rfl,Below.refl _ _⟩
theorem check_c {b:Nat} {ps:List Plc} {W:World} (h:WAt b ps W) (v:Value) (ids:List Int) (hv:Rds W v ids.length 1 (ids.map idV)) (hk9:ids.length≤1000000):Calls Tryz.prog 203 #[.pointer (some ⟨b,0,none⟩),v] W fun e w'=>e=.returned (.int .i64 (if inNs ps.length ids then 0 else 3))∧Below W.heap.size W w':=by
  obtain ⟨N,mb,vp,pv,h⟩:=h
  exact checkA_any N b mb ps vp pv v ids W h hv hk9
theorem open_c (f:Int) (W:World):Calls Tryz.prog 260 #[.int .i64 f] W fun e w'=>e=.returned (.int .i64 (openI f))∧w'=W:=by
  have HR:Hid (openI f=if hasI f 1 then 1 else if hasI f 4 then 4 else bits .and .i64 f 2):=Fl.own_open f
  have HH:Hid (∀ (x:Int) (y:Bool) (w:World),hasI f x=y→Calls Tryz.prog 192 #[.int .i64 f,.int .i64 x] w fun e w'=>e=.returned (.bool y)∧w'=w):=fun x y w hy=>by rw [← hy];exact Fl.hasAny_any f x w
  generalize openI f=r at *
  generalize hasI f=hz at *
  obtain ⟨b1,h1⟩:∃ b,hz 1=b:=⟨_,rfl⟩
  obtain ⟨b4,h4⟩:∃ b,hz 4=b:=⟨_,rfl⟩
  rw [h1,h4] at HR
  have H1:Hid _:=h1
  have H4:Hid _:=h4
  clear h1 h4
  cases b1 <;> cases b4
  all_goals
    go_enter Tryz.func260,Tryz.ntmps260
    go_wp2_with (go_at_call 192;refine (HH.out _ _ _ (by first|exact H1.out|exact H4.out)).mono ?_;rintro e w9 ⟨rfl,hw9⟩;rw [hw9];clear hw9 w9)
    exact bodyPost_ret (results_tmp rfl _ _ _) rfl ⟨by rw [HR.out];rfl,rfl⟩
def pkB (nm:ByteArray):ByteArray:=⟨(pkgL nm.data.toList).toArray⟩
theorem aPkg_c {b:Nat} {ps:List Plc} {W:World} (h:WAt b ps W) (k:Nat) (q:Plc) (hq:ps[k]?=some q) (hB:PlcB q):Calls Tryz.prog 305 #[.pointer (some ⟨b,0,none⟩),.int .i64 (k:Int)] W fun e w'=>e=.returned (.agg #[.int .i64 q.c.ld,.string (pkB q.c.nm)])∧Below W.heap.size W w':=by
  have HC:Hid (∀ w,Below W.heap.size W w→Calls Tryz.prog 218 #[.pointer (some ⟨b,0,none⟩),.int .i64 (k:Int)] w fun e w'=>∃ vi vm qm,e=.returned (.tuple #[.agg #[.string q.c.nm,.string q.c.su,vi,.int .i64 q.c.fl,.int .i64 q.c.ld,vm],.int .i64 0])∧OwnC w' w.heap.size vi q.c.ni q.c.xi vm qm∧qm.map Prod.fst=q.c.ms∧Below w.heap.size w w'):=fun w hb=>by
    obtain ⟨N,mb,vp,pv,h⟩:=h.below hb
    exact class_yes N b mb ps vp pv k q w h hq hB
  have HP:Hid (∀ w:World,Calls Tryz.prog 197 #[.string q.c.nm] w fun e w'=>e=.returned (.string (pkB q.c.nm))∧w'=w):=fun w=>package_any q.c.nm hB.nm w
  generalize pkB q.c.nm=pk at *
  clear h hq hB
  go_enter Tryz.func305,Tryz.ntmps305
  go_wp2_with (first
    | (go_at_call 218;refine (HC.out _ (by repeat (first|exact Below.refl _ _|refine Below.setCell ?_ (by simp;try omega) _|refine Below.alloc ?_ (by simp;try omega) _|refine Below.drew ?_))).mono ?_;rintro e w1 ⟨vi,vm,qm,rfl,hown,_,hb⟩;obtain ⟨a1,c1,rfl⟩:=ownv hown.ifs;obtain ⟨a2,c2,rfl⟩:=ownv hown.ms;have B1:Hid (Below W.heap.size W w1):=bstep (by repeat (first|exact Below.refl _ _|refine Below.setCell ?_ (by simp;try omega) _|refine Below.alloc ?_ (by simp;try omega) _|refine Below.drew ?_)) hb;have h0:=(hb.block W.heap.size (by simp)).trans (halloc1 W _);have hl0:W.heap.size<w1.heap.size:=(Array.getElem?_eq_some_iff.1 h0).1;have r0:=cell_of_row w1 W.heap.size 0 _ _ _ h0;have y0:=frozen_of_row w1 W.heap.size 0 _ _ h0;have r1:=cell_of_row w1 W.heap.size 1 _ _ _ h0;have y1:=frozen_of_row w1 W.heap.size 1 _ _ h0;simp only [List.getElem?_toArray,List.getElem?_cons_zero,List.getElem?_cons_succ] at r0 r1;have hn0:¬ W.heap.size=w1.heap.size:=(by omega);have H0:Hid (w1.heap[W.heap.size]?=some (.cells #[.int .i64 0,.string ⟨#[]⟩] 410 (0,0))):=h0;clear hown hb HC h0 r0 r1 y0 y1))
  obtain ⟨Wm,hWm⟩:∃ x,x=w1.alloc (.cells #[.string q.c.nm,.string q.c.su,.slice a1 q.c.ni c1,.int .i64 q.c.fl,.int .i64 q.c.ld,.slice a2 qm.length c2] 45):=⟨_,rfl⟩
  have BM:Hid (Below W.heap.size W Wm):=by rw [hWm];exact B1.out.alloc B1.out.size _
  have m0:Wm.cell? ⟨w1.heap.size,0,none⟩=some (.string q.c.nm):=by rw [hWm];simp [go_sem]
  have m4:Wm.cell? ⟨w1.heap.size,4,none⟩=some (.int .i64 q.c.ld):=by rw [hWm];simp [go_sem]
  have h0:Wm.heap[W.heap.size]?=some (.cells #[.int .i64 0,.string ⟨#[]⟩] 410 (0,0)):=by rw [hWm];exact (Below.heap_alloc w1 _ _ hl0).trans H0.out
  have hs0:W.heap.size<Wm.heap.size:=(Array.getElem?_eq_some_iff.1 h0).1
  have hs1:w1.heap.size<Wm.heap.size:=by rw [hWm];simp
  have r0:=cell_of_row Wm W.heap.size 0 _ _ _ h0
  have y0:=frozen_of_row Wm W.heap.size 0 _ _ h0
  have r1:=cell_of_row Wm W.heap.size 1 _ _ _ h0
  have y1:=frozen_of_row Wm W.heap.size 1 _ _ h0
  simp only [List.getElem?_toArray,List.getElem?_cons_zero,List.getElem?_cons_succ] at r0 r1
  have hn1:¬ w1.heap.size=W.heap.size:=by omega
  rw [← hWm]
  clear hWm h0 H0 B1
  go_region_held3 (fun w'=>w'.cell? ⟨w1.heap.size,0,none⟩=some (.string q.c.nm)∧w'.cell? ⟨w1.heap.size,4,none⟩=some (.int .i64 q.c.ld)) (go_keep) (first|(go_at_call 197;refine (HP.out _).mono ?_;rintro e w9 ⟨rfl,hw9⟩;rw [hw9];clear hw9 w9))
  go_wp2
  refine bodyPost_ret (v:=.agg #[.int .i64 q.c.ld,.string pk]) (by simp [results,Tryz.results305,go_sem, *]) rfl ⟨rfl,?_⟩
  refine Below.drew ?_
  repeat (refine Below.setCell ?_ (by simp) _)
  exact BM.out
end Go.Proofs.YtlohdfpinmdljaaGreatDoor
