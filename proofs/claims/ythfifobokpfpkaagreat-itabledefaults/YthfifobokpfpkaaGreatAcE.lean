import Derived.Test.YthfifobokpfpkaaGreatHrQ
import Derived.Test.YthfifobokpfpkaaGreatHrY
import Derived.Test.YthfifobokpfpkaaGreatMxC
import Derived.Test.YthfifobokpfpkaaGreatHrS
import Derived.Test.YthfifobokpfpkaaGreatHrX
import Derived.Test.YthfifobokpfpkaaGreatFOwnA
import Derived.Deep.RegionHeld3
set_option maxRecDepth 100000
namespace Go.Proofs.YthfifobokpfpkaaGreat
open Go.RowKit Go.Maps
def wld (l:List Cls):List Plc:=l.foldl (fun ps c=>dfP ps (defN ps c)) P3
theorem wld_snoc (l:List Cls) (c:Cls):wld (l++[c])=dfP (wld l) (defN (wld l) c):=by
  rw [wld,List.foldl_append];rfl
theorem wld_at {l:List Cls} {i:Nat} {c:Cls} (h:l[i]?=some c):wld (l.take (i+1))=dfP (wld (l.take i)) (defN (wld (l.take i)) c):=by
  rw [List.take_add_one,h];exact wld_snoc _ _
theorem wld_ind {P:List Plc→Prop} (h3:P P3) (hd:∀ ps c,P ps→ClsW c→P (dfP ps (defN ps c))):∀ l:List Cls,(∀ c∈l,ClsW c)→P (wld l):=by
  have key:∀ (l:List Cls) (ps:List Plc),(∀ c∈l,ClsW c)→P ps→P (l.foldl (fun ps c=>dfP ps (defN ps c)) ps):=by
    intro l
    induction l with
    | nil=>exact fun ps _ h=>h
    | cons c l ih=>exact fun ps hl h=>ih _ (fun x hx=>hl x (List.mem_cons_of_mem _ hx)) (hd ps c h (hl c (by simp)))
  exact fun l hl=>key l P3 hl h3
theorem wld_wi (l:List Cls) (hl:∀ c∈l,ClsW c):WI (wld l):=wld_ind wi3 (fun _ c h hc=>h.define c hc) l hl
theorem clss_w {w:World} {v:Value} {l:List Cls} (h:IsClss w v l):∀ c∈l,ClsW c:=by
  obtain ⟨ao,cap,e,h1,h2,h3⟩:=h
  intro c hc
  obtain ⟨bk,o,_,_,h4⟩:=h3 (fun e=>by rw [e] at hc;simp at hc)
  obtain ⟨i,hi⟩:=List.mem_iff_getElem?.1 hc
  obtain ⟨vi,vm,_,hin⟩:=h4 i c hi
  exact hin.ok
def extI (ps:List Plc) (a b:Int):Bool:=(plcI ps a).isSome&&(plcI ps b).isSome&&extB (ps.map nd) a.toNat b.toNat
theorem extends_no {b:Nat} {ps:List Plc} {W:World} (h:WAt b ps W) (x y:Int) (hxy:plcI ps x=none∨plcI ps y=none):Calls Tryz.prog 25 #[.pointer (some ⟨b,0,none⟩),.int .i64 x,.int .i64 y] W fun e w'=>e=.returned (.bool false)∧Below W.heap.size W w':=by
  have HX:Hid (∀ i z w,Below W.heap.size W w→plcI ps i=z→Calls Tryz.prog 81 #[.pointer (some ⟨b,0,none⟩),.int .i64 i] w fun e w'=>e=.returned (.bool z.isSome)∧w'=w):=fun i z w hb hi=>by
    have:=has_c (h.below hb) i
    rw [hi] at this;exact this
  clear h
  generalize hpx:plcI ps x=px at *
  generalize hpy:plcI ps y=py at *
  have HPX:Hid _:=hpx
  have HPY:Hid _:=hpy
  clear hpx hpy
  cases px with
  | none =>
    go_enter Tryz.func25,Tryz.ntmps25
    go_wp2_with (go_at_call 81;refine (HX.out _ _ _ (by repeat (first|exact Below.refl _ _|refine Below.setCell ?_ (by simp;try omega) _|refine Below.alloc ?_ (by simp;try omega) _|refine Below.drew ?_)) HPX.out).mono ?_;rintro e w9 ⟨rfl,hw9⟩;rw [hw9];clear hw9 w9)
    refine bodyPost_ret (v:=.bool false) (by simp [results,Tryz.results25,go_sem]) rfl ⟨rfl,(by repeat (first|exact Below.refl _ _|refine Below.setCell ?_ (by simp;try omega) _|refine Below.alloc ?_ (by simp;try omega) _|refine Below.drew ?_))⟩
  | some p =>
    obtain rfl:py=none:=hxy.resolve_left (by simp)
    clear hxy
    have HX1:Hid (∀ i w,Below W.heap.size W w→i=x→Calls Tryz.prog 81 #[.pointer (some ⟨b,0,none⟩),.int .i64 i] w fun e w'=>e=.returned (.bool true)∧w'=w):=fun i w hb hi=>by rw [hi];exact HX.out x _ w hb HPX.out
    have HY1:Hid (∀ i w,Below W.heap.size W w→i=y→Calls Tryz.prog 81 #[.pointer (some ⟨b,0,none⟩),.int .i64 i] w fun e w'=>e=.returned (.bool false)∧w'=w):=fun i w hb hi=>by rw [hi];exact HX.out y _ w hb HPY.out
    go_enter Tryz.func25,Tryz.ntmps25
    go_wp2_with (first
      | (go_at_call 81;refine (HX1.out _ _ (by repeat (first|exact Below.refl _ _|refine Below.setCell ?_ (by simp;try omega) _|refine Below.alloc ?_ (by simp;try omega) _|refine Below.drew ?_)) (by rfl)).mono ?_;rintro e w9 ⟨rfl,hw9⟩;rw [hw9];clear hw9 w9)
      | (go_at_call 81;refine (HY1.out _ _ (by repeat (first|exact Below.refl _ _|refine Below.setCell ?_ (by simp;try omega) _|refine Below.alloc ?_ (by simp;try omega) _|refine Below.drew ?_)) (by rfl)).mono ?_;rintro e w9 ⟨rfl,hw9⟩;rw [hw9];clear hw9 w9))
    refine bodyPost_ret (v:=.bool false) (by simp [results,Tryz.results25,go_sem]) rfl ⟨rfl,(by repeat (first|exact Below.refl _ _|refine Below.setCell ?_ (by simp;try omega) _|refine Below.alloc ?_ (by simp;try omega) _|refine Below.drew ?_))⟩
theorem extends_c {b:Nat} {ps:List Plc} {W:World} (h:WAt b ps W) (hi:WI ps) (x y:Int):Calls Tryz.prog 25 #[.pointer (some ⟨b,0,none⟩),.int .i64 x,.int .i64 y] W fun e w'=>e=.returned (.bool (extI ps x y))∧Below W.heap.size W w':=by
  rcases plcI_cases ps x with ⟨h1,_⟩|⟨k,p,rfl,h2,h1⟩
  · have e:extI ps x y=false:=by rw [extI,h1];rfl
    rw [e];exact extends_no h x y (.inl h1)
  · rcases plcI_cases ps y with ⟨g1,_⟩|⟨j,q,rfl,g2,g1⟩
    · have e:extI ps k y=false:=by rw [extI,h1,g1];rfl
      rw [e];exact extends_no h k y (.inr g1)
    · have e:extI ps k j=extB (ps.map nd) k j:=by rw [extI,h1,g1];rfl
      obtain ⟨N,mb,vp,pv,h⟩:=h
      rw [e];exact extends_yes N b mb ps vp pv k j (List.getElem?_eq_some_iff.1 h2).1 (List.getElem?_eq_some_iff.1 g2).1 hi.wo hi.hi W h
def ifcI (ps:List Plc) (i:Int):Bool:=match plcI ps i with
  | some q=>ifB q.c.fl
  | none=>false
theorem isIface_c {b:Nat} {ps:List Plc} {W:World} (h:WAt b ps W) (x:Int):Calls Tryz.prog 23 #[.pointer (some ⟨b,0,none⟩),.int .i64 x] W fun e w'=>e=.returned (.bool (ifcI ps x))∧Below W.heap.size W w':=by
  obtain ⟨N,mb,vp,pv,h⟩:=h
  rcases plcI_cases ps x with ⟨h1,h2⟩|⟨k,p,rfl,h2,h1⟩
  · have e:ifcI ps x=false:=by rw [ifcI,h1]
    rw [e];exact isIfaceW_no N b mb ps vp pv x W h h2
  · have e:ifcI ps k=ifB p.c.fl:=by rw [ifcI,h1]
    rw [e];exact isIfaceW_yes N b mb ps vp pv k p W h h2
theorem len_c {b:Nat} {ps:List Plc} {W:World} (h:WAt b ps W):Calls Tryz.prog 29 #[.pointer (some ⟨b,0,none⟩)] W fun e w'=>e=.returned (.int .i64 (ps.length:Int))∧w'=W:=by
  obtain ⟨N,mb,vp,pv,h⟩:=h
  exact len_any N b mb ps vp pv W h
def ClsR (n:Nat):Option Plc→Ending→World→Prop
  | none,e,_=>e=.returned (.tuple #[.agg #[.string ⟨#[]⟩,.string ⟨#[]⟩,.slice none 0 0,.int .i64 0,.int .i64 0,.slice none 0 0],.int .i64 3])
  | some q,e,w'=>∃ vi vm qm,e=.returned (.tuple #[.agg #[.string q.c.nm,.string q.c.su,vi,.int .i64 q.c.fl,.int .i64 q.c.ld,vm],.int .i64 0])∧OwnC w' n vi q.c.ni q.c.xi vm qm∧qm.map Prod.fst=q.c.ms
theorem class_c {b:Nat} {ps:List Plc} {W:World} (h:WAt b ps W) (hB:∀ q∈ps,PlcB q) (x:Int):Calls Tryz.prog 31 #[.pointer (some ⟨b,0,none⟩),.int .i64 x] W fun e w'=>ClsR W.heap.size (plcI ps x) e w'∧Below W.heap.size W w':=by
  obtain ⟨N,mb,vp,pv,h⟩:=h
  rcases plcI_cases ps x with ⟨h1,h2⟩|⟨k,p,rfl,h2,h1⟩
  · rw [h1];exact class_no N b mb ps vp pv x W h h2
  · rw [h1]
    refine (class_yes N b mb ps vp pv k p W h h2 (hB p (List.mem_of_getElem? h2))).mono ?_
    rintro e w' ⟨vi,vm,qm,h1,h2,h3,h4⟩
    exact ⟨⟨vi,vm,qm,h1,h2,h3⟩,h4⟩
def overB (ps:List Plc) (l:List (Int×Int)) (m:Int×Int):Bool:=l.any fun o=>!(o.1 == m.1)&&extI ps o.1 m.1
def maxL (ps:List Plc) (l:List (Int×Int)):List (Int×Int):=l.filter fun m=>!overB ps l m
theorem extI_nat {ps:List Plc} {a b:Nat} (ha:a<ps.length) (hb:b<ps.length):extI ps (a:Int) (b:Int)=extB (ps.map nd) a b:=by
  rw [extI,plcI_nat,plcI_nat,List.getElem?_eq_getElem ha,List.getElem?_eq_getElem hb];rfl
def oneL (ps:List Plc) (l:List (Int×Int)):List (Int×Int):=(maxL ps l).filter fun m=>!hasS ps m.1 m.2 1024
def oneV (ps:List Plc) (l:List (Int×Int)):(Int×Int)×Int:=match oneL ps l with
  | []=>((0,0),24)
  | [m]=>(m,0)
  | _=>((0,0),23)
def overP (ps:List Plc) (m o:Int×Int):Bool:=!(o.1 == m.1)&&extI ps o.1 m.1
set_option maxHeartbeats 1000000 in
theorem maxIn_c {b:Nat} {ps:List Plc} {W:World} (h:WAt b ps W) (hi:WI ps) (bm bw:Nat) (m o:Int×Int) (hm:W.cell? ⟨bm,0,none⟩=some (.int .i64 m.1)) (hw:W.cell? ⟨bw,0,none⟩=some (.pointer (some ⟨b,0,none⟩))):Calls Tryz.prog 187 (#[.agg #[.int .i64 o.1,.int .i64 o.2]]++#[.pointer (some ⟨bm,0,none⟩),.pointer (some ⟨bw,0,none⟩)]) W fun e w'=>e=.returned (.bool (overP ps m o))∧Below W.heap.size W w':=by
  show Calls Tryz.prog 187 #[.agg #[.int .i64 o.1,.int .i64 o.2],.pointer (some ⟨bm,0,none⟩),.pointer (some ⟨bw,0,none⟩)] W _
  have hlm:bm<W.heap.size:=World.block_lt_of_cell? W _ hm
  have hlw:bw<W.heap.size:=World.block_lt_of_cell? W _ hw
  have n1:¬ bm=W.heap.size:=by omega
  have n2:¬ bw=W.heap.size:=by omega
  have HE:Hid (∀ w,Below W.heap.size W w→Calls Tryz.prog 25 #[.pointer (some ⟨b,0,none⟩),.int .i64 o.1,.int .i64 m.1] w fun e w'=>e=.returned (.bool (extI ps o.1 m.1))∧Below W.heap.size W w'):=fun w hb=>(extends_c (h.below hb) hi o.1 m.1).mono fun e w' zz=>⟨zz.1,bstep hb zz.2⟩
  have HR:Hid (overP ps m o=(!(o.1 == m.1)&&extI ps o.1 m.1)):=rfl
  generalize overP ps m o=R at *
  generalize extI ps o.1 m.1=E at *
  obtain ⟨o1,o2⟩:=o
  obtain ⟨m1,m2⟩:=m
  simp only at HE HR hm
  clear h hi
  by_cases hq:o1=m1
  · have hR:R=false:=by rw [HR.out,hq];simp
    subst hR
    subst hq
    go_enter Tryz.func187,Tryz.ntmps187
    go_wp2
    exact bodyPost_ret (results_tmp rfl _ _ _) rfl ⟨rfl,(by repeat (first|exact Below.refl _ _|refine Below.setCell ?_ (by simp;try omega) _|refine Below.alloc ?_ (by simp;try omega) _|refine Below.drew ?_))⟩
  · have hR:R=E:=by
      have e:(o1 == m1)=false:=by simpa using hq
      rw [HR.out,e];simp
    subst hR
    clear HR
    have hne:(o1 != m1)=true:=by simpa using hq
    go_enter Tryz.func187,Tryz.ntmps187
    go_wp2_with (go_at_call 25;refine (HE.out _ (by repeat (first|exact Below.refl _ _|refine Below.setCell ?_ (by simp;try omega) _|refine Below.alloc ?_ (by simp;try omega) _|refine Below.drew ?_))).mono ?_;rintro e w1 ⟨rfl,hb⟩;have B1:Hid (Below W.heap.size W w1):=hb;clear hb HE)
    exact bodyPost_ret (results_tmp rfl _ _ _) rfl ⟨rfl,B1.out⟩
theorem callMx (vs:Array Value) (w:World):(callFunc 187 vs).run Tryz.prog w=.ok (.enter 187 vs) w:=by simp [go_sem]
theorem callMy (vs:Array Value) (w:World):(callFunc 185 vs).run Tryz.prog w=.ok (.enter 185 vs) w:=by simp [go_sem]
set_option maxHeartbeats 1000000 in
theorem maxOver_c {b:Nat} {ps:List Plc} {W:World} (h:WAt b ps W) (hi:WI ps) (ba bw N:Nat) (v:Value) (l:List (Int×Int)) (m:Int×Int) (ho:W.ownsRow N 24 2 v l.length (flatD l)) (hn:l.length≤1000000) (ha:W.cell? ⟨ba,0,none⟩=some v) (hw:W.cell? ⟨bw,0,none⟩=some (.pointer (some ⟨b,0,none⟩))):Calls Tryz.prog 185 (#[.agg #[.int .i64 m.1,.int .i64 m.2]]++#[.pointer (some ⟨ba,0,none⟩),.pointer (some ⟨bw,0,none⟩)]) W fun e w'=>e=.returned (.bool (overB ps l m))∧Below W.heap.size W w':=by
  show Calls Tryz.prog 185 #[.agg #[.int .i64 m.1,.int .i64 m.2],.pointer (some ⟨ba,0,none⟩),.pointer (some ⟨bw,0,none⟩)] W _
  have hla:ba<W.heap.size:=World.block_lt_of_cell? W _ ha
  have hlw:bw<W.heap.size:=World.block_lt_of_cell? W _ hw
  have n1:¬ ba=W.heap.size:=by omega
  have HC:Hid (∀ w,w=W.alloc (.cells #[.int .i64 m.1,.int .i64 m.2] 24)→Calls Tryz.prog 186 #[v,.func (.func 187) #[] #[.pointer (some ⟨W.heap.size,0,none⟩),.pointer (some ⟨bw,0,none⟩)]] w fun e w'=>e=.returned (.bool (overB ps l m))∧Below w.heap.size w w'):=by
    intro w hwe
    have hb0:Below W.heap.size W w:=by rw [hwe];exact (Below.refl _ _).alloc (Nat.le_refl _) _
    refine conD_any 187 callMx _ (overP ps m) N l v w (rowBelow ho hb0) hn (fun o _ w2 hb=>?_)
    have c0:w.cell? ⟨W.heap.size,0,none⟩=some (.int .i64 m.1):=by rw [hwe];simp [go_sem]
    exact maxIn_c (h.below (bstep hb0 hb)) hi W.heap.size bw m o ((hb.cell (p:=⟨W.heap.size,0,none⟩) (World.block_lt_of_cell? w _ c0)).trans c0) (((bstep hb0 hb).cell (p:=⟨bw,0,none⟩) hlw).trans hw)
  generalize overB ps l m=R at *
  obtain ⟨va,vn,rfl⟩:=ownv ho
  clear h hi ho
  go_enter Tryz.func185,Tryz.ntmps185
  go_wp2_with (go_at_call 186;refine (HC.out _ rfl).mono ?_;rintro e w1 ⟨rfl,hb⟩;have B1:Hid (Below W.heap.size W w1):=bstep (by repeat (first|exact Below.refl _ _|refine Below.setCell ?_ (by simp;try omega) _|refine Below.alloc ?_ (by simp;try omega) _|refine Below.drew ?_)) hb;clear hb HC)
  exact bodyPost_ret (results_tmp rfl _ _ _) rfl ⟨rfl,B1.out⟩
theorem max_pred {b:Nat} {ps:List Plc} {W w1 w2:World} {N:Nat} {va:Option Addr} {vn:Nat} {l:List (Int×Int)} (h:WAt b ps W) (hi:WI ps) (O1:w1.ownsRow N 24 2 (.slice va l.length vn) l.length (flatD l)) (c0:w1.cell? ⟨W.heap.size,0,none⟩=some (.pointer (some ⟨b,0,none⟩))) (hn:l.length≤1000000) (B1:Below W.heap.size W w1) (B2:Below (w1.heap.size+1) (w1.alloc (.cells #[.slice va l.length vn] 34)) w2):PredD 185 #[.pointer (some ⟨w1.heap.size,0,none⟩),.pointer (some ⟨W.heap.size,0,none⟩)] (overB ps l) l (w1.heap.size+1) w2:=by
  intro m _ w hb
  have hU:Below (w1.alloc (.cells #[.slice va l.length vn] 34)).heap.size (w1.alloc (.cells #[.slice va l.length vn] 34)) w:=by
    have:=B2.trans hb
    simpa using this
  have hl:W.heap.size<w1.heap.size:=World.block_lt_of_cell? w1 _ c0
  exact maxOver_c (h.below (bstep (B1.alloc B1.size _) hU)) hi w1.heap.size W.heap.size N _ l m (rowBelow (O1.alloc _) hU) hn ((hU.cell (p:=⟨w1.heap.size,0,none⟩) (by simp)).trans (by simp [go_sem])) ((hU.cell (p:=⟨W.heap.size,0,none⟩) (by simp;omega)).trans (Lib.cell?_alloc_some _ c0))
set_option maxHeartbeats 1000000 in
theorem max_yes {b:Nat} {ps:List Plc} {W:World} (h:WAt b ps W) (hi:WI ps) (k:Nat) (q:Plc) (hq:ps[k]?=some q) (nm ds:ByteArray):Calls Tryz.prog 139 #[.pointer (some ⟨b,0,none⟩),.int .i64 (k:Int),.string nm,.string ds] W fun e w'=>(∃ v,e=.returned (.tuple #[v,.int .i64 0])∧w'.ownsRow W.heap.size 24 2 v (maxL ps (candL ps nm ds q.cl)).length (flatD (maxL ps (candL ps nm ds q.cl))))∧Below W.heap.size W w':=by
  have hKb:(candL ps nm ds q.cl).length≤1000000:=by
    obtain ⟨N,mb,vp,pv,h⟩:=h
    have hwf:=h.wf q (List.mem_of_getElem? hq)
    have:=nodup_lt_len _ _ hwf.2 hwf.1
    have:=candL_len ps nm ds q.cl
    have:=hi.hi
    omega
  have HC:Hid (∀ w,Below W.heap.size W w→Calls Tryz.prog 183 #[.pointer (some ⟨b,0,none⟩),.int .i64 (k:Int),.string nm,.string ds] w fun e w'=>(∃ v,e=.returned (.tuple #[v,.int .i64 0])∧w'.ownsRow w.heap.size 24 2 v (candL ps nm ds q.cl).length (flatD (candL ps nm ds q.cl)))∧Below w.heap.size w w'):=fun w hb=>cand_yes (h.below hb) hi.pb hi.hi k q hq nm ds
  have HW0:Hid (WAt b ps W):=h
  have HWI:Hid (WI ps):=hi
  obtain ⟨l,hl⟩:∃ l,candL ps nm ds q.cl=l:=⟨_,rfl⟩
  rw [hl] at hKb HC ⊢
  have HKb:Hid (l.length≤1000000):=hKb
  clear h hi hq hl
  have HCL:Hid (∀ (N:Nat) (v:Value) (w:World),w.ownsRow N 24 2 v l.length (flatD l)→Calls Tryz.prog 184 #[v] w fun e w'=>∃ v',e=.returned v'∧w'.ownsRow w.heap.size 24 2 v' l.length (flatD l)∧Below w.heap.size w w'):=fun N v w ho=>cloD_any N l v w ho hKb
  go_enter Tryz.func139,Tryz.ntmps139
  go_wp2_with (first
    | (go_at_call 183;refine (HC.out _ (by repeat (first|exact Below.refl _ _|refine Below.setCell ?_ (by simp;try omega) _|refine Below.alloc ?_ (by simp;try omega) _|refine Below.drew ?_))).mono ?_;rintro e w1 ⟨⟨v,rfl,ho⟩,hb⟩;obtain ⟨va,vn,rfl⟩:=ownv ho;have O1:Hid (w1.ownsRow (W.heap.size+1) 24 2 (.slice va l.length vn) l.length (flatD l)):=Go.Joins.ownsRow_le ho (by simp);have c0:w1.cell? ⟨W.heap.size,0,none⟩=some (.pointer (some ⟨b,0,none⟩)):=(hb.cell (p:=⟨W.heap.size,0,none⟩) (by simp)).trans (by simp [go_sem]);have hl1:W.heap.size<w1.heap.size:=World.block_lt_of_cell? w1 _ c0;have B1:Hid (Below W.heap.size W w1):=bstep (by repeat (first|exact Below.refl _ _|refine Below.setCell ?_ (by simp;try omega) _|refine Below.alloc ?_ (by simp;try omega) _|refine Below.drew ?_)) hb;clear hb HC ho)
    | (go_at_call 184;refine (HCL.out _ _ _ (O1.out.alloc _)).mono ?_;rintro e w2 ⟨v2,rfl,ho,hb⟩;obtain ⟨va2,vn2,rfl⟩:=ownv ho;have O2:Hid (w2.ownsRow (w1.heap.size+1) 24 2 (.slice va2 l.length vn2) l.length (flatD l)):=Go.Joins.ownsRow_le ho (by simp);have B2:Hid (Below (w1.heap.size+1) (w1.alloc (.cells #[.slice va l.length vn] 34)) w2):=hb.mono (by simp);clear hb HCL ho)
    | (go_at_call 140;have hpd:=max_pred HW0.out HWI.out O1.out c0 HKb.out B1.out B2.out;refine (delD_any 185 callMy #[.pointer (some ⟨w1.heap.size,0,none⟩),.pointer (some ⟨W.heap.size,0,none⟩)] (overB ps l) (w1.heap.size+1) l _ w2 O2.out (by have:=B2.out.size;simpa using this) HKb.out hpd).mono ?_;rintro e w3 ⟨v3,rfl,ho,hb⟩;obtain ⟨va3,vn3,rfl⟩:=ownv ho;have O3:Hid (w3.ownsRow (w1.heap.size+1) 24 2 (.slice va3 (maxL ps l).length vn3) (maxL ps l).length (flatD (maxL ps l))):=ho;have B3:Hid (Below (w1.heap.size+1) w2 w3):=hb;clear hb ho hpd))
  refine bodyPost_ret (results_tmp2 rfl _ _ _) rfl ⟨⟨.slice va3 (maxL ps l).length vn3,rfl,Go.Joins.ownsRow_le O3.out (by omega)⟩,?_⟩
  have hb3:=B2.out.trans B3.out
  exact (B1.out.alloc B1.out.size _).trans (hb3.mono (by omega))
theorem max_no {b:Nat} {ps:List Plc} {W:World} (h:WAt b ps W) (c:Int) (hc:plcI ps c=none) (nm ds:ByteArray):Calls Tryz.prog 139 #[.pointer (some ⟨b,0,none⟩),.int .i64 c,.string nm,.string ds] W fun e w'=>e=.returned (.tuple #[.slice none 0 0,.int .i64 3])∧Below W.heap.size W w':=by
  have HC:Hid (∀ w,Below W.heap.size W w→Calls Tryz.prog 183 #[.pointer (some ⟨b,0,none⟩),.int .i64 c,.string nm,.string ds] w fun e w'=>e=.returned (.tuple #[.slice none 0 0,.int .i64 3])∧Below w.heap.size w w'):=fun w hb=>cand_no (h.below hb) c hc nm ds
  clear h hc
  go_enter Tryz.func139,Tryz.ntmps139
  go_wp2_with (go_at_call 183;refine (HC.out _ (by repeat (first|exact Below.refl _ _|refine Below.setCell ?_ (by simp;try omega) _|refine Below.alloc ?_ (by simp;try omega) _|refine Below.drew ?_))).mono ?_;rintro e w1 ⟨rfl,hb⟩;have B1:Hid (Below W.heap.size W w1):=bstep (by repeat (first|exact Below.refl _ _|refine Below.setCell ?_ (by simp;try omega) _|refine Below.alloc ?_ (by simp;try omega) _|refine Below.drew ?_)) hb;clear hb HC)
  exact bodyPost_ret (results_tmp2 rfl _ _ _) rfl ⟨rfl,B1.out.alloc B1.out.size _⟩
theorem callMz (vs:Array Value) (w:World):(callFunc 141 vs).run Tryz.prog w=.ok (.enter 141 vs) w:=by simp [go_sem]
set_option maxHeartbeats 1000000 in
theorem oneIn_c {b:Nat} {ps:List Plc} {W:World} (h:WAt b ps W) (hi:WI ps) (bw:Nat) (m:Int×Int) (hw:W.cell? ⟨bw,0,none⟩=some (.pointer (some ⟨b,0,none⟩))):Calls Tryz.prog 141 (#[.agg #[.int .i64 m.1,.int .i64 m.2]]++#[.pointer (some ⟨bw,0,none⟩)]) W fun e w'=>e=.returned (.bool (hasS ps m.1 m.2 1024))∧Below W.heap.size W w':=by
  show Calls Tryz.prog 141 #[.agg #[.int .i64 m.1,.int .i64 m.2],.pointer (some ⟨bw,0,none⟩)] W _
  have hlw:bw<W.heap.size:=World.block_lt_of_cell? W _ hw
  have n2:¬ bw=W.heap.size:=by omega
  have HS:Hid (∀ w,Below W.heap.size W w→Calls Tryz.prog 142 #[.pointer (some ⟨b,0,none⟩),.agg #[.int .i64 m.1,.int .i64 m.2],.int .i64 1024] w fun e w'=>e=.returned (.bool (hasS ps m.1 m.2 1024))∧Below W.heap.size W w'):=fun w hb=>(hasS_c (h.below hb) hi.pb m.1 m.2 1024).mono fun e w' zz=>⟨zz.1,bstep hb zz.2⟩
  generalize hasS ps m.1 m.2 1024=R at *
  obtain ⟨m1,m2⟩:=m
  simp only at HS
  clear h hi
  go_enter Tryz.func141,Tryz.ntmps141
  go_wp2_with (go_at_call 142;refine (HS.out _ (by repeat (first|exact Below.refl _ _|refine Below.setCell ?_ (by simp;try omega) _|refine Below.alloc ?_ (by simp;try omega) _|refine Below.drew ?_))).mono ?_;rintro e w1 ⟨rfl,hb⟩;have B1:Hid (Below W.heap.size W w1):=hb;clear hb HS)
  exact bodyPost_ret (results_tmp rfl _ _ _) rfl ⟨rfl,B1.out⟩
theorem halloc2 (w:World) {n:Nat} (o:Obj) (hn:w.heap.size=n):(w.alloc o).heap[n]?=some o:=by subst hn;exact halloc1 w o
def idE (x:(Int×Int)×Int):Value:=.tuple #[.agg #[.int .i64 x.1.1,.int .i64 x.1.2],.int .i64 x.2]
set_option maxHeartbeats 1000000 in
theorem one_yes {b:Nat} {ps:List Plc} {W:World} (h:WAt b ps W) (hi:WI ps) (k:Nat) (q:Plc) (hq:ps[k]?=some q) (nm ds:ByteArray):Calls Tryz.prog 78 #[.pointer (some ⟨b,0,none⟩),.int .i64 (k:Int),.string nm,.string ds] W fun e w'=>e=.returned (idE (oneV ps (candL ps nm ds q.cl)))∧Below W.heap.size W w':=by
  have hKb:(candL ps nm ds q.cl).length≤1000000:=by
    obtain ⟨N,mb,vp,pv,h⟩:=h
    have hwf:=h.wf q (List.mem_of_getElem? hq)
    have:=nodup_lt_len _ _ hwf.2 hwf.1
    have:=candL_len ps nm ds q.cl
    have:=hi.hi
    omega
  have HC:Hid (∀ w,Below W.heap.size W w→Calls Tryz.prog 139 #[.pointer (some ⟨b,0,none⟩),.int .i64 (k:Int),.string nm,.string ds] w fun e w'=>(∃ v,e=.returned (.tuple #[v,.int .i64 0])∧w'.ownsRow w.heap.size 24 2 v (maxL ps (candL ps nm ds q.cl)).length (flatD (maxL ps (candL ps nm ds q.cl))))∧Below w.heap.size w w'):=fun w hb=>max_yes (h.below hb) hi k q hq nm ds
  have HW0:Hid (WAt b ps W):=h
  have HWI:Hid (WI ps):=hi
  obtain ⟨l,hl⟩:∃ l,candL ps nm ds q.cl=l:=⟨_,rfl⟩
  rw [hl] at hKb HC ⊢
  have HMb:Hid ((maxL ps l).length≤1000000):=Nat.le_trans (List.length_filter_le _ _) hKb
  have HOL:Hid ((maxL ps l).filter (fun m=>!hasS ps m.1 m.2 1024)=oneL ps l):=rfl
  obtain ⟨R,hR⟩:∃ R,oneV ps l=R:=⟨_,rfl⟩
  have HR:Hid ((match oneL ps l with | []=>((0,0),24) | [m]=>(m,0)|_=>((0,0),23))=R):=hR
  rw [hR]
  generalize oneL ps l=ol at *
  generalize maxL ps l=ml at *
  clear h hi hq hl hR
  have hpred:Hid (∀ (w1 w:World),Below (W.heap.size+2) w1 w→Below W.heap.size W w1→w1.cell? ⟨W.heap.size,0,none⟩=some (.pointer (some ⟨b,0,none⟩))→∀ m:Int×Int,Calls Tryz.prog 141 (#[.agg #[.int .i64 m.1,.int .i64 m.2]]++#[.pointer (some ⟨W.heap.size,0,none⟩)]) w fun e w'=>e=.returned (.bool (hasS ps m.1 m.2 1024))∧Below w.heap.size w w'):=fun w1 w hb hb1 hc m=>oneIn_c (HW0.out.below (hb1.trans (hb.mono (by omega)))) HWI.out W.heap.size m ((hb.cell (p:=⟨W.heap.size,0,none⟩) (show W.heap.size<W.heap.size+2 by omega)).trans hc)
  match ol with
  | [] =>
    have eR:R=((0,0),24):=HR.out.symm
    subst eR
    clear HR
    go_enter Tryz.func78,Tryz.ntmps78
    go_wp2_with (first
      | (go_at_call 139;refine (HC.out _ (by repeat (first|exact Below.refl _ _|refine Below.setCell ?_ (by simp;try omega) _|refine Below.alloc ?_ (by simp;try omega) _|refine Below.drew ?_))).mono ?_;rintro e w1 ⟨⟨v,rfl,ho⟩,hb⟩;obtain ⟨va,vn,rfl⟩:=ownv ho;have O1:Hid (w1.ownsRow (W.heap.size+2) 24 2 (.slice va ml.length vn) ml.length (flatD ml)):=Go.Joins.ownsRow_le ho (by simp);have c0:w1.cell? ⟨W.heap.size,0,none⟩=some (.pointer (some ⟨b,0,none⟩)):=(hb.cell (p:=⟨W.heap.size,0,none⟩) (by simp;try omega)).trans (by simp [go_sem]);have d0:w1.heap[W.heap.size+1]?=some (.cells #[.int .i64 0,.int .i64 0] 24 (0,0)):=(hb.block (W.heap.size+1) (by simp)).trans (halloc2 _ _ (by simp));have B1:Hid (Below W.heap.size W w1):=bstep (by repeat (first|exact Below.refl _ _|refine Below.setCell ?_ (by simp;try omega) _|refine Below.alloc ?_ (by simp;try omega) _|refine Below.drew ?_)) hb;have L1:Hid (W.heap.size+2≤w1.heap.size):=Nat.le_trans (by simp) hb.size;clear hb HC ho)
      | (go_at_call 140;refine (delD_any 141 callMz #[.pointer (some ⟨W.heap.size,0,none⟩)] (fun m=>hasS ps m.1 m.2 1024) (W.heap.size+2) ml _ w1 O1.out L1.out HMb.out (fun m _ w hb=>hpred.out w1 w hb B1.out c0 m)).mono ?_;rintro e w3 ⟨v3,rfl,ho,hb⟩;rw [HOL.out] at ho;obtain ⟨va3,vn3,rfl⟩:=ownv ho;have d1:=(hb.block (W.heap.size+1) (by omega)).trans d0;have z0:w3.cell? ⟨W.heap.size+1,0,none⟩=some (.int .i64 0):=(cell_of_row w3 (W.heap.size+1) 0 _ _ _ d1).trans rfl;have z1:w3.cell? ⟨W.heap.size+1,1,none⟩=some (.int .i64 0):=(cell_of_row w3 (W.heap.size+1) 1 _ _ _ d1).trans rfl;have f0:=frozen_of_row w3 (W.heap.size+1) 0 _ _ d1;have f1:=frozen_of_row w3 (W.heap.size+1) 1 _ _ d1;have B3:Hid (Below W.heap.size W w3):=B1.out.trans (hb.mono (by omega));clear hb ho d0 d1 c0))
    exact bodyPost_ret (v:=idE ((0,0),24)) (by simp [results,Tryz.results78,go_sem,idE, *]) rfl ⟨rfl,(B3.out.setCell (by simp) _).setCell (by simp) _⟩
  | [m] =>
    have eR:R=(m,0):=HR.out.symm
    subst eR
    clear HR
    have hlen:(List.length [m])=1:=rfl
    go_enter Tryz.func78,Tryz.ntmps78
    go_wp2_with (first
      | (go_at_call 139;refine (HC.out _ (by repeat (first|exact Below.refl _ _|refine Below.setCell ?_ (by simp;try omega) _|refine Below.alloc ?_ (by simp;try omega) _|refine Below.drew ?_))).mono ?_;rintro e w1 ⟨⟨v,rfl,ho⟩,hb⟩;obtain ⟨va,vn,rfl⟩:=ownv ho;have O1:Hid (w1.ownsRow (W.heap.size+2) 24 2 (.slice va ml.length vn) ml.length (flatD ml)):=Go.Joins.ownsRow_le ho (by simp);have c0:w1.cell? ⟨W.heap.size,0,none⟩=some (.pointer (some ⟨b,0,none⟩)):=(hb.cell (p:=⟨W.heap.size,0,none⟩) (by simp;try omega)).trans (by simp [go_sem]);have d0:w1.heap[W.heap.size+1]?=some (.cells #[.int .i64 0,.int .i64 0] 24 (0,0)):=(hb.block (W.heap.size+1) (by simp)).trans (halloc2 _ _ (by simp));have B1:Hid (Below W.heap.size W w1):=bstep (by repeat (first|exact Below.refl _ _|refine Below.setCell ?_ (by simp;try omega) _|refine Below.alloc ?_ (by simp;try omega) _|refine Below.drew ?_)) hb;have L1:Hid (W.heap.size+2≤w1.heap.size):=Nat.le_trans (by simp) hb.size;clear hb HC ho)
      | (go_at_call 140;refine (delD_any 141 callMz #[.pointer (some ⟨W.heap.size,0,none⟩)] (fun m=>hasS ps m.1 m.2 1024) (W.heap.size+2) ml _ w1 O1.out L1.out HMb.out (fun m _ w hb=>hpred.out w1 w hb B1.out c0 m)).mono ?_;rintro e w3 ⟨v3,rfl,ho,hb⟩;rw [HOL.out] at ho;obtain ⟨g3,vn3,rfl⟩:=Go.Joins.ownsRow_form ho (by simp);obtain ⟨r0,r1,_⟩:=rowD_cells (l:=[m]) ho (i:=0) rfl;simp only [Nat.zero_mul,Nat.zero_add] at r0 r1;have hg3:¬ g3=W.heap.size+1:=(by have:=(ho.lt g3 rfl).1;omega);have d1:=(hb.block (W.heap.size+1) (by omega)).trans d0;have z0:w3.cell? ⟨W.heap.size+1,0,none⟩=some (.int .i64 0):=(cell_of_row w3 (W.heap.size+1) 0 _ _ _ d1).trans rfl;have z1:w3.cell? ⟨W.heap.size+1,1,none⟩=some (.int .i64 0):=(cell_of_row w3 (W.heap.size+1) 1 _ _ _ d1).trans rfl;have f0:=frozen_of_row w3 (W.heap.size+1) 0 _ _ d1;have f1:=frozen_of_row w3 (W.heap.size+1) 1 _ _ d1;have B3:Hid (Below W.heap.size W w3):=B1.out.trans (hb.mono (by omega));clear hb ho d0 d1 c0))
    exact bodyPost_ret (v:=idE (m,0)) (by simp [results,Tryz.results78,go_sem,idE, *]) rfl ⟨rfl,(B3.out.setCell (by simp) _).setCell (by simp) _⟩
  | m::m'::r =>
    have eR:R=((0,0),23):=HR.out.symm
    subst eR
    clear HR
    have hl2:(m::m'::r).length=r.length+2:=rfl
    generalize (m::m'::r)=ol at *
    have n1:¬ (ol.length:Int)=0:=by omega
    have n2:¬ (ol.length:Int)=1:=by omega
    clear hl2
    go_enter Tryz.func78,Tryz.ntmps78
    go_wp2_with (first
      | (go_at_call 139;refine (HC.out _ (by repeat (first|exact Below.refl _ _|refine Below.setCell ?_ (by simp;try omega) _|refine Below.alloc ?_ (by simp;try omega) _|refine Below.drew ?_))).mono ?_;rintro e w1 ⟨⟨v,rfl,ho⟩,hb⟩;obtain ⟨va,vn,rfl⟩:=ownv ho;have O1:Hid (w1.ownsRow (W.heap.size+2) 24 2 (.slice va ml.length vn) ml.length (flatD ml)):=Go.Joins.ownsRow_le ho (by simp);have c0:w1.cell? ⟨W.heap.size,0,none⟩=some (.pointer (some ⟨b,0,none⟩)):=(hb.cell (p:=⟨W.heap.size,0,none⟩) (by simp;try omega)).trans (by simp [go_sem]);have d0:w1.heap[W.heap.size+1]?=some (.cells #[.int .i64 0,.int .i64 0] 24 (0,0)):=(hb.block (W.heap.size+1) (by simp)).trans (halloc2 _ _ (by simp));have B1:Hid (Below W.heap.size W w1):=bstep (by repeat (first|exact Below.refl _ _|refine Below.setCell ?_ (by simp;try omega) _|refine Below.alloc ?_ (by simp;try omega) _|refine Below.drew ?_)) hb;have L1:Hid (W.heap.size+2≤w1.heap.size):=Nat.le_trans (by simp) hb.size;clear hb HC ho)
      | (go_at_call 140;refine (delD_any 141 callMz #[.pointer (some ⟨W.heap.size,0,none⟩)] (fun m=>hasS ps m.1 m.2 1024) (W.heap.size+2) ml _ w1 O1.out L1.out HMb.out (fun m _ w hb=>hpred.out w1 w hb B1.out c0 m)).mono ?_;rintro e w3 ⟨v3,rfl,ho,hb⟩;rw [HOL.out] at ho;obtain ⟨va3,vn3,rfl⟩:=ownv ho;have d1:=(hb.block (W.heap.size+1) (by omega)).trans d0;have z0:w3.cell? ⟨W.heap.size+1,0,none⟩=some (.int .i64 0):=(cell_of_row w3 (W.heap.size+1) 0 _ _ _ d1).trans rfl;have z1:w3.cell? ⟨W.heap.size+1,1,none⟩=some (.int .i64 0):=(cell_of_row w3 (W.heap.size+1) 1 _ _ _ d1).trans rfl;have f0:=frozen_of_row w3 (W.heap.size+1) 0 _ _ d1;have f1:=frozen_of_row w3 (W.heap.size+1) 1 _ _ d1;have B3:Hid (Below W.heap.size W w3):=B1.out.trans (hb.mono (by omega));clear hb ho d0 d1 c0))
    exact bodyPost_ret (v:=idE ((0,0),23)) (by simp [results,Tryz.results78,go_sem,idE, *]) rfl ⟨rfl,(B3.out.setCell (by simp) _).setCell (by simp) _⟩
theorem one_no {b:Nat} {ps:List Plc} {W:World} (h:WAt b ps W) (c:Int) (hc:plcI ps c=none) (nm ds:ByteArray):Calls Tryz.prog 78 #[.pointer (some ⟨b,0,none⟩),.int .i64 c,.string nm,.string ds] W fun e w'=>e=.returned (idE ((0,0),3))∧Below W.heap.size W w':=by
  have HC:Hid (∀ w,Below W.heap.size W w→Calls Tryz.prog 139 #[.pointer (some ⟨b,0,none⟩),.int .i64 c,.string nm,.string ds] w fun e w'=>e=.returned (.tuple #[.slice none 0 0,.int .i64 3])∧Below w.heap.size w w'):=fun w hb=>max_no (h.below hb) c hc nm ds
  clear h hc
  go_enter Tryz.func78,Tryz.ntmps78
  go_wp2_with (go_at_call 139;refine (HC.out _ (by repeat (first|exact Below.refl _ _|refine Below.setCell ?_ (by simp;try omega) _|refine Below.alloc ?_ (by simp;try omega) _|refine Below.drew ?_))).mono ?_;rintro e w3 ⟨rfl,hb⟩;have d1:w3.heap[W.heap.size+1]?=some (.cells #[.int .i64 0,.int .i64 0] 24 (0,0)):=(hb.block (W.heap.size+1) (by simp)).trans (halloc2 _ _ (by simp));have z0:w3.cell? ⟨W.heap.size+1,0,none⟩=some (.int .i64 0):=(cell_of_row w3 (W.heap.size+1) 0 _ _ _ d1).trans rfl;have z1:w3.cell? ⟨W.heap.size+1,1,none⟩=some (.int .i64 0):=(cell_of_row w3 (W.heap.size+1) 1 _ _ _ d1).trans rfl;have f0:=frozen_of_row w3 (W.heap.size+1) 0 _ _ d1;have f1:=frozen_of_row w3 (W.heap.size+1) 1 _ _ d1;have B3:Hid (Below W.heap.size W w3):=bstep (by repeat (first|exact Below.refl _ _|refine Below.setCell ?_ (by simp;try omega) _|refine Below.alloc ?_ (by simp;try omega) _|refine Below.drew ?_)) hb;clear hb d1 HC)
  exact bodyPost_ret (v:=idE ((0,0),3)) (by simp [results,Tryz.results78,go_sem,idE, *]) rfl ⟨rfl,(B3.out.setCell (by simp) _).setCell (by simp) _⟩
theorem sameID_c (a b:Int×Int) (w:World):Calls Tryz.prog 20 #[.agg #[.int .i64 a.1,.int .i64 a.2],.agg #[.int .i64 b.1,.int .i64 b.2]] w fun e w'=>e=.returned (.bool ((a.1 == b.1)&&(a.2 == b.2)))∧Below w.heap.size w w':=by
  obtain ⟨a1,a2⟩:=a
  obtain ⟨b1,b2⟩:=b
  by_cases h1:a1=b1
  · by_cases h2:a2=b2
    · subst h1 h2
      go_enter Tryz.func20,Tryz.ntmps20
      go_wp2
      exact bodyPost_ret (results_tmp rfl _ _ _) rfl ⟨by simp,(by repeat (first|exact Below.refl _ _|refine Below.setCell ?_ (by simp;try omega) _|refine Below.alloc ?_ (by simp;try omega) _|refine Below.drew ?_))⟩
    · subst h1
      go_enter Tryz.func20,Tryz.ntmps20
      go_wp2
      exact bodyPost_ret (results_tmp rfl _ _ _) rfl ⟨by simp,(by repeat (first|exact Below.refl _ _|refine Below.setCell ?_ (by simp;try omega) _|refine Below.alloc ?_ (by simp;try omega) _|refine Below.drew ?_))⟩
  · go_enter Tryz.func20,Tryz.ntmps20
    go_wp2
    exact bodyPost_ret (results_tmp rfl _ _ _) rfl ⟨by simp [h1],(by repeat (first|exact Below.refl _ _|refine Below.setCell ?_ (by simp;try omega) _|refine Below.alloc ?_ (by simp;try omega) _|refine Below.drew ?_))⟩
def rckI (ps:List Plc) (i:Int):Int:=if (plcI ps i).isSome then 0 else 3
theorem hkeep {w:World} {n:Nat} {x o:Obj} (h:w.heap[n]?=some x):(w.alloc o).heap[n]?=some x:=by
  have hb:Below w.heap.size w (w.alloc o):=(Below.refl _ w).alloc (Nat.le_refl _) _
  exact (hb.block n (Array.getElem?_eq_some_iff.1 h).1).trans h
theorem rw2 {w:World} {n:Nat} {t:TypeId} {a0 a1:Value} (h:w.heap[n]?=some (.cells #[a0,a1] t (0,0))):w.cell? ⟨n,0,none⟩=some a0∧w.cell? ⟨n,1,none⟩=some a1∧(∀ k,w.frozen? ⟨n,k,none⟩=false)∧n<w.heap.size :=
  ⟨(cell_of_row w n 0 _ _ _ h).trans rfl,(cell_of_row w n 1 _ _ _ h).trans rfl,fun k=>frozen_of_row w n k _ _ h,(Array.getElem?_eq_some_iff.1 h).1⟩
theorem rw6 {w:World} {n:Nat} {t:TypeId} {a0 a1 a2 a3 a4 a5:Value} (h:w.heap[n]?=some (.cells #[a0,a1,a2,a3,a4,a5] t (0,0))):w.cell? ⟨n,0,none⟩=some a0∧w.cell? ⟨n,1,none⟩=some a1∧w.cell? ⟨n,2,none⟩=some a2∧w.cell? ⟨n,3,none⟩=some a3∧w.cell? ⟨n,4,none⟩=some a4∧w.cell? ⟨n,5,none⟩=some a5∧(∀ k,w.frozen? ⟨n,k,none⟩=false)∧n<w.heap.size :=
  ⟨(cell_of_row w n 0 _ _ _ h).trans rfl,(cell_of_row w n 1 _ _ _ h).trans rfl,(cell_of_row w n 2 _ _ _ h).trans rfl,(cell_of_row w n 3 _ _ _ h).trans rfl,(cell_of_row w n 4 _ _ _ h).trans rfl,(cell_of_row w n 5 _ _ _ h).trans rfl,fun k=>frozen_of_row w n k _ _ h,(Array.getElem?_eq_some_iff.1 h).1⟩
theorem open_c (f:Int) (W:World):Calls Tryz.prog 191 #[.int .i64 f] W fun e w'=>e=.returned (.int .i64 (openI f))∧w'=W:=by
  have HR:Hid (openI f=if hasI f 1 then 1 else if hasI f 4 then 4 else bits .and .i64 f 2):=Fl.own_open f
  have HH:Hid (∀ (x:Int) (y:Bool) (w:World),hasI f x=y→Calls Tryz.prog 216 #[.int .i64 f,.int .i64 x] w fun e w'=>e=.returned (.bool y)∧w'=w):=fun x y w hy=>by rw [← hy];exact Fl.hasAny_any f x w
  generalize openI f=r at *
  generalize hasI f=hz at *
  obtain ⟨b1,h1⟩:∃ b,hz 1=b:=⟨_,rfl⟩
  obtain ⟨b4,h4⟩:∃ b,hz 4=b:=⟨_,rfl⟩
  rw [h1,h4] at HR
  have H1:Hid _:=h1
  have H4:Hid _:=h4
  clear h1 h4
  cases b1 <;> cases b4
  all_goals
    go_enter Tryz.func191,Tryz.ntmps191
    go_wp2_with (go_at_call 216;refine (HH.out _ _ _ (by first|exact H1.out|exact H4.out)).mono ?_;rintro e w9 ⟨rfl,hw9⟩;rw [hw9];clear hw9 w9)
    exact bodyPost_ret (results_tmp rfl _ _ _) rfl ⟨by rw [HR.out];rfl,rfl⟩
theorem retB {a b:Bool} (h:a=b):Ending.returned (.bool a)=Ending.returned (.bool b):=by rw [h]
theorem open_cases (f:Int):openI f=1∨openI f=2∨openI f=4∨openI f=0:=by
  unfold openI
  split
  · exact .inl rfl
  · split
    · exact .inr (.inr (.inl rfl))
    · split
      · exact .inr (.inl rfl)
      · exact .inr (.inr (.inr rfl))
theorem meth_plc {ps:List Plc} {c i:Int} {m:HM} (h:methI ps c i=some m):∃ (k:Nat) (q:Plc),c=(k:Int)∧ps[k]?=some q∧plcI ps c=some q∧methP q i=some m:=by
  rcases plcI_cases ps c with ⟨h1,_⟩|⟨k,q,rfl,h2,h1⟩
  · rw [methI,h1] at h;cases h
  · rw [methI,h1] at h
    exact ⟨k,q,rfl,h2,h1,h⟩
end Go.Proofs.YthfifobokpfpkaaGreat
