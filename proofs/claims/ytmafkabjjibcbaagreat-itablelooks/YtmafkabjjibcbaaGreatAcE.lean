import Derived.Test.YtmafkabjjibcbaaGreatOrdB
set_option maxHeartbeats 1000000
set_option maxRecDepth 100000
namespace Go.Proofs.YtmafkabjjibcbaaGreat
open Go.RowKit Go.Maps
def wld (l:List Cls):List Plc:=l.foldl (fun ps c=>dfP ps (defN ps c)) P3
theorem wld_snoc (l:List Cls) (c:Cls):wld (l++[c])=dfP (wld l) (defN (wld l) c):=by
 rw [wld,List.foldl_append];rfl
theorem wld_at {l:List Cls} {i:Nat} {c:Cls} (h:l[i]?=some c):wld (l.take (i+1))=dfP (wld (l.take i)) (defN (wld (l.take i)) c):=by
 rw [List.take_add_one,h];exact wld_snoc _ _
theorem Zae {P:List Plc→Prop} (h3:P P3) (hd:∀ ps c,P ps→ClsW c→P (dfP ps (defN ps c))):∀ l:List Cls,(∀ c∈l,ClsW c)→P (wld l):=by
 have key:∀ (l:List Cls) (ps:List Plc),(∀ c∈l,ClsW c)→P ps→P (l.foldl (fun ps c=>dfP ps (defN ps c)) ps):=by
  intro l
  induction l with
  | nil=>exact fun ps _ h=>h
  | cons c l ih=>exact fun ps hl h=>ih _ (fun x hx=>hl x (List.mem_cons_of_mem _ hx)) (hd ps c h (hl c (by simp)))
 exact fun l hl=>key l P3 hl h3
theorem Zjy (l:List Cls) (hl:∀ c∈l,ClsW c):WI (wld l):=Zae wi3 (fun _ c h hc=>h.define c hc) l hl
theorem Zma {w:World} {v:Value} {l:List Cls} (h:Za4 w v l):∀ c∈l,ClsW c:=by
 obtain ⟨ao,cap,e,h1,h2,h3⟩:=h
 intro c hc
 obtain ⟨bk,o,_,_,h4⟩:=h3 (fun e=>by rw [e] at hc;simp at hc)
 obtain ⟨i,hi⟩:=List.mem_iff_getElem?.1 hc
 obtain ⟨vi,vm,_,hin⟩:=h4 i c hi
 exact hin.ok
theorem wld_wj (l:List Cls) (hl:∀ c∈l,ClsW c):WI (wld l)∧WJ (wld l):=Zae (P:=fun ps=>WI ps∧WJ ps) ⟨wi3,wj3⟩ (fun _ c h hc=>⟨h.1.define c hc,WJ.define h.1 h.2 c hc⟩) l hl
def extI (ps:List Plc) (a b:Int):Bool:=(plcI ps a).isSome&&(plcI ps b).isSome&&extB (ps.map nd) a.toNat b.toNat
theorem Zde {b:Nat} {ps:List Plc} {W:World} (h:WAt b ps W) (x y:Int) (hxy:plcI ps x=none∨plcI ps y=none):Calls Tryz.prog 132 #[.pointer (some ⟨b,0,none⟩),.int .i64 x,.int .i64 y] W fun e w'=>e=.returned (.bool false)∧Bw W w':=by
 have HX:Hid (∀ i z w,Bw W w→plcI ps i=z→Calls Tryz.prog 106 #[.pointer (some ⟨b,0,none⟩),.int .i64 i] w fun e w'=>e=.returned (.bool z.isSome)∧w'=w):=fun i z w hb hi=>by
  have:=Zbb (h.below hb) i
  rw [hi] at this;exact this
 clear h
 generalize hpx:plcI ps x=px at *
 generalize hpy:plcI ps y=py at *
 have HPX:Hid _:=hpx
 have HPY:Hid _:=hpy
 clear hpx hpy
 cases px with
 | none =>
   go_enter Tryz.func132,Tryz.ntmps132
   go_wp2_with (go_at_call 106;refine (HX.out _ _ _ sqR HPX.out).mono ?_;rintro e w9 ⟨rfl,hw9⟩;rw [hw9];clear hw9 w9)
   refine bodyPost_ret (v:=.bool false) (by simp [results,Tryz.results132,go_sem]) rfl ⟨rfl,sqR⟩
 | some p =>
   obtain rfl:py=none:=hxy.resolve_left (by simp)
   clear hxy
   have HX1:Hid (∀ i w,Bw W w→i=x→Calls Tryz.prog 106 #[.pointer (some ⟨b,0,none⟩),.int .i64 i] w fun e w'=>e=.returned (.bool true)∧w'=w):=fun i w hb hi=>by rw [hi];exact HX.out x _ w hb HPX.out
   have HY1:Hid (∀ i w,Bw W w→i=y→Calls Tryz.prog 106 #[.pointer (some ⟨b,0,none⟩),.int .i64 i] w fun e w'=>e=.returned (.bool false)∧w'=w):=fun i w hb hi=>by rw [hi];exact HX.out y _ w hb HPY.out
   go_enter Tryz.func132,Tryz.ntmps132
   go_wp2_with (first
    | (go_at_call 106;refine (HX1.out _ _ sqR (by rfl)).mono ?_;rintro e w9 ⟨rfl,hw9⟩;rw [hw9];clear hw9 w9)
    | (go_at_call 106;refine (HY1.out _ _ sqR (by rfl)).mono ?_;rintro e w9 ⟨rfl,hw9⟩;rw [hw9];clear hw9 w9))
   refine bodyPost_ret (v:=.bool false) (by simp [results,Tryz.results132,go_sem]) rfl ⟨rfl,sqR⟩
theorem Zgl {b:Nat} {ps:List Plc} {W:World} (h:WAt b ps W) (hi:WI ps) (x y:Int):Calls Tryz.prog 132 #[.pointer (some ⟨b,0,none⟩),.int .i64 x,.int .i64 y] W fun e w'=>e=.returned (.bool (extI ps x y))∧Bw W w':=by
 rcases Zl ps x with ⟨h1,_⟩|⟨k,p,rfl,h2,h1⟩
 ·have e:extI ps x y=false:=by rw [extI,h1];rfl
  rw [e];exact Zde h x y (.inl h1)
 ·rcases Zl ps y with ⟨g1,_⟩|⟨j,q,rfl,g2,g1⟩
  ·have e:extI ps k y=false:=by rw [extI,h1,g1];rfl
   rw [e];exact Zde h k y (.inr g1)
  ·have e:extI ps k j=extB (ps.map nd) k j:=by rw [extI,h1,g1];rfl
   obtain ⟨N,mb,vp,pv,h⟩:=h
   rw [e];exact Zhe N b mb ps vp pv k j (List.getElem?_eq_some_iff.1 h2).1 (List.getElem?_eq_some_iff.1 g2).1 hi.wo hi.hi W h
def ifcI (ps:List Plc) (i:Int):Bool:=match plcI ps i with
 | some q=>ifB q.c.fl
 | none=>false
theorem Qm {b:Nat} {ps:List Plc} {W:World} (h:WAt b ps W) (x:Int):Calls Tryz.prog 116 #[.pointer (some ⟨b,0,none⟩),.int .i64 x] W fun e w'=>e=.returned (.bool (ifcI ps x))∧Bw W w':=by
 obtain ⟨N,mb,vp,pv,h⟩:=h
 rcases Zl ps x with ⟨h1,h2⟩|⟨k,p,rfl,h2,h1⟩
 ·have e:ifcI ps x=false:=by rw [ifcI,h1]
  rw [e];exact Zg8 N b mb ps vp pv x W h h2
 ·have e:ifcI ps k=ifB p.c.fl:=by rw [ifcI,h1]
  rw [e];exact Qn N b mb ps vp pv k p W h h2
theorem len_c {b:Nat} {ps:List Plc} {W:World} (h:WAt b ps W):Calls Tryz.prog 95 #[.pointer (some ⟨b,0,none⟩)] W fun e w'=>e=.returned (.int .i64 (ps.length:Int))∧w'=W:=by
 obtain ⟨N,mb,vp,pv,h⟩:=h
 exact len_any N b mb ps vp pv W h
def ClsR (n:Nat):Option Plc→Ending→World→Prop
 | none,e,_=>e=.returned (.tuple #[.agg #[.string ⟨#[]⟩,.string ⟨#[]⟩,.slice none 0 0,.int .i64 0,.int .i64 0,.slice none 0 0],.int .i64 3])
 | some q,e,w'=>∃ vi vm qm,e=.returned (.tuple #[.agg #[.string q.c.nm,.string q.c.su,vi,.int .i64 q.c.fl,.int .i64 q.c.ld,vm],.int .i64 0])∧OwnC w' n vi q.c.ni q.c.xi vm qm∧qm.map Prod.fst=q.c.ms
theorem Zmd {b:Nat} {ps:List Plc} {W:World} (h:WAt b ps W) (hB:∀ q∈ps,PlcB q) (x:Int):Calls Tryz.prog 42 #[.pointer (some ⟨b,0,none⟩),.int .i64 x] W fun e w'=>ClsR W.heap.size (plcI ps x) e w'∧Bw W w':=by
 obtain ⟨N,mb,vp,pv,h⟩:=h
 rcases Zl ps x with ⟨h1,h2⟩|⟨k,p,rfl,h2,h1⟩
 ·rw [h1];exact class_no N b mb ps vp pv x W h h2
 ·rw [h1]
  refine (Zmc N b mb ps vp pv k p W h h2 (hB p (List.mem_of_getElem? h2))).mono ?_
  rintro e w' ⟨vi,vm,qm,h1,h2,h3,h4⟩
  exact ⟨⟨vi,vm,qm,h1,h2,h3⟩,h4⟩
theorem cand_mem {ps:List Plc} {nm ds:ByteArray} {cl:List Nat} {m:Int×Int} (h:m∈Zu ps nm ds cl):∃ i∈cl,m.1=(i:Int)∧fndI ps i nm ds=(m.2,0)∧hasS ps i m.2 10=false:=by
 rw [Zu,List.mem_flatMap] at h
 obtain ⟨i,hi,hm⟩:=h
 rw [Ze0] at hm
 split at hm
 next hc =>
  simp only [List.mem_singleton] at hm
  subst hm
  exact ⟨i,hi,rfl,Prod.ext rfl hc.1,hc.2⟩
 next=>simp at hm
def Xt (ps:List Plc) (l:List (Int×Int)) (m:Int×Int):Bool:=l.any fun o=>!(o.1 == m.1)&&extI ps o.1 m.1
def maxL (ps:List Plc) (l:List (Int×Int)):List (Int×Int):=l.filter fun m=>!Xt ps l m
theorem max_mem {ps:List Plc} {l:List (Int×Int)} {m:Int×Int} (h:m∈maxL ps l):m∈l:=(List.mem_filter.1 h).1
theorem Zeu {ps:List Plc} {a b:Nat} (ha:a<ps.length) (hb:b<ps.length):extI ps (a:Int) (b:Int)=extB (ps.map nd) a b:=by
 rw [extI,Z5,Z5,List.getElem?_eq_getElem ha,List.getElem?_eq_getElem hb];rfl
theorem Zjr {ps:List Plc} (hW:WI ps) {k:Nat} {q:Plc} (hq:ps[k]?=some q) {nm ds:ByteArray} {m:Int×Int} (h:m∈Zu ps nm ds q.cl):(∃ i:Nat,m.1=(i:Int)∧i<ps.length)∧ifcI ps m.1=true∧extI ps (k:Int) m.1=true∧∃ x,Zm ps m.1 m.2=some x∧x.nm.toList=nm.toList∧x.ds.toList=ds.toList∧hasI x.fl 10=false:=by
 obtain ⟨i,hi,h1,h2,h3⟩:=cand_mem h
 have hk:=(List.getElem?_eq_some_iff.1 hq).1
 have hcl:i∈clO (ps.map nd) k:=by rw [clO,nd_at' hq];exact hi
 obtain ⟨hlt,_,p,hp,hpi,_⟩:=Yh hW.wo hcl
 have hil:i<ps.length:=by omega
 have hpi2:ps[i]?=some ps[i]:=List.getElem?_eq_getElem hil
 have hpn:p=nd ps[i]:=by
  rw [nd_at' hpi2] at hp;exact (Option.some.inj hp).symm
 refine ⟨⟨i,h1,hil⟩,?_,?_,?_⟩
 ·rw [h1,ifcI,Z5,hpi2]
  rw [hpn] at hpi;exact hpi
 ·rw [h1,Zeu hk hil,Zav];exact .inr hcl
 ·rw [fndI,Z5,hpi2] at h2
  simp only at h2
  rcases Qb nm ds ps[i].c.ms 0 with e|⟨j,x,e,hj,hn,hd⟩
  ·rw [e,if_pos (by decide)] at h2
   have:=congrArg Prod.snd h2
   simp at this
  ·rw [e,if_neg (by omega)] at h2
   have hm2:m.2=(j:Int):=by have:=congrArg Prod.fst h2;simp at this;omega
   have hme:Zm ps m.1 m.2=some x:=by
    rw [Zm,h1,hm2,Z5,hpi2]
    show Y2 ps[i] (j:Int)=some x
    rw [Y2,if_pos (Int.natCast_nonneg j)];exact hj
   refine ⟨x,hme,hn,hd,?_⟩
   rw [h1] at hme
   rw [hasS,hme] at h3
   exact h3
def oneL (ps:List Plc) (l:List (Int×Int)):List (Int×Int):=(maxL ps l).filter fun m=>!hasS ps m.1 m.2 1024
def oneV (ps:List Plc) (l:List (Int×Int)):(Int×Int)×Int:=match oneL ps l with
 | []=>((0,0),24)
 | [m]=>(m,0)
 | _=>((0,0),23)
def Jt (ps:List Plc) (m o:Int×Int):Bool:=!(o.1 == m.1)&&extI ps o.1 m.1
theorem overB_eq (ps:List Plc) (l:List (Int×Int)) (m:Int×Int):Xt ps l m=l.any (Jt ps m):=rfl
theorem maxIn_c {b:Nat} {ps:List Plc} {W:World} (h:WAt b ps W) (hi:WI ps) (bm bw:Nat) (m o:Int×Int) (hm:W.cell? ⟨bm,0,none⟩=some (.int .i64 m.1)) (hw:W.cell? ⟨bw,0,none⟩=some (.pointer (some ⟨b,0,none⟩))):Calls Tryz.prog 186 (#[.agg #[.int .i64 o.1,.int .i64 o.2]]++#[.pointer (some ⟨bm,0,none⟩),.pointer (some ⟨bw,0,none⟩)]) W fun e w'=>e=.returned (.bool (Jt ps m o))∧Bw W w':=by
 show Calls Tryz.prog 186 #[.agg #[.int .i64 o.1,.int .i64 o.2],.pointer (some ⟨bm,0,none⟩),.pointer (some ⟨bw,0,none⟩)] W _
 have hlm:bm<W.heap.size:=World.block_lt_of_cell? W _ hm
 have hlw:bw<W.heap.size:=World.block_lt_of_cell? W _ hw
 have n1:¬ bm=W.heap.size:=by omega
 have n2:¬ bw=W.heap.size:=by omega
 have HE:Hid (∀ w,Bw W w→Calls Tryz.prog 132 #[.pointer (some ⟨b,0,none⟩),.int .i64 o.1,.int .i64 m.1] w fun e w'=>e=.returned (.bool (extI ps o.1 m.1))∧Bw W w'):=fun w hb=>(Zgl (h.below hb) hi o.1 m.1).mono fun e w' zz=>⟨zz.1,Zb hb zz.2⟩
 have HR:Hid (Jt ps m o=(!(o.1 == m.1)&&extI ps o.1 m.1)):=rfl
 generalize Jt ps m o=R at *
 generalize extI ps o.1 m.1=E at *
 obtain ⟨o1,o2⟩:=o
 obtain ⟨m1,m2⟩:=m
 simp only at HE HR hm
 clear h hi
 by_cases hq:o1=m1
 ·have hR:R=false:=by rw [HR.out,hq];simp
  subst hR
  subst hq
  go_enter Tryz.func186,Tryz.ntmps186
  go_wp2
  exact bodyPost_ret (results_tmp rfl _ _ _) rfl ⟨rfl,sqR⟩
 ·have hR:R=E:=by
   have e:(o1 == m1)=false:=by simpa using hq
   rw [HR.out,e];simp
  subst hR
  clear HR
  have hne:(o1 != m1)=true:=by simpa using hq
  go_enter Tryz.func186,Tryz.ntmps186
  go_wp2_with (go_at_call 132;refine (HE.out _ sqR).mono ?_;rintro e w1 ⟨rfl,hb⟩;have B1:Hid (Bw W w1):=hb;clear hb HE)
  exact bodyPost_ret (results_tmp rfl _ _ _) rfl ⟨rfl,B1.out⟩
theorem callMx (vs:Array Value) (w:World):(callFunc 186 vs).run Tryz.prog w=.ok (.enter 186 vs) w:=by simp [go_sem]
theorem callMy (vs:Array Value) (w:World):(callFunc 184 vs).run Tryz.prog w=.ok (.enter 184 vs) w:=by simp [go_sem]
theorem Zla {b:Nat} {ps:List Plc} {W:World} (h:WAt b ps W) (hi:WI ps) (ba bw N:Nat) (v:Value) (l:List (Int×Int)) (m:Int×Int) (ho:W.ownsRow N 38 2 v l.length (Zf l)) (hn:l.length≤1000000) (ha:W.cell? ⟨ba,0,none⟩=some v) (hw:W.cell? ⟨bw,0,none⟩=some (.pointer (some ⟨b,0,none⟩))):Calls Tryz.prog 184 (#[.agg #[.int .i64 m.1,.int .i64 m.2]]++#[.pointer (some ⟨ba,0,none⟩),.pointer (some ⟨bw,0,none⟩)]) W fun e w'=>e=.returned (.bool (Xt ps l m))∧Bw W w':=by
 show Calls Tryz.prog 184 #[.agg #[.int .i64 m.1,.int .i64 m.2],.pointer (some ⟨ba,0,none⟩),.pointer (some ⟨bw,0,none⟩)] W _
 have hla:ba<W.heap.size:=World.block_lt_of_cell? W _ ha
 have hlw:bw<W.heap.size:=World.block_lt_of_cell? W _ hw
 have n1:¬ ba=W.heap.size:=by omega
 have HC:Hid (∀ w,w=W.alloc (.cells #[.int .i64 m.1,.int .i64 m.2] 38)→Calls Tryz.prog 185 #[v,.func (.func 186) #[] #[.pointer (some ⟨W.heap.size,0,none⟩),.pointer (some ⟨bw,0,none⟩)]] w fun e w'=>e=.returned (.bool (Xt ps l m))∧Bw w w'):=by
  intro w hwe
  have hb0:Bw W w:=by rw [hwe];exact (Below.refl _ _).alloc (Nat.le_refl _) _
  refine conD_any 186 callMx _ (Jt ps m) N l v w (Zd ho hb0) hn (fun o _ w2 hb=>?_)
  have c0:w.cell? ⟨W.heap.size,0,none⟩=some (.int .i64 m.1):=by rw [hwe];simp [go_sem]
  exact maxIn_c (h.below (Zb hb0 hb)) hi W.heap.size bw m o ((hb.cell (p:=⟨W.heap.size,0,none⟩) (World.block_lt_of_cell? w _ c0)).trans c0) (((Zb hb0 hb).cell (p:=⟨bw,0,none⟩) hlw).trans hw)
 generalize Xt ps l m=R at *
 obtain ⟨va,vn,rfl⟩:=ownv ho
 clear h hi ho
 go_enter Tryz.func184,Tryz.ntmps184
 go_wp2_with (go_at_call 185;refine (HC.out _ rfl).mono ?_;rintro e w1 ⟨rfl,hb⟩;have B1:Hid (Bw W w1):=Zb sqR hb;clear hb HC)
 exact bodyPost_ret (results_tmp rfl _ _ _) rfl ⟨rfl,B1.out⟩
theorem max_pred {b:Nat} {ps:List Plc} {W w1 w2:World} {N:Nat} {va:Option Addr} {vn:Nat} {l:List (Int×Int)} (h:WAt b ps W) (hi:WI ps) (O1:w1.ownsRow N 38 2 (.slice va l.length vn) l.length (Zf l)) (c0:w1.cell? ⟨W.heap.size,0,none⟩=some (.pointer (some ⟨b,0,none⟩))) (hn:l.length≤1000000) (B1:Bw W w1) (B2:Below (w1.heap.size+1) (w1.alloc (.cells #[.slice va l.length vn] 30)) w2):Zju 184 #[.pointer (some ⟨w1.heap.size,0,none⟩),.pointer (some ⟨W.heap.size,0,none⟩)] (Xt ps l) l (w1.heap.size+1) w2:=by
 intro m _ w hb
 have hU:Below (w1.alloc (.cells #[.slice va l.length vn] 30)).heap.size (w1.alloc (.cells #[.slice va l.length vn] 30)) w:=by
  have:=B2.trans hb
  simpa using this
 have hl:W.heap.size<w1.heap.size:=World.block_lt_of_cell? w1 _ c0
 exact Zla (h.below (Zb (B1.alloc B1.size _) hU)) hi w1.heap.size W.heap.size N _ l m (Zd (O1.alloc _) hU) hn ((hU.cell (p:=⟨w1.heap.size,0,none⟩) (by simp)).trans (by simp [go_sem])) ((hU.cell (p:=⟨W.heap.size,0,none⟩) (by simp;omega)).trans (Lib.cell?_alloc_some _ c0))
theorem max_yes {b:Nat} {ps:List Plc} {W:World} (h:WAt b ps W) (hi:WI ps) (k:Nat) (q:Plc) (hq:ps[k]?=some q) (nm ds:ByteArray):Calls Tryz.prog 122 #[.pointer (some ⟨b,0,none⟩),.int .i64 (k:Int),.string nm,.string ds] W fun e w'=>(∃ v,e=.returned (.tuple #[v,.int .i64 0])∧w'.ownsRow W.heap.size 38 2 v (maxL ps (Zu ps nm ds q.cl)).length (Zf (maxL ps (Zu ps nm ds q.cl))))∧Bw W w':=by
 have hKb:(Zu ps nm ds q.cl).length≤1000000:=by
  obtain ⟨N,mb,vp,pv,h⟩:=h
  have hwf:=h.wf q (List.mem_of_getElem? hq)
  have:=Zt _ _ hwf.2 hwf.1
  have:=Qt ps nm ds q.cl
  have:=hi.hi
  omega
 have HC:Hid (∀ w,Bw W w→Calls Tryz.prog 182 #[.pointer (some ⟨b,0,none⟩),.int .i64 (k:Int),.string nm,.string ds] w fun e w'=>(∃ v,e=.returned (.tuple #[v,.int .i64 0])∧w'.ownsRow w.heap.size 38 2 v (Zu ps nm ds q.cl).length (Zf (Zu ps nm ds q.cl)))∧Bw w w'):=fun w hb=>cand_yes (h.below hb) hi.pb hi.hi k q hq nm ds
 have HW0:Hid (WAt b ps W):=h
 have HWI:Hid (WI ps):=hi
 obtain ⟨l,hl⟩:∃ l,Zu ps nm ds q.cl=l:=⟨_,rfl⟩
 rw [hl] at hKb HC ⊢
 have HKb:Hid (l.length≤1000000):=hKb
 clear h hi hq hl
 have HCL:Hid (∀ (N:Nat) (v:Value) (w:World),w.ownsRow N 38 2 v l.length (Zf l)→Calls Tryz.prog 183 #[v] w fun e w'=>∃ v',e=.returned v'∧w'.ownsRow w.heap.size 38 2 v' l.length (Zf l)∧Bw w w'):=fun N v w ho=>cloD_any N l v w ho hKb
 go_enter Tryz.func122,Tryz.ntmps122
 go_wp2_with (first
  | (go_at_call 182;refine (HC.out _ sqR).mono ?_;rintro e w1 ⟨⟨v,rfl,ho⟩,hb⟩;obtain ⟨va,vn,rfl⟩:=ownv ho;have O1:Hid (w1.ownsRow (W.heap.size+1) 38 2 (.slice va l.length vn) l.length (Zf l)):=Go.Joins.ownsRow_le ho (by simp);have c0:w1.cell? ⟨W.heap.size,0,none⟩=some (.pointer (some ⟨b,0,none⟩)):=(hb.cell (p:=⟨W.heap.size,0,none⟩) (by simp)).trans (by simp [go_sem]);have hl1:W.heap.size<w1.heap.size:=World.block_lt_of_cell? w1 _ c0;have B1:Hid (Bw W w1):=Zb sqR hb;clear hb HC ho)
  | (go_at_call 183;refine (HCL.out _ _ _ (O1.out.alloc _)).mono ?_;rintro e w2 ⟨v2,rfl,ho,hb⟩;obtain ⟨va2,vn2,rfl⟩:=ownv ho;have O2:Hid (w2.ownsRow (w1.heap.size+1) 38 2 (.slice va2 l.length vn2) l.length (Zf l)):=Go.Joins.ownsRow_le ho (by simp);have B2:Hid (Below (w1.heap.size+1) (w1.alloc (.cells #[.slice va l.length vn] 30)) w2):=hb.mono (by simp);clear hb HCL ho)
  | (go_at_call 123;have hpd:=max_pred HW0.out HWI.out O1.out c0 HKb.out B1.out B2.out;refine (Zbl 184 callMy #[.pointer (some ⟨w1.heap.size,0,none⟩),.pointer (some ⟨W.heap.size,0,none⟩)] (Xt ps l) (w1.heap.size+1) l _ w2 O2.out (by have:=B2.out.size;simpa using this) HKb.out hpd).mono ?_;rintro e w3 ⟨v3,rfl,ho,hb⟩;obtain ⟨va3,vn3,rfl⟩:=ownv ho;have O3:Hid (w3.ownsRow (w1.heap.size+1) 38 2 (.slice va3 (maxL ps l).length vn3) (maxL ps l).length (Zf (maxL ps l))):=ho;have B3:Hid (Below (w1.heap.size+1) w2 w3):=hb;clear hb ho hpd))
 refine bodyPost_ret (results_tmp2 rfl _ _ _) rfl ⟨⟨.slice va3 (maxL ps l).length vn3,rfl,Go.Joins.ownsRow_le O3.out (by omega)⟩,?_⟩
 have hb3:=B2.out.trans B3.out
 exact (B1.out.alloc B1.out.size _).trans (hb3.mono (by omega))
theorem max_no {b:Nat} {ps:List Plc} {W:World} (h:WAt b ps W) (c:Int) (hc:plcI ps c=none) (nm ds:ByteArray):Calls Tryz.prog 122 #[.pointer (some ⟨b,0,none⟩),.int .i64 c,.string nm,.string ds] W fun e w'=>e=.returned (.tuple #[.slice none 0 0,.int .i64 3])∧Bw W w':=by
 have HC:Hid (∀ w,Bw W w→Calls Tryz.prog 182 #[.pointer (some ⟨b,0,none⟩),.int .i64 c,.string nm,.string ds] w fun e w'=>e=.returned (.tuple #[.slice none 0 0,.int .i64 3])∧Bw w w'):=fun w hb=>cand_no (h.below hb) c hc nm ds
 clear h hc
 go_enter Tryz.func122,Tryz.ntmps122
 go_wp2_with (go_at_call 182;refine (HC.out _ sqR).mono ?_;rintro e w1 ⟨rfl,hb⟩;have B1:Hid (Bw W w1):=Zb sqR hb;clear hb HC)
 exact bodyPost_ret (results_tmp2 rfl _ _ _) rfl ⟨rfl,B1.out.alloc B1.out.size _⟩
theorem Zmk (vs:Array Value) (w:World):(callFunc 124 vs).run Tryz.prog w=.ok (.enter 124 vs) w:=by simp [go_sem]
theorem oneIn_c {b:Nat} {ps:List Plc} {W:World} (h:WAt b ps W) (hi:WI ps) (bw:Nat) (m:Int×Int) (hw:W.cell? ⟨bw,0,none⟩=some (.pointer (some ⟨b,0,none⟩))):Calls Tryz.prog 124 (#[.agg #[.int .i64 m.1,.int .i64 m.2]]++#[.pointer (some ⟨bw,0,none⟩)]) W fun e w'=>e=.returned (.bool (hasS ps m.1 m.2 1024))∧Bw W w':=by
 show Calls Tryz.prog 124 #[.agg #[.int .i64 m.1,.int .i64 m.2],.pointer (some ⟨bw,0,none⟩)] W _
 have hlw:bw<W.heap.size:=World.block_lt_of_cell? W _ hw
 have n2:¬ bw=W.heap.size:=by omega
 have HS:Hid (∀ w,Bw W w→Calls Tryz.prog 125 #[.pointer (some ⟨b,0,none⟩),.agg #[.int .i64 m.1,.int .i64 m.2],.int .i64 1024] w fun e w'=>e=.returned (.bool (hasS ps m.1 m.2 1024))∧Bw W w'):=fun w hb=>(hasS_c (h.below hb) hi.pb m.1 m.2 1024).mono fun e w' zz=>⟨zz.1,Zb hb zz.2⟩
 generalize hasS ps m.1 m.2 1024=R at *
 obtain ⟨m1,m2⟩:=m
 simp only at HS
 clear h hi
 go_enter Tryz.func124,Tryz.ntmps124
 go_wp2_with (go_at_call 125;refine (HS.out _ sqR).mono ?_;rintro e w1 ⟨rfl,hb⟩;have B1:Hid (Bw W w1):=hb;clear hb HS)
 exact bodyPost_ret (results_tmp rfl _ _ _) rfl ⟨rfl,B1.out⟩
theorem Za (w:World) {n:Nat} (o:Obj) (hn:w.heap.size=n):(w.alloc o).heap[n]?=some o:=by subst hn;exact Zo w o
def idE (x:(Int×Int)×Int):Value:=.tuple #[.agg #[.int .i64 x.1.1,.int .i64 x.1.2],.int .i64 x.2]
theorem one_yes {b:Nat} {ps:List Plc} {W:World} (h:WAt b ps W) (hi:WI ps) (k:Nat) (q:Plc) (hq:ps[k]?=some q) (nm ds:ByteArray):Calls Tryz.prog 66 #[.pointer (some ⟨b,0,none⟩),.int .i64 (k:Int),.string nm,.string ds] W fun e w'=>e=.returned (idE (oneV ps (Zu ps nm ds q.cl)))∧Bw W w':=by
 have hKb:(Zu ps nm ds q.cl).length≤1000000:=by
  obtain ⟨N,mb,vp,pv,h⟩:=h
  have hwf:=h.wf q (List.mem_of_getElem? hq)
  have:=Zt _ _ hwf.2 hwf.1
  have:=Qt ps nm ds q.cl
  have:=hi.hi
  omega
 have HC:Hid (∀ w,Bw W w→Calls Tryz.prog 122 #[.pointer (some ⟨b,0,none⟩),.int .i64 (k:Int),.string nm,.string ds] w fun e w'=>(∃ v,e=.returned (.tuple #[v,.int .i64 0])∧w'.ownsRow w.heap.size 38 2 v (maxL ps (Zu ps nm ds q.cl)).length (Zf (maxL ps (Zu ps nm ds q.cl))))∧Bw w w'):=fun w hb=>max_yes (h.below hb) hi k q hq nm ds
 have HW0:Hid (WAt b ps W):=h
 have HWI:Hid (WI ps):=hi
 obtain ⟨l,hl⟩:∃ l,Zu ps nm ds q.cl=l:=⟨_,rfl⟩
 rw [hl] at hKb HC ⊢
 have HMb:Hid ((maxL ps l).length≤1000000):=Nat.le_trans (List.length_filter_le _ _) hKb
 have HOL:Hid ((maxL ps l).filter (fun m=>!hasS ps m.1 m.2 1024)=oneL ps l):=rfl
 obtain ⟨R,hR⟩:∃ R,oneV ps l=R:=⟨_,rfl⟩
 have HR:Hid ((match oneL ps l with | []=>((0,0),24) | [m]=>(m,0)|_=>((0,0),23))=R):=hR
 rw [hR]
 generalize oneL ps l=ol at *
 generalize maxL ps l=ml at *
 clear h hi hq hl hR
 have hpred:Hid (∀ (w1 w:World),Below (W.heap.size+2) w1 w→Bw W w1→w1.cell? ⟨W.heap.size,0,none⟩=some (.pointer (some ⟨b,0,none⟩))→∀ m:Int×Int,Calls Tryz.prog 124 (#[.agg #[.int .i64 m.1,.int .i64 m.2]]++#[.pointer (some ⟨W.heap.size,0,none⟩)]) w fun e w'=>e=.returned (.bool (hasS ps m.1 m.2 1024))∧Bw w w'):=fun w1 w hb hb1 hc m=>oneIn_c (HW0.out.below (hb1.trans (hb.mono (by omega)))) HWI.out W.heap.size m ((hb.cell (p:=⟨W.heap.size,0,none⟩) (show W.heap.size<W.heap.size+2 by omega)).trans hc)
 match ol with
 | [] =>
   have eR:R=((0,0),24):=HR.out.symm
   subst eR
   clear HR
   go_enter Tryz.func66,Tryz.ntmps66
   go_wp2_with (first
    | (go_at_call 122;refine (HC.out _ sqR).mono ?_;rintro e w1 ⟨⟨v,rfl,ho⟩,hb⟩;obtain ⟨va,vn,rfl⟩:=ownv ho;have O1:Hid (w1.ownsRow (W.heap.size+2) 38 2 (.slice va ml.length vn) ml.length (Zf ml)):=Go.Joins.ownsRow_le ho (by simp);have c0:w1.cell? ⟨W.heap.size,0,none⟩=some (.pointer (some ⟨b,0,none⟩)):=(hb.cell (p:=⟨W.heap.size,0,none⟩) (by simp;try omega)).trans (by simp [go_sem]);have d0:w1.heap[W.heap.size+1]?=some (.cells #[.int .i64 0,.int .i64 0] 38 (0,0)):=(hb.block (W.heap.size+1) (by simp)).trans (Za _ _ (by simp));have B1:Hid (Bw W w1):=Zb sqR hb;have L1:Hid (W.heap.size+2≤w1.heap.size):=Nat.le_trans (by simp) hb.size;clear hb HC ho)
    | (go_at_call 123;refine (Zbl 124 Zmk #[.pointer (some ⟨W.heap.size,0,none⟩)] (fun m=>hasS ps m.1 m.2 1024) (W.heap.size+2) ml _ w1 O1.out L1.out HMb.out (fun m _ w hb=>hpred.out w1 w hb B1.out c0 m)).mono ?_;rintro e w3 ⟨v3,rfl,ho,hb⟩;rw [HOL.out] at ho;obtain ⟨va3,vn3,rfl⟩:=ownv ho;have d1:=(hb.block (W.heap.size+1) (by omega)).trans d0;have z0:w3.cell? ⟨W.heap.size+1,0,none⟩=some (.int .i64 0):=(cell_of_row w3 (W.heap.size+1) 0 _ _ _ d1).trans rfl;have z1:w3.cell? ⟨W.heap.size+1,1,none⟩=some (.int .i64 0):=(cell_of_row w3 (W.heap.size+1) 1 _ _ _ d1).trans rfl;have f0:=frozen_of_row w3 (W.heap.size+1) 0 _ _ d1;have f1:=frozen_of_row w3 (W.heap.size+1) 1 _ _ d1;have B3:Hid (Bw W w3):=B1.out.trans (hb.mono (by omega));clear hb ho d0 d1 c0))
   exact bodyPost_ret (v:=idE ((0,0),24)) (by simp [results,Tryz.results66,go_sem,idE, *]) rfl ⟨rfl,(B3.out.setCell (by simp) _).setCell (by simp) _⟩
 | [m] =>
   have eR:R=(m,0):=HR.out.symm
   subst eR
   clear HR
   have hlen:(List.length [m])=1:=rfl
   go_enter Tryz.func66,Tryz.ntmps66
   go_wp2_with (first
    | (go_at_call 122;refine (HC.out _ sqR).mono ?_;rintro e w1 ⟨⟨v,rfl,ho⟩,hb⟩;obtain ⟨va,vn,rfl⟩:=ownv ho;have O1:Hid (w1.ownsRow (W.heap.size+2) 38 2 (.slice va ml.length vn) ml.length (Zf ml)):=Go.Joins.ownsRow_le ho (by simp);have c0:w1.cell? ⟨W.heap.size,0,none⟩=some (.pointer (some ⟨b,0,none⟩)):=(hb.cell (p:=⟨W.heap.size,0,none⟩) (by simp;try omega)).trans (by simp [go_sem]);have d0:w1.heap[W.heap.size+1]?=some (.cells #[.int .i64 0,.int .i64 0] 38 (0,0)):=(hb.block (W.heap.size+1) (by simp)).trans (Za _ _ (by simp));have B1:Hid (Bw W w1):=Zb sqR hb;have L1:Hid (W.heap.size+2≤w1.heap.size):=Nat.le_trans (by simp) hb.size;clear hb HC ho)
    | (go_at_call 123;refine (Zbl 124 Zmk #[.pointer (some ⟨W.heap.size,0,none⟩)] (fun m=>hasS ps m.1 m.2 1024) (W.heap.size+2) ml _ w1 O1.out L1.out HMb.out (fun m _ w hb=>hpred.out w1 w hb B1.out c0 m)).mono ?_;rintro e w3 ⟨v3,rfl,ho,hb⟩;rw [HOL.out] at ho;obtain ⟨g3,vn3,rfl⟩:=Go.Joins.ownsRow_form ho (by simp);obtain ⟨r0,r1,_⟩:=Z9 (l:=[m]) ho (i:=0) rfl;simp only [Nat.zero_mul,Nat.zero_add] at r0 r1;have hg3:¬ g3=W.heap.size+1:=(by have:=(ho.lt g3 rfl).1;omega);have d1:=(hb.block (W.heap.size+1) (by omega)).trans d0;have z0:w3.cell? ⟨W.heap.size+1,0,none⟩=some (.int .i64 0):=(cell_of_row w3 (W.heap.size+1) 0 _ _ _ d1).trans rfl;have z1:w3.cell? ⟨W.heap.size+1,1,none⟩=some (.int .i64 0):=(cell_of_row w3 (W.heap.size+1) 1 _ _ _ d1).trans rfl;have f0:=frozen_of_row w3 (W.heap.size+1) 0 _ _ d1;have f1:=frozen_of_row w3 (W.heap.size+1) 1 _ _ d1;have B3:Hid (Bw W w3):=B1.out.trans (hb.mono (by omega));clear hb ho d0 d1 c0))
   exact bodyPost_ret (v:=idE (m,0)) (by simp [results,Tryz.results66,go_sem,idE, *]) rfl ⟨rfl,(B3.out.setCell (by simp) _).setCell (by simp) _⟩
 | m::m'::r =>
   have eR:R=((0,0),23):=HR.out.symm
   subst eR
   clear HR
   have hl2:(m::m'::r).length=r.length+2:=rfl
   generalize (m::m'::r)=ol at *
   have n1:¬ (ol.length:Int)=0:=by omega
   have n2:¬ (ol.length:Int)=1:=by omega
   clear hl2
   go_enter Tryz.func66,Tryz.ntmps66
   go_wp2_with (first
    | (go_at_call 122;refine (HC.out _ sqR).mono ?_;rintro e w1 ⟨⟨v,rfl,ho⟩,hb⟩;obtain ⟨va,vn,rfl⟩:=ownv ho;have O1:Hid (w1.ownsRow (W.heap.size+2) 38 2 (.slice va ml.length vn) ml.length (Zf ml)):=Go.Joins.ownsRow_le ho (by simp);have c0:w1.cell? ⟨W.heap.size,0,none⟩=some (.pointer (some ⟨b,0,none⟩)):=(hb.cell (p:=⟨W.heap.size,0,none⟩) (by simp;try omega)).trans (by simp [go_sem]);have d0:w1.heap[W.heap.size+1]?=some (.cells #[.int .i64 0,.int .i64 0] 38 (0,0)):=(hb.block (W.heap.size+1) (by simp)).trans (Za _ _ (by simp));have B1:Hid (Bw W w1):=Zb sqR hb;have L1:Hid (W.heap.size+2≤w1.heap.size):=Nat.le_trans (by simp) hb.size;clear hb HC ho)
    | (go_at_call 123;refine (Zbl 124 Zmk #[.pointer (some ⟨W.heap.size,0,none⟩)] (fun m=>hasS ps m.1 m.2 1024) (W.heap.size+2) ml _ w1 O1.out L1.out HMb.out (fun m _ w hb=>hpred.out w1 w hb B1.out c0 m)).mono ?_;rintro e w3 ⟨v3,rfl,ho,hb⟩;rw [HOL.out] at ho;obtain ⟨va3,vn3,rfl⟩:=ownv ho;have d1:=(hb.block (W.heap.size+1) (by omega)).trans d0;have z0:w3.cell? ⟨W.heap.size+1,0,none⟩=some (.int .i64 0):=(cell_of_row w3 (W.heap.size+1) 0 _ _ _ d1).trans rfl;have z1:w3.cell? ⟨W.heap.size+1,1,none⟩=some (.int .i64 0):=(cell_of_row w3 (W.heap.size+1) 1 _ _ _ d1).trans rfl;have f0:=frozen_of_row w3 (W.heap.size+1) 0 _ _ d1;have f1:=frozen_of_row w3 (W.heap.size+1) 1 _ _ d1;have B3:Hid (Bw W w3):=B1.out.trans (hb.mono (by omega));clear hb ho d0 d1 c0))
   exact bodyPost_ret (v:=idE ((0,0),23)) (by simp [results,Tryz.results66,go_sem,idE, *]) rfl ⟨rfl,(B3.out.setCell (by simp) _).setCell (by simp) _⟩
theorem one_no {b:Nat} {ps:List Plc} {W:World} (h:WAt b ps W) (c:Int) (hc:plcI ps c=none) (nm ds:ByteArray):Calls Tryz.prog 66 #[.pointer (some ⟨b,0,none⟩),.int .i64 c,.string nm,.string ds] W fun e w'=>e=.returned (idE ((0,0),3))∧Bw W w':=by
 have HC:Hid (∀ w,Bw W w→Calls Tryz.prog 122 #[.pointer (some ⟨b,0,none⟩),.int .i64 c,.string nm,.string ds] w fun e w'=>e=.returned (.tuple #[.slice none 0 0,.int .i64 3])∧Bw w w'):=fun w hb=>max_no (h.below hb) c hc nm ds
 clear h hc
 go_enter Tryz.func66,Tryz.ntmps66
 go_wp2_with (go_at_call 122;refine (HC.out _ sqR).mono ?_;rintro e w3 ⟨rfl,hb⟩;have d1:w3.heap[W.heap.size+1]?=some (.cells #[.int .i64 0,.int .i64 0] 38 (0,0)):=(hb.block (W.heap.size+1) (by simp)).trans (Za _ _ (by simp));have z0:w3.cell? ⟨W.heap.size+1,0,none⟩=some (.int .i64 0):=(cell_of_row w3 (W.heap.size+1) 0 _ _ _ d1).trans rfl;have z1:w3.cell? ⟨W.heap.size+1,1,none⟩=some (.int .i64 0):=(cell_of_row w3 (W.heap.size+1) 1 _ _ _ d1).trans rfl;have f0:=frozen_of_row w3 (W.heap.size+1) 0 _ _ d1;have f1:=frozen_of_row w3 (W.heap.size+1) 1 _ _ d1;have B3:Hid (Bw W w3):=Zb sqR hb;clear hb d1 HC)
 exact bodyPost_ret (v:=idE ((0,0),3)) (by simp [results,Tryz.results66,go_sem,idE, *]) rfl ⟨rfl,(B3.out.setCell (by simp) _).setCell (by simp) _⟩
theorem Zdu (a b:Int×Int) (w:World):Calls Tryz.prog 27 #[.agg #[.int .i64 a.1,.int .i64 a.2],.agg #[.int .i64 b.1,.int .i64 b.2]] w fun e w'=>e=.returned (.bool ((a.1 == b.1)&&(a.2 == b.2)))∧Bw w w':=by
 obtain ⟨a1,a2⟩:=a
 obtain ⟨b1,b2⟩:=b
 by_cases h1:a1=b1
 ·by_cases h2:a2=b2
  ·subst h1 h2
   go_enter Tryz.func27,Tryz.ntmps27
   go_wp2
   exact bodyPost_ret (results_tmp rfl _ _ _) rfl ⟨by simp,sqR⟩
  ·subst h1
   go_enter Tryz.func27,Tryz.ntmps27
   go_wp2
   exact bodyPost_ret (results_tmp rfl _ _ _) rfl ⟨by simp,sqR⟩
 ·go_enter Tryz.func27,Tryz.ntmps27
  go_wp2
  exact bodyPost_ret (results_tmp rfl _ _ _) rfl ⟨by simp [h1],sqR⟩
def rckI (ps:List Plc) (i:Int):Int:=if (plcI ps i).isSome then 0 else 3
theorem Zg {w:World} {n:Nat} {x o:Obj} (h:w.heap[n]?=some x):(w.alloc o).heap[n]?=some x:=by
 have hb:Bw w (w.alloc o):=(Below.refl _ w).alloc (Nat.le_refl _) _
 exact (hb.block n (Array.getElem?_eq_some_iff.1 h).1).trans h
theorem rw2 {w:World} {n:Nat} {t:TypeId} {a0 a1:Value} (h:w.heap[n]?=some (.cells #[a0,a1] t (0,0))):w.cell? ⟨n,0,none⟩=some a0∧w.cell? ⟨n,1,none⟩=some a1∧(∀ k,w.frozen? ⟨n,k,none⟩=false)∧n<w.heap.size :=
 ⟨(cell_of_row w n 0 _ _ _ h).trans rfl,(cell_of_row w n 1 _ _ _ h).trans rfl,fun k=>frozen_of_row w n k _ _ h,(Array.getElem?_eq_some_iff.1 h).1⟩
theorem rw6 {w:World} {n:Nat} {t:TypeId} {a0 a1 a2 a3 a4 a5:Value} (h:w.heap[n]?=some (.cells #[a0,a1,a2,a3,a4,a5] t (0,0))):w.cell? ⟨n,0,none⟩=some a0∧w.cell? ⟨n,1,none⟩=some a1∧w.cell? ⟨n,2,none⟩=some a2∧w.cell? ⟨n,3,none⟩=some a3∧w.cell? ⟨n,4,none⟩=some a4∧w.cell? ⟨n,5,none⟩=some a5∧(∀ k,w.frozen? ⟨n,k,none⟩=false)∧n<w.heap.size :=
 ⟨(cell_of_row w n 0 _ _ _ h).trans rfl,(cell_of_row w n 1 _ _ _ h).trans rfl,(cell_of_row w n 2 _ _ _ h).trans rfl,(cell_of_row w n 3 _ _ _ h).trans rfl,(cell_of_row w n 4 _ _ _ h).trans rfl,(cell_of_row w n 5 _ _ _ h).trans rfl,fun k=>frozen_of_row w n k _ _ h,(Array.getElem?_eq_some_iff.1 h).1⟩
theorem open_c (f:Int) (W:World):Calls Tryz.prog 234 #[.int .i64 f] W fun e w'=>e=.returned (.int .i64 (Y6 f))∧w'=W:=by
 have HR:Hid (Y6 f=if hasI f 1 then 1 else if hasI f 4 then 4 else bits .and .i64 f 2):=Fl.own_open f
 have HH:Hid (∀ (x:Int) (y:Bool) (w:World),hasI f x=y→Calls Tryz.prog 260 #[.int .i64 f,.int .i64 x] w fun e w'=>e=.returned (.bool y)∧w'=w):=fun x y w hy=>by rw [← hy];exact Fl.hasAny_any f x w
 generalize Y6 f=r at *
 generalize hasI f=hz at *
 obtain ⟨b1,h1⟩:∃ b,hz 1=b:=⟨_,rfl⟩
 obtain ⟨b4,h4⟩:∃ b,hz 4=b:=⟨_,rfl⟩
 rw [h1,h4] at HR
 have H1:Hid _:=h1
 have H4:Hid _:=h4
 clear h1 h4
 cases b1 <;> cases b4
 all_goals
  go_enter Tryz.func234,Tryz.ntmps234
  go_wp2_with (go_at_call 260;refine (HH.out _ _ _ (by first|exact H1.out|exact H4.out)).mono ?_;rintro e w9 ⟨rfl,hw9⟩;rw [hw9];clear hw9 w9)
  exact bodyPost_ret (results_tmp rfl _ _ _) rfl ⟨by rw [HR.out];rfl,rfl⟩
def pkB (nm:ByteArray):ByteArray:=⟨(pkgL nm.data.toList).toArray⟩
theorem retB {a b:Bool} (h:a=b):Ending.returned (.bool a)=Ending.returned (.bool b):=by rw [h]
theorem Zc3 (f:Int):Y6 f=1∨Y6 f=2∨Y6 f=4∨Y6 f=0:=by
 unfold Y6
 split
 ·exact .inl rfl
 ·split
  ·exact .inr (.inr (.inl rfl))
  ·split
   ·exact .inr (.inl rfl)
   ·exact .inr (.inr (.inr rfl))
theorem Yl {ps:List Plc} {c i:Int} {m:HM} (h:Zm ps c i=some m):∃ (k:Nat) (q:Plc),c=(k:Int)∧ps[k]?=some q∧plcI ps c=some q∧Y2 q i=some m:=by
 rcases Zl ps c with ⟨h1,_⟩|⟨k,q,rfl,h2,h1⟩
 ·rw [Zm,h1] at h;cases h
 ·rw [Zm,h1] at h
  exact ⟨k,q,rfl,h2,h1,h⟩
end Go.Proofs.YtmafkabjjibcbaaGreat
