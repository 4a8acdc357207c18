import Derived.Test.YtkoogmegdfpopaaGreatRfX
import Derived.Test.YtkoogmegdfpopaaGreatSoE
set_option maxRecDepth 100000
namespace Go.Proofs.YtkoogmegdfpopaaGreat
open Go.RowKit Go.Maps
def defN (ps:List Plc) (c:Cls):Except Int Plc :=
 if clsB c=true then
  if 300≤ps.length then .error 5 else
  match Z4 ps c.nm.data.toList with
  | some _=>.error 25
  | none=>match Zv ps c.nm c.ld (fitS c.fl) c.su.data.toList with
    | .error e=>.error e
    | .ok s=>match ifsN ps c.nm c.ld [] c.ifs with
      | .error e=>.error e
      | .ok l=>.ok ⟨hcOf c,s,Zz (ps.map Plc.cl) s l⟩
 else .error 1
def dfV (n:Nat):Except Int Plc→Value
 | .ok _=>.tuple #[.int .i64 (n:Int),.int .i64 0]
 | .error e=>.tuple #[.int .i64 0,.int .i64 e]
def dfP (ps:List Plc):Except Int Plc→List Plc
 | .ok p=>ps++[p]
 | .error _=>ps
theorem Zey {ps:List Plc} {nm:ByteArray} {ld:Int}:∀ (l:List (List UInt8)) (acc:List Nat) {x:Int},ifsN ps nm ld acc l=.error x→¬ x=0
 | [],_,_,h=>by cases h
 | p::r,acc,x,h=>by
   rw [ifsN] at h
   cases ha:Zv ps nm ld fitI p with
   | error y=>rw [ha] at h;cases h;exact Jb ha
   | ok k=>rw [ha] at h;exact Zey r _ h
theorem Zfp {ps:List Plc} {nm:ByteArray} {ld:Int}:∀ (l:List (List UInt8)) (acc ks:List Nat),ifsN ps nm ld acc l=.ok ks→∃ t,ks=acc++t∧t.length=l.length∧(∀ k∈t,k<ps.length)∧∀ (i:Nat) (p:List UInt8),l[i]?=some p→∃ k,t[i]?=some k∧Zv ps nm ld fitI p=.ok k
 | [],acc,ks,h=>by
   cases h
   exact ⟨[],by simp,rfl,fun k hk=>by simp at hk,fun i p hi=>by simp at hi⟩
 | p::r,acc,ks,h=>by
   rw [ifsN] at h
   cases ha:Zv ps nm ld fitI p with
   | error y=>rw [ha] at h;cases h
   | ok k =>
     rw [ha] at h
     obtain ⟨t,h1,h2,h3,h4⟩:=Zfp r _ ks h
     refine ⟨k::t,by rw [h1];simp,by simp [h2],fun j hj=>?_,fun i q hi=>?_⟩
     ·rcases List.mem_cons.1 hj with rfl|hj
      ·obtain ⟨_,q,hq,_⟩:=X4 ha
       exact (List.getElem?_eq_some_iff.1 hq).1
      ·exact h3 j hj
     ·cases i with
      | zero=>simp at hi;subst hi;exact ⟨k,rfl,ha⟩
      | succ i=>rw [List.getElem?_cons_succ] at hi;rw [List.getElem?_cons_succ];exact h4 i q hi
theorem Zbh (iface:Bool) (all:List Mth):∀ (l:List Mth) (k:Nat),Yv iface all l k=true→∀ m∈l,m.code.length≤200
 | [],_,_=>fun m hm=>by simp at hm
 | x::r,k,h=>by
   rw [Yv] at h
   simp only [Bool.and_eq_true] at h
   intro m hm
   rcases List.mem_cons.1 hm with rfl|hm
   ·have h1:=h.1.1
    unfold mthB at h1
    simp only [Bool.and_eq_true] at h1
    have h2:=h1.2
    split at h2
    ·simp only [Bool.and_eq_true,beq_iff_eq] at h2;omega
    ·simp only [Bool.and_eq_true] at h2
     have h3:=h2.2
     unfold allE at h3
     split at h3
     ·exact absurd h3 (by decide)
     ·omega
   ·exact Zbh iface all r (k+1) h.2 m hm
theorem Xb {c:Cls} (h:clsB c=true):c.ifs.length≤20∧c.ms.length≤40∧∀ m∈c.ms,m.code.length≤200:=by
 unfold clsB at h
 simp only [Bool.and_eq_true,Bool.not_eq_true',decide_eq_false_iff_not] at h
 obtain ⟨⟨⟨⟨⟨⟨⟨⟨⟨_,_⟩,_⟩,h4⟩,h5⟩,_⟩,_⟩,_⟩,_⟩,h10⟩:=h
 exact ⟨by omega,by omega,Zbh _ _ _ _ h10⟩
theorem J9 {w:World} {b n:Nat} {D:DataW Unit} {key:Value} {kl:Lit} (h:w.ownsMap Tryz.prog 9 (plainElem (H:=Unit) Tryz.prog 3) b n D) (hkey:keyOf Tryz.prog 9 key=some kl):∃ c:Int,(Instr.lookup 67 (.map (some b)) key true).run Tryz.prog w=.ok (.tuple #[.int .i64 c,.bool (Maps.has D kl)]) w:=by
 obtain ⟨v,ps,hrun,hv⟩:=h.look_ok law9 Tryz.underlying67 (Zcz _) (plainElem_int (H:=Unit) Tryz.underlying3 (a:=0) (by decide)) hkey
 obtain ⟨c,rfl,_⟩:=plainElem_int_inv Tryz.underlying3 hv
 exact ⟨c,hrun⟩
set_option maxHeartbeats 8000000 in
theorem Zg4 (N b mb:Nat) (ps:List Plc) (vp:Value) (pv:List PV) (c:Cls) (vi vm:Value) (W:World) (h:HW W N b mb ps vp pv) (hN:N≤W.heap.size) (hc:ClsIn W vi vm c) (hqz:∀ q∈ps,q.c.nm.size≤maxLen) :
 Calls Tryz.prog 8 #[.pointer (some ⟨b,0,none⟩),clsV c vi vm] W fun e w'=>e=.returned (dfV ps.length (defN ps c))∧(∃ vp' pv',HW w' N b mb (dfP ps (defN ps c)) vp' pv'∧(vp'=vp∧pv'=pv∨∃ q,defN ps c=.ok q∧NewP w' W.heap.size vp pv vp' pv' q))∧Below N W w'∧∀ j<W.heap.size,j≠b→j≠mb→some j≠vp.ownBlock→w'.heap[j]?=W.heap[j]?:=by
 obtain ⟨hcn,hcs,hci,hcf,hcl,hcm⟩:=hc.ok
 have HCk:Hid (∀ w:World,Bw W w→Calls Tryz.prog 28 #[clsV c vi vm] w fun e w'=>e=.returned (.int .i64 (clsE c))∧Bw w w'):=fun w hb=>Zg6 c vi vm w (hc.keep hb).ifs (hc.keep hb).ms hcn hcs hci (fun m hm=>⟨(hcm m hm).1,(hcm m hm).2.1,fun i hi=>((hcm m hm).2.2.2.2.2 i hi).2⟩) (fun m hm=>(hcm m hm).2.2.1) hcf
 have HSu:Hid (∀ w:World,Bw W w→Calls Tryz.prog 29 #[.pointer (some ⟨b,0,none⟩),clsV c vi vm] w fun e w'=>e=.returned (abvV (Zv ps c.nm c.ld (fitS c.fl) c.su.data.toList))∧Bw w w'):=fun w hb=>by
  obtain ⟨ai,ci,ei⟩:=(hc.rdw).1.slice
  obtain ⟨_,pm,_,hpm,_⟩:=hc.rdw
  obtain ⟨am,cm,em⟩:=hpm.slice
  rw [clsV,ei,em]
  exact Zcu N b mb ps vp pv c.nm c.su c.fl c.ld ai am _ ci _ cm w (h.below hb) hcs hcn hqz
 have HIf:Hid (c.ifs.length≤1000→∀ w:World,Bw W w→Calls Tryz.prog 30 #[.pointer (some ⟨b,0,none⟩),clsV c vi vm] w fun e w'=>IfR w.heap.size (ifsN ps c.nm c.ld [] c.ifs) e w'∧Bw w w'):=fun hl w hb=>by
  obtain ⟨_,pm,_,hpm,_⟩:=hc.rdw
  obtain ⟨am,cm,em⟩:=hpm.slice
  have hI:=(hc.keep hb).ifs
  obtain ⟨ai,ci,ei,_⟩:=hc.ifs
  rw [ei] at hI
  rw [clsV,ei,em]
  exact Za5 N b mb ps vp pv c.nm c.su c.fl c.ld c.ifs ai am ci _ cm w (h.below hb) hcn hqz hI hci hl
 have HAd:Hid (clsB c=true→∀ (s:Nat) (l:List Nat),s<ps.length→(∀ i∈l,i<ps.length)→l.length≤1000→ps.length<300→∀ (v:Value) (w:World),Bw W w→Rds w v l.length 1 (l.map numV)→Calls Tryz.prog 26 #[.pointer (some ⟨b,0,none⟩),clsV c vi vm,.int .i64 (s:Int),v] w fun e w'=>e=.returned (.int .i64 (ps.length:Int))∧(∃ vp' pv',HW w' N b mb (ps++[⟨hcOf c,s,Zz (ps.map Plc.cl) s l⟩]) vp' pv'∧NewP w' w.heap.size vp pv vp' pv' ⟨hcOf c,s,Zz (ps.map Plc.cl) s l⟩)∧Below N w w'∧∀ j<w.heap.size,j≠b→j≠mb→some j≠vp.ownBlock→w'.heap[j]?=w.heap[j]?):=by
  intro hcb s l hs hl hl2 hp v w hb hv
  obtain ⟨d1,d2,d3⟩:=Xb hcb
  obtain ⟨r1,pm,r2,r3,r4⟩:=(hc.keep hb).rdw
  have hlen:pm.length=c.ms.length:=by
   have:=congrArg List.length r2
   simpa [hcOf] using this
  refine Zf0 N b mb ps vp pv (hcOf c) vi vm pm s v l w (h.below hb) (Nat.le_trans hN hb.size) r1 (J5 _) (show c.ifs.length≤1000000 by omega) r3 r2 (by omega) (fun p hp=>⟨r4 p hp,?_⟩) hv hl hl2 (by omega) hp hcn
  have hp1:p.1∈(hcOf c).ms:=by rw [← r2];exact List.mem_map_of_mem hp
  obtain ⟨m,hm,e⟩:=List.mem_map.1 hp1
  rw [← e]
  exact ⟨Q0 _,show m.code.length≤1000000 by have:=d3 m hm;omega⟩
 have hlt:b<W.heap.size:=(Array.getElem?_eq_some_iff.1 h.hb).1
 have hlm:¬ b=W.heap.size:=by omega
 have b0:=cell_of_row W b 0 _ _ _ h.hb
 have b1:=cell_of_row W b 1 _ _ _ h.hb
 simp only [List.getElem?_toArray,List.getElem?_cons_zero,List.getElem?_cons_succ] at b0 b1
 obtain ⟨ap,cp,hvp⟩:=ownv h.row
 rw [h.len] at hvp
 rw [hvp] at b0
 have B0:Hid (W.cell? ⟨b,0,none⟩=some (.slice ap ps.length cp)):=b0
 have B1c:Hid (W.cell? ⟨b,1,none⟩=some (.map (some mb))):=b1
 obtain ⟨D,hD⟩:∃ D,Yy ps=D:=⟨_,rfl⟩
 have HOWN:Hid (∀ w:World,Bw W w→w.ownsMap Tryz.prog 9 (plainElem (H:=Unit) Tryz.prog 3) mb ps.length D):=fun w hb=>by rw [← hD];exact (h.below hb).map
 have hkey:=Go.WideMaps.keyOf_string_mk (P:=Tryz.prog) Tryz.underlying9 hcn
 have HKEY:Hid (keyOf Tryz.prog 9 (.string c.nm)=some (.string c.nm.data.toList)):=hkey
 have hhas:Maps.has D (.string c.nm.data.toList)=(Z4 ps c.nm.data.toList).isSome:=by
  rw [← hD,Yy,J8 _ _ _ _ isMap_empty,Z4];simp [Maps.has]
 obtain ⟨kl,hkl⟩:∃ k,k=Lit.string c.nm.data.toList:=⟨_,rfl⟩
 rw [← hkl] at HKEY hhas
 have HHW:Hid (HW W N b mb ps vp pv):=h
 have HE:Hid (clsE c=if clsB c then 0 else 1):=rfl
 obtain ⟨RD,hRD⟩:∃ RD,RD=defN ps c:=⟨_,rfl⟩
 rw [← hRD]
 have HRD:Hid (RD=defN ps c):=hRD
 have hci:∃ ai ni ci,vi=.slice ai ni ci:=by
  obtain ⟨a,k,e⟩:=(hc.rdw).1.slice
  exact ⟨a,_,k,e⟩
 have hcm:∃ am nm cm,vm=.slice am nm cm:=by
  obtain ⟨_,pm,_,hpm,_⟩:=hc.rdw
  obtain ⟨a,k,e⟩:=hpm.slice
  exact ⟨a,_,k,e⟩
 obtain ⟨ai,ni,ci,rfl⟩:=hci
 obtain ⟨am,nn,cm,rfl⟩:=hcm
 clear h hc hD hkey hkl hRD b0 b1 hvp hcs
 obtain ⟨nm,su,ifs,fl,ld,ms⟩:=c
 simp only [clsV] at *
 have BA:Hid (Bw W (W.alloc (.cells #[.string nm,.string su,.slice ai ni ci,.int .i64 fl,.int .i64 ld,.slice am nn cm] 33))):=(Below.refl _ _).alloc (Nat.le_refl _) _
 cases hcb:clsB ⟨nm,su,ifs,fl,ld,ms⟩ with
 | false =>
   have hRx:RD=.error 1:=by rw [HRD.out,defN,if_neg (by rw [hcb];decide)]
   rw [HE.out,hcb] at HCk
   simp only [Bool.false_eq_true,if_false] at HCk
   subst hRx
   clear HSu HIf HAd HRD HOWN HKEY hhas HE hcb
   go_enter Tryz.func8,Tryz.ntmps8
   go_wp2_with (first
    | (go_at_call 28;refine (HCk.out _ BA.out).mono ?_;rintro e w1 ⟨rfl,hb⟩;have B1:Hid (Bw W w1):=Zj BA.out hb;have hc0:=(hb.block W.heap.size (by simp)).trans (Xt W _);have HC1:Hid (w1.heap[W.heap.size]?=_):=hc0;have c0:=cell_of_row w1 W.heap.size 0 _ _ _ hc0;have c1:=cell_of_row w1 W.heap.size 1 _ _ _ hc0;have c2:=cell_of_row w1 W.heap.size 2 _ _ _ hc0;have c3:=cell_of_row w1 W.heap.size 3 _ _ _ hc0;have c4:=cell_of_row w1 W.heap.size 4 _ _ _ hc0;have c5:=cell_of_row w1 W.heap.size 5 _ _ _ hc0;simp only [List.getElem?_toArray,List.getElem?_cons_zero,List.getElem?_cons_succ] at c0 c1 c2 c3 c4 c5;have b0:=(B1.out.cell (p:=⟨b,0,none⟩) hlt).trans B0.out;have b1:=(B1.out.cell (p:=⟨b,1,none⟩) hlt).trans B1c.out;have hlw1:b<w1.heap.size:=Nat.lt_of_lt_of_le hlt B1.out.size;have hlsw1:W.heap.size<w1.heap.size:=(Array.getElem?_eq_some_iff.1 hc0).1;clear hb HCk hc0))
   exact bodyPost_ret (results_tmp2 rfl _ _ _) rfl ⟨rfl,⟨vp,pv,HHW.out.below B1.out,.inl ⟨rfl,rfl⟩⟩,B1.out.mono hN,fun j hj _ _ _=>B1.out.block j hj⟩
 | true =>
   rw [HE.out,hcb] at HCk
   simp only [if_true] at HCk
   have HIf:=HIf.out (by have:=(Xb hcb).1;simp only at this;omega)
   have HIf:Hid _:=HIf
   have HAd:Hid _:=HAd.out hcb
   have hdef:RD=(if 300≤ps.length then .error 5 else match Z4 ps nm.data.toList with
    | some _=>.error 25
    | none=>match Zv ps nm ld (fitS fl) su.data.toList with
      | .error e=>.error e
      | .ok s=>match ifsN ps nm ld [] ifs with
        | .error e=>.error e
        | .ok l=>.ok ⟨hcOf ⟨nm,su,ifs,fl,ld,ms⟩,s,Zz (ps.map Plc.cl) s l⟩):=by rw [HRD.out,defN,if_pos hcb]
   have hnif:=(Xb hcb).1
   simp only at hnif
   clear HRD HE hcb
   by_cases h300:300≤ps.length
   ·have hRx:RD=.error 5:=by rw [hdef,if_pos h300]
    have h301:(300:Int)≤(ps.length:Int):=by omega
    subst hRx
    clear HSu HIf HAd hdef HOWN HKEY hhas
    go_enter Tryz.func8,Tryz.ntmps8
    go_wp2_with (first
     | (go_at_call 28;refine (HCk.out _ BA.out).mono ?_;rintro e w1 ⟨rfl,hb⟩;have B1:Hid (Bw W w1):=Zj BA.out hb;have hc0:=(hb.block W.heap.size (by simp)).trans (Xt W _);have HC1:Hid (w1.heap[W.heap.size]?=_):=hc0;have c0:=cell_of_row w1 W.heap.size 0 _ _ _ hc0;have c1:=cell_of_row w1 W.heap.size 1 _ _ _ hc0;have c2:=cell_of_row w1 W.heap.size 2 _ _ _ hc0;have c3:=cell_of_row w1 W.heap.size 3 _ _ _ hc0;have c4:=cell_of_row w1 W.heap.size 4 _ _ _ hc0;have c5:=cell_of_row w1 W.heap.size 5 _ _ _ hc0;simp only [List.getElem?_toArray,List.getElem?_cons_zero,List.getElem?_cons_succ] at c0 c1 c2 c3 c4 c5;have b0:=(B1.out.cell (p:=⟨b,0,none⟩) hlt).trans B0.out;have b1:=(B1.out.cell (p:=⟨b,1,none⟩) hlt).trans B1c.out;have hlw1:b<w1.heap.size:=Nat.lt_of_lt_of_le hlt B1.out.size;have hlsw1:W.heap.size<w1.heap.size:=(Array.getElem?_eq_some_iff.1 hc0).1;clear hb HCk hc0))
    exact bodyPost_ret (results_tmp2 rfl _ _ _) rfl ⟨rfl,⟨vp,pv,HHW.out.below B1.out,.inl ⟨rfl,rfl⟩⟩,B1.out.mono hN,fun j hj _ _ _=>B1.out.block j hj⟩
   ·rw [if_neg h300] at hdef
    have h301:¬ (300:Int)≤(ps.length:Int):=by omega
    cases hl:Z4 ps nm.data.toList with
    | some k0 =>
      have hRx:RD=.error 25:=by rw [hdef,hl]
      have hz:Maps.has D kl=true:=by rw [hhas,hl];rfl
      subst hRx
      clear HSu HIf HAd hdef hhas hl
      go_enter Tryz.func8,Tryz.ntmps8
      go_wp2_with (first
       | (go_at_call 28;refine (HCk.out _ BA.out).mono ?_;rintro e w1 ⟨rfl,hb⟩;have B1:Hid (Bw W w1):=Zj BA.out hb;have hc0:=(hb.block W.heap.size (by simp)).trans (Xt W _);have HC1:Hid (w1.heap[W.heap.size]?=_):=hc0;have c0:=cell_of_row w1 W.heap.size 0 _ _ _ hc0;have c1:=cell_of_row w1 W.heap.size 1 _ _ _ hc0;have c2:=cell_of_row w1 W.heap.size 2 _ _ _ hc0;have c3:=cell_of_row w1 W.heap.size 3 _ _ _ hc0;have c4:=cell_of_row w1 W.heap.size 4 _ _ _ hc0;have c5:=cell_of_row w1 W.heap.size 5 _ _ _ hc0;simp only [List.getElem?_toArray,List.getElem?_cons_zero,List.getElem?_cons_succ] at c0 c1 c2 c3 c4 c5;have b0:=(B1.out.cell (p:=⟨b,0,none⟩) hlt).trans B0.out;have b1:=(B1.out.cell (p:=⟨b,1,none⟩) hlt).trans B1c.out;have hlw1:b<w1.heap.size:=Nat.lt_of_lt_of_le hlt B1.out.size;have hlsw1:W.heap.size<w1.heap.size:=(Array.getElem?_eq_some_iff.1 hc0).1;clear hb HCk hc0))
      obtain ⟨cc,hlk⟩:=J9 (World.ownsMap.drew (HOWN.out w1 B1.out)) HKEY.out
      rw [hz] at hlk
      go_region
      all_goals go_wp2
      all_goals exact bodyPost_ret (results_tmp2 rfl _ _ _) rfl ⟨rfl,⟨vp,pv,HHW.out.below B1.out.drew,.inl ⟨rfl,rfl⟩⟩,B1.out.drew.mono hN,fun j hj _ _ _=>B1.out.drew.block j hj⟩
    | none =>
      have hz:Maps.has D kl=false:=by rw [hhas,hl];rfl
      rw [hl] at hdef
      simp only at hdef
      clear hhas hl
      cases ha:Zv ps nm ld (fitS fl) su.data.toList with
      | error x =>
        have hRx:RD=.error x:=by rw [hdef,ha]
        have hx0:¬ x=0:=Jb ha
        rw [ha] at HSu
        subst hRx
        clear HIf HAd hdef ha
        go_enter Tryz.func8,Tryz.ntmps8
        go_wp2_with (first
         | (go_at_call 28;refine (HCk.out _ BA.out).mono ?_;rintro e w1 ⟨rfl,hb⟩;have B1:Hid (Bw W w1):=Zj BA.out hb;have hc0:=(hb.block W.heap.size (by simp)).trans (Xt W _);have HC1:Hid (w1.heap[W.heap.size]?=_):=hc0;have c0:=cell_of_row w1 W.heap.size 0 _ _ _ hc0;have c1:=cell_of_row w1 W.heap.size 1 _ _ _ hc0;have c2:=cell_of_row w1 W.heap.size 2 _ _ _ hc0;have c3:=cell_of_row w1 W.heap.size 3 _ _ _ hc0;have c4:=cell_of_row w1 W.heap.size 4 _ _ _ hc0;have c5:=cell_of_row w1 W.heap.size 5 _ _ _ hc0;simp only [List.getElem?_toArray,List.getElem?_cons_zero,List.getElem?_cons_succ] at c0 c1 c2 c3 c4 c5;have b0:=(B1.out.cell (p:=⟨b,0,none⟩) hlt).trans B0.out;have b1:=(B1.out.cell (p:=⟨b,1,none⟩) hlt).trans B1c.out;have hlw1:b<w1.heap.size:=Nat.lt_of_lt_of_le hlt B1.out.size;have hlsw1:W.heap.size<w1.heap.size:=(Array.getElem?_eq_some_iff.1 hc0).1;clear hb HCk hc0))
        obtain ⟨cc,hlk⟩:=J9 (World.ownsMap.drew (HOWN.out w1 B1.out)) HKEY.out
        rw [hz] at hlk
        go_region
        all_goals
         go_wp2_with (first
          | (go_at_call 29;refine (HSu.out _ B1.out.drew).mono ?_;rintro e w2 ⟨rfl,hb⟩;simp only [abvV];have B2:Hid (Bw W w2):=Zj B1.out.drew hb;have hc0:=(hb.block W.heap.size hlsw1).trans HC1.out;have HC2:Hid (w2.heap[W.heap.size]?=_):=hc0;clear c0 c1 c2 c3 c4 c5 b0 b1;have c0:=cell_of_row w2 W.heap.size 0 _ _ _ hc0;have c1:=cell_of_row w2 W.heap.size 1 _ _ _ hc0;have c2:=cell_of_row w2 W.heap.size 2 _ _ _ hc0;have c3:=cell_of_row w2 W.heap.size 3 _ _ _ hc0;have c4:=cell_of_row w2 W.heap.size 4 _ _ _ hc0;have c5:=cell_of_row w2 W.heap.size 5 _ _ _ hc0;simp only [List.getElem?_toArray,List.getElem?_cons_zero,List.getElem?_cons_succ] at c0 c1 c2 c3 c4 c5;have b0:=(B2.out.cell (p:=⟨b,0,none⟩) hlt).trans B0.out;have b1:=(B2.out.cell (p:=⟨b,1,none⟩) hlt).trans B1c.out;have hlw2:b<w2.heap.size:=Nat.lt_of_lt_of_le hlt B2.out.size;have hlsw2:W.heap.size<w2.heap.size:=(Array.getElem?_eq_some_iff.1 hc0).1;clear hb HSu hc0))
        all_goals exact bodyPost_ret (results_tmp2 rfl _ _ _) rfl ⟨rfl,⟨vp,pv,HHW.out.below B2.out,.inl ⟨rfl,rfl⟩⟩,B2.out.mono hN,fun j hj _ _ _=>B2.out.block j hj⟩
      | ok s =>
        obtain ⟨_,q,hq,_⟩:=X4 ha
        have hsl:=(List.getElem?_eq_some_iff.1 hq).1
        rw [ha] at hdef HSu
        simp only at hdef
        clear ha hq
        cases hi:ifsN ps nm ld [] ifs with
        | error x =>
          have hRx:RD=.error x:=by rw [hdef,hi]
          have hx0:¬ x=0:=Zey _ _ hi
          rw [hi] at HIf
          subst hRx
          clear HAd hdef hi
          go_enter Tryz.func8,Tryz.ntmps8
          go_wp2_with (first
           | (go_at_call 28;refine (HCk.out _ BA.out).mono ?_;rintro e w1 ⟨rfl,hb⟩;have B1:Hid (Bw W w1):=Zj BA.out hb;have hc0:=(hb.block W.heap.size (by simp)).trans (Xt W _);have HC1:Hid (w1.heap[W.heap.size]?=_):=hc0;have c0:=cell_of_row w1 W.heap.size 0 _ _ _ hc0;have c1:=cell_of_row w1 W.heap.size 1 _ _ _ hc0;have c2:=cell_of_row w1 W.heap.size 2 _ _ _ hc0;have c3:=cell_of_row w1 W.heap.size 3 _ _ _ hc0;have c4:=cell_of_row w1 W.heap.size 4 _ _ _ hc0;have c5:=cell_of_row w1 W.heap.size 5 _ _ _ hc0;simp only [List.getElem?_toArray,List.getElem?_cons_zero,List.getElem?_cons_succ] at c0 c1 c2 c3 c4 c5;have b0:=(B1.out.cell (p:=⟨b,0,none⟩) hlt).trans B0.out;have b1:=(B1.out.cell (p:=⟨b,1,none⟩) hlt).trans B1c.out;have hlw1:b<w1.heap.size:=Nat.lt_of_lt_of_le hlt B1.out.size;have hlsw1:W.heap.size<w1.heap.size:=(Array.getElem?_eq_some_iff.1 hc0).1;clear hb HCk hc0))
          obtain ⟨cc,hlk⟩:=J9 (World.ownsMap.drew (HOWN.out w1 B1.out)) HKEY.out
          rw [hz] at hlk
          go_region
          all_goals
           go_wp2_with (first
            | (go_at_call 29;refine (HSu.out _ B1.out.drew).mono ?_;rintro e w2 ⟨rfl,hb⟩;simp only [abvV];have B2:Hid (Bw W w2):=Zj B1.out.drew hb;have hc0:=(hb.block W.heap.size hlsw1).trans HC1.out;have HC2:Hid (w2.heap[W.heap.size]?=_):=hc0;clear c0 c1 c2 c3 c4 c5 b0 b1;have c0:=cell_of_row w2 W.heap.size 0 _ _ _ hc0;have c1:=cell_of_row w2 W.heap.size 1 _ _ _ hc0;have c2:=cell_of_row w2 W.heap.size 2 _ _ _ hc0;have c3:=cell_of_row w2 W.heap.size 3 _ _ _ hc0;have c4:=cell_of_row w2 W.heap.size 4 _ _ _ hc0;have c5:=cell_of_row w2 W.heap.size 5 _ _ _ hc0;simp only [List.getElem?_toArray,List.getElem?_cons_zero,List.getElem?_cons_succ] at c0 c1 c2 c3 c4 c5;have b0:=(B2.out.cell (p:=⟨b,0,none⟩) hlt).trans B0.out;have b1:=(B2.out.cell (p:=⟨b,1,none⟩) hlt).trans B1c.out;have hlw2:b<w2.heap.size:=Nat.lt_of_lt_of_le hlt B2.out.size;have hlsw2:W.heap.size<w2.heap.size:=(Array.getElem?_eq_some_iff.1 hc0).1;clear hb HSu hc0)
            | (go_at_call 30;refine (HIf.out _ B2.out).mono ?_;rintro e w3 ⟨hi,hb⟩;subst hi;have B3:Hid (Bw W w3):=Zj B2.out hb;have hc0:=(hb.block W.heap.size hlsw2).trans HC2.out;have HC3:Hid (w3.heap[W.heap.size]?=_):=hc0;clear c0 c1 c2 c3 c4 c5 b0 b1;have c0:=cell_of_row w3 W.heap.size 0 _ _ _ hc0;have c1:=cell_of_row w3 W.heap.size 1 _ _ _ hc0;have c2:=cell_of_row w3 W.heap.size 2 _ _ _ hc0;have c3:=cell_of_row w3 W.heap.size 3 _ _ _ hc0;have c4:=cell_of_row w3 W.heap.size 4 _ _ _ hc0;have c5:=cell_of_row w3 W.heap.size 5 _ _ _ hc0;simp only [List.getElem?_toArray,List.getElem?_cons_zero,List.getElem?_cons_succ] at c0 c1 c2 c3 c4 c5;have b0:=(B3.out.cell (p:=⟨b,0,none⟩) hlt).trans B0.out;have b1:=(B3.out.cell (p:=⟨b,1,none⟩) hlt).trans B1c.out;have hlw3:b<w3.heap.size:=Nat.lt_of_lt_of_le hlt B3.out.size;have hlsw3:W.heap.size<w3.heap.size:=(Array.getElem?_eq_some_iff.1 hc0).1;clear hb HIf hc0))
          all_goals exact bodyPost_ret (results_tmp2 rfl _ _ _) rfl ⟨rfl,⟨vp,pv,HHW.out.below B3.out,.inl ⟨rfl,rfl⟩⟩,B3.out.mono hN,fun j hj _ _ _=>B3.out.block j hj⟩
        | ok l =>
          obtain ⟨t,ht,htl,htn,_⟩:=Zfp _ _ _ hi
          simp only [List.nil_append] at ht
          subst ht
          have hRx:RD=.ok ⟨hcOf ⟨nm,su,ifs,fl,ld,ms⟩,s,Zz (ps.map Plc.cl) s l⟩:=by rw [hdef,hi]
          have HAd:Hid _:=HAd.out s l hsl htn (by omega) (by omega)
          rw [hi] at HIf
          subst hRx
          clear hdef hi htn htl
          go_enter Tryz.func8,Tryz.ntmps8
          go_wp2_with (first
           | (go_at_call 28;refine (HCk.out _ BA.out).mono ?_;rintro e w1 ⟨rfl,hb⟩;have B1:Hid (Bw W w1):=Zj BA.out hb;have hc0:=(hb.block W.heap.size (by simp)).trans (Xt W _);have HC1:Hid (w1.heap[W.heap.size]?=_):=hc0;have c0:=cell_of_row w1 W.heap.size 0 _ _ _ hc0;have c1:=cell_of_row w1 W.heap.size 1 _ _ _ hc0;have c2:=cell_of_row w1 W.heap.size 2 _ _ _ hc0;have c3:=cell_of_row w1 W.heap.size 3 _ _ _ hc0;have c4:=cell_of_row w1 W.heap.size 4 _ _ _ hc0;have c5:=cell_of_row w1 W.heap.size 5 _ _ _ hc0;simp only [List.getElem?_toArray,List.getElem?_cons_zero,List.getElem?_cons_succ] at c0 c1 c2 c3 c4 c5;have b0:=(B1.out.cell (p:=⟨b,0,none⟩) hlt).trans B0.out;have b1:=(B1.out.cell (p:=⟨b,1,none⟩) hlt).trans B1c.out;have hlw1:b<w1.heap.size:=Nat.lt_of_lt_of_le hlt B1.out.size;have hlsw1:W.heap.size<w1.heap.size:=(Array.getElem?_eq_some_iff.1 hc0).1;clear hb HCk hc0))
          obtain ⟨cc,hlk⟩:=J9 (World.ownsMap.drew (HOWN.out w1 B1.out)) HKEY.out
          rw [hz] at hlk
          go_region
          all_goals
           go_wp2_with (first
            | (go_at_call 29;refine (HSu.out _ B1.out.drew).mono ?_;rintro e w2 ⟨rfl,hb⟩;simp only [abvV];have B2:Hid (Bw W w2):=Zj B1.out.drew hb;have hc0:=(hb.block W.heap.size hlsw1).trans HC1.out;have HC2:Hid (w2.heap[W.heap.size]?=_):=hc0;clear c0 c1 c2 c3 c4 c5 b0 b1;have c0:=cell_of_row w2 W.heap.size 0 _ _ _ hc0;have c1:=cell_of_row w2 W.heap.size 1 _ _ _ hc0;have c2:=cell_of_row w2 W.heap.size 2 _ _ _ hc0;have c3:=cell_of_row w2 W.heap.size 3 _ _ _ hc0;have c4:=cell_of_row w2 W.heap.size 4 _ _ _ hc0;have c5:=cell_of_row w2 W.heap.size 5 _ _ _ hc0;simp only [List.getElem?_toArray,List.getElem?_cons_zero,List.getElem?_cons_succ] at c0 c1 c2 c3 c4 c5;have b0:=(B2.out.cell (p:=⟨b,0,none⟩) hlt).trans B0.out;have b1:=(B2.out.cell (p:=⟨b,1,none⟩) hlt).trans B1c.out;have hlw2:b<w2.heap.size:=Nat.lt_of_lt_of_le hlt B2.out.size;have hlsw2:W.heap.size<w2.heap.size:=(Array.getElem?_eq_some_iff.1 hc0).1;clear hb HSu hc0)
            | (go_at_call 30;refine (HIf.out _ B2.out).mono ?_;rintro e w3 ⟨hi,hb⟩;obtain ⟨v3,rfl,hown3⟩:=hi;obtain ⟨a3,k3,rfl⟩:=ownv hown3;have OV:Hid (Rds w3 (.slice a3 l.length k3) l.length 1 (l.map numV)):=Zw hown3;clear hown3;have B3:Hid (Bw W w3):=Zj B2.out hb;have hc0:=(hb.block W.heap.size hlsw2).trans HC2.out;have HC3:Hid (w3.heap[W.heap.size]?=_):=hc0;clear c0 c1 c2 c3 c4 c5 b0 b1;have c0:=cell_of_row w3 W.heap.size 0 _ _ _ hc0;have c1:=cell_of_row w3 W.heap.size 1 _ _ _ hc0;have c2:=cell_of_row w3 W.heap.size 2 _ _ _ hc0;have c3:=cell_of_row w3 W.heap.size 3 _ _ _ hc0;have c4:=cell_of_row w3 W.heap.size 4 _ _ _ hc0;have c5:=cell_of_row w3 W.heap.size 5 _ _ _ hc0;simp only [List.getElem?_toArray,List.getElem?_cons_zero,List.getElem?_cons_succ] at c0 c1 c2 c3 c4 c5;have b0:=(B3.out.cell (p:=⟨b,0,none⟩) hlt).trans B0.out;have b1:=(B3.out.cell (p:=⟨b,1,none⟩) hlt).trans B1c.out;have hlw3:b<w3.heap.size:=Nat.lt_of_lt_of_le hlt B3.out.size;have hlsw3:W.heap.size<w3.heap.size:=(Array.getElem?_eq_some_iff.1 hc0).1;clear hb HIf hc0)
            | (go_at_call 26;refine (HAd.out _ _ B3.out OV.out).mono ?_;rintro e w4 ⟨rfl,hw,hbN,hk⟩;have W4:Hid _:=hw;have B4:Hid (Below N W w4):=(B3.out.mono hN).trans hbN;have K4:Hid (∀ j<W.heap.size,j≠b→j≠mb→some j≠vp.ownBlock→w4.heap[j]?=W.heap[j]?):=fun j hj h1 h2 h3=>(hk j (Nat.lt_of_lt_of_le hj B3.out.size) h1 h2 h3).trans (B3.out.block j hj);clear hw hbN hk HAd))
          all_goals exact bodyPost_ret (results_tmp2 rfl _ _ _) rfl ⟨rfl,(by obtain ⟨x1,x2,x3,x4⟩:=W4.out;exact ⟨x1,x2,x3,.inr ⟨_,rfl,x4.le B3.out.size⟩⟩),B4.out,K4.out⟩
end Go.Proofs.YtkoogmegdfpopaaGreat
