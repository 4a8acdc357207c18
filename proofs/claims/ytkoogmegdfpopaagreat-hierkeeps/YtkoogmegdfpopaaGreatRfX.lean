import Derived.Test.YtkoogmegdfpopaaGreatHrP
import Derived.Test.YtkoogmegdfpopaaGreatWdB
set_option maxHeartbeats 4000000
set_option maxRecDepth 100000
namespace Go.Proofs.YtkoogmegdfpopaaGreat
open Go.RowKit Go.Maps
structure CR where
 c:Cls
 vi:Value
 vm:Value
def crC (r:CR):List Value:=[.string r.c.nm,.string r.c.su,r.vi,.int .i64 r.c.fl,.int .i64 r.c.ld,r.vm]
def Jm (l:List CR):List Value:=l.flatMap crC
theorem Zfs (l:List CR) (k:Nat) (p:CR) (h:l[k]?=some p) (j:Nat) (hj:j<6):(Jm l)[k * 6+j]?=(crC p)[j]?:=by
 induction l generalizing k with
 | nil=>simp at h
 | cons u ts ih =>
   have e:Jm (u::ts)=crC u++Jm ts:=by simp [Jm]
   rw [e]
   cases k with
   | zero=>simp at h;subst h;rw [List.getElem?_append_left (by simp [crC];omega)];simp
   | succ k =>
     simp at h
     rw [List.getElem?_append_right (by simp [crC];omega)]
     have:=ih k h
     rw [← this]
     congr 1
     simp [crC];omega
def CrO (w:World) (N:Nat) (r:CR):Prop:=∃ qm,qm.map Prod.fst=r.c.ms.map hmOf∧OwnC w N r.vi r.c.ifs.length (Z0 r.c.ifs) r.vm qm
structure RW (w:World) (N b:Nat) (v:Value) (rs:List CR):Prop where
 hb:w.heap[b]?=some (.cells #[v] 74 (0,0))
 row:w.ownsRow N 33 6 v rs.length (Jm rs)
 own:∀ r∈rs,CrO w N r
 lb:N≤b
theorem OwnC.below {w w':World} {N:Nat} {vi:Value} {ni:Nat} {xi:List Value} {vm:Value} {qm:List (HM×Value)} (h:OwnC w N vi ni xi vm qm) (hb:Bw w w'):OwnC w' N vi ni xi vm qm :=
 ⟨Zi h.ifs hb,Zi h.ms hb,fun x hx=>Zi (h.cod x hx) hb⟩
theorem CrO.below {w w':World} {N:Nat} {r:CR} (h:CrO w N r) (hb:Bw w w'):CrO w' N r:=by
 obtain ⟨qm,h1,h2⟩:=h
 exact ⟨qm,h1,h2.below hb⟩
theorem RW.below {w w':World} {N b:Nat} {v:Value} {rs:List CR} (h:RW w N b v rs) (hb:Bw w w'):RW w' N b v rs :=
 ⟨(hb.block b (Array.getElem?_eq_some_iff.1 h.hb).1).trans h.hb,Zi h.row hb,fun r hr=>(h.own r hr).below hb,h.lb⟩
def RAt (b:Nat) (cs:List Cls) (w:World):Prop:=∃ N v rs,RW w N b v rs∧rs.map CR.c=cs
theorem RAt.below {b:Nat} {cs:List Cls} {w w':World} (h:RAt b cs w) (hb:Bw w w'):RAt b cs w':=by
 obtain ⟨N,v,rs,h,e⟩:=h
 exact ⟨N,v,rs,h.below hb,e⟩
theorem Yz {w:World} {v:Value} {l:List (List UInt8)} (h:Rds w v l.length 1 (Z0 l)):IsStrs w v l:=by
 rcases h.val with ⟨rfl,e⟩|⟨bk,o,cap,rfl,h1,h2,h3,h4⟩
 ·obtain rfl:l=[]:=List.length_eq_zero_iff.1 e
  exact ⟨none,0,rfl,Nat.le_refl _,by unfold maxLen;omega,fun h=>absurd rfl h⟩
 ·exact ⟨_,cap,rfl,h1,h2,fun _=>⟨bk,o,rfl,h3,fun k p hk=>h4 k _ (by rw [Z0,List.getElem?_map,hk];rfl)⟩⟩
theorem Zfg {w:World} {v:Value} {l:List Ins} (h:Rds w v l.length 7 (Yr l)):IsInss w v l:=by
 rcases h.val with ⟨rfl,e⟩|⟨bk,o,cap,rfl,h1,h2,h3,h4⟩
 ·obtain rfl:l=[]:=List.length_eq_zero_iff.1 e
  exact ⟨none,0,rfl,Nat.le_refl _,by unfold maxLen;omega,fun h=>absurd rfl h⟩
 ·refine ⟨_,cap,rfl,h1,h2,fun _=>⟨bk,o,rfl,h3,fun k i hk=>?_⟩⟩
  have g:=fun j hj=>Zas l k i hk j hj
  have f:=fun j u (hj:j<7) (hu:(insC i)[j]?=some u)=>h4 (k * 7+j) u ((g j hj).trans hu)
  have f0:=f 0 _ (by omega) rfl
  have f1:=f 1 _ (by omega) rfl
  have f2:=f 2 _ (by omega) rfl
  have f3:=f 3 _ (by omega) rfl
  have f4:=f 4 _ (by omega) rfl
  have f5:=f 5 _ (by omega) rfl
  have f6:=f 6 _ (by omega) rfl
  simp only [← Nat.add_assoc,Nat.add_zero] at f0 f1 f2 f3 f4 f5 f6
  exact ⟨f0,f1,f2,f3,f4,f5,f6⟩
theorem Xf {w:World} {N:Nat} {vi vm:Value} {ni:Nat} {xi:List Value} {qm:List (HM×Value)} {l:List Mth} (h:OwnC w N vi ni xi vm qm) (hq:qm.map Prod.fst=l.map hmOf):IsMths w vm l:=by
 have hlen:qm.length=l.length:=by have:=congrArg List.length hq;simpa using this
 have hr:=Zw h.ms
 rcases hr.val with ⟨e1,e⟩|⟨bk,o,cap,e1,h1,h2,h3,h4⟩
 ·obtain rfl:l=[]:=List.length_eq_zero_iff.1 (by omega)
  exact ⟨none,0,e1,Nat.le_refl _,by unfold maxLen;omega,fun h=>absurd rfl h⟩
 ·refine ⟨_,cap,by rw [e1,hlen],by omega,h2,fun _=>⟨bk,o,rfl,h3,fun k m hk=>?_⟩⟩
  obtain ⟨⟨x,vc⟩,hx,hxm⟩:∃ p,qm[k]?=some p∧p.1=hmOf m:=by
   have hk2:(qm.map Prod.fst)[k]?=some (hmOf m):=by rw [hq,List.getElem?_map,hk];rfl
   rw [List.getElem?_map] at hk2
   cases e:qm[k]? with
   | none=>rw [e] at hk2;cases hk2
   | some p=>rw [e] at hk2;exact ⟨p,rfl,Option.some.inj hk2⟩
  simp only at hxm
  subst hxm
  have f:=fun j u (hj:j<6) (hu:(hmC (hmOf m,vc))[j]?=some u)=>h4 (k * 6+j) u ((Zp qm k _ hx j hj).trans hu)
  have f0:=f 0 _ (by omega) rfl
  have f1:=f 1 _ (by omega) rfl
  have f2:=f 2 _ (by omega) rfl
  have f3:=f 3 _ (by omega) rfl
  have f4:=f 4 _ (by omega) rfl
  have f5:=f 5 _ (by omega) rfl
  simp only [← Nat.add_assoc,Nat.add_zero] at f0 f1 f2 f3 f4 f5
  exact ⟨f0,f1,f2,f3,f4,vc,f5,Zfg (Zw (h.cod _ (List.mem_of_getElem? hx)))⟩
theorem RAt.cells {b:Nat} {cs:List Cls} {w:World} (h:RAt b cs w) {k:Nat} {c:Cls} (hk:cs[k]?=some c):∃ g cap vi vm,w.cell? ⟨b,0,none⟩=some (.slice (some ⟨g,0,none⟩) cs.length cap)∧b<w.heap.size∧g<w.heap.size ∧
 w.cell? ⟨g,k * 6,none⟩=some (.string c.nm)∧w.cell? ⟨g,k * 6+1,none⟩=some (.string c.su)∧w.cell? ⟨g,k * 6+2,none⟩=some vi∧w.cell? ⟨g,k * 6+3,none⟩=some (.int .i64 c.fl)∧w.cell? ⟨g,k * 6+4,none⟩=some (.int .i64 c.ld)∧w.cell? ⟨g,k * 6+5,none⟩=some vm∧IsStrs w vi c.ifs∧IsMths w vm c.ms:=by
 obtain ⟨N,v,rs,h,rfl⟩:=h
 rw [List.getElem?_map] at hk
 cases e:rs[k]? with
 | none=>rw [e] at hk;cases hk
 | some r =>
   rw [e] at hk
   cases hk
   have hkl:=(List.getElem?_eq_some_iff.1 e).1
   obtain ⟨g,cap,rfl⟩:=Go.Joins.ownsRow_form h.row (by omega)
   have hat:=fun j hj=>(h.row.cellAt (k * 6+j) (by omega)).trans (Zfs rs k r e j hj)
   have b0:=cell_of_row w b 0 _ _ _ h.hb
   simp only [List.getElem?_toArray,List.getElem?_cons_zero] at b0
   obtain ⟨qm,hq,ho⟩:=h.own r (List.mem_of_getElem? e)
   have c0:w.cell? ⟨g,k * 6,none⟩=some (.string r.c.nm):=hat 0 (by omega)
   exact ⟨g,cap,r.vi,r.vm,by rw [List.length_map];exact b0,(Array.getElem?_eq_some_iff.1 h.hb).1,World.block_lt_of_cell? w _ c0,c0,hat 1 (by omega),hat 2 (by omega),hat 3 (by omega),hat 4 (by omega),hat 5 (by omega),Yz (Zw ho.ifs),Xf ho hq⟩
theorem RAt.len {b:Nat} {cs:List Cls} {w:World} (h:RAt b cs w):∃ a cap,w.cell? ⟨b,0,none⟩=some (.slice a cs.length cap)∧b<w.heap.size:=by
 obtain ⟨N,v,rs,h,rfl⟩:=h
 obtain ⟨a,cap,rfl⟩:=ownv h.row
 have b0:=cell_of_row w b 0 _ _ _ h.hb
 simp only [List.getElem?_toArray,List.getElem?_cons_zero] at b0
 exact ⟨a,cap,by rw [List.length_map];exact b0,(Array.getElem?_eq_some_iff.1 h.hb).1⟩
def clsI (cs:List Cls) (i:Int):Option Cls:=if 0≤i then cs[i.toNat]? else none
theorem Y4 (cs:List Cls) (k:Nat):clsI cs (k:Int)=cs[k]?:=by
 rw [clsI,if_pos (Int.natCast_nonneg k)];rfl
theorem Jo (cs:List Cls) (i:Int):(clsI cs i=none∧¬ (0≤i∧i<(cs.length:Int)))∨∃ (k:Nat) (q:Cls),i=(k:Int)∧cs[k]?=some q∧clsI cs i=some q:=by
 by_cases h:0≤i∧i<(cs.length:Int)
 ·obtain ⟨k,rfl⟩:∃ k:Nat,i=(k:Int):=⟨i.toNat,by omega⟩
  have hk:k<cs.length:=by omega
  exact .inr ⟨k,_,rfl,List.getElem?_eq_getElem hk,by rw [Y4];exact List.getElem?_eq_getElem hk⟩
 ·refine .inl ⟨?_,h⟩
  unfold clsI
  by_cases h0:0≤i
  ·rw [if_pos h0];exact List.getElem?_eq_none (by omega)
  ·rw [if_neg h0]
theorem rIn_c {b:Nat} {cs:List Cls} {W:World} (h:RAt b cs W) (i:Int):Calls Tryz.prog 38 #[.pointer (some ⟨b,0,none⟩),.int .i64 i] W fun e w'=>e=.returned (.bool (clsI cs i).isSome)∧w'=W:=by
 obtain ⟨a,cap,b0,_⟩:=h.len
 rcases Jo cs i with ⟨h1,h2⟩|⟨k,q,rfl,h2,h1⟩
 ·rw [h1]
  clear h
  by_cases h0:0≤i
  ·have h3:¬ i<(cs.length:Int):=fun hh=>h2 ⟨h0,hh⟩
   clear h2
   go_enter Tryz.func38,Tryz.ntmps38
   go_wp2
   exact bodyPost_ret (results_tmp rfl _ _ _) rfl ⟨rfl,rfl⟩
  ·clear h2
   go_enter Tryz.func38,Tryz.ntmps38
   go_wp2
   exact bodyPost_ret (results_tmp rfl _ _ _) rfl ⟨rfl,rfl⟩
 ·rw [h1]
  have hk:(k:Int)<(cs.length:Int):=by have:=(List.getElem?_eq_some_iff.1 h2).1;omega
  clear h h2 h1
  go_enter Tryz.func38,Tryz.ntmps38
  go_wp2
  exact bodyPost_ret (results_tmp rfl _ _ _) rfl ⟨rfl,rfl⟩
def nmdI (key:List UInt8):List Cls→Nat→Int
 | [],_=>-1
 | c::r,k=>if c.nm.toList == key then (k:Int) else nmdI key r (k+1)
theorem nmdI_at {key:List UInt8} {cs:List Cls} (k:Nat) (c:Cls) (h:cs[k]?=some c):nmdI key (cs.drop k) k=if c.nm.toList == key then (k:Int) else nmdI key (cs.drop (k+1)) (k+1):=by
 obtain ⟨h1,h2⟩:=List.getElem?_eq_some_iff.1 h
 rw [List.drop_eq_getElem_cons h1,h2,nmdI]
theorem Zb8 {b:Nat} {cs:List Cls} {W:World} (h:RAt b cs W) (nm:ByteArray) (hn:cs.length≤300):Calls Tryz.prog 32 #[.pointer (some ⟨b,0,none⟩),.string nm] W fun e w'=>e=.returned (.int .i64 (nmdI nm.toList cs 0))∧w'=W:=by
 obtain ⟨a,cap,b0,_⟩:=h.len
 have HH:Hid (RAt b cs W):=h
 clear h
 obtain ⟨L,hL⟩:∃ L,cs.length=L:=⟨_,rfl⟩
 have HL:Hid (cs.length=L):=hL
 rw [hL] at b0 hn
 clear hL
 go_enter Tryz.func32,Tryz.ntmps32
 go_wp2
 go_loopw [5] (fun iv wr=>∃ i:Nat,iv=.int .i64 i∧i≤L∧wr=W∧Hid (nmdI nm.toList (cs.drop i) i=nmdI nm.toList cs 0)) (fun iv _=>L - (intOf iv).toNat)
 case atStart=>exact ⟨0,rfl,Nat.zero_le _,rfl,rfl⟩
 case round =>
  obtain ⟨i,rfl,hi,rfl,hs⟩:=hrel
  by_cases hlt:i<L
  ·obtain ⟨c,hc⟩:∃ c,cs[i]?=some c:=⟨_,List.getElem?_eq_getElem (by rw [HL.out];exact hlt)⟩
   obtain ⟨g,cap',vi,vm,b0',_,_,c0,_⟩:=HH.out.cells hc
   rw [HL.out,b0] at b0'
   simp only [Option.some.injEq,Value.slice.injEq,true_and] at b0'
   obtain ⟨rfl,rfl⟩:=b0'
   have hst:=nmdI_at (key:=nm.toList) i c hc
   rw [hs.out] at hst
   have hst:Hid _:=hst
   clear hs hc HH
   cases q:(c.nm.toList == nm.toList) with
   | true =>
     rw [q] at hst
     have HZ:Hid (nmdI nm.toList cs 0=(i:Int)):=hst.out
     clear hst
     go_wp2
     go_ret
     exact ⟨by rw [HZ.out];rfl,rfl⟩
   | false =>
     rw [q] at hst
     have HZ:Hid (nmdI nm.toList (cs.drop (i+1)) (i+1)=nmdI nm.toList cs 0):=hst.out.symm
     clear hst
     go_wp2
     go_roundw
     case rel=>exact ⟨i+1,by go_num,by omega,trivial,HZ⟩
     case measure=>simp [intOf];omega
  ·have e:i=L:=by omega
   subst e
   have HZ:Hid (nmdI nm.toList cs 0=-1):=by rw [Hid,← hs.out,List.drop_of_length_le (by rw [HL.out];exact Nat.le_refl _)];rfl
   clear hs HH
   go_wp2
   go_ret
   exact ⟨by rw [HZ.out];rfl,rfl⟩
def ifsN (ps:List Plc) (nm:ByteArray) (ld:Int) (acc:List Nat):List (List UInt8)→Except Int (List Nat)
 | []=>.ok acc
 | p::r=>match Zv ps nm ld fitI p with
   | .error e=>.error e
   | .ok k=>ifsN ps nm ld (acc++[k]) r
def IfR (N:Nat):Except Int (List Nat)→Ending→World→Prop
 | .ok l,e,w'=>∃ v,e=.returned (.tuple #[v,.int .i64 0])∧w'.ownsRow N 3 1 v l.length (l.map numV)
 | .error x,e,_=>e=.returned (.tuple #[.slice none 0 0,.int .i64 x])
theorem Jb {ps:List Plc} {nm:ByteArray} {ld:Int} {fit:Nat→Plc→Bool} {p:List UInt8} {x:Int} (h:Zv ps nm ld fit p=.error x):¬ x=0:=by
 unfold Zv at h
 repeat' split at h
 all_goals first|(cases h;done)|(cases h;decide)
theorem X4 {ps:List Plc} {nm:ByteArray} {ld:Int} {fit:Nat→Plc→Bool} {p:List UInt8} {k:Nat} (h:Zv ps nm ld fit p=.ok k):Z4 ps p=some k∧∃ q,ps[k]?=some q∧fit k q=true∧(pubB q.c.fl||Xl q.c nm ld)=true:=by
 unfold Zv at h
 cases hl:Z4 ps p with
 | none=>rw [hl] at h;cases h
 | some j =>
   rw [hl] at h
   simp only at h
   cases hq:ps[j]? with
   | none=>rw [hq] at h;cases h
   | some q =>
     rw [hq] at h
     simp only at h
     by_cases h1:fit j q=true
     ·rw [if_pos h1] at h
      by_cases h2:(pubB q.c.fl||Xl q.c nm ld)=true
      ·rw [if_pos h2] at h
       cases h
       exact ⟨rfl,q,hq,h1,h2⟩
      ·rw [if_neg h2] at h;cases h
     ·rw [if_neg h1] at h;cases h
theorem Za5 (N b mb:Nat) (ps:List Plc) (vp:Value) (pv:List PV) (nm su:ByteArray) (fl ld:Int) (ifs:List (List UInt8)) (ai am:Option Addr) (ci nn cm:Nat) (W:World) (h:HW W N b mb ps vp pv) (hnz:nm.size≤maxLen) (hqz:∀ q∈ps,q.c.nm.size≤maxLen) (hI:IsStrs W (.slice ai ifs.length ci) ifs) (hiz:∀ p∈ifs,p.length≤maxLen) (hil:ifs.length≤1000) :
 Calls Tryz.prog 30 #[.pointer (some ⟨b,0,none⟩),.agg #[.string nm,.string su,.slice ai ifs.length ci,.int .i64 fl,.int .i64 ld,.slice am nn cm]] W fun e w'=>IfR W.heap.size (ifsN ps nm ld [] ifs) e w'∧Bw W w':=by
 obtain ⟨i0,hi0,hz0,hz1,hz2⟩:=info_parts Tryz.hinfo3
 obtain ⟨K,hK⟩:∃ K,ifs.length=K:=⟨_,rfl⟩
 have HK:Hid (ifs.length=K):=hK
 have HI:Hid (IsStrs W (.slice ai ifs.length ci) ifs):=hI
 rw [hK] at hil ⊢
 have HA:Hid (∀ (p:List UInt8) (w:World),p∈ifs→Bw W w→Calls Tryz.prog 53 #[.pointer (some ⟨b,0,none⟩),.agg #[.string nm,.string su,.slice ai K ci,.int .i64 fl,.int .i64 ld,.slice am nn cm],.string ⟨p.toArray⟩,.func (.func 55) #[.pointer (some ⟨b,0,none⟩)] #[]] w fun e w'=>e=.returned (abvV (Zv ps nm ld fitI p))∧Bw w w'):=by
  intro p w hp hb
  have hpz:(⟨p.toArray⟩:ByteArray).size≤maxLen:=by rw [Qf];exact hiz p hp
  have hHW:=h.below hb
  cases hl:Z4 ps p with
  | none =>
    refine (Qa _ N b mb ps vp pv nm su fl ld _ _ ⟨p.toArray⟩ hpz w hHW (by simpa using hl)).mono ?_
    rintro e w' ⟨rfl,hb⟩
    exact ⟨by rw [Zv,hl];rfl,hb⟩
  | some k =>
    obtain ⟨q,hq,_⟩:=Xa hl
    refine (Zcw N b mb ps vp pv nm su fl ld _ _ ⟨p.toArray⟩ hpz hnz w hHW k q (by simpa using hl) hq (hqz q (List.mem_of_getElem? hq)) (fitI k q) (fun w2 hb2=>Jt N b mb ps vp pv k q w2 (hHW.below hb2) hq)).mono ?_
    rintro e w' ⟨rfl,hb⟩
    exact ⟨by rw [Zv,hl];simp only [hq],hb⟩
 obtain ⟨R,hR⟩:∃ R,R=ifsN ps nm ld [] ifs:=⟨_,rfl⟩
 rw [← hR]
 have HR:Hid (R=ifsN ps nm ld [] ifs):=hR
 clear hK h hqz hiz hR hI hnz
 go_enter Tryz.func30,Tryz.ntmps30
 go_wp2
 go_loopw [6,14] (fun sv kv wr=>∃ (k:Nat) (acc:List Nat),kv=.int .i64 k∧k≤K∧acc.length=k∧Hid (ifsN ps nm ld acc (ifs.drop k)=ifsN ps nm ld [] ifs)∧Hid (wr.ownsRow (W.heap.size+1) 3 1 sv acc.length (acc.map numV))∧Hid (Bw W wr)∧wr.heap[W.heap.size]?=some (.cells #[.string nm,.string su,.slice ai K ci,.int .i64 fl,.int .i64 ld,.slice am nn cm] 33 (0,0))) (fun _ kv _=>K - (intOf kv).toNat)
 case atStart=>exact ⟨0,[],rfl,Nat.zero_le _,rfl,rfl,World.ownsRow_nil _ _ _ _,(Below.refl _ _).alloc (Nat.le_refl _) _,Xt _ _⟩
 case round =>
  obtain ⟨k,acc,rfl,hk,hal,hacc,hown,hB,hblk⟩:=hrel
  have c0:=cell_of_row wr W.heap.size 0 _ _ _ hblk
  have c1:=cell_of_row wr W.heap.size 1 _ _ _ hblk
  have c2:=cell_of_row wr W.heap.size 2 _ _ _ hblk
  have c3:=cell_of_row wr W.heap.size 3 _ _ _ hblk
  have c4:=cell_of_row wr W.heap.size 4 _ _ _ hblk
  have c5:=cell_of_row wr W.heap.size 5 _ _ _ hblk
  simp only [List.getElem?_toArray,List.getElem?_cons_zero,List.getElem?_cons_succ] at c0 c1 c2 c3 c4 c5
  have HBL:Hid (wr.heap[W.heap.size]?=some (.cells #[.string nm,.string su,.slice ai K ci,.int .i64 fl,.int .i64 ld,.slice am nn cm] 33 (0,0))):=hblk
  have hWr:W.heap.size<wr.heap.size:=(Array.getElem?_eq_some_iff.1 hblk).1
  clear hblk
  by_cases hlt:k<K
  ·obtain ⟨p,hp⟩:∃ p,ifs[k]?=some p:=⟨_,List.getElem?_eq_getElem (by rw [HK.out];exact hlt)⟩
   have hdrop:ifs.drop k=p::ifs.drop (k+1):=by
    obtain ⟨h1,h2⟩:=List.getElem?_eq_some_iff.1 hp
    rw [List.drop_eq_getElem_cons h1,h2]
   obtain ⟨bk,o,rfl,hbk,hcell⟩:∃ bk o,ai=some ⟨bk,o,none⟩∧bk<W.heap.size∧W.cell? ⟨bk,o+k,none⟩=some (.string ⟨p.toArray⟩):=by
    obtain ⟨ao,cap,e,_,_,h3⟩:=HI.out
    obtain ⟨bk,o,e2,hlt2,hc⟩:=h3 (fun e=>by rw [e] at hp;simp at hp)
    injection e with e1
    exact ⟨bk,o,by rw [e1,e2],hlt2,hc k p hp⟩
   have hce:=(hB.out.cell (p:=⟨bk,o+k,none⟩) hbk).trans hcell
   have HA1:Hid (Calls Tryz.prog 53 #[.pointer (some ⟨b,0,none⟩),.agg #[.string nm,.string su,.slice (some ⟨bk,o,none⟩) K ci,.int .i64 fl,.int .i64 ld,.slice am nn cm],.string ⟨p.toArray⟩,.func (.func 55) #[.pointer (some ⟨b,0,none⟩)] #[]] wr fun e w'=>e=.returned (abvV (Zv ps nm ld fitI p))∧Bw wr w'):=HA.out p wr (List.mem_of_getElem? hp) hB.out
   have hst:ifsN ps nm ld acc (ifs.drop k)=match Zv ps nm ld fitI p with | .error e=>.error e | .ok j=>ifsN ps nm ld (acc++[j]) (ifs.drop (k+1)):=by rw [hdrop,ifsN]
   rw [hacc.out] at hst
   clear hcell hdrop hp HA hacc
   cases ha:Zv ps nm ld fitI p with
   | error x =>
     rw [ha] at hst HA1
     have hRx:R=.error x:=by rw [HR.out,hst]
     have hx0:¬ x=0:=Jb ha
     clear hst ha
     obtain ⟨va,vn,rfl⟩:=ownv hown.out
     go_wp2_with (go_at_call 53;refine HA1.out.mono ?_;rintro e w1 ⟨rfl,hb⟩;rw [abvV];have B1:Hid (Bw W w1):=Zj hB.out hb;clear hb HA1)
     subst hRx
     exact bodyPost_ret (results_tmp2 rfl _ _ _) rfl ⟨show Ending.returned _=Ending.returned _ from rfl,B1.out⟩
   | ok j =>
     rw [ha] at hst HA1
     have hnext:Hid (ifsN ps nm ld (acc++[j]) (ifs.drop (k+1))=ifsN ps nm ld [] ifs):=hst.symm
     clear hst ha
     obtain ⟨va,vn,rfl⟩:=ownv hown.out
     go_wp2_with (first
      | (go_at_call 53;refine HA1.out.mono ?_;rintro e w1 ⟨rfl,hb⟩;rw [abvV];have B1:Hid (Bw W w1):=Zj hB.out hb;have O1:Hid (w1.ownsRow (W.heap.size+1) 3 1 (.slice va acc.length vn) acc.length (acc.map numV)):=Zi hown.out hb;have HB1:=(hb.block W.heap.size hWr).trans HBL.out;have hW1:W.heap.size<w1.heap.size:=Nat.lt_of_lt_of_le hWr hb.size;clear hb HA1)
      | (at_builtin;refine wpList_append_own _ rfl _ _ 57 rfl (W.heap.size+1) 3 i0 (.int .i64 0) 1 8 Tryz.underlying57 hi0 hz0 hz1 hz2 rfl (by decide) (.slice va acc.length vn) acc.length (acc.map numV) (by first|rfl|(rw [hal];rfl)) (O1.out.alloc _) ⟨w1.heap.size,0,none⟩ 1 1 [.int .i64 (j:Int)] rfl rfl ?c1 ?c2 ?c3 ?c4 ?c5 ?_))
     case c1=>intro jj u hj;rw [addr_add];cases jj with
      | zero=>simp at hj;subst hj;simp [go_sem]
      | succ jj=>simp at hj
     case c2=>intro u hu;simp at hu;subst hu;rfl
     case c3=>unfold maxLen;omega
     case c4=>omega
     case c5=>simp;omega
     intro v' w2 hown2 hgrow _
     obtain ⟨va2,vn2,rfl⟩:=ownv hown2
     simp only [← hal] at hown2 hgrow
     have B2:Hid (Bw W w2):=by
      have hb1:Bw W (w1.alloc (.cells #[.int .i64 (j:Int)] 3)):=B1.out.alloc B1.out.size _
      refine hb1.grown hgrow hb1.size (fun x hx=>?_)
      have:=(O1.out.lt x hx).1
      omega
     have HB2:Hid (w2.heap[W.heap.size]?=some (.cells #[.string nm,.string su,.slice (some ⟨bk,o,none⟩) K ci,.int .i64 fl,.int .i64 ld,.slice am nn cm] 33 (0,0))):=by
      refine (hgrow.block W.heap.size (by simp;omega) (fun hx=>?_)).trans ?_
      ·have:=(O1.out.lt W.heap.size hx.symm).1
       omega
      ·refine ((Below.refl w1.heap.size w1).alloc (Nat.le_refl _) _).block W.heap.size hW1 |>.trans HB1
     have O2:Hid (w2.ownsRow (W.heap.size+1) 3 1 (.slice va2 (k+1) vn2) (acc++[j]).length ((acc++[j]).map numV)):=by
      rw [Hid,List.length_append,List.map_append,← hal];exact hown2
     clear hown2 hgrow HB1
     go_wp2
     go_roundw
     case rel=>exact ⟨k+1,acc++[j],by go_num,by omega,by simp [hal],hnext,O2,B2,HB2.out⟩
     case measure=>simp [intOf];omega
  ·have e:k=K:=by omega
   subst e
   have hRx:R=.ok acc:=by rw [HR.out,← hacc.out,List.drop_of_length_le (by rw [HK.out];exact Nat.le_refl _),ifsN]
   subst hRx
   obtain ⟨va,vn,rfl⟩:=ownv hown.out
   go_wp2
   exact bodyPost_ret (results_tmp2 rfl _ _ _) rfl ⟨⟨_,rfl,Go.Joins.ownsRow_le hown.out (by omega)⟩,hB.out⟩
theorem Yg {P:Program} {w:World} {ops:Array Oper} {rest:List Oper} {o:Oper} {a:Act} {Q:Exit→Act→World→Prop} (hgd:o.guard=none) (s x:Operand) (t:TypeId)
 (ho:o.op=.call { callee:=.builtin .append,args:=#[s,x],argTypes:=#[t,t] })
 (base:Nat) (e:TypeId) (i:TypeInfo) (z:Value) (size bytes:Nat) (ht:P.underlying t=some (.slice e)) (hi:P.info? e=some i) (hz:i.zero=some z)
 (hsize:i.size=size) (hby:i.bytes=bytes) (hzs:z.cells.size=size) (hsz:0<size)
 (v:Value) (n:Nat) (xs:List Value) (hs:a.eval s=v) (hown:w.ownsRow base e size v n xs)
 (vx:Value) (m:Nat) (news:List Value) (hx:a.eval x=vx) (hr:Rdw w vx m size news) (h1:∀ u∈news,u.oneCell'=true)
 (h63:n+m≤maxLen) (hbytes:(n+m) * bytes≤140737488355328) (hbase:base≤w.heap.size)
 (h:∀ v' w',w'.ownsRow base e size v' (n+m) (xs++news)→w.grownBy w' v.ownBlock→wpList P ops Q rest (a.put o.dst v') w'):wpList P ops Q (o::rest) a w:=by
 rcases hr with hr|⟨rfl,rfl,ad,cap,rfl⟩
 ·rcases hr.val with ⟨rfl,rfl⟩|⟨bk,ob,cap,rfl,hc1,hc2,hlt,hcell⟩
  ·have hx0:news=[]:=List.length_eq_zero_iff.1 (by rw [hr.len,Nat.zero_mul])
   subst hx0
   refine wpList_append_own_none hgd s x t ho base e i size ht hi v n xs hs hown hx ?_
   exact h v w (by simpa using hown) ⟨rfl,rfl,rfl,Nat.le_refl _,fun _ _ _=>rfl⟩
  ·exact wpList_append_own _ hgd s x t ho base e i z size bytes ht hi hz hsize hby hzs hsz v n xs hs hown ⟨bk,ob,none⟩ m cap news hx hr.len (fun j u hj=>by rw [addr_add];exact hcell j u hj) h1 h63 hbytes hbase fun v' w' a b _=>h v' w' a b
 ·exact wpList_append_own _ hgd s x t ho base e i z size bytes ht hi hz hsize hby hzs hsz v n xs hs hown ad 0 cap [] hx (by simp) (fun j u hj=>by simp at hj) h1 h63 hbytes hbase fun v' w' a b _=>h v' w' a b
theorem Zaz {P:Program} {w:World} (t ty:TypeId) (base:Nat) (e:TypeId) (i:TypeInfo) (z:Value) (size bytes:Nat) (ht:P.underlying t=some (.slice e)) (hi:P.info? e=some i) (hz:i.zero=some z)
 (hsize:i.size=size) (hby:i.bytes=bytes) (hzs:z.cells.size=size) (hsz:0<size)
 (v:Value) (n:Nat) (xs:List Value) (hown:w.ownsRow base e size v n xs) (vx:Value) (m:Nat) (news:List Value) (hr:Rdw w vx m size news) (h1:∀ u∈news,u.oneCell'=true)
 (h63:n+m≤maxLen) (hbytes:(n+m) * bytes≤140737488355328) (hbase:base≤w.heap.size) :
 ∃ v' w',(Builtin.append_ #[t,t] ty #[v,vx]).run P w=.ok v' w'∧w'.ownsRow base e size v' (n+m) (xs++news)∧w.grownBy w' v.ownBlock:=by
 rcases hr with hr|⟨rfl,rfl,ad,cap,rfl⟩
 ·rcases hr.val with ⟨rfl,rfl⟩|⟨bk,ob,cap,rfl,hc1,hc2,hlt,hcell⟩
  ·have hx0:news=[]:=List.length_eq_zero_iff.1 (by rw [hr.len,Nat.zero_mul])
   subst hx0
   exact ⟨v,w,run_append_owned_none (P:=P) (w:=w) base t ty e i size ht hi v n xs hown,by simpa using hown,⟨rfl,rfl,rfl,Nat.le_refl _,fun _ _ _=>rfl⟩⟩
  ·obtain ⟨v',w',hr',h2,h3,_,_⟩:=run_append_own_at (P:=P) w base t ty e i z size bytes ht hi hz hsize hby hzs hsz v n xs hown ⟨bk,ob,none⟩ m cap news hr.len (fun j u hj=>by rw [addr_add];exact hcell j u hj) h1 h63 hbytes hbase
   exact ⟨v',w',hr',h2,h3⟩
 ·obtain ⟨v',w',hr',h2,h3,_,_⟩:=run_append_own_at (P:=P) w base t ty e i z size bytes ht hi hz hsize hby hzs hsz v n xs hown ad 0 cap [] (by simp) (fun j u hj=>by simp at hj) h1 h63 hbytes hbase
  exact ⟨v',w',hr',h2,h3⟩
theorem Zah {P:Program} {w:World} {ops:Array Oper} {o:Oper} {a:Act} {K:Act→World→Prop} {Q:Exit→Act→World→Prop} {E:Prop} (hgd:o.guard=none) (s x:Operand) (t:TypeId)
 (ho:o.op=.call { callee:=.builtin .append,args:=#[s,x],argTypes:=#[t,t] })
 (base:Nat) (e:TypeId) (i:TypeInfo) (z:Value) (size bytes:Nat) (ht:P.underlying t=some (.slice e)) (hi:P.info? e=some i) (hz:i.zero=some z)
 (hsize:i.size=size) (hby:i.bytes=bytes) (hzs:z.cells.size=size) (hsz:0<size)
 (v:Value) (n:Nat) (xs:List Value) (hs:a.eval s=v) (hown:w.ownsRow base e size v n xs) (vx:Value) (m:Nat) (news:List Value) (hx:a.eval x=vx) (hr:Rdw w vx m size news) (h1:∀ u∈news,u.oneCell'=true)
 (h63:n+m≤maxLen) (hbytes:(n+m) * bytes≤140737488355328) (hbase:base≤w.heap.size)
 (h:∀ v' w',w'.ownsRow base e size v' (n+m) (xs++news)→w.grownBy w' v.ownBlock→K (a.put o.dst v') w') :
 if Region.wanted o (yielded ops a.tmps)=true then Oper.wp P o a w K Q else E:=by
 have hw:Region.wanted o (yielded ops a.tmps)=true:=by simp [Region.wanted,hgd]
 rw [if_pos hw]
 obtain ⟨v',w',hr',h2,h3⟩:=Zaz (P:=P) (w:=w) t o.type base e i z size bytes ht hi hz hsize hby hzs hsz v n xs hown vx m news hr h1 h63 hbytes hbase
 unfold Oper.wp execOp
 simp only [ho,resolve,invoke,builtin,Sem.run_bind,Sem.run_pure,Result.andThen_ok,List.map_toArray,List.map_cons,List.map_nil,hs,hx,hr']
 exact h v' w' h2 h3
theorem Qr (w:World) (m:Nat) (hm:w.heap.size=m) (base:Nat) (e size:Nat) (hb:base≤w.heap.size):(w.alloc (.cells #[] e)).ownsRow base e size (.slice (some ⟨m,0,none⟩) 0 0) 0 []:=by
 subst hm
 refine ⟨by simp,.inr ⟨w.heap.size,0,#[],rfl,hb,Xs w _,Nat.le_refl _,by unfold maxLen;omega,?_,?_⟩⟩ <;> simp
theorem Zhr {w:World} {N e s g n cap:Nat} {xs:List Value} (h:w.ownsRow N e s (.slice (some ⟨g,0,none⟩) n cap) n xs):∃ cur,w.heap[g]?=some (.cells cur e (0,0)):=by
 rcases h.2 with ⟨e,_⟩|⟨g',cap',cur,e,_,hg,_⟩
 ·simp at e
 ·simp only [Value.slice.injEq,Option.some.injEq,Addr.mk.injEq,and_true,true_and] at e
  obtain ⟨rfl,rfl⟩:=e
  exact ⟨cur,hg⟩
end Go.Proofs.YtkoogmegdfpopaaGreat
