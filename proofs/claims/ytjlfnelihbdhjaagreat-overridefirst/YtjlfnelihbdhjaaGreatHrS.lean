import Derived.Test.YtjlfnelihbdhjaaGreatHrP
import Derived.Test.YtjlfnelihbdhjaaGreatWdB
import Derived.Test.YtjlfnelihbdhjaaGreatShpE
set_option maxRecDepth 100000
namespace Go.Proofs.YtjlfnelihbdhjaaGreat
open Go.RowKit Go.Maps
structure CR where
  c:Cls
  vi:Value
  vm:Value
def crC (r:CR):List Value:=[.string r.c.nm,.string r.c.su,r.vi,.int .i64 r.c.fl,.int .i64 r.c.ld,r.vm]
def flatR (l:List CR):List Value:=l.flatMap crC
theorem flatR_at (l:List CR) (k:Nat) (p:CR) (h:l[k]?=some p) (j:Nat) (hj:j<6):(flatR l)[k * 6+j]?=(crC p)[j]?:=by
  induction l generalizing k with
  | nil=>simp at h
  | cons u ts ih =>
    have e:flatR (u::ts)=crC u++flatR ts:=by simp [flatR]
    rw [e]
    cases k with
    | zero=>simp at h;subst h;rw [List.getElem?_append_left (by simp [crC];omega)];simp
    | succ k =>
      simp at h
      rw [List.getElem?_append_right (by simp [crC];omega)]
      have:=ih k h
      rw [← this]
      congr 1
      simp [crC];omega
def CrO (w:World) (N:Nat) (r:CR):Prop:=∃ qm,qm.map Prod.fst=r.c.ms.map hmOf∧OwnC w N r.vi r.c.ifs.length (strsV r.c.ifs) r.vm qm
structure RW (w:World) (N b:Nat) (v:Value) (rs:List CR):Prop where
  hb:w.heap[b]?=some (.cells #[v] 113 (0,0))
  row:w.ownsRow N 48 6 v rs.length (flatR rs)
  own:∀ r∈rs,CrO w N r
  lb:N≤b
theorem OwnC.below {w w':World} {N:Nat} {vi:Value} {ni:Nat} {xi:List Value} {vm:Value} {qm:List (HM×Value)} (h:OwnC w N vi ni xi vm qm) (hb:Below w.heap.size w w'):OwnC w' N vi ni xi vm qm :=
  ⟨rowBelow h.ifs hb,rowBelow h.ms hb,fun x hx=>rowBelow (h.cod x hx) hb⟩
theorem CrO.below {w w':World} {N:Nat} {r:CR} (h:CrO w N r) (hb:Below w.heap.size w w'):CrO w' N r:=by
  obtain ⟨qm,h1,h2⟩:=h
  exact ⟨qm,h1,h2.below hb⟩
theorem RW.below {w w':World} {N b:Nat} {v:Value} {rs:List CR} (h:RW w N b v rs) (hb:Below w.heap.size w w'):RW w' N b v rs :=
  ⟨(hb.block b (Array.getElem?_eq_some_iff.1 h.hb).1).trans h.hb,rowBelow h.row hb,fun r hr=>(h.own r hr).below hb,h.lb⟩
def RAt (b:Nat) (cs:List Cls) (w:World):Prop:=∃ N v rs,RW w N b v rs∧rs.map CR.c=cs
theorem RAt.below {b:Nat} {cs:List Cls} {w w':World} (h:RAt b cs w) (hb:Below w.heap.size w w'):RAt b cs w':=by
  obtain ⟨N,v,rs,h,e⟩:=h
  exact ⟨N,v,rs,h.below hb,e⟩
theorem rds_strs {w:World} {v:Value} {l:List (List UInt8)} (h:Rds w v l.length 1 (strsV l)):IsStrs w v l:=by
  rcases h.val with ⟨rfl,e⟩|⟨bk,o,cap,rfl,h1,h2,h3,h4⟩
  · obtain rfl:l=[]:=List.length_eq_zero_iff.1 e
    exact ⟨none,0,rfl,Nat.le_refl _,by unfold maxLen;omega,fun h=>absurd rfl h⟩
  · exact ⟨_,cap,rfl,h1,h2,fun _=>⟨bk,o,rfl,h3,fun k p hk=>h4 k _ (by rw [strsV,List.getElem?_map,hk];rfl)⟩⟩
theorem rds_inss {w:World} {v:Value} {l:List Ins} (h:Rds w v l.length 7 (flatI l)):IsInss w v l:=by
  rcases h.val with ⟨rfl,e⟩|⟨bk,o,cap,rfl,h1,h2,h3,h4⟩
  · obtain rfl:l=[]:=List.length_eq_zero_iff.1 e
    exact ⟨none,0,rfl,Nat.le_refl _,by unfold maxLen;omega,fun h=>absurd rfl h⟩
  · refine ⟨_,cap,rfl,h1,h2,fun _=>⟨bk,o,rfl,h3,fun k i hk=>?_⟩⟩
    have g:=fun j hj=>flatI_ins l k i hk j hj
    have f:=fun j u (hj:j<7) (hu:(insC i)[j]?=some u)=>h4 (k * 7+j) u ((g j hj).trans hu)
    have f0:=f 0 _ (by omega) rfl
    have f1:=f 1 _ (by omega) rfl
    have f2:=f 2 _ (by omega) rfl
    have f3:=f 3 _ (by omega) rfl
    have f4:=f 4 _ (by omega) rfl
    have f5:=f 5 _ (by omega) rfl
    have f6:=f 6 _ (by omega) rfl
    simp only [← Nat.add_assoc,Nat.add_zero] at f0 f1 f2 f3 f4 f5 f6
    exact ⟨f0,f1,f2,f3,f4,f5,f6⟩
theorem own_mths {w:World} {N:Nat} {vi vm:Value} {ni:Nat} {xi:List Value} {qm:List (HM×Value)} {l:List Mth} (h:OwnC w N vi ni xi vm qm) (hq:qm.map Prod.fst=l.map hmOf):IsMths w vm l:=by
  have hlen:qm.length=l.length:=by have:=congrArg List.length hq;simpa using this
  have hr:=own_rds h.ms
  rcases hr.val with ⟨e1,e⟩|⟨bk,o,cap,e1,h1,h2,h3,h4⟩
  · obtain rfl:l=[]:=List.length_eq_zero_iff.1 (by omega)
    exact ⟨none,0,e1,Nat.le_refl _,by unfold maxLen;omega,fun h=>absurd rfl h⟩
  · refine ⟨_,cap,by rw [e1,hlen],by omega,h2,fun _=>⟨bk,o,rfl,h3,fun k m hk=>?_⟩⟩
    obtain ⟨⟨x,vc⟩,hx,hxm⟩:∃ p,qm[k]?=some p∧p.1=hmOf m:=by
      have hk2:(qm.map Prod.fst)[k]?=some (hmOf m):=by rw [hq,List.getElem?_map,hk];rfl
      rw [List.getElem?_map] at hk2
      cases e:qm[k]? with
      | none=>rw [e] at hk2;cases hk2
      | some p=>rw [e] at hk2;exact ⟨p,rfl,Option.some.inj hk2⟩
    simp only at hxm
    subst hxm
    have f:=fun j u (hj:j<6) (hu:(hmC (hmOf m,vc))[j]?=some u)=>h4 (k * 6+j) u ((flatH_at qm k _ hx j hj).trans hu)
    have f0:=f 0 _ (by omega) rfl
    have f1:=f 1 _ (by omega) rfl
    have f2:=f 2 _ (by omega) rfl
    have f3:=f 3 _ (by omega) rfl
    have f4:=f 4 _ (by omega) rfl
    have f5:=f 5 _ (by omega) rfl
    simp only [← Nat.add_assoc,Nat.add_zero] at f0 f1 f2 f3 f4 f5
    exact ⟨f0,f1,f2,f3,f4,vc,f5,rds_inss (own_rds (h.cod _ (List.mem_of_getElem? hx)))⟩
theorem RAt.cells {b:Nat} {cs:List Cls} {w:World} (h:RAt b cs w) {k:Nat} {c:Cls} (hk:cs[k]?=some c):∃ g cap vi vm,w.cell? ⟨b,0,none⟩=some (.slice (some ⟨g,0,none⟩) cs.length cap)∧b<w.heap.size∧g<w.heap.size ∧
    w.cell? ⟨g,k * 6,none⟩=some (.string c.nm)∧w.cell? ⟨g,k * 6+1,none⟩=some (.string c.su)∧w.cell? ⟨g,k * 6+2,none⟩=some vi∧w.cell? ⟨g,k * 6+3,none⟩=some (.int .i64 c.fl)∧w.cell? ⟨g,k * 6+4,none⟩=some (.int .i64 c.ld)∧w.cell? ⟨g,k * 6+5,none⟩=some vm∧IsStrs w vi c.ifs∧IsMths w vm c.ms:=by
  obtain ⟨N,v,rs,h,rfl⟩:=h
  rw [List.getElem?_map] at hk
  cases e:rs[k]? with
  | none=>rw [e] at hk;cases hk
  | some r =>
    rw [e] at hk
    cases hk
    have hkl:=(List.getElem?_eq_some_iff.1 e).1
    obtain ⟨g,cap,rfl⟩:=Go.Joins.ownsRow_form h.row (by omega)
    have hat:=fun j hj=>(h.row.cellAt (k * 6+j) (by omega)).trans (flatR_at rs k r e j hj)
    have b0:=cell_of_row w b 0 _ _ _ h.hb
    simp only [List.getElem?_toArray,List.getElem?_cons_zero] at b0
    obtain ⟨qm,hq,ho⟩:=h.own r (List.mem_of_getElem? e)
    have c0:w.cell? ⟨g,k * 6,none⟩=some (.string r.c.nm):=hat 0 (by omega)
    exact ⟨g,cap,r.vi,r.vm,by rw [List.length_map];exact b0,(Array.getElem?_eq_some_iff.1 h.hb).1,World.block_lt_of_cell? w _ c0,c0,hat 1 (by omega),hat 2 (by omega),hat 3 (by omega),hat 4 (by omega),hat 5 (by omega),rds_strs (own_rds ho.ifs),own_mths ho hq⟩
theorem RAt.len {b:Nat} {cs:List Cls} {w:World} (h:RAt b cs w):∃ a cap,w.cell? ⟨b,0,none⟩=some (.slice a cs.length cap)∧b<w.heap.size:=by
  obtain ⟨N,v,rs,h,rfl⟩:=h
  obtain ⟨a,cap,rfl⟩:=ownv h.row
  have b0:=cell_of_row w b 0 _ _ _ h.hb
  simp only [List.getElem?_toArray,List.getElem?_cons_zero] at b0
  exact ⟨a,cap,by rw [List.length_map];exact b0,(Array.getElem?_eq_some_iff.1 h.hb).1⟩
def clsI (cs:List Cls) (i:Int):Option Cls:=if 0≤i then cs[i.toNat]? else none
theorem clsI_nat (cs:List Cls) (k:Nat):clsI cs (k:Int)=cs[k]?:=by
  rw [clsI,if_pos (Int.natCast_nonneg k)];rfl
theorem clsI_cases (cs:List Cls) (i:Int):(clsI cs i=none∧¬ (0≤i∧i<(cs.length:Int)))∨∃ (k:Nat) (q:Cls),i=(k:Int)∧cs[k]?=some q∧clsI cs i=some q:=by
  by_cases h:0≤i∧i<(cs.length:Int)
  · obtain ⟨k,rfl⟩:∃ k:Nat,i=(k:Int):=⟨i.toNat,by omega⟩
    have hk:k<cs.length:=by omega
    exact .inr ⟨k,_,rfl,List.getElem?_eq_getElem hk,by rw [clsI_nat];exact List.getElem?_eq_getElem hk⟩
  · refine .inl ⟨?_,h⟩
    unfold clsI
    by_cases h0:0≤i
    · rw [if_pos h0];exact List.getElem?_eq_none (by omega)
    · rw [if_neg h0]
theorem rIn_c {b:Nat} {cs:List Cls} {W:World} (h:RAt b cs W) (i:Int):Calls Tryz.prog 76 #[.pointer (some ⟨b,0,none⟩),.int .i64 i] W fun e w'=>e=.returned (.bool (clsI cs i).isSome)∧w'=W:=by
  obtain ⟨a,cap,b0,_⟩:=h.len
  rcases clsI_cases cs i with ⟨h1,h2⟩|⟨k,q,rfl,h2,h1⟩
  · rw [h1]
    clear h
    by_cases h0:0≤i
    · have h3:¬ i<(cs.length:Int):=fun hh=>h2 ⟨h0,hh⟩
      clear h2
      go_enter Tryz.func76,Tryz.ntmps76
      go_wp2
      exact bodyPost_ret (results_tmp rfl _ _ _) rfl ⟨rfl,rfl⟩
    · clear h2
      go_enter Tryz.func76,Tryz.ntmps76
      go_wp2
      exact bodyPost_ret (results_tmp rfl _ _ _) rfl ⟨rfl,rfl⟩
  · rw [h1]
    have hk:(k:Int)<(cs.length:Int):=by have:=(List.getElem?_eq_some_iff.1 h2).1;omega
    clear h h2 h1
    go_enter Tryz.func76,Tryz.ntmps76
    go_wp2
    exact bodyPost_ret (results_tmp rfl _ _ _) rfl ⟨rfl,rfl⟩
def nmdI (key:List UInt8):List Cls→Nat→Int
  | [],_=>-1
  | c::r,k=>if c.nm.toList == key then (k:Int) else nmdI key r (k+1)
theorem nmdI_at {key:List UInt8} {cs:List Cls} (k:Nat) (c:Cls) (h:cs[k]?=some c):nmdI key (cs.drop k) k=if c.nm.toList == key then (k:Int) else nmdI key (cs.drop (k+1)) (k+1):=by
  obtain ⟨h1,h2⟩:=List.getElem?_eq_some_iff.1 h
  rw [List.drop_eq_getElem_cons h1,h2,nmdI]
set_option maxHeartbeats 1000000 in
theorem rNamed_c {b:Nat} {cs:List Cls} {W:World} (h:RAt b cs W) (nm:ByteArray) (hn:cs.length≤300):Calls Tryz.prog 136 #[.pointer (some ⟨b,0,none⟩),.string nm] W fun e w'=>e=.returned (.int .i64 (nmdI nm.toList cs 0))∧w'=W:=by
  obtain ⟨a,cap,b0,_⟩:=h.len
  have HH:Hid (RAt b cs W):=h
  clear h
  obtain ⟨L,hL⟩:∃ L,cs.length=L:=⟨_,rfl⟩
  have HL:Hid (cs.length=L):=hL
  rw [hL] at b0 hn
  clear hL
  go_enter Tryz.func136,Tryz.ntmps136
  go_wp2
  go_loopw [5] (fun iv wr=>∃ i:Nat,iv=.int .i64 i∧i≤L∧wr=W∧Hid (nmdI nm.toList (cs.drop i) i=nmdI nm.toList cs 0)) (fun iv _=>L - (intOf iv).toNat)
  case atStart=>exact ⟨0,rfl,Nat.zero_le _,rfl,rfl⟩
  case round =>
    obtain ⟨i,rfl,hi,rfl,hs⟩:=hrel
    by_cases hlt:i<L
    · obtain ⟨c,hc⟩:∃ c,cs[i]?=some c:=⟨_,List.getElem?_eq_getElem (by rw [HL.out];exact hlt)⟩
      obtain ⟨g,cap',vi,vm,b0',_,_,c0,_⟩:=HH.out.cells hc
      rw [HL.out,b0] at b0'
      simp only [Option.some.injEq,Value.slice.injEq,true_and] at b0'
      obtain ⟨rfl,rfl⟩:=b0'
      have hst:=nmdI_at (key:=nm.toList) i c hc
      rw [hs.out] at hst
      have hst:Hid _:=hst
      clear hs hc HH
      cases q:(c.nm.toList == nm.toList) with
      | true =>
        rw [q] at hst
        have HZ:Hid (nmdI nm.toList cs 0=(i:Int)):=hst.out
        clear hst
        go_wp2
        go_ret
        exact ⟨by rw [HZ.out];rfl,rfl⟩
      | false =>
        rw [q] at hst
        have HZ:Hid (nmdI nm.toList (cs.drop (i+1)) (i+1)=nmdI nm.toList cs 0):=hst.out.symm
        clear hst
        go_wp2
        go_roundw
        case rel=>exact ⟨i+1,by go_num,by omega,trivial,HZ⟩
        case measure=>simp [intOf];omega
    · have e:i=L:=by omega
      subst e
      have HZ:Hid (nmdI nm.toList cs 0=-1):=by rw [Hid,← hs.out,List.drop_of_length_le (by rw [HL.out];exact Nat.le_refl _)];rfl
      clear hs HH
      go_wp2
      go_ret
      exact ⟨by rw [HZ.out];rfl,rfl⟩
def fitS (fl:Int) (k:Nat) (q:Plc):Bool:=!ifB q.c.fl&&(decide (k=0)||!ifB fl)
def fitI (_:Nat) (q:Plc):Bool:=ifB q.c.fl
theorem look_place {ps:List Plc} {key:List UInt8} {k:Nat} (h:lookL ps key=some k):∃ q,ps[k]?=some q∧nameL q=key:=by
  obtain ⟨_,q,h1,h2⟩:=look_lt key ps 0 k h
  exact ⟨q,by simpa using h1,h2⟩
theorem abv_two (x:Except Int Nat):∃ r1 r2:Int,abvV x=.tuple #[.int .i64 r1,.int .i64 r2]:=by cases x <;> exact ⟨_,_,rfl⟩
set_option maxHeartbeats 4000000 in
theorem findSuper_any (N b mb:Nat) (ps:List Plc) (vp:Value) (pv:List PV) (nm su:ByteArray) (fl ld:Int) (ai am:Option Addr) (ni ci nn cm:Nat) (W:World) (h:HW W N b mb ps vp pv) (hsz:su.size≤maxLen) (hnz:nm.size≤maxLen) (hqz:∀ q∈ps,q.c.nm.size≤maxLen) :
    Calls Tryz.prog 79 #[.pointer (some ⟨b,0,none⟩),.agg #[.string nm,.string su,.slice ai ni ci,.int .i64 fl,.int .i64 ld,.slice am nn cm]] W fun e w'=>e=.returned (abvV (aboveN ps nm ld (fitS fl) su.data.toList))∧Below W.heap.size W w':=by
  obtain ⟨r1,r2,hR⟩:=abv_two (aboveN ps nm ld (fitS fl) su.data.toList)
  rw [hR]
  have hB2:Below W.heap.size W ((W.alloc (.cells #[.pointer (some ⟨b,0,none⟩)] 26)).alloc (.cells #[.string nm,.string su,.slice ai ni ci,.int .i64 fl,.int .i64 ld,.slice am nn cm] 48)):=((Below.refl _ _).alloc (Nat.le_refl _) _).alloc (by simp) _
  have HA:Hid (Calls Tryz.prog 158 #[.pointer (some ⟨b,0,none⟩),.agg #[.string nm,.string su,.slice ai ni ci,.int .i64 fl,.int .i64 ld,.slice am nn cm],.string su,.func (.func 159) #[] #[.pointer (some ⟨W.heap.size,0,none⟩),.pointer (some ⟨W.heap.size+1,0,none⟩)]] ((W.alloc (.cells #[.pointer (some ⟨b,0,none⟩)] 26)).alloc (.cells #[.string nm,.string su,.slice ai ni ci,.int .i64 fl,.int .i64 ld,.slice am nn cm] 48)) fun e w'=>e=.returned (.tuple #[.int .i64 r1,.int .i64 r2])∧Below W.heap.size W w'):=by
    have h0:=heap_alloc2_old W (.cells #[.pointer (some ⟨b,0,none⟩)] 26) (.cells #[.string nm,.string su,.slice ai ni ci,.int .i64 fl,.int .i64 ld,.slice am nn cm] 48)
    have h1:=heap_alloc2_new W (.cells #[.pointer (some ⟨b,0,none⟩)] 26) (.cells #[.string nm,.string su,.slice ai ni ci,.int .i64 fl,.int .i64 ld,.slice am nn cm] 48)
    have hz:((W.alloc (.cells #[.pointer (some ⟨b,0,none⟩)] 26)).alloc (.cells #[.string nm,.string su,.slice ai ni ci,.int .i64 fl,.int .i64 ld,.slice am nn cm] 48)).heap.size=W.heap.size+2:=by simp
    have hHW:=h.below hB2
    generalize (W.alloc (.cells #[.pointer (some ⟨b,0,none⟩)] 26)).alloc (.cells #[.string nm,.string su,.slice ai ni ci,.int .i64 fl,.int .i64 ld,.slice am nn cm] 48)=W2 at *
    cases hl:lookL ps su.data.toList with
    | none =>
      refine (findAbove_none _ N b mb ps vp pv nm su fl ld _ _ su hsz W2 hHW hl).mono ?_
      rintro e w' ⟨rfl,hb⟩
      exact ⟨by rw [← hR,aboveN,hl];rfl,bstep hB2 hb⟩
    | some k =>
      obtain ⟨q,hq,_⟩:=look_place hl
      refine (findAbove_sup W.heap.size (W.heap.size+1) N b mb ps vp pv nm su fl ld _ _ su hsz hnz W2 hHW k q hl hq (hqz q (List.mem_of_getElem? hq)) (fitS fl k q) (fun w hb=>?_)).mono ?_
      · refine fits_any N b mb W.heap.size (W.heap.size+1) ps vp pv k q nm su fl ld _ _ w (hHW.below hb) hq ((hb.block _ (by rw [hz];omega)).trans h0) ((hb.block _ (by rw [hz];omega)).trans h1)
      · rintro e w' ⟨rfl,hb⟩
        exact ⟨by rw [← hR,aboveN,hl];simp only [hq],bstep hB2 hb⟩
  clear h hB2 hR
  go_enter Tryz.func79,Tryz.ntmps79
  go_wp2_with (go_at_call 158;refine HA.out.mono ?_;rintro e w1 ⟨rfl,hb⟩;have B1:Hid (Below W.heap.size W w1):=hb;clear hb)
  exact bodyPost_ret (results_tmp2 rfl _ _ _) rfl ⟨rfl,B1.out⟩
set_option maxHeartbeats 4000000 in
theorem findAbove_ifc (N b mb:Nat) (ps:List Plc) (vp:Value) (pv:List PV) (nm su:ByteArray) (fl ld:Int) (vi vm:Value) (key:ByteArray) (hkz:key.size≤maxLen) (hnz:nm.size≤maxLen) (W:World) (h:HW W N b mb ps vp pv) (k:Nat) (q:Plc) (hl:lookL ps key.data.toList=some k) (hq:ps[k]?=some q) (hqz:q.c.nm.size≤maxLen) (ft:Bool)
    (hF:∀ w:World,Below W.heap.size W w→Calls Tryz.prog 56 #[.pointer (some ⟨b,0,none⟩),.int .i64 (k:Int)] w fun e w'=>e=.returned (.bool ft)∧Below w.heap.size w w') :
    Calls Tryz.prog 158 #[.pointer (some ⟨b,0,none⟩),.agg #[.string nm,.string su,vi,.int .i64 fl,.int .i64 ld,vm],.string key,.func (.func 56) #[.pointer (some ⟨b,0,none⟩)] #[]] W fun e w'=>e=.returned (abvV (if ft then (if pubB q.c.fl||sameP q.c nm ld then .ok k else .error 22) else .error 23))∧Below W.heap.size W w':=by
  have b1:=cell_of_row W b 1 _ _ _ h.hb
  simp only [List.getElem?_toArray,List.getElem?_cons_zero,List.getElem?_cons_succ] at b1
  obtain ⟨D,hD⟩:∃ D,numsD ps=D:=⟨_,rfl⟩
  have hz:Maps.has D (.string key.data.toList)=true:=by
    rw [← hD,numsD,nums_has _ _ _ _ isMap_empty]
    rw [lookL] at hl
    rw [hl];rfl
  have hat:∀ cc:Int,D.atKey (.string key.data.toList) (.lit (.int .i64 0))=.lit (.int .i64 cc)→cc=(k:Int):=fun cc hc=>by
    rw [← hD,numsD,nums_at _ _ _ _ _ isMap_empty] at hc
    rw [lookL] at hl
    rw [hl] at hc
    injection hc with h1
    injection h1 with _ h2
    exact h2.symm
  have hown:=h.map
  rw [hD] at hown
  have HOWN:Hid (∀ o,(W.alloc o).ownsMap Tryz.prog 9 (plainElem (H:=Unit) Tryz.prog 3) mb ps.length D):=fun o=>hown.alloc o
  have hkey:=Go.WideMaps.keyOf_string_mk (P:=Tryz.prog) Tryz.underlying9 hkz
  have HKEY:Hid (keyOf Tryz.prog 9 (.string key)=some (.string key.data.toList)):=hkey
  obtain ⟨kl,hkl⟩:∃ k,k=Lit.string key.data.toList:=⟨_,rfl⟩
  rw [← hkl] at HKEY hz hat
  have HAT:Hid (∀ cc:Int,D.atKey kl (.lit (.int .i64 0))=.lit (.int .i64 cc)→cc=(k:Int)):=hat
  have hlt:b<W.heap.size:=(Array.getElem?_eq_some_iff.1 h.hb).1
  have hlm:¬ b=W.heap.size:=by omega
  obtain ⟨g,cap,p,rfl,hpl,hcell⟩:=h.at hq
  have hkn:(k:Int)<(ps.length:Int):=by have:=(List.getElem?_eq_some_iff.1 hq).1;omega
  have b0:=cell_of_row W b 0 _ _ _ h.hb
  simp only [List.getElem?_toArray,List.getElem?_cons_zero] at b0
  have g0:W.cell? ⟨g,k * 8,none⟩=some (.string p.nm):=hcell 0 (by omega)
  have g1:W.cell? ⟨g,k * 8+1,none⟩=some (.string p.su):=hcell 1 (by omega)
  have g2:W.cell? ⟨g,k * 8+2,none⟩=some p.vi:=hcell 2 (by omega)
  have g3:W.cell? ⟨g,k * 8+3,none⟩=some (.int .i64 p.fl):=hcell 3 (by omega)
  have g4:W.cell? ⟨g,k * 8+4,none⟩=some (.int .i64 p.ld):=hcell 4 (by omega)
  have g5:W.cell? ⟨g,k * 8+5,none⟩=some p.vm:=hcell 5 (by omega)
  have hgl:g<W.heap.size:=World.block_lt_of_cell? W _ g0
  obtain ⟨qm,_,hoc⟩:=hpl.own
  obtain ⟨ai,ci,hvi⟩:=ownv hoc.ifs
  obtain ⟨am,cm,hvm⟩:=ownv hoc.ms
  rw [hvi] at g2
  rw [hvm] at g5
  have HF:Hid (∀ w:World,Below W.heap.size W w→Calls Tryz.prog 56 #[.pointer (some ⟨b,0,none⟩),.int .i64 (k:Int)] w fun e w'=>e=.returned (.bool ft)∧Below w.heap.size w w'):=hF
  have HP:Hid (∀ w:World,Calls Tryz.prog 216 #[.agg #[.string nm,.string su,vi,.int .i64 fl,.int .i64 ld,vm]] w fun e w'=>e=.returned (.agg #[.int .i64 ld,.string ⟨(pkgL nm.data.toList).toArray⟩])∧Below w.heap.size w w'):=fun w=>packageOf_any nm su fl ld vi vm w hnz
  have HQ:Hid (∀ w:World,Calls Tryz.prog 216 #[.agg #[.string p.nm,.string p.su,.slice ai q.c.ni ci,.int .i64 p.fl,.int .i64 p.ld,.slice am qm.length cm]] w fun e w'=>e=.returned (.agg #[.int .i64 q.c.ld,.string ⟨(pkgL q.c.nm.data.toList).toArray⟩])∧Below w.heap.size w w'):=fun w=>by rw [← hpl.ld,← hpl.nm];exact packageOf_any p.nm p.su p.fl p.ld _ _ w (by rw [hpl.nm];exact hqz)
  have hfl:p.fl=q.c.fl:=hpl.fl
  rw [← hfl]
  have HS:Hid (sameP q.c nm ld=((q.c.ld == ld)&&(pkgL q.c.nm.data.toList == pkgL nm.data.toList))):=rfl
  generalize sameP q.c nm ld=sp at *
  clear h hD hown hkey hkl hl hat hpl hcell hF hq hfl hoc hvi hvm
  cases ft with
  | false =>
    go_enter Tryz.func158,Tryz.ntmps158
    go_wp2_with (first
      | (at_lookup;refine wpList_lookup_own_ok_int _ rfl _ _ 115 rfl 9 3 .i64 law9 Tryz.underlying115 Tryz.underlying3 (zero3 _) mb ps.length D rfl (HOWN.out _) _ _ rfl HKEY.out ?_;intro cc hat hwc;obtain rfl:=HAT.out cc hat;clear hat hwc)
      | (go_at_call 56;refine (HF.out _ ((Below.refl _ _).alloc (Nat.le_refl _) _)).mono ?_;rintro e w1 ⟨rfl,hb⟩;have B1:Hid (Below W.heap.size W w1):=bstep ((Below.refl _ _).alloc (Nat.le_refl _) _) hb;clear hb HF))
    exact bodyPost_ret (results_tmp2 rfl _ _ _) rfl ⟨rfl,B1.out⟩
  | true =>
    obtain ⟨R,hR⟩:∃ R,R=abvV (if pubB p.fl||sp then .ok k else .error 22):=⟨_,rfl⟩
    simp only [if_true]
    rw [← hR]
    have HR:Hid (R=abvV (if pubB p.fl||sp then .ok k else .error 22)):=hR
    clear hR
    go_enter Tryz.func158,Tryz.ntmps158
    go_wp2_with (first
      | (at_lookup;refine wpList_lookup_own_ok_int _ rfl _ _ 115 rfl 9 3 .i64 law9 Tryz.underlying115 Tryz.underlying3 (zero3 _) mb ps.length D rfl (HOWN.out _) _ _ rfl HKEY.out ?_;intro cc hat hwc;obtain rfl:=HAT.out cc hat;clear hat hwc)
      | (go_at_call 56;(refine (HF.out _ ((Below.refl _ _).alloc (Nat.le_refl _) _)).mono ?_;rintro e w1 ⟨rfl,hb⟩;have B1:Hid (Below W.heap.size W w1):=bstep ((Below.refl _ _).alloc (Nat.le_refl _) _) hb;have bb:=B1.out;have b0:=(bb.cell (p:=⟨b,0,none⟩) hlt).trans b0;have g0:=(bb.cell (p:=⟨g,k * 8,none⟩) hgl).trans g0;have g1:=(bb.cell (p:=⟨g,k * 8+1,none⟩) hgl).trans g1;have g2:=(bb.cell (p:=⟨g,k * 8+2,none⟩) hgl).trans g2;have g3:=(bb.cell (p:=⟨g,k * 8+3,none⟩) hgl).trans g3;have g4:=(bb.cell (p:=⟨g,k * 8+4,none⟩) hgl).trans g4;have g5:=(bb.cell (p:=⟨g,k * 8+5,none⟩) hgl).trans g5;have hl1:b<w1.heap.size:=Nat.lt_of_lt_of_le hlt bb.size;have hg1:g<w1.heap.size:=Nat.lt_of_lt_of_le hgl bb.size;have hcw:=(hb.block W.heap.size (by simp)).trans (halloc W _);have HCW:Hid (w1.heap[W.heap.size]?=some (.cells #[.string nm,.string su,vi,.int .i64 fl,.int .i64 ld,vm] 48 (0,0))):=hcw;clear hb HF bb hcw)))
    obtain ⟨Wm,hWm⟩:∃ x,x=w1.alloc (.cells #[.string p.nm,.string p.su,.slice ai q.c.ni ci,.int .i64 p.fl,.int .i64 p.ld,.slice am qm.length cm] 48):=⟨_,rfl⟩
    have BM:Hid (Below w1.heap.size w1 Wm):=by rw [hWm];exact (Below.refl _ _).alloc (Nat.le_refl _) _
    have hm0:Wm.heap[w1.heap.size]?=some (.cells #[.string p.nm,.string p.su,.slice ai q.c.ni ci,.int .i64 p.fl,.int .i64 p.ld,.slice am qm.length cm] 48 (0,0)):=by rw [hWm];exact halloc _ _
    have hWl:W.heap.size<w1.heap.size:=(Array.getElem?_eq_some_iff.1 HCW.out).1
    have hm1:=(BM.out.block W.heap.size hWl).trans HCW.out
    have hsm:w1.heap.size<Wm.heap.size:=by rw [hWm];simp
    have hsW:W.heap.size<Wm.heap.size:=by omega
    rw [← hWm]
    have m0:=cell_of_row Wm w1.heap.size 0 _ _ _ hm0
    have m1:=cell_of_row Wm w1.heap.size 1 _ _ _ hm0
    have m2:=cell_of_row Wm w1.heap.size 2 _ _ _ hm0
    have m3:=cell_of_row Wm w1.heap.size 3 _ _ _ hm0
    have m4:=cell_of_row Wm w1.heap.size 4 _ _ _ hm0
    have m5:=cell_of_row Wm w1.heap.size 5 _ _ _ hm0
    have n0:=cell_of_row Wm W.heap.size 0 _ _ _ hm1
    have n1:=cell_of_row Wm W.heap.size 1 _ _ _ hm1
    have n2:=cell_of_row Wm W.heap.size 2 _ _ _ hm1
    have n3:=cell_of_row Wm W.heap.size 3 _ _ _ hm1
    have n4:=cell_of_row Wm W.heap.size 4 _ _ _ hm1
    have n5:=cell_of_row Wm W.heap.size 5 _ _ _ hm1
    simp only [List.getElem?_toArray,List.getElem?_cons_zero,List.getElem?_cons_succ] at m0 m1 m2 m3 m4 m5 n0 n1 n2 n3 n4 n5
    have BB:Hid (Below W.heap.size W Wm):=bstep B1.out BM.out
    have hsz1:W.heap.size≤Wm.heap.size:=by omega
    clear b0 b1 g0 g1 g2 g3 g4 g5 hm0 hm1 HCW HOWN HKEY HAT hl1 hg1 B1 BM hWm hlt hlm hgl
    have PB:Hid (pubB p.fl=(bits .and .i64 p.fl 1 != 0)):=rfl
    generalize pubB p.fl=pb at *
    cases pb with
    | true =>
      have h0:(bits .and .i64 p.fl 1 == 0)=false:=by have:=PB.out;rw [bne] at this;cases e:(bits .and .i64 p.fl 1 == 0) with
        | true=>rw [e] at this;cases this
        | false=>rfl
      have h01:¬ bits .and .i64 p.fl 1=0:=by simpa using h0
      clear PB HP HQ HS
      go_quiet ((fail))
      go_wp2
      exact bodyPost_ret (results_tmp2 rfl _ _ _) rfl ⟨by rw [HR.out];rfl,below_drewN BB.out _⟩
    | false =>
      have h0:bits .and .i64 p.fl 1=0:=by have:=PB.out;simpa [bne] using this.symm
      have S0:Hid (sp=((q.c.ld == ld)&&(pkgL q.c.nm.data.toList == pkgL nm.data.toList))):=HS
      clear PB HS
      by_cases hld:q.c.ld=ld
      · by_cases hpk:pkgL q.c.nm.data.toList=pkgL nm.data.toList
        · have hsp:sp=true:=by rw [S0.out,hld,hpk];simp
          rw [hld,hpk] at HQ
          clear hld hpk S0
          generalize (⟨(pkgL nm.data.toList).toArray⟩:ByteArray)=s1 at *
          go_region_held3 (fun w'=>w'.cell? ⟨w1.heap.size,0,none⟩=some (.string p.nm)∧w'.cell? ⟨w1.heap.size,1,none⟩=some (.string p.su)∧w'.cell? ⟨w1.heap.size,2,none⟩=some (.slice ai q.c.ni ci)∧w'.cell? ⟨w1.heap.size,3,none⟩=some (.int .i64 p.fl)∧w'.cell? ⟨w1.heap.size,4,none⟩=some (.int .i64 p.ld)∧w'.cell? ⟨w1.heap.size,5,none⟩=some (.slice am qm.length cm)∧w'.cell? ⟨W.heap.size,0,none⟩=some (.string nm)∧w'.cell? ⟨W.heap.size,1,none⟩=some (.string su)∧w'.cell? ⟨W.heap.size,2,none⟩=some vi∧w'.cell? ⟨W.heap.size,3,none⟩=some (.int .i64 fl)∧w'.cell? ⟨W.heap.size,4,none⟩=some (.int .i64 ld)∧w'.cell? ⟨W.heap.size,5,none⟩=some vm) (go_keep)
            (first
              | (go_at_call 216;refine (HQ.out _).mono ?_;rintro e w2 ⟨rfl,hb2⟩;have B2:Hid (Below W.heap.size W w2):=bstep BB.out.drew hb2;have kp:∀ (bb j:Nat) (v:Value),bb<Wm.heap.size→Wm.cell? ⟨bb,j,none⟩=some v→w2.cell? ⟨bb,j,none⟩=some v:=fun bb j v hl h=>(hb2.cell (p:=⟨bb,j,none⟩) hl).trans h;replace m0:=kp _ _ _ hsm m0;replace m1:=kp _ _ _ hsm m1;replace m2:=kp _ _ _ hsm m2;replace m3:=kp _ _ _ hsm m3;replace m4:=kp _ _ _ hsm m4;replace m5:=kp _ _ _ hsm m5;replace n0:=kp _ _ _ hsW n0;replace n1:=kp _ _ _ hsW n1;replace n2:=kp _ _ _ hsW n2;replace n3:=kp _ _ _ hsW n3;replace n4:=kp _ _ _ hsW n4;replace n5:=kp _ _ _ hsW n5;have hs2:Wm.heap.size≤w2.heap.size:=hb2.size;replace hsm:w1.heap.size<w2.heap.size:=Nat.lt_of_lt_of_le hsm hs2;replace hsW:W.heap.size<w2.heap.size:=Nat.lt_of_lt_of_le hsW hs2;clear kp hb2 HQ)
              | (go_at_call 216;refine (HP.out _).mono ?_;rintro e w3 ⟨rfl,hb3⟩;have B3:Hid (Below W.heap.size W w3):=bstep B2.out hb3;have kp:∀ (bb j:Nat) (v:Value),bb<w2.heap.size→w2.cell? ⟨bb,j,none⟩=some v→w3.cell? ⟨bb,j,none⟩=some v:=fun bb j v hl h=>(hb3.cell (p:=⟨bb,j,none⟩) hl).trans h;replace m0:=kp _ _ _ hsm m0;replace m1:=kp _ _ _ hsm m1;replace m2:=kp _ _ _ hsm m2;replace m3:=kp _ _ _ hsm m3;replace m4:=kp _ _ _ hsm m4;replace m5:=kp _ _ _ hsm m5;replace n0:=kp _ _ _ hsW n0;replace n1:=kp _ _ _ hsW n1;replace n2:=kp _ _ _ hsW n2;replace n3:=kp _ _ _ hsW n3;replace n4:=kp _ _ _ hsW n4;replace n5:=kp _ _ _ hsW n5;clear kp hb3 HP))
          go_wp2
          refine bodyPost_ret (results_tmp2 rfl _ _ _) rfl ⟨by rw [HR.out,hsp];rfl,B3.out⟩
        · have hsp:sp=false:=by rw [S0.out];simp [hpk]
          have hs12:¬ (⟨(pkgL q.c.nm.data.toList).toArray⟩:ByteArray)=⟨(pkgL nm.data.toList).toArray⟩:=fun e=>hpk (by injection e with e;simpa using e)
          have hs13:∀ x:List UInt8,(⟨x.toArray⟩:ByteArray).toList=x:=fun x=>by rw [Lib.toList_data]
          have hs14:¬ (⟨(pkgL q.c.nm.data.toList).toArray⟩:ByteArray).toList=(⟨(pkgL nm.data.toList).toArray⟩:ByteArray).toList:=by rw [hs13,hs13];exact hpk
          clear hs13
          rw [hld] at HQ
          clear hld hpk S0
          generalize (⟨(pkgL nm.data.toList).toArray⟩:ByteArray)=s1 at *
          generalize (⟨(pkgL q.c.nm.data.toList).toArray⟩:ByteArray)=s2 at *
          go_region_held3 (fun w'=>w'.cell? ⟨w1.heap.size,0,none⟩=some (.string p.nm)∧w'.cell? ⟨w1.heap.size,1,none⟩=some (.string p.su)∧w'.cell? ⟨w1.heap.size,2,none⟩=some (.slice ai q.c.ni ci)∧w'.cell? ⟨w1.heap.size,3,none⟩=some (.int .i64 p.fl)∧w'.cell? ⟨w1.heap.size,4,none⟩=some (.int .i64 p.ld)∧w'.cell? ⟨w1.heap.size,5,none⟩=some (.slice am qm.length cm)∧w'.cell? ⟨W.heap.size,0,none⟩=some (.string nm)∧w'.cell? ⟨W.heap.size,1,none⟩=some (.string su)∧w'.cell? ⟨W.heap.size,2,none⟩=some vi∧w'.cell? ⟨W.heap.size,3,none⟩=some (.int .i64 fl)∧w'.cell? ⟨W.heap.size,4,none⟩=some (.int .i64 ld)∧w'.cell? ⟨W.heap.size,5,none⟩=some vm) (go_keep)
            (first
              | (go_at_call 216;refine (HQ.out _).mono ?_;rintro e w2 ⟨rfl,hb2⟩;have B2:Hid (Below W.heap.size W w2):=bstep BB.out.drew hb2;have kp:∀ (bb j:Nat) (v:Value),bb<Wm.heap.size→Wm.cell? ⟨bb,j,none⟩=some v→w2.cell? ⟨bb,j,none⟩=some v:=fun bb j v hl h=>(hb2.cell (p:=⟨bb,j,none⟩) hl).trans h;replace m0:=kp _ _ _ hsm m0;replace m1:=kp _ _ _ hsm m1;replace m2:=kp _ _ _ hsm m2;replace m3:=kp _ _ _ hsm m3;replace m4:=kp _ _ _ hsm m4;replace m5:=kp _ _ _ hsm m5;replace n0:=kp _ _ _ hsW n0;replace n1:=kp _ _ _ hsW n1;replace n2:=kp _ _ _ hsW n2;replace n3:=kp _ _ _ hsW n3;replace n4:=kp _ _ _ hsW n4;replace n5:=kp _ _ _ hsW n5;have hs2:Wm.heap.size≤w2.heap.size:=hb2.size;replace hsm:w1.heap.size<w2.heap.size:=Nat.lt_of_lt_of_le hsm hs2;replace hsW:W.heap.size<w2.heap.size:=Nat.lt_of_lt_of_le hsW hs2;clear kp hb2 HQ)
              | (go_at_call 216;refine (HP.out _).mono ?_;rintro e w3 ⟨rfl,hb3⟩;have B3:Hid (Below W.heap.size W w3):=bstep B2.out hb3;have kp:∀ (bb j:Nat) (v:Value),bb<w2.heap.size→w2.cell? ⟨bb,j,none⟩=some v→w3.cell? ⟨bb,j,none⟩=some v:=fun bb j v hl h=>(hb3.cell (p:=⟨bb,j,none⟩) hl).trans h;replace m0:=kp _ _ _ hsm m0;replace m1:=kp _ _ _ hsm m1;replace m2:=kp _ _ _ hsm m2;replace m3:=kp _ _ _ hsm m3;replace m4:=kp _ _ _ hsm m4;replace m5:=kp _ _ _ hsm m5;replace n0:=kp _ _ _ hsW n0;replace n1:=kp _ _ _ hsW n1;replace n2:=kp _ _ _ hsW n2;replace n3:=kp _ _ _ hsW n3;replace n4:=kp _ _ _ hsW n4;replace n5:=kp _ _ _ hsW n5;clear kp hb3 HP))
          go_wp2
          refine bodyPost_ret (results_tmp2 rfl _ _ _) rfl ⟨by rw [HR.out,hsp];rfl,B3.out⟩
      · have hsp:sp=false:=by rw [S0.out];simp [hld]
        generalize (⟨(pkgL nm.data.toList).toArray⟩:ByteArray)=s1 at *
        generalize (⟨(pkgL q.c.nm.data.toList).toArray⟩:ByteArray)=s2 at *
        clear S0
        go_region_held3 (fun w'=>w'.cell? ⟨w1.heap.size,0,none⟩=some (.string p.nm)∧w'.cell? ⟨w1.heap.size,1,none⟩=some (.string p.su)∧w'.cell? ⟨w1.heap.size,2,none⟩=some (.slice ai q.c.ni ci)∧w'.cell? ⟨w1.heap.size,3,none⟩=some (.int .i64 p.fl)∧w'.cell? ⟨w1.heap.size,4,none⟩=some (.int .i64 p.ld)∧w'.cell? ⟨w1.heap.size,5,none⟩=some (.slice am qm.length cm)∧w'.cell? ⟨W.heap.size,0,none⟩=some (.string nm)∧w'.cell? ⟨W.heap.size,1,none⟩=some (.string su)∧w'.cell? ⟨W.heap.size,2,none⟩=some vi∧w'.cell? ⟨W.heap.size,3,none⟩=some (.int .i64 fl)∧w'.cell? ⟨W.heap.size,4,none⟩=some (.int .i64 ld)∧w'.cell? ⟨W.heap.size,5,none⟩=some vm) (go_keep)
          (first
            | (go_at_call 216;refine (HQ.out _).mono ?_;rintro e w2 ⟨rfl,hb2⟩;have B2:Hid (Below W.heap.size W w2):=bstep BB.out.drew hb2;have kp:∀ (bb j:Nat) (v:Value),bb<Wm.heap.size→Wm.cell? ⟨bb,j,none⟩=some v→w2.cell? ⟨bb,j,none⟩=some v:=fun bb j v hl h=>(hb2.cell (p:=⟨bb,j,none⟩) hl).trans h;replace m0:=kp _ _ _ hsm m0;replace m1:=kp _ _ _ hsm m1;replace m2:=kp _ _ _ hsm m2;replace m3:=kp _ _ _ hsm m3;replace m4:=kp _ _ _ hsm m4;replace m5:=kp _ _ _ hsm m5;replace n0:=kp _ _ _ hsW n0;replace n1:=kp _ _ _ hsW n1;replace n2:=kp _ _ _ hsW n2;replace n3:=kp _ _ _ hsW n3;replace n4:=kp _ _ _ hsW n4;replace n5:=kp _ _ _ hsW n5;have hs2:Wm.heap.size≤w2.heap.size:=hb2.size;replace hsm:w1.heap.size<w2.heap.size:=Nat.lt_of_lt_of_le hsm hs2;replace hsW:W.heap.size<w2.heap.size:=Nat.lt_of_lt_of_le hsW hs2;clear kp hb2 HQ)
            | (go_at_call 216;refine (HP.out _).mono ?_;rintro e w3 ⟨rfl,hb3⟩;have B3:Hid (Below W.heap.size W w3):=bstep B2.out hb3;have kp:∀ (bb j:Nat) (v:Value),bb<w2.heap.size→w2.cell? ⟨bb,j,none⟩=some v→w3.cell? ⟨bb,j,none⟩=some v:=fun bb j v hl h=>(hb3.cell (p:=⟨bb,j,none⟩) hl).trans h;replace m0:=kp _ _ _ hsm m0;replace m1:=kp _ _ _ hsm m1;replace m2:=kp _ _ _ hsm m2;replace m3:=kp _ _ _ hsm m3;replace m4:=kp _ _ _ hsm m4;replace m5:=kp _ _ _ hsm m5;replace n0:=kp _ _ _ hsW n0;replace n1:=kp _ _ _ hsW n1;replace n2:=kp _ _ _ hsW n2;replace n3:=kp _ _ _ hsW n3;replace n4:=kp _ _ _ hsW n4;replace n5:=kp _ _ _ hsW n5;clear kp hb3 HP))
        go_wp2
        refine bodyPost_ret (results_tmp2 rfl _ _ _) rfl ⟨by rw [HR.out,hsp];rfl,B3.out⟩
def ifsN (ps:List Plc) (nm:ByteArray) (ld:Int) (acc:List Nat):List (List UInt8)→Except Int (List Nat)
  | []=>.ok acc
  | p::r=>match aboveN ps nm ld fitI p with
    | .error e=>.error e
    | .ok k=>ifsN ps nm ld (acc++[k]) r
def IfR (N:Nat):Except Int (List Nat)→Ending→World→Prop
  | .ok l,e,w'=>∃ v,e=.returned (.tuple #[v,.int .i64 0])∧w'.ownsRow N 3 1 v l.length (l.map numV)
  | .error x,e,_=>e=.returned (.tuple #[.slice none 0 0,.int .i64 x])
theorem above_err {ps:List Plc} {nm:ByteArray} {ld:Int} {fit:Nat→Plc→Bool} {p:List UInt8} {x:Int} (h:aboveN ps nm ld fit p=.error x):¬ x=0:=by
  unfold aboveN at h
  repeat' split at h
  all_goals first|(cases h;done)|(cases h;decide)
theorem above_ok {ps:List Plc} {nm:ByteArray} {ld:Int} {fit:Nat→Plc→Bool} {p:List UInt8} {k:Nat} (h:aboveN ps nm ld fit p=.ok k):lookL ps p=some k∧∃ q,ps[k]?=some q∧fit k q=true∧(pubB q.c.fl||sameP q.c nm ld)=true:=by
  unfold aboveN at h
  cases hl:lookL ps p with
  | none=>rw [hl] at h;cases h
  | some j =>
    rw [hl] at h
    simp only at h
    cases hq:ps[j]? with
    | none=>rw [hq] at h;cases h
    | some q =>
      rw [hq] at h
      simp only at h
      by_cases h1:fit j q=true
      · rw [if_pos h1] at h
        by_cases h2:(pubB q.c.fl||sameP q.c nm ld)=true
        · rw [if_pos h2] at h
          cases h
          exact ⟨rfl,q,hq,h1,h2⟩
        · rw [if_neg h2] at h;cases h
      · rw [if_neg h1] at h;cases h
set_option maxHeartbeats 4000000 in
theorem findIfaces_any (N b mb:Nat) (ps:List Plc) (vp:Value) (pv:List PV) (nm su:ByteArray) (fl ld:Int) (ifs:List (List UInt8)) (ai am:Option Addr) (ci nn cm:Nat) (W:World) (h:HW W N b mb ps vp pv) (hnz:nm.size≤maxLen) (hqz:∀ q∈ps,q.c.nm.size≤maxLen) (hI:IsStrs W (.slice ai ifs.length ci) ifs) (hiz:∀ p∈ifs,p.length≤maxLen) (hil:ifs.length≤1000) :
    Calls Tryz.prog 80 #[.pointer (some ⟨b,0,none⟩),.agg #[.string nm,.string su,.slice ai ifs.length ci,.int .i64 fl,.int .i64 ld,.slice am nn cm]] W fun e w'=>IfR W.heap.size (ifsN ps nm ld [] ifs) e w'∧Below W.heap.size W w':=by
  obtain ⟨i0,hi0,hz0,hz1,hz2⟩:=info_parts Tryz.hinfo3
  obtain ⟨K,hK⟩:∃ K,ifs.length=K:=⟨_,rfl⟩
  have HK:Hid (ifs.length=K):=hK
  have HI:Hid (IsStrs W (.slice ai ifs.length ci) ifs):=hI
  rw [hK] at hil ⊢
  have HA:Hid (∀ (p:List UInt8) (w:World),p∈ifs→Below W.heap.size W w→Calls Tryz.prog 158 #[.pointer (some ⟨b,0,none⟩),.agg #[.string nm,.string su,.slice ai K ci,.int .i64 fl,.int .i64 ld,.slice am nn cm],.string ⟨p.toArray⟩,.func (.func 56) #[.pointer (some ⟨b,0,none⟩)] #[]] w fun e w'=>e=.returned (abvV (aboveN ps nm ld fitI p))∧Below w.heap.size w w'):=by
    intro p w hp hb
    have hpz:(⟨p.toArray⟩:ByteArray).size≤maxLen:=by rw [mk_size];exact hiz p hp
    have hHW:=h.below hb
    cases hl:lookL ps p with
    | none =>
      refine (findAbove_none _ N b mb ps vp pv nm su fl ld _ _ ⟨p.toArray⟩ hpz w hHW (by simpa using hl)).mono ?_
      rintro e w' ⟨rfl,hb⟩
      exact ⟨by rw [aboveN,hl];rfl,hb⟩
    | some k =>
      obtain ⟨q,hq,_⟩:=look_place hl
      refine (findAbove_ifc N b mb ps vp pv nm su fl ld _ _ ⟨p.toArray⟩ hpz hnz w hHW k q (by simpa using hl) hq (hqz q (List.mem_of_getElem? hq)) (fitI k q) (fun w2 hb2=>isIfaceW_yes N b mb ps vp pv k q w2 (hHW.below hb2) hq)).mono ?_
      rintro e w' ⟨rfl,hb⟩
      exact ⟨by rw [aboveN,hl];simp only [hq],hb⟩
  obtain ⟨R,hR⟩:∃ R,R=ifsN ps nm ld [] ifs:=⟨_,rfl⟩
  rw [← hR]
  have HR:Hid (R=ifsN ps nm ld [] ifs):=hR
  clear hK h hqz hiz hR hI hnz
  go_enter Tryz.func80,Tryz.ntmps80
  go_wp2
  go_loopw [6,14] (fun sv kv wr=>∃ (k:Nat) (acc:List Nat),kv=.int .i64 k∧k≤K∧acc.length=k∧Hid (ifsN ps nm ld acc (ifs.drop k)=ifsN ps nm ld [] ifs)∧Hid (wr.ownsRow (W.heap.size+1) 3 1 sv acc.length (acc.map numV))∧Hid (Below W.heap.size W wr)∧wr.heap[W.heap.size]?=some (.cells #[.string nm,.string su,.slice ai K ci,.int .i64 fl,.int .i64 ld,.slice am nn cm] 48 (0,0))) (fun _ kv _=>K - (intOf kv).toNat)
  case atStart=>exact ⟨0,[],rfl,Nat.zero_le _,rfl,rfl,World.ownsRow_nil _ _ _ _,(Below.refl _ _).alloc (Nat.le_refl _) _,halloc _ _⟩
  case round =>
    obtain ⟨k,acc,rfl,hk,hal,hacc,hown,hB,hblk⟩:=hrel
    have c0:=cell_of_row wr W.heap.size 0 _ _ _ hblk
    have c1:=cell_of_row wr W.heap.size 1 _ _ _ hblk
    have c2:=cell_of_row wr W.heap.size 2 _ _ _ hblk
    have c3:=cell_of_row wr W.heap.size 3 _ _ _ hblk
    have c4:=cell_of_row wr W.heap.size 4 _ _ _ hblk
    have c5:=cell_of_row wr W.heap.size 5 _ _ _ hblk
    simp only [List.getElem?_toArray,List.getElem?_cons_zero,List.getElem?_cons_succ] at c0 c1 c2 c3 c4 c5
    have HBL:Hid (wr.heap[W.heap.size]?=some (.cells #[.string nm,.string su,.slice ai K ci,.int .i64 fl,.int .i64 ld,.slice am nn cm] 48 (0,0))):=hblk
    have hWr:W.heap.size<wr.heap.size:=(Array.getElem?_eq_some_iff.1 hblk).1
    clear hblk
    by_cases hlt:k<K
    · obtain ⟨p,hp⟩:∃ p,ifs[k]?=some p:=⟨_,List.getElem?_eq_getElem (by rw [HK.out];exact hlt)⟩
      have hdrop:ifs.drop k=p::ifs.drop (k+1):=by
        obtain ⟨h1,h2⟩:=List.getElem?_eq_some_iff.1 hp
        rw [List.drop_eq_getElem_cons h1,h2]
      obtain ⟨bk,o,rfl,hbk,hcell⟩:∃ bk o,ai=some ⟨bk,o,none⟩∧bk<W.heap.size∧W.cell? ⟨bk,o+k,none⟩=some (.string ⟨p.toArray⟩):=by
        obtain ⟨ao,cap,e,_,_,h3⟩:=HI.out
        obtain ⟨bk,o,e2,hlt2,hc⟩:=h3 (fun e=>by rw [e] at hp;simp at hp)
        injection e with e1
        exact ⟨bk,o,by rw [e1,e2],hlt2,hc k p hp⟩
      have hce:=(hB.out.cell (p:=⟨bk,o+k,none⟩) hbk).trans hcell
      have HA1:Hid (Calls Tryz.prog 158 #[.pointer (some ⟨b,0,none⟩),.agg #[.string nm,.string su,.slice (some ⟨bk,o,none⟩) K ci,.int .i64 fl,.int .i64 ld,.slice am nn cm],.string ⟨p.toArray⟩,.func (.func 56) #[.pointer (some ⟨b,0,none⟩)] #[]] wr fun e w'=>e=.returned (abvV (aboveN ps nm ld fitI p))∧Below wr.heap.size wr w'):=HA.out p wr (List.mem_of_getElem? hp) hB.out
      have hst:ifsN ps nm ld acc (ifs.drop k)=match aboveN ps nm ld fitI p with | .error e=>.error e | .ok j=>ifsN ps nm ld (acc++[j]) (ifs.drop (k+1)):=by rw [hdrop,ifsN]
      rw [hacc.out] at hst
      clear hcell hdrop hp HA hacc
      cases ha:aboveN ps nm ld fitI p with
      | error x =>
        rw [ha] at hst HA1
        have hRx:R=.error x:=by rw [HR.out,hst]
        have hx0:¬ x=0:=above_err ha
        clear hst ha
        obtain ⟨va,vn,rfl⟩:=ownv hown.out
        go_wp2_with (go_at_call 158;refine HA1.out.mono ?_;rintro e w1 ⟨rfl,hb⟩;rw [abvV];have B1:Hid (Below W.heap.size W w1):=bstep hB.out hb;clear hb HA1)
        subst hRx
        exact bodyPost_ret (results_tmp2 rfl _ _ _) rfl ⟨show Ending.returned _=Ending.returned _ from rfl,B1.out⟩
      | ok j =>
        rw [ha] at hst HA1
        have hnext:Hid (ifsN ps nm ld (acc++[j]) (ifs.drop (k+1))=ifsN ps nm ld [] ifs):=hst.symm
        clear hst ha
        obtain ⟨va,vn,rfl⟩:=ownv hown.out
        go_wp2_with (first
          | (go_at_call 158;refine HA1.out.mono ?_;rintro e w1 ⟨rfl,hb⟩;rw [abvV];have B1:Hid (Below W.heap.size W w1):=bstep hB.out hb;have O1:Hid (w1.ownsRow (W.heap.size+1) 3 1 (.slice va acc.length vn) acc.length (acc.map numV)):=rowBelow hown.out hb;have HB1:=(hb.block W.heap.size hWr).trans HBL.out;have hW1:W.heap.size<w1.heap.size:=Nat.lt_of_lt_of_le hWr hb.size;clear hb HA1)
          | (at_builtin;refine wpList_append_own _ rfl _ _ 99 rfl (W.heap.size+1) 3 i0 (.int .i64 0) 1 8 Tryz.underlying99 hi0 hz0 hz1 hz2 rfl (by decide) (.slice va acc.length vn) acc.length (acc.map numV) (by first|rfl|(rw [hal];rfl)) (O1.out.alloc _) ⟨w1.heap.size,0,none⟩ 1 1 [.int .i64 (j:Int)] rfl rfl ?c1 ?c2 ?c3 ?c4 ?c5 ?_))
        case c1=>intro jj u hj;rw [addr_add];cases jj with
          | zero=>simp at hj;subst hj;simp [go_sem]
          | succ jj=>simp at hj
        case c2=>intro u hu;simp at hu;subst hu;rfl
        case c3=>unfold maxLen;omega
        case c4=>omega
        case c5=>simp;omega
        intro v' w2 hown2 hgrow _
        obtain ⟨va2,vn2,rfl⟩:=ownv hown2
        simp only [← hal] at hown2 hgrow
        have B2:Hid (Below W.heap.size W w2):=by
          have hb1:Below W.heap.size W (w1.alloc (.cells #[.int .i64 (j:Int)] 3)):=B1.out.alloc B1.out.size _
          refine hb1.grown hgrow hb1.size (fun x hx=>?_)
          have:=(O1.out.lt x hx).1
          omega
        have HB2:Hid (w2.heap[W.heap.size]?=some (.cells #[.string nm,.string su,.slice (some ⟨bk,o,none⟩) K ci,.int .i64 fl,.int .i64 ld,.slice am nn cm] 48 (0,0))):=by
          refine (hgrow.block W.heap.size (by simp;omega) (fun hx=>?_)).trans ?_
          · have:=(O1.out.lt W.heap.size hx.symm).1
            omega
          · refine ((Below.refl w1.heap.size w1).alloc (Nat.le_refl _) _).block W.heap.size hW1 |>.trans HB1
        have O2:Hid (w2.ownsRow (W.heap.size+1) 3 1 (.slice va2 (k+1) vn2) (acc++[j]).length ((acc++[j]).map numV)):=by
          rw [Hid,List.length_append,List.map_append,← hal];exact hown2
        clear hown2 hgrow HB1
        go_wp2
        go_roundw
        case rel=>exact ⟨k+1,acc++[j],by go_num,by omega,by simp [hal],hnext,O2,B2,HB2.out⟩
        case measure=>simp [intOf];omega
    · have e:k=K:=by omega
      subst e
      have hRx:R=.ok acc:=by rw [HR.out,← hacc.out,List.drop_of_length_le (by rw [HK.out];exact Nat.le_refl _),ifsN]
      subst hRx
      obtain ⟨va,vn,rfl⟩:=ownv hown.out
      go_wp2
      exact bodyPost_ret (results_tmp2 rfl _ _ _) rfl ⟨⟨_,rfl,Go.Joins.ownsRow_le hown.out (by omega)⟩,hB.out⟩
end Go.Proofs.YtjlfnelihbdhjaaGreat
