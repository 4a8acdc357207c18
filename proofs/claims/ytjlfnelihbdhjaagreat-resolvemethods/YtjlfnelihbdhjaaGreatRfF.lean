import Derived.Test.YtjlfnelihbdhjaaGreatHrP
import Derived.Test.YtjlfnelihbdhjaaGreatHrS
import Derived.Test.YtjlfnelihbdhjaaGreatShpE
import Derived.Test.YtjlfnelihbdhjaaGreatRwB
import Derived.Test.YtjlfnelihbdhjaaGreatFOwnA
import Derived.Deep.RegionHeld3
import Derived.Deep.DeepCutAuto
set_option maxRecDepth 100000
namespace Go.Proofs.YtjlfnelihbdhjaaGreat
open Go.RowKit Go.Maps
structure CR where
  c:Cls
  vi:Value
  vm:Value
def crC (r:CR):List Value:=[.string r.c.nm,.string r.c.su,r.vi,.int .i64 r.c.fl,.int .i64 r.c.ld,r.vm]
def flatR (l:List CR):List Value:=l.flatMap crC
theorem flatR_at (l:List CR) (k:Nat) (p:CR) (h:l[k]?=some p) (j:Nat) (hj:j<6):(flatR l)[k * 6+j]?=(crC p)[j]?:=by
  induction l generalizing k with
  | nil=>simp at h
  | cons u ts ih =>
    have e:flatR (u::ts)=crC u++flatR ts:=by simp [flatR]
    rw [e]
    cases k with
    | zero=>simp at h;subst h;rw [List.getElem?_append_left (by simp [crC];omega)];simp
    | succ k =>
      simp at h
      rw [List.getElem?_append_right (by simp [crC];omega)]
      have:=ih k h
      rw [← this]
      congr 1
      simp [crC];omega
def CrO (w:World) (N:Nat) (r:CR):Prop:=∃ qm,qm.map Prod.fst=r.c.ms.map hmOf∧OwnC w N r.vi r.c.ifs.length (strsV r.c.ifs) r.vm qm
structure RW (w:World) (N b:Nat) (v:Value) (rs:List CR):Prop where
  hb:w.heap[b]?=some (.cells #[v] 113 (0,0))
  row:w.ownsRow N 48 6 v rs.length (flatR rs)
  own:∀ r∈rs,CrO w N r
  lb:N≤b
theorem OwnC.below {w w':World} {N:Nat} {vi:Value} {ni:Nat} {xi:List Value} {vm:Value} {qm:List (HM×Value)} (h:OwnC w N vi ni xi vm qm) (hb:Below w.heap.size w w'):OwnC w' N vi ni xi vm qm :=
  ⟨rowBelow h.ifs hb,rowBelow h.ms hb,fun x hx=>rowBelow (h.cod x hx) hb⟩
theorem CrO.below {w w':World} {N:Nat} {r:CR} (h:CrO w N r) (hb:Below w.heap.size w w'):CrO w' N r:=by
  obtain ⟨qm,h1,h2⟩:=h
  exact ⟨qm,h1,h2.below hb⟩
theorem RW.below {w w':World} {N b:Nat} {v:Value} {rs:List CR} (h:RW w N b v rs) (hb:Below w.heap.size w w'):RW w' N b v rs :=
  ⟨(hb.block b (Array.getElem?_eq_some_iff.1 h.hb).1).trans h.hb,rowBelow h.row hb,fun r hr=>(h.own r hr).below hb,h.lb⟩
def RAt (b:Nat) (cs:List Cls) (w:World):Prop:=∃ N v rs,RW w N b v rs∧rs.map CR.c=cs
theorem RAt.below {b:Nat} {cs:List Cls} {w w':World} (h:RAt b cs w) (hb:Below w.heap.size w w'):RAt b cs w':=by
  obtain ⟨N,v,rs,h,e⟩:=h
  exact ⟨N,v,rs,h.below hb,e⟩
theorem rds_strs {w:World} {v:Value} {l:List (List UInt8)} (h:Rds w v l.length 1 (strsV l)):IsStrs w v l:=by
  rcases h.val with ⟨rfl,e⟩|⟨bk,o,cap,rfl,h1,h2,h3,h4⟩
  · obtain rfl:l=[]:=List.length_eq_zero_iff.1 e
    exact ⟨none,0,rfl,Nat.le_refl _,by unfold maxLen;omega,fun h=>absurd rfl h⟩
  · exact ⟨_,cap,rfl,h1,h2,fun _=>⟨bk,o,rfl,h3,fun k p hk=>h4 k _ (by rw [strsV,List.getElem?_map,hk];rfl)⟩⟩
theorem rds_inss {w:World} {v:Value} {l:List Ins} (h:Rds w v l.length 7 (flatI l)):IsInss w v l:=by
  rcases h.val with ⟨rfl,e⟩|⟨bk,o,cap,rfl,h1,h2,h3,h4⟩
  · obtain rfl:l=[]:=List.length_eq_zero_iff.1 e
    exact ⟨none,0,rfl,Nat.le_refl _,by unfold maxLen;omega,fun h=>absurd rfl h⟩
  · refine ⟨_,cap,rfl,h1,h2,fun _=>⟨bk,o,rfl,h3,fun k i hk=>?_⟩⟩
    have g:=fun j hj=>flatI_ins l k i hk j hj
    have f:=fun j u (hj:j<7) (hu:(insC i)[j]?=some u)=>h4 (k * 7+j) u ((g j hj).trans hu)
    have f0:=f 0 _ (by omega) rfl
    have f1:=f 1 _ (by omega) rfl
    have f2:=f 2 _ (by omega) rfl
    have f3:=f 3 _ (by omega) rfl
    have f4:=f 4 _ (by omega) rfl
    have f5:=f 5 _ (by omega) rfl
    have f6:=f 6 _ (by omega) rfl
    simp only [← Nat.add_assoc,Nat.add_zero] at f0 f1 f2 f3 f4 f5 f6
    exact ⟨f0,f1,f2,f3,f4,f5,f6⟩
theorem own_mths {w:World} {N:Nat} {vi vm:Value} {ni:Nat} {xi:List Value} {qm:List (HM×Value)} {l:List Mth} (h:OwnC w N vi ni xi vm qm) (hq:qm.map Prod.fst=l.map hmOf):IsMths w vm l:=by
  have hlen:qm.length=l.length:=by have:=congrArg List.length hq;simpa using this
  have hr:=own_rds h.ms
  rcases hr.val with ⟨e1,e⟩|⟨bk,o,cap,e1,h1,h2,h3,h4⟩
  · obtain rfl:l=[]:=List.length_eq_zero_iff.1 (by omega)
    exact ⟨none,0,e1,Nat.le_refl _,by unfold maxLen;omega,fun h=>absurd rfl h⟩
  · refine ⟨_,cap,by rw [e1,hlen],by omega,h2,fun _=>⟨bk,o,rfl,h3,fun k m hk=>?_⟩⟩
    obtain ⟨⟨x,vc⟩,hx,hxm⟩:∃ p,qm[k]?=some p∧p.1=hmOf m:=by
      have hk2:(qm.map Prod.fst)[k]?=some (hmOf m):=by rw [hq,List.getElem?_map,hk];rfl
      rw [List.getElem?_map] at hk2
      cases e:qm[k]? with
      | none=>rw [e] at hk2;cases hk2
      | some p=>rw [e] at hk2;exact ⟨p,rfl,Option.some.inj hk2⟩
    simp only at hxm
    subst hxm
    have f:=fun j u (hj:j<6) (hu:(hmC (hmOf m,vc))[j]?=some u)=>h4 (k * 6+j) u ((flatH_at qm k _ hx j hj).trans hu)
    have f0:=f 0 _ (by omega) rfl
    have f1:=f 1 _ (by omega) rfl
    have f2:=f 2 _ (by omega) rfl
    have f3:=f 3 _ (by omega) rfl
    have f4:=f 4 _ (by omega) rfl
    have f5:=f 5 _ (by omega) rfl
    simp only [← Nat.add_assoc,Nat.add_zero] at f0 f1 f2 f3 f4 f5
    exact ⟨f0,f1,f2,f3,f4,vc,f5,rds_inss (own_rds (h.cod _ (List.mem_of_getElem? hx)))⟩
theorem RAt.cells {b:Nat} {cs:List Cls} {w:World} (h:RAt b cs w) {k:Nat} {c:Cls} (hk:cs[k]?=some c):∃ g cap vi vm,w.cell? ⟨b,0,none⟩=some (.slice (some ⟨g,0,none⟩) cs.length cap)∧b<w.heap.size∧g<w.heap.size ∧
    w.cell? ⟨g,k * 6,none⟩=some (.string c.nm)∧w.cell? ⟨g,k * 6+1,none⟩=some (.string c.su)∧w.cell? ⟨g,k * 6+2,none⟩=some vi∧w.cell? ⟨g,k * 6+3,none⟩=some (.int .i64 c.fl)∧w.cell? ⟨g,k * 6+4,none⟩=some (.int .i64 c.ld)∧w.cell? ⟨g,k * 6+5,none⟩=some vm∧IsStrs w vi c.ifs∧IsMths w vm c.ms:=by
  obtain ⟨N,v,rs,h,rfl⟩:=h
  rw [List.getElem?_map] at hk
  cases e:rs[k]? with
  | none=>rw [e] at hk;cases hk
  | some r =>
    rw [e] at hk
    cases hk
    have hkl:=(List.getElem?_eq_some_iff.1 e).1
    obtain ⟨g,cap,rfl⟩:=Go.Joins.ownsRow_form h.row (by omega)
    have hat:=fun j hj=>(h.row.cellAt (k * 6+j) (by omega)).trans (flatR_at rs k r e j hj)
    have b0:=cell_of_row w b 0 _ _ _ h.hb
    simp only [List.getElem?_toArray,List.getElem?_cons_zero] at b0
    obtain ⟨qm,hq,ho⟩:=h.own r (List.mem_of_getElem? e)
    have c0:w.cell? ⟨g,k * 6,none⟩=some (.string r.c.nm):=hat 0 (by omega)
    exact ⟨g,cap,r.vi,r.vm,by rw [List.length_map];exact b0,(Array.getElem?_eq_some_iff.1 h.hb).1,World.block_lt_of_cell? w _ c0,c0,hat 1 (by omega),hat 2 (by omega),hat 3 (by omega),hat 4 (by omega),hat 5 (by omega),rds_strs (own_rds ho.ifs),own_mths ho hq⟩
theorem RAt.len {b:Nat} {cs:List Cls} {w:World} (h:RAt b cs w):∃ a cap,w.cell? ⟨b,0,none⟩=some (.slice a cs.length cap)∧b<w.heap.size:=by
  obtain ⟨N,v,rs,h,rfl⟩:=h
  obtain ⟨a,cap,rfl⟩:=ownv h.row
  have b0:=cell_of_row w b 0 _ _ _ h.hb
  simp only [List.getElem?_toArray,List.getElem?_cons_zero] at b0
  exact ⟨a,cap,by rw [List.length_map];exact b0,(Array.getElem?_eq_some_iff.1 h.hb).1⟩
def clsI (cs:List Cls) (i:Int):Option Cls:=if 0≤i then cs[i.toNat]? else none
theorem clsI_nat (cs:List Cls) (k:Nat):clsI cs (k:Int)=cs[k]?:=by
  rw [clsI,if_pos (Int.natCast_nonneg k)];rfl
theorem clsI_cases (cs:List Cls) (i:Int):(clsI cs i=none∧¬ (0≤i∧i<(cs.length:Int)))∨∃ (k:Nat) (q:Cls),i=(k:Int)∧cs[k]?=some q∧clsI cs i=some q:=by
  by_cases h:0≤i∧i<(cs.length:Int)
  · obtain ⟨k,rfl⟩:∃ k:Nat,i=(k:Int):=⟨i.toNat,by omega⟩
    have hk:k<cs.length:=by omega
    exact .inr ⟨k,_,rfl,List.getElem?_eq_getElem hk,by rw [clsI_nat];exact List.getElem?_eq_getElem hk⟩
  · refine .inl ⟨?_,h⟩
    unfold clsI
    by_cases h0:0≤i
    · rw [if_pos h0];exact List.getElem?_eq_none (by omega)
    · rw [if_neg h0]
theorem rIn_c {b:Nat} {cs:List Cls} {W:World} (h:RAt b cs W) (i:Int):Calls Tryz.prog 76 #[.pointer (some ⟨b,0,none⟩),.int .i64 i] W fun e w'=>e=.returned (.bool (clsI cs i).isSome)∧w'=W:=by
  obtain ⟨a,cap,b0,_⟩:=h.len
  rcases clsI_cases cs i with ⟨h1,h2⟩|⟨k,q,rfl,h2,h1⟩
  · rw [h1]
    clear h
    by_cases h0:0≤i
    · have h3:¬ i<(cs.length:Int):=fun hh=>h2 ⟨h0,hh⟩
      clear h2
      go_enter Tryz.func76,Tryz.ntmps76
      go_wp2
      exact bodyPost_ret (results_tmp rfl _ _ _) rfl ⟨rfl,rfl⟩
    · clear h2
      go_enter Tryz.func76,Tryz.ntmps76
      go_wp2
      exact bodyPost_ret (results_tmp rfl _ _ _) rfl ⟨rfl,rfl⟩
  · rw [h1]
    have hk:(k:Int)<(cs.length:Int):=by have:=(List.getElem?_eq_some_iff.1 h2).1;omega
    clear h h2 h1
    go_enter Tryz.func76,Tryz.ntmps76
    go_wp2
    exact bodyPost_ret (results_tmp rfl _ _ _) rfl ⟨rfl,rfl⟩
def nmdI (key:List UInt8):List Cls→Nat→Int
  | [],_=>-1
  | c::r,k=>if c.nm.toList == key then (k:Int) else nmdI key r (k+1)
theorem nmdI_at {key:List UInt8} {cs:List Cls} (k:Nat) (c:Cls) (h:cs[k]?=some c):nmdI key (cs.drop k) k=if c.nm.toList == key then (k:Int) else nmdI key (cs.drop (k+1)) (k+1):=by
  obtain ⟨h1,h2⟩:=List.getElem?_eq_some_iff.1 h
  rw [List.drop_eq_getElem_cons h1,h2,nmdI]
set_option maxHeartbeats 1000000 in
theorem rNamed_c {b:Nat} {cs:List Cls} {W:World} (h:RAt b cs W) (nm:ByteArray) (hn:cs.length≤300):Calls Tryz.prog 136 #[.pointer (some ⟨b,0,none⟩),.string nm] W fun e w'=>e=.returned (.int .i64 (nmdI nm.toList cs 0))∧w'=W:=by
  obtain ⟨a,cap,b0,_⟩:=h.len
  have HH:Hid (RAt b cs W):=h
  clear h
  obtain ⟨L,hL⟩:∃ L,cs.length=L:=⟨_,rfl⟩
  have HL:Hid (cs.length=L):=hL
  rw [hL] at b0 hn
  clear hL
  go_enter Tryz.func136,Tryz.ntmps136
  go_wp2
  go_loopw [5] (fun iv wr=>∃ i:Nat,iv=.int .i64 i∧i≤L∧wr=W∧Hid (nmdI nm.toList (cs.drop i) i=nmdI nm.toList cs 0)) (fun iv _=>L - (intOf iv).toNat)
  case atStart=>exact ⟨0,rfl,Nat.zero_le _,rfl,rfl⟩
  case round =>
    obtain ⟨i,rfl,hi,rfl,hs⟩:=hrel
    by_cases hlt:i<L
    · obtain ⟨c,hc⟩:∃ c,cs[i]?=some c:=⟨_,List.getElem?_eq_getElem (by rw [HL.out];exact hlt)⟩
      obtain ⟨g,cap',vi,vm,b0',_,_,c0,_⟩:=HH.out.cells hc
      rw [HL.out,b0] at b0'
      simp only [Option.some.injEq,Value.slice.injEq,true_and] at b0'
      obtain ⟨rfl,rfl⟩:=b0'
      have hst:=nmdI_at (key:=nm.toList) i c hc
      rw [hs.out] at hst
      have hst:Hid _:=hst
      clear hs hc HH
      cases q:(c.nm.toList == nm.toList) with
      | true =>
        rw [q] at hst
        have HZ:Hid (nmdI nm.toList cs 0=(i:Int)):=hst.out
        clear hst
        go_wp2
        go_ret
        exact ⟨by rw [HZ.out];rfl,rfl⟩
      | false =>
        rw [q] at hst
        have HZ:Hid (nmdI nm.toList (cs.drop (i+1)) (i+1)=nmdI nm.toList cs 0):=hst.out.symm
        clear hst
        go_wp2
        go_roundw
        case rel=>exact ⟨i+1,by go_num,by omega,trivial,HZ⟩
        case measure=>simp [intOf];omega
    · have e:i=L:=by omega
      subst e
      have HZ:Hid (nmdI nm.toList cs 0=-1):=by rw [Hid,← hs.out,List.drop_of_length_le (by rw [HL.out];exact Nat.le_refl _)];rfl
      clear hs HH
      go_wp2
      go_ret
      exact ⟨by rw [HZ.out];rfl,rfl⟩
def idV (i:Int):Value:=.int .i64 i
def inNs (n:Nat) (l:List Int):Bool:=l.all fun i=>decide (0≤i)&&decide (i<(n:Int))
set_option maxHeartbeats 1000000 in
theorem checkA_any (N b mb:Nat) (ps:List Plc) (vp:Value) (pv:List PV) (v:Value) (ids:List Int) (W:World) (h:HW W N b mb ps vp pv) (hv:Rds W v ids.length 1 (ids.map idV)) (hk9:ids.length≤1000000):Calls Tryz.prog 170 #[.pointer (some ⟨b,0,none⟩),v] W fun e w'=>e=.returned (.int .i64 (if inNs ps.length ids then 0 else 3))∧Below W.heap.size W w':=by
  obtain ⟨L,hL⟩:∃ L,ids.length=L:=⟨_,rfl⟩
  have HL:Hid (ids.length=L):=hL
  obtain ⟨av,cv,rfl⟩:=hv.slice
  have HV:Hid (Rds W (.slice av ids.length cv) ids.length 1 (ids.map idV)):=hv
  have HLen:Hid (∀ w:World,Below W.heap.size W w→Calls Tryz.prog 28 #[.pointer (some ⟨b,0,none⟩)] w fun e w'=>e=.returned (.int .i64 (ps.length:Int))∧w'=w):=fun w hb=>len_any N b mb ps vp pv w (h.below hb)
  rw [hL]
  rw [hL] at hk9
  clear hv h hL
  obtain ⟨R,hR⟩:∃ R,R=(if inNs ps.length ids then (0:Int) else 3):=⟨_,rfl⟩
  rw [← hR]
  have HR:Hid (R=(if inNs ps.length ids then (0:Int) else 3)):=hR
  clear hR
  go_enter Tryz.func170,Tryz.ntmps170
  go_wp2
  go_loopw [11] (fun kv wr=>∃ k:Nat,kv=.int .i64 k∧k≤L∧wr=W∧Hid (inNs ps.length (ids.take k)=true)) (fun kv _=>L - (intOf kv).toNat)
  case atStart=>exact ⟨0,rfl,Nat.zero_le _,rfl,rfl⟩
  case round =>
    obtain ⟨k,rfl,hk,rfl,hin⟩:=hrel
    by_cases hlt:k<L
    · obtain ⟨id,hid⟩:∃ p,ids[k]?=some p:=⟨_,List.getElem?_eq_getElem (by rw [HL.out];exact hlt)⟩
      obtain ⟨bk,o,rfl,hbk,hcell⟩:∃ bk o,av=some ⟨bk,o,none⟩∧bk<wr.heap.size∧wr.cell? ⟨bk,o+k,none⟩=some (.int .i64 id):=by
        rcases HV.out.val with ⟨_,e2⟩|⟨bk,o,c,e,_,_,h3,h4⟩
        · rw [HL.out] at e2;omega
        · simp only [Value.slice.injEq] at e
          exact ⟨bk,o,e.1,h3,h4 k _ (by rw [List.getElem?_map,hid];rfl)⟩
      have hT:ids.take (k+1)=ids.take k++[id]:=by rw [List.take_add_one,hid];rfl
      have HNX:Hid (inNs ps.length (ids.take (k+1))=(decide (0≤id)&&decide (id<(ps.length:Int)))):=by
        rw [Hid,hT,inNs,List.all_append]
        have:=hin.out
        rw [inNs] at this
        rw [this];simp
      have HNO:Hid ((decide (0≤id)&&decide (id<(ps.length:Int)))=false→R=3):=fun hf=>by
        rw [HR.out,if_neg]
        intro hall
        rw [inNs,List.all_eq_true] at hall
        have:=hall id (List.mem_of_getElem? hid)
        rw [hf] at this;cases this
      clear hT hid
      by_cases h0:id<0
      · go_wp2
        exact bodyPost_ret (results_tmp rfl _ _ _) rfl ⟨by have e:=HNO.out (by rw [decide_eq_false (by omega)];rfl);subst e;rfl,Below.refl _ _⟩
      · by_cases h1:(ps.length:Int)≤id
        · go_wp2_with (go_at_call 28;refine (HLen.out _ (Below.refl _ _)).mono ?_;rintro e w9 ⟨rfl,hw9⟩;rw [hw9];clear hw9 w9)
          exact bodyPost_ret (results_tmp rfl _ _ _) rfl ⟨by have e:=HNO.out (by rw [decide_eq_false (p:=id<_) (by omega),Bool.and_false]);subst e;rfl,Below.refl _ _⟩
        · go_wp2_with (go_at_call 28;refine (HLen.out _ (Below.refl _ _)).mono ?_;rintro e w9 ⟨rfl,hw9⟩;rw [hw9];clear hw9 w9)
          go_roundw
          case rel=>exact ⟨k+1,by go_num,by omega,trivial,by rw [Hid,HNX.out,decide_eq_true (by omega),decide_eq_true (by omega)];rfl⟩
          case measure=>simp [intOf];omega
    · have e:k=L:=by omega
      subst e
      have hall:R=0:=by
        rw [HR.out]
        have:=hin.out
        rw [List.take_of_length_le (by rw [HL.out];exact Nat.le_refl _)] at this
        rw [if_pos this]
      go_wp2
      exact bodyPost_ret (results_tmp rfl _ _ _) rfl ⟨by subst hall;rfl,Below.refl _ _⟩
theorem check_c {b:Nat} {ps:List Plc} {W:World} (h:WAt b ps W) (v:Value) (ids:List Int) (hv:Rds W v ids.length 1 (ids.map idV)) (hk9:ids.length≤1000000):Calls Tryz.prog 170 #[.pointer (some ⟨b,0,none⟩),v] W fun e w'=>e=.returned (.int .i64 (if inNs ps.length ids then 0 else 3))∧Below W.heap.size W w':=by
  obtain ⟨N,mb,vp,pv,h⟩:=h
  exact checkA_any N b mb ps vp pv v ids W h hv hk9
theorem open_c (f:Int) (W:World):Calls Tryz.prog 141 #[.int .i64 f] W fun e w'=>e=.returned (.int .i64 (openI f))∧w'=W:=by
  have HR:Hid (openI f=if hasI f 1 then 1 else if hasI f 4 then 4 else bits .and .i64 f 2):=Fl.own_open f
  have HH:Hid (∀ (x:Int) (y:Bool) (w:World),hasI f x=y→Calls Tryz.prog 206 #[.int .i64 f,.int .i64 x] w fun e w'=>e=.returned (.bool y)∧w'=w):=fun x y w hy=>by rw [← hy];exact Fl.hasAny_any f x w
  generalize openI f=r at *
  generalize hasI f=hz at *
  obtain ⟨b1,h1⟩:∃ b,hz 1=b:=⟨_,rfl⟩
  obtain ⟨b4,h4⟩:∃ b,hz 4=b:=⟨_,rfl⟩
  rw [h1,h4] at HR
  have H1:Hid _:=h1
  have H4:Hid _:=h4
  clear h1 h4
  cases b1 <;> cases b4
  all_goals
    go_enter Tryz.func141,Tryz.ntmps141
    go_wp2_with (go_at_call 206;refine (HH.out _ _ _ (by first|exact H1.out|exact H4.out)).mono ?_;rintro e w9 ⟨rfl,hw9⟩;rw [hw9];clear hw9 w9)
    exact bodyPost_ret (results_tmp rfl _ _ _) rfl ⟨by rw [HR.out];rfl,rfl⟩
def pkB (nm:ByteArray):ByteArray:=⟨(pkgL nm.data.toList).toArray⟩
theorem aPkg_c {b:Nat} {ps:List Plc} {W:World} (h:WAt b ps W) (k:Nat) (q:Plc) (hq:ps[k]?=some q) (hB:PlcB q):Calls Tryz.prog 279 #[.pointer (some ⟨b,0,none⟩),.int .i64 (k:Int)] W fun e w'=>e=.returned (.agg #[.int .i64 q.c.ld,.string (pkB q.c.nm)])∧Below W.heap.size W w':=by
  have HC:Hid (∀ w,Below W.heap.size W w→Calls Tryz.prog 55 #[.pointer (some ⟨b,0,none⟩),.int .i64 (k:Int)] w fun e w'=>∃ vi vm qm,e=.returned (.tuple #[.agg #[.string q.c.nm,.string q.c.su,vi,.int .i64 q.c.fl,.int .i64 q.c.ld,vm],.int .i64 0])∧OwnC w' w.heap.size vi q.c.ni q.c.xi vm qm∧qm.map Prod.fst=q.c.ms∧Below w.heap.size w w'):=fun w hb=>by
    obtain ⟨N,mb,vp,pv,h⟩:=h.below hb
    exact class_yes N b mb ps vp pv k q w h hq hB
  have HP:Hid (∀ w:World,Calls Tryz.prog 270 #[.string q.c.nm] w fun e w'=>e=.returned (.string (pkB q.c.nm))∧w'=w):=fun w=>package_any q.c.nm hB.nm w
  generalize pkB q.c.nm=pk at *
  clear h hq hB
  go_enter Tryz.func279,Tryz.ntmps279
  go_wp2_with (first
    | (go_at_call 55;refine (HC.out _ (by repeat (first|exact Below.refl _ _|refine Below.setCell ?_ (by simp;try omega) _|refine Below.alloc ?_ (by simp;try omega) _|refine Below.drew ?_))).mono ?_;rintro e w1 ⟨vi,vm,qm,rfl,hown,_,hb⟩;obtain ⟨a1,c1,rfl⟩:=ownv hown.ifs;obtain ⟨a2,c2,rfl⟩:=ownv hown.ms;have B1:Hid (Below W.heap.size W w1):=bstep (by repeat (first|exact Below.refl _ _|refine Below.setCell ?_ (by simp;try omega) _|refine Below.alloc ?_ (by simp;try omega) _|refine Below.drew ?_)) hb;have h0:=(hb.block W.heap.size (by simp)).trans (halloc1 W _);have hl0:W.heap.size<w1.heap.size:=(Array.getElem?_eq_some_iff.1 h0).1;have r0:=cell_of_row w1 W.heap.size 0 _ _ _ h0;have y0:=frozen_of_row w1 W.heap.size 0 _ _ h0;have r1:=cell_of_row w1 W.heap.size 1 _ _ _ h0;have y1:=frozen_of_row w1 W.heap.size 1 _ _ h0;simp only [List.getElem?_toArray,List.getElem?_cons_zero,List.getElem?_cons_succ] at r0 r1;have hn0:¬ W.heap.size=w1.heap.size:=(by omega);have H0:Hid (w1.heap[W.heap.size]?=some (.cells #[.int .i64 0,.string ⟨#[]⟩] 273 (0,0))):=h0;clear hown hb HC h0 r0 r1 y0 y1))
  obtain ⟨Wm,hWm⟩:∃ x,x=w1.alloc (.cells #[.string q.c.nm,.string q.c.su,.slice a1 q.c.ni c1,.int .i64 q.c.fl,.int .i64 q.c.ld,.slice a2 qm.length c2] 48):=⟨_,rfl⟩
  have BM:Hid (Below W.heap.size W Wm):=by rw [hWm];exact B1.out.alloc B1.out.size _
  have m0:Wm.cell? ⟨w1.heap.size,0,none⟩=some (.string q.c.nm):=by rw [hWm];simp [go_sem]
  have m4:Wm.cell? ⟨w1.heap.size,4,none⟩=some (.int .i64 q.c.ld):=by rw [hWm];simp [go_sem]
  have h0:Wm.heap[W.heap.size]?=some (.cells #[.int .i64 0,.string ⟨#[]⟩] 273 (0,0)):=by rw [hWm];exact (Below.heap_alloc w1 _ _ hl0).trans H0.out
  have hs0:W.heap.size<Wm.heap.size:=(Array.getElem?_eq_some_iff.1 h0).1
  have hs1:w1.heap.size<Wm.heap.size:=by rw [hWm];simp
  have r0:=cell_of_row Wm W.heap.size 0 _ _ _ h0
  have y0:=frozen_of_row Wm W.heap.size 0 _ _ h0
  have r1:=cell_of_row Wm W.heap.size 1 _ _ _ h0
  have y1:=frozen_of_row Wm W.heap.size 1 _ _ h0
  simp only [List.getElem?_toArray,List.getElem?_cons_zero,List.getElem?_cons_succ] at r0 r1
  have hn1:¬ w1.heap.size=W.heap.size:=by omega
  rw [← hWm]
  clear hWm h0 H0 B1
  go_region_held3 (fun w'=>w'.cell? ⟨w1.heap.size,0,none⟩=some (.string q.c.nm)∧w'.cell? ⟨w1.heap.size,4,none⟩=some (.int .i64 q.c.ld)) (go_keep) (first|(go_at_call 270;refine (HP.out _).mono ?_;rintro e w9 ⟨rfl,hw9⟩;rw [hw9];clear hw9 w9))
  go_wp2
  refine bodyPost_ret (v:=.agg #[.int .i64 q.c.ld,.string pk]) (by simp [results,Tryz.results279,go_sem, *]) rfl ⟨rfl,?_⟩
  refine Below.drew ?_
  repeat (refine Below.setCell ?_ (by simp) _)
  exact BM.out
theorem eqPkA (a b:Int) (s t:ByteArray) (w:World):(Op.equal 273 (.agg #[.int .i64 a,.string s]) (.agg #[.int .i64 b,.string t])).run Tryz.prog w=.ok ((a == b)&&(s == t)) w:=by
  have h:(Op.equalIn (9997+1+1+1) 273 (.agg #[.int .i64 a,.string s]) (.agg #[.int .i64 b,.string t])).run Tryz.prog w=.ok ((a == b)&&(s == t)) w:=by
    rw [Op.equalIn]
    simp [run_underlying Tryz.underlying273,go_sem,part,eqS,eqN]
    generalize (s == t)=y
    by_cases h1:a=b <;> cases y <;> simp [h1]
  exact h
set_option maxHeartbeats 1000000 in
theorem aSame_c {b:Nat} {ps:List Plc} {W:World} (h:WAt b ps W) (hB:∀ q∈ps,PlcB q) (x y:Nat) (p q:Plc) (hx:ps[x]?=some p) (hy:ps[y]?=some q):Calls Tryz.prog 234 #[.pointer (some ⟨b,0,none⟩),.int .i64 (x:Int),.int .i64 (y:Int)] W fun e w'=>e=.returned (.bool (samePk p q))∧Below W.heap.size W w':=by
  have HX:Hid (∀ i w,Below W.heap.size W w→i=(x:Int)→Calls Tryz.prog 279 #[.pointer (some ⟨b,0,none⟩),.int .i64 i] w fun e w''=>e=.returned (.agg #[.int .i64 p.c.ld,.string (pkB p.c.nm)])∧Below W.heap.size W w''):=fun i w hb hi=>by
    rw [hi];exact (aPkg_c (h.below hb) x p hx (hB p (List.mem_of_getElem? hx))).mono fun e w'' zz=>⟨zz.1,bstep hb zz.2⟩
  have HY:Hid (∀ i w,Below W.heap.size W w→i=(y:Int)→Calls Tryz.prog 279 #[.pointer (some ⟨b,0,none⟩),.int .i64 i] w fun e w''=>e=.returned (.agg #[.int .i64 q.c.ld,.string (pkB q.c.nm)])∧Below W.heap.size W w''):=fun i w hb hi=>by
    rw [hi];exact (aPkg_c (h.below hb) y q hy (hB q (List.mem_of_getElem? hy))).mono fun e w'' zz=>⟨zz.1,bstep hb zz.2⟩
  have HR2:Hid ((p.c.ld == q.c.ld&&pkB p.c.nm == pkB q.c.nm)=samePk p q):=by rw [Hid,pkB,pkB,beqB];rfl
  generalize samePk p q=R at *
  generalize pkB p.c.nm=s1 at *
  generalize pkB q.c.nm=s2 at *
  have EQ:∀ w,(Op.equal 273 (.agg #[.int .i64 p.c.ld,.string s1]) (.agg #[.int .i64 q.c.ld,.string s2])).run Tryz.prog w=.ok R w:=fun w=>by rw [eqPkA,HR2.out]
  have G1:∀ w,(eqGuard .eql 273 (.tmp 9) (.tmp 12) (.agg #[.int .i64 p.c.ld,.string s1]) (.agg #[.int .i64 q.c.ld,.string s2])).run Tryz.prog w=.ok () w:=fun w=>by
    simp [eqGuard,go_sem]
  have G2:∀ w,(binOp .eql 273 (.agg #[.int .i64 p.c.ld,.string s1]) (.agg #[.int .i64 q.c.ld,.string s2])).run Tryz.prog w=.ok (.bool R) w:=fun w=>by
    simp [binOp,EQ,go_sem]
  clear HR2 EQ h hB hx hy
  go_enter Tryz.func234,Tryz.ntmps234
  go_wp2_with (first
    | (go_at_call 279;refine (HX.out _ _ (Below.refl _ _) (by rfl)).mono ?_;rintro e w1 ⟨rfl,hb⟩;have B1:Hid (Below W.heap.size W w1):=hb;clear hb HX)
    | (go_at_call 279;refine (HY.out _ _ B1.out (by rfl)).mono ?_;rintro e w2 ⟨rfl,hb⟩;have B2:Hid (Below W.heap.size W w2):=hb;clear hb HY))
  exact bodyPost_ret (results_tmp rfl _ _ _) rfl ⟨rfl,B2.out⟩
def clsO (q p:Plc):Bool:=(openI q.c.fl == 1)||samePk q p
set_option maxHeartbeats 1000000 in
theorem aCls_c {b:Nat} {ps:List Plc} {W:World} (h:WAt b ps W) (hB:∀ q∈ps,PlcB q) (d c:Nat) (p q:Plc) (hd:ps[d]?=some p) (hc:ps[c]?=some q):Calls Tryz.prog 278 #[.pointer (some ⟨b,0,none⟩),.int .i64 (d:Int),.int .i64 (c:Int)] W fun e w'=>e=.returned (.bool (clsO q p))∧Below W.heap.size W w':=by
  have HC:Hid (∀ w,Below W.heap.size W w→Calls Tryz.prog 55 #[.pointer (some ⟨b,0,none⟩),.int .i64 (c:Int)] w fun e w'=>∃ vi vm qm,e=.returned (.tuple #[.agg #[.string q.c.nm,.string q.c.su,vi,.int .i64 q.c.fl,.int .i64 q.c.ld,vm],.int .i64 0])∧OwnC w' w.heap.size vi q.c.ni q.c.xi vm qm∧qm.map Prod.fst=q.c.ms∧Below w.heap.size w w'):=fun w hb=>by
    obtain ⟨N,mb,vp,pv,h⟩:=h.below hb
    exact class_yes N b mb ps vp pv c q w h hc (hB q (List.mem_of_getElem? hc))
  have HO:Hid (∀ w:World,Calls Tryz.prog 141 #[.int .i64 q.c.fl] w fun e w'=>e=.returned (.int .i64 (openI q.c.fl))∧w'=w):=fun w=>open_c q.c.fl w
  have HS:Hid (∀ w,Below W.heap.size W w→Calls Tryz.prog 234 #[.pointer (some ⟨b,0,none⟩),.int .i64 (c:Int),.int .i64 (d:Int)] w fun e w'=>e=.returned (.bool (samePk q p))∧Below W.heap.size W w'):=fun w hb=>(aSame_c (h.below hb) hB c d q p hc hd).mono fun e w' zz=>⟨zz.1,bstep hb zz.2⟩
  have HR:Hid (clsO q p=((openI q.c.fl == 1)||samePk q p)):=rfl
  generalize clsO q p=R at *
  generalize samePk q p=sp at *
  generalize openI q.c.fl=op at *
  clear h hB hd hc
  by_cases h1:op=1
  · have HR:Hid (R=true):=by rw [Hid,HR.out,h1];rfl
    subst h1
    go_enter Tryz.func278,Tryz.ntmps278
    go_wp2_with (first
      | (go_at_call 55;refine (HC.out _ (by repeat (first|exact Below.refl _ _|refine Below.setCell ?_ (by simp;try omega) _|refine Below.alloc ?_ (by simp;try omega) _|refine Below.drew ?_))).mono ?_;rintro e w1 ⟨vi,vm,qm,rfl,hown,_,hb⟩;obtain ⟨a1,c1,rfl⟩:=ownv hown.ifs;obtain ⟨a2,c2,rfl⟩:=ownv hown.ms;have B1:Hid (Below W.heap.size W w1):=bstep (by repeat (first|exact Below.refl _ _|refine Below.setCell ?_ (by simp;try omega) _|refine Below.alloc ?_ (by simp;try omega) _|refine Below.drew ?_)) hb;clear hown hb HC)
      | (go_at_call 141;refine (HO.out _).mono ?_;rintro e w9 ⟨rfl,hw9⟩;rw [hw9];clear hw9 w9))
    exact bodyPost_ret (results_tmp rfl _ _ _) rfl ⟨by rw [HR.out];rfl,B1.out.alloc B1.out.size _⟩
  · have HR:Hid (R=sp):=by rw [Hid,HR.out];simp [h1]
    cases sp
    all_goals
      go_enter Tryz.func278,Tryz.ntmps278
      go_wp2_with (first
        | (go_at_call 55;refine (HC.out _ (by repeat (first|exact Below.refl _ _|refine Below.setCell ?_ (by simp;try omega) _|refine Below.alloc ?_ (by simp;try omega) _|refine Below.drew ?_))).mono ?_;rintro e w1 ⟨vi,vm,qm,rfl,hown,_,hb⟩;obtain ⟨a1,c1,rfl⟩:=ownv hown.ifs;obtain ⟨a2,c2,rfl⟩:=ownv hown.ms;have B1:Hid (Below W.heap.size W w1):=bstep (by repeat (first|exact Below.refl _ _|refine Below.setCell ?_ (by simp;try omega) _|refine Below.alloc ?_ (by simp;try omega) _|refine Below.drew ?_)) hb;clear hown hb HC)
        | (go_at_call 141;refine (HO.out _).mono ?_;rintro e w9 ⟨rfl,hw9⟩;rw [hw9];clear hw9 w9)
        | (go_at_call 234;refine (HS.out _ (B1.out.alloc B1.out.size _)).mono ?_;rintro e w2 ⟨rfl,hb⟩;have B2:Hid (Below W.heap.size W w2):=hb;clear hb HS))
      exact bodyPost_ret (results_tmp rfl _ _ _) rfl ⟨by rw [HR.out];rfl,B2.out⟩
theorem inNs_iff (ps:List Plc) (l:List Int):inNs ps.length l=l.all fun i=>(plcI ps i).isSome:=by
  rw [inNs]
  congr 1
  funext i
  rcases plcI_cases ps i with ⟨h1,h2⟩|⟨k,q,rfl,h2,h1⟩
  · rw [h1]
    by_cases h0:0≤i
    · have:¬ i<(ps.length:Int):=fun h=>h2 ⟨h0,h⟩
      simp [this]
    · simp [h0]
  · rw [h1]
    have:=(List.getElem?_eq_some_iff.1 h2).1
    simp;omega
def coI (ps:List Plc) (d c:Int):Value:=match plcI ps d,plcI ps c with
  | some p,some q=>.tuple #[.bool (clsO q p),.int .i64 0]
  | _,_=>.tuple #[.bool false,.int .i64 3]
theorem retB {a b:Bool} (h:a=b):Ending.returned (.bool a)=Ending.returned (.bool b):=by rw [h]
set_option maxHeartbeats 1000000 in
theorem aBelow_c {b:Nat} {ps:List Plc} {W:World} (h:WAt b ps W) (hi:WI ps) (d c n:Int) (st:Bool):Calls Tryz.prog 235 #[.pointer (some ⟨b,0,none⟩),.int .i64 d,.int .i64 c,.int .i64 n,.bool st] W fun e w'=>e=.returned (.bool (extI ps d c&&!ifcI ps c&&(st||extI ps n d||extI ps d n)))∧Below W.heap.size W w':=by
  have HE:Hid (∀ i j w,Below W.heap.size W w→Calls Tryz.prog 57 #[.pointer (some ⟨b,0,none⟩),.int .i64 i,.int .i64 j] w fun e w'=>e=.returned (.bool (extI ps i j))∧Below W.heap.size W w'):=fun i j w hb=>(extends_c (h.below hb) hi i j).mono fun e w' zz=>⟨zz.1,bstep hb zz.2⟩
  have HI:Hid (∀ i w,Below W.heap.size W w→Calls Tryz.prog 56 #[.pointer (some ⟨b,0,none⟩),.int .i64 i] w fun e w'=>e=.returned (.bool (ifcI ps i))∧Below W.heap.size W w'):=fun i w hb=>(isIface_c (h.below hb) i).mono fun e w' zz=>⟨zz.1,bstep hb zz.2⟩
  have HR:Hid ((extI ps d c&&!ifcI ps c&&(st||extI ps n d||extI ps d n))=(extI ps d c&&!ifcI ps c&&(st||extI ps n d||extI ps d n))):=rfl
  generalize hRR:(extI ps d c&&!ifcI ps c&&(st||extI ps n d||extI ps d n))=R
  have HRR:Hid (R=(extI ps d c&&!ifcI ps c&&(st||extI ps n d||extI ps d n))):=hRR.symm
  clear hRR HR
  generalize extI ps=E at *
  generalize ifcI ps=F at *
  clear h hi
  have BB:Hid (Below W.heap.size W W):=Below.refl _ _
  go_enter Tryz.func235,Tryz.ntmps235
  go_wp2_with (first
    | (go_at_call 57;refine (HE.out _ _ _ BB.out).mono ?_;rintro e w1 ⟨rfl,hb⟩;clear BB;have BB:Hid (Below W.heap.size W w1):=hb;clear hb)
    | (go_at_call 56;refine (HI.out _ _ BB.out).mono ?_;rintro e w1 ⟨rfl,hb⟩;clear BB;have BB:Hid (Below W.heap.size W w1):=hb;clear hb))
  all_goals go_ret
  all_goals exact ⟨retB (by rw [HRR.out];simp [*]),BB.out⟩
def mOpen (ps:List Plc) (d c n f:Int) (sp:Bool):Bool :=
  if openI f=1 then true else if openI f=2 then c == d else if sp then true else if openI f=4 then extI ps d c&&!ifcI ps c&&(hasI f 8||extI ps n d||extI ps d n) else false
theorem open_cases (f:Int):openI f=1∨openI f=2∨openI f=4∨openI f=0:=by
  unfold openI
  split
  · exact .inl rfl
  · split
    · exact .inr (.inr (.inl rfl))
    · split
      · exact .inr (.inl rfl)
      · exact .inr (.inr (.inr rfl))
set_option maxHeartbeats 1000000 in
theorem aMth_c {b:Nat} {ps:List Plc} {W:World} (h:WAt b ps W) (hi:WI ps) (d c:Nat) (n f:Int) (p q:Plc) (hd:ps[d]?=some p) (hc:ps[c]?=some q):Calls Tryz.prog 171 #[.pointer (some ⟨b,0,none⟩),.int .i64 (d:Int),.int .i64 (c:Int),.int .i64 n,.int .i64 f] W fun e w'=>e=.returned (.bool (mOpen ps d c n f (samePk q p)))∧Below W.heap.size W w':=by
  have HO:Hid (∀ w:World,Calls Tryz.prog 141 #[.int .i64 f] w fun e w'=>e=.returned (.int .i64 (openI f))∧w'=w):=fun w=>open_c f w
  have HS:Hid (∀ w,Below W.heap.size W w→Calls Tryz.prog 234 #[.pointer (some ⟨b,0,none⟩),.int .i64 (c:Int),.int .i64 (d:Int)] w fun e w'=>e=.returned (.bool (samePk q p))∧Below W.heap.size W w'):=fun w hb=>(aSame_c (h.below hb) hi.pb c d q p hc hd).mono fun e w' zz=>⟨zz.1,bstep hb zz.2⟩
  have HL:Hid (∀ st w,Below W.heap.size W w→Calls Tryz.prog 235 #[.pointer (some ⟨b,0,none⟩),.int .i64 (d:Int),.int .i64 (c:Int),.int .i64 n,.bool st] w fun e w'=>e=.returned (.bool (extI ps d c&&!ifcI ps c&&(st||extI ps n d||extI ps d n)))∧Below W.heap.size W w'):=fun st w hb=>(aBelow_c (h.below hb) hi d c n st).mono fun e w' zz=>⟨zz.1,bstep hb zz.2⟩
  have HR:Hid (mOpen ps d c n f (samePk q p)=(if openI f=1 then true else if openI f=2 then (c:Int) == (d:Int) else if samePk q p then true else if openI f=4 then extI ps d c&&!ifcI ps c&&(hasI f 8||extI ps n d||extI ps d n) else false)):=rfl
  generalize mOpen ps d c n f (samePk q p)=R at *
  generalize samePk q p=sp at *
  have h8:hasI f 8=(bits .and .i64 f 8 != 0):=rfl
  rw [h8] at HR
  clear h8
  have hop:=open_cases f
  generalize openI f=op at *
  generalize extI ps (d:Int) (c:Int)=e1 at *
  generalize ifcI ps (c:Int)=i1 at *
  generalize extI ps n (d:Int)=e2 at *
  generalize extI ps (d:Int) n=e3 at *
  clear h hi hd hc
  have BB:Hid (Below W.heap.size W W):=Below.refl _ _
  rcases hop with rfl|rfl|rfl|rfl
  all_goals cases sp
  all_goals
    go_enter Tryz.func171,Tryz.ntmps171
    go_wp2_with (first
      | (go_at_call 141;refine (HO.out _).mono ?_;rintro e w9 ⟨rfl,hw9⟩;rw [hw9];clear hw9 w9)
      | (go_at_call 234;refine (HS.out _ BB.out).mono ?_;rintro e w1 ⟨rfl,hb⟩;clear BB;have BB:Hid (Below W.heap.size W w1):=hb;clear hb)
      | (go_at_call 235;refine (HL.out _ _ BB.out).mono ?_;rintro e w2 ⟨rfl,hb⟩;clear BB;have BB:Hid (Below W.heap.size W w2):=hb;clear hb))
    all_goals go_ret
    all_goals exact ⟨retB (by rw [HR.out];simp [bne]),BB.out⟩
def moI (ps:List Plc) (d c i n:Int):Value:=match plcI ps d,plcI ps n,plcI ps c,methI ps c i with
  | some p,some _,some q,some m=>.tuple #[.bool (mOpen ps d c n m.fl (samePk q p)),.int .i64 0]
  | _,_,_,_=>.tuple #[.bool false,.int .i64 3]
theorem meth_plc {ps:List Plc} {c i:Int} {m:HM} (h:methI ps c i=some m):∃ (k:Nat) (q:Plc),c=(k:Int)∧ps[k]?=some q∧plcI ps c=some q∧methP q i=some m:=by
  rcases plcI_cases ps c with ⟨h1,_⟩|⟨k,q,rfl,h2,h1⟩
  · rw [methI,h1] at h;cases h
  · rw [methI,h1] at h
    exact ⟨k,q,rfl,h2,h1,h⟩
set_option maxHeartbeats 1000000 in
theorem methodOpen_c {b:Nat} {ps:List Plc} {W:World} (h:WAt b ps W) (hi:WI ps) (d c i n:Int):Calls Tryz.prog 88 #[.pointer (some ⟨b,0,none⟩),.int .i64 d,.agg #[.int .i64 c,.int .i64 i],.int .i64 n] W fun e w'=>e=.returned (moI ps d c i n)∧Below W.heap.size W w':=by
  have HC:Hid (∀ (w:World) (v:Value),Below W.heap.size W w→Rds w v 2 1 [.int .i64 d,.int .i64 n]→Calls Tryz.prog 170 #[.pointer (some ⟨b,0,none⟩),v] w fun e w'=>e=.returned (.int .i64 (if (plcI ps d).isSome&&(plcI ps n).isSome then 0 else 3))∧Below w.heap.size w w'):=fun w v hb hv=>(check_c (h.below hb) v [d,n] hv (by simp)).mono fun e w' zz=>⟨by rw [zz.1,inNs_iff];simp,zz.2⟩
  have HM:Hid (∀ w,Below W.heap.size W w→Calls Tryz.prog 133 #[.pointer (some ⟨b,0,none⟩),.agg #[.int .i64 c,.int .i64 i]] w fun e w'=>MthR w.heap.size (methI ps c i) e w'∧Below w.heap.size w w'):=fun w hb=>method_c (h.below hb) hi.pb c i
  cases hdn:(plcI ps d).isSome&&(plcI ps n).isSome with
  | false =>
    have e:moI ps d c i n=.tuple #[.bool false,.int .i64 3]:=by
      unfold moI
      cases h1:plcI ps d with
      | none=>rfl
      | some p=>cases h2:plcI ps n with
        | none=>rfl
        | some q=>rw [h1,h2] at hdn;cases hdn
    rw [e]
    rw [hdn] at HC
    simp only [Bool.false_eq_true,if_false] at HC
    clear h e hdn HM
    go_enter Tryz.func88,Tryz.ntmps88
    go_wp2_with (first
      | (go_at_call 170;refine (HC.out _ _ (by repeat (first|exact Below.refl _ _|refine Below.setCell ?_ (by simp;try omega) _|refine Below.alloc ?_ (by simp;try omega) _|refine Below.drew ?_)) (rds_at _ _ (by simp) _ 3 2 1 rfl (by decide))).mono ?_;rintro e w1 ⟨rfl,hb⟩;have B1:Hid (Below W.heap.size W w1):=bstep (by repeat (first|exact Below.refl _ _|refine Below.setCell ?_ (by simp;try omega) _|refine Below.alloc ?_ (by simp;try omega) _|refine Below.drew ?_)) hb;clear hb HC))
    exact bodyPost_ret (results_tmp2 rfl _ _ _) rfl ⟨rfl,B1.out⟩
  | true =>
    rw [hdn] at HC
    simp only [if_true] at HC
    cases hm:methI ps c i with
    | none =>
      have e:moI ps d c i n=.tuple #[.bool false,.int .i64 3]:=by
        unfold moI;rw [hm]
        cases plcI ps d <;> cases plcI ps n <;> cases plcI ps c <;> rfl
      rw [e]
      rw [hm] at HM
      clear h e hdn hm
      go_enter Tryz.func88,Tryz.ntmps88
      go_wp2_with (first
        | (go_at_call 170;refine (HC.out _ _ (by repeat (first|exact Below.refl _ _|refine Below.setCell ?_ (by simp;try omega) _|refine Below.alloc ?_ (by simp;try omega) _|refine Below.drew ?_)) (rds_at _ _ (by simp) _ 3 2 1 rfl (by decide))).mono ?_;rintro e w1 ⟨rfl,hb⟩;have h0:=(hb.block W.heap.size (by simp;omega)).trans (heap_alloc2_old W _ _);have r0:=cell_of_row w1 W.heap.size 0 _ _ _ h0;have r1:=cell_of_row w1 W.heap.size 1 _ _ _ h0;simp only [List.getElem?_toArray,List.getElem?_cons_zero,List.getElem?_cons_succ] at r0 r1;have B1:Hid (Below W.heap.size W w1):=bstep (by repeat (first|exact Below.refl _ _|refine Below.setCell ?_ (by simp;try omega) _|refine Below.alloc ?_ (by simp;try omega) _|refine Below.drew ?_)) hb;clear hb HC h0)
        | (go_at_call 133;refine (HM.out _ B1.out).mono ?_;rintro e w2 ⟨hr,hb⟩;simp only [MthR,noM] at hr;subst hr;have B2:Hid (Below W.heap.size W w2):=bstep B1.out hb;clear hb HM))
      exact bodyPost_ret (results_tmp2 rfl _ _ _) rfl ⟨rfl,B2.out.alloc B2.out.size _⟩
    | some m =>
      obtain ⟨k,q,rfl,hq,hqI,hmp⟩:=meth_plc hm
      obtain ⟨j,p,rfl,hp,hpI⟩:∃ (j:Nat) (p:Plc),d=(j:Int)∧ps[j]?=some p∧plcI ps d=some p:=by
        rcases plcI_cases ps d with ⟨h1,_⟩|⟨j,p,rfl,h2,h1⟩
        · rw [h1] at hdn;cases hdn
        · exact ⟨j,p,rfl,h2,h1⟩
      have e:moI ps j k i n=.tuple #[.bool (mOpen ps j k n m.fl (samePk q p)),.int .i64 0]:=by
        unfold moI
        rw [hm,hpI,hqI]
        cases h2:plcI ps n with
        | none=>rw [h2,Bool.and_comm] at hdn;cases hdn
        | some _=>rfl
      rw [e]
      rw [hm] at HM
      have HI:Hid (∀ w,Below W.heap.size W w→Calls Tryz.prog 171 #[.pointer (some ⟨b,0,none⟩),.int .i64 (j:Int),.int .i64 (k:Int),.int .i64 n,.int .i64 m.fl] w fun e w'=>e=.returned (.bool (mOpen ps j k n m.fl (samePk q p)))∧Below W.heap.size W w'):=fun w hb=>(aMth_c (h.below hb) hi j k n m.fl p q hp hq).mono fun e w' zz=>⟨zz.1,bstep hb zz.2⟩
      generalize mOpen ps j k n m.fl (samePk q p)=R at *
      clear h e hdn hm hq hqI hmp hp hpI
      go_enter Tryz.func88,Tryz.ntmps88
      go_wp2_with (first
        | (go_at_call 170;refine (HC.out _ _ (by repeat (first|exact Below.refl _ _|refine Below.setCell ?_ (by simp;try omega) _|refine Below.alloc ?_ (by simp;try omega) _|refine Below.drew ?_)) (rds_at _ _ (by simp) _ 3 2 1 rfl (by decide))).mono ?_;rintro e w1 ⟨rfl,hb⟩;have h0:=(hb.block W.heap.size (by simp;omega)).trans (heap_alloc2_old W _ _);have r0:=cell_of_row w1 W.heap.size 0 _ _ _ h0;have r1:=cell_of_row w1 W.heap.size 1 _ _ _ h0;simp only [List.getElem?_toArray,List.getElem?_cons_zero,List.getElem?_cons_succ] at r0 r1;have hl0:W.heap.size<w1.heap.size:=(Array.getElem?_eq_some_iff.1 h0).1;have B1:Hid (Below W.heap.size W w1):=bstep (by repeat (first|exact Below.refl _ _|refine Below.setCell ?_ (by simp;try omega) _|refine Below.alloc ?_ (by simp;try omega) _|refine Below.drew ?_)) hb;clear hb HC h0)
        | (go_at_call 133;refine (HM.out _ B1.out).mono ?_;rintro e w2 ⟨hr,hb⟩;obtain ⟨vv,rfl,hown⟩:=hr;obtain ⟨a1,c1,rfl⟩:=ownv hown;replace r0:=(hb.cell (p:=⟨W.heap.size,0,none⟩) hl0).trans r0;replace r1:=(hb.cell (p:=⟨W.heap.size,1,none⟩) hl0).trans r1;have hl2:W.heap.size<w2.heap.size:=Nat.lt_of_lt_of_le hl0 hb.size;have hn2:¬ W.heap.size=w2.heap.size:=(by omega);have B2:Hid (Below W.heap.size W w2):=bstep B1.out hb;clear hb HM hown)
        | (go_at_call 171;refine (HI.out _ (B2.out.alloc B2.out.size _)).mono ?_;rintro e w3 ⟨rfl,hb⟩;have B3:Hid (Below W.heap.size W w3):=hb;clear hb HI))
      exact bodyPost_ret (results_tmp2 rfl _ _ _) rfl ⟨rfl,B3.out⟩
def ifcC (cs:List Cls) (i:Int):Bool:=match clsI cs i with
  | some c=>hasI c.fl 512
  | none=>false
theorem rIsIface_c {b:Nat} {cs:List Cls} {W:World} (h:RAt b cs W) (i:Int):Calls Tryz.prog 99 #[.pointer (some ⟨b,0,none⟩),.int .i64 i] W fun e w'=>e=.returned (.bool (ifcC cs i))∧w'=W:=by
  have HI:Hid (∀ y,(clsI cs i).isSome=y→Calls Tryz.prog 76 #[.pointer (some ⟨b,0,none⟩),.int .i64 i] W fun e w'=>e=.returned (.bool y)∧w'=W):=fun y hy=>by rw [← hy];exact rIn_c h i
  rcases clsI_cases cs i with ⟨h1,h2⟩|⟨k,c,rfl,h2,h1⟩
  · have e:ifcC cs i=false:=by rw [ifcC,h1]
    rw [e]
    have HI:Hid (Calls Tryz.prog 76 #[.pointer (some ⟨b,0,none⟩),.int .i64 i] W fun e w'=>e=.returned (.bool false)∧w'=W):=HI.out false (by rw [h1];rfl)
    clear h h1 h2 e
    go_enter Tryz.func99,Tryz.ntmps99
    go_wp2_with (go_at_call 76;refine HI.out.mono ?_;rintro e w9 ⟨rfl,hw9⟩;rw [hw9];clear hw9 w9)
    exact bodyPost_ret (results_tmp rfl _ _ _) rfl ⟨rfl,rfl⟩
  · have e:ifcC cs k=hasI c.fl 512:=by rw [ifcC,h1]
    rw [e]
    have HI:Hid (Calls Tryz.prog 76 #[.pointer (some ⟨b,0,none⟩),.int .i64 (k:Int)] W fun e w'=>e=.returned (.bool true)∧w'=W):=HI.out true (by rw [h1];rfl)
    obtain ⟨g,cap,vi,vm,b0,_,_,c0,c1,c2,c3,c4,c5,_⟩:=h.cells h2
    have hkI:(k:Int)<(cs.length:Int):=by have:=(List.getElem?_eq_some_iff.1 h2).1;omega
    have HF:Hid (∀ w:World,Calls Tryz.prog 101 #[.int .i64 c.fl,.int .i64 512] w fun e w'=>e=.returned (.bool (hasI c.fl 512))∧w'=w):=has_any c.fl 512
    generalize hasI c.fl 512=R at *
    clear h h1 h2 e
    go_enter Tryz.func99,Tryz.ntmps99
    go_wp2_with (first
      | (go_at_call 76;refine HI.out.mono ?_;rintro e w9 ⟨rfl,hw9⟩;rw [hw9];clear hw9 w9)
      | (go_at_call 101;refine (HF.out _).mono ?_;rintro e w9 ⟨rfl,hw9⟩;rw [hw9];clear hw9 w9))
    exact bodyPost_ret (results_tmp rfl _ _ _) rfl ⟨rfl,rfl⟩
def togB (p q:Cls):Bool:=(p.ld == q.ld)&&(pkgL p.nm.data.toList == pkgL q.nm.data.toList)
set_option maxHeartbeats 1000000 in
theorem rTog_c (p q:Cls) (vi vm vi' vm':Value) (hp:p.nm.size≤maxLen) (hq:q.nm.size≤maxLen) (W:World):Calls Tryz.prog 205 #[.agg #[.string p.nm,.string p.su,vi,.int .i64 p.fl,.int .i64 p.ld,vm],.agg #[.string q.nm,.string q.su,vi',.int .i64 q.fl,.int .i64 q.ld,vm']] W fun e w'=>e=.returned (.bool (togB p q))∧Below W.heap.size W w':=by
  have HP:Hid (∀ u w,u=p.nm→Calls Tryz.prog 262 #[.string u] w fun e w'=>e=.returned (.string (pkB p.nm))∧w'=w):=fun u w hu=>by rw [hu];exact rPackage_any p.nm hp w
  have HQ:Hid (∀ u w,u=q.nm→Calls Tryz.prog 262 #[.string u] w fun e w'=>e=.returned (.string (pkB q.nm))∧w'=w):=fun u w hu=>by rw [hu];exact rPackage_any q.nm hq w
  have HR:Hid (togB p q=((p.ld == q.ld)&&((pkB p.nm).toList == (pkB q.nm).toList))):=by
    rw [Hid,togB,Lib.toList_data,Lib.toList_data];rfl
  generalize togB p q=R at *
  generalize pkB p.nm=s1 at *
  generalize pkB q.nm=s2 at *
  clear hp hq
  by_cases hld:p.ld=q.ld
  · have hld2:(p.ld == q.ld)=true:=by rw [hld];simp
    cases hz:(s1.toList == s2.toList)
    all_goals
      rw [hld2,hz] at HR
      go_enter Tryz.func205,Tryz.ntmps205
      go_wp2
      go_quiet (first|(go_at_call 262;refine Calls.quiet_of_same (HP.out _ _ rfl))|(go_at_call 262;refine Calls.quiet_of_same (HQ.out _ _ rfl)))
      go_wp2
      exact bodyPost_ret (results_tmp rfl _ _ _) rfl ⟨by rw [HR.out];rfl,below_drewN (by repeat (first|exact Below.refl _ _|refine Below.setCell ?_ (by simp;try omega) _|refine Below.alloc ?_ (by simp;try omega) _|refine Below.drew ?_)) _⟩
  · have hld2:(p.ld == q.ld)=false:=by simpa using hld
    rw [hld2] at HR
    go_enter Tryz.func205,Tryz.ntmps205
    go_wp2
    go_quiet (first|(go_at_call 262;refine Calls.quiet_of_same (HP.out _ _ rfl)))
    go_wp2
    exact bodyPost_ret (results_tmp rfl _ _ _) rfl ⟨by rw [HR.out];rfl,below_drewN (by repeat (first|exact Below.refl _ _|refine Below.setCell ?_ (by simp;try omega) _|refine Below.alloc ?_ (by simp;try omega) _|refine Below.drew ?_)) _⟩
def spC (cs:List Cls) (a b:Int):Bool:=match clsI cs a,clsI cs b with
  | some p,some q=>togB p q
  | _,_=>false
theorem strs_slice {w:World} {v:Value} {l:List (List UInt8)} (h:IsStrs w v l):∃ a c,v=.slice a l.length c:=by
  obtain ⟨a,c,e,_⟩:=h
  exact ⟨a,c,e⟩
theorem mths_slice {w:World} {v:Value} {l:List Mth} (h:IsMths w v l):∃ a c,v=.slice a l.length c:=by
  obtain ⟨a,c,e,_⟩:=h
  exact ⟨a,c,e⟩
set_option maxHeartbeats 1000000 in
theorem rSame_c {b:Nat} {cs:List Cls} {W:World} (h:RAt b cs W) (hz:∀ c∈cs,c.nm.size≤maxLen) (x y:Int):Calls Tryz.prog 146 #[.pointer (some ⟨b,0,none⟩),.int .i64 x,.int .i64 y] W fun e w'=>e=.returned (.bool (spC cs x y))∧Below W.heap.size W w':=by
  obtain ⟨σ,V,hne,V1,V2⟩:=class_of' (fun w'=>Below W.heap.size W w') ⟨_,Below.refl _ _⟩
  have HI:Hid (∀ i z y s,i=z→(clsI cs z).isSome=y→Calls Tryz.prog 76 #[.pointer (some ⟨b,0,none⟩),.int .i64 i] (V s) fun e w''=>e=.returned (.bool y)∧∃ s',w''=V s'):=fun i z y s hi hy=>by
    rw [hi,← hy];exact (rIn_c (h.below (V1.out s)) z).mono fun e w'' zz=>⟨zz.1,s,zz.2⟩
  rcases clsI_cases cs x with ⟨h1,_⟩|⟨k,p,rfl,h2,h1⟩
  · have e:spC cs x y=false:=by rw [spC,h1]
    rw [e]
    have HX:Hid (∀ i s,i=x→Calls Tryz.prog 76 #[.pointer (some ⟨b,0,none⟩),.int .i64 i] (V s) fun e w''=>e=.returned (.bool false)∧∃ s',w''=V s'):=fun i s hi=>HI.out i x _ s hi (by rw [h1];rfl)
    clear h h1 e HI
    go_enter Tryz.func146,Tryz.ntmps146
    go_wp2
    refine wp_region_class (C:=fun w'=>∃ s,w'=V s) (by kernel_rfl) (by kernel_rfl) (V2.out _ ((Below.refl _ _).drew)) ?_
    repeat (go_big_quiet_step ((go_at_call 76;exact HX.out _ _ rfl)))
    refine wpQuiet_nil ?_
    intro w9 hw9
    obtain ⟨s9,rfl⟩:=hw9
    go_wp2
    exact bodyPost_ret (results_tmp rfl _ _ _) rfl ⟨rfl,V1.out s9⟩
  · have HX:Hid (∀ i s,i=(k:Int)→Calls Tryz.prog 76 #[.pointer (some ⟨b,0,none⟩),.int .i64 i] (V s) fun e w''=>e=.returned (.bool true)∧∃ s',w''=V s'):=fun i s hi=>HI.out i k _ s hi (by rw [h1];rfl)
    rcases clsI_cases cs y with ⟨g1,_⟩|⟨j,q,rfl,g2,g1⟩
    · have e:spC cs k y=false:=by rw [spC,h1,g1]
      rw [e]
      have HY:Hid (∀ i s,i=y→Calls Tryz.prog 76 #[.pointer (some ⟨b,0,none⟩),.int .i64 i] (V s) fun e w''=>e=.returned (.bool false)∧∃ s',w''=V s'):=fun i s hi=>HI.out i y _ s hi (by rw [g1];rfl)
      clear h h1 g1 e HI h2
      go_enter Tryz.func146,Tryz.ntmps146
      go_wp2
      refine wp_region_class (C:=fun w'=>∃ s,w'=V s) (by kernel_rfl) (by kernel_rfl) (V2.out _ ((Below.refl _ _).drew)) ?_
      repeat (go_big_quiet_step (first|(go_at_call 76;exact HX.out _ _ rfl)|(go_at_call 76;exact HY.out _ _ rfl)))
      refine wpQuiet_nil ?_
      intro w9 hw9
      obtain ⟨s9,rfl⟩:=hw9
      go_wp2
      exact bodyPost_ret (results_tmp rfl _ _ _) rfl ⟨rfl,V1.out s9⟩
    · have e:spC cs k j=togB p q:=by rw [spC,h1,g1]
      rw [e]
      have HY:Hid (∀ i s,i=(j:Int)→Calls Tryz.prog 76 #[.pointer (some ⟨b,0,none⟩),.int .i64 i] (V s) fun e w''=>e=.returned (.bool true)∧∃ s',w''=V s'):=fun i s hi=>HI.out i j _ s hi (by rw [g1];rfl)
      have HT:Hid (∀ vi vm vi' vm' s,Calls Tryz.prog 205 #[.agg #[.string p.nm,.string p.su,vi,.int .i64 p.fl,.int .i64 p.ld,vm],.agg #[.string q.nm,.string q.su,vi',.int .i64 q.fl,.int .i64 q.ld,vm']] (V s) fun e w''=>e=.returned (.bool (togB p q))∧∃ s',w''=V s'):=fun vi vm vi' vm' s=>(rTog_c p q vi vm vi' vm' (hz p (List.mem_of_getElem? h2)) (hz q (List.mem_of_getElem? g2)) (V s)).mono fun e w'' zz=>⟨zz.1,V2.out _ (bstep (V1.out s) zz.2)⟩
      obtain ⟨g,cap,vi,vm,b0,hlt,hgl,c0,c1,c2,c3,c4,c5,hi1,hi2⟩:=h.cells h2
      obtain ⟨g',cap',vi',vm',b0',_,_,d0,d1,d2,d3,d4,d5,hi3,hi4⟩:=h.cells g2
      rw [b0] at b0'
      simp only [Option.some.injEq,Value.slice.injEq,Addr.mk.injEq,and_true,true_and] at b0'
      obtain ⟨rfl,rfl⟩:=b0'
      obtain ⟨x1,x2,rfl⟩:=strs_slice hi1
      obtain ⟨x3,x4,rfl⟩:=mths_slice hi2
      obtain ⟨x5,x6,rfl⟩:=strs_slice hi3
      obtain ⟨x7,x8,rfl⟩:=mths_slice hi4
      have kp:∀ (s:σ) (bb j:Nat) (v:Value),bb<W.heap.size→W.cell? ⟨bb,j,none⟩=some v→(V s).cell? ⟨bb,j,none⟩=some v:=fun s bb j v hl h=>((V1.out s).cell (p:=⟨bb,j,none⟩) hl).trans h
      replace b0:=fun s=>kp s _ _ _ hlt b0
      replace c0:=fun s=>kp s _ _ _ hgl c0
      replace c1:=fun s=>kp s _ _ _ hgl c1
      replace c2:=fun s=>kp s _ _ _ hgl c2
      replace c3:=fun s=>kp s _ _ _ hgl c3
      replace c4:=fun s=>kp s _ _ _ hgl c4
      replace c5:=fun s=>kp s _ _ _ hgl c5
      replace d0:=fun s=>kp s _ _ _ hgl d0
      replace d1:=fun s=>kp s _ _ _ hgl d1
      replace d2:=fun s=>kp s _ _ _ hgl d2
      replace d3:=fun s=>kp s _ _ _ hgl d3
      replace d4:=fun s=>kp s _ _ _ hgl d4
      replace d5:=fun s=>kp s _ _ _ hgl d5
      have hxI:(k:Int)<(cs.length:Int):=by have:=(List.getElem?_eq_some_iff.1 h2).1;omega
      have hyI:(j:Int)<(cs.length:Int):=by have:=(List.getElem?_eq_some_iff.1 g2).1;omega
      generalize togB p q=R at *
      clear h h1 h2 g1 g2 e kp hlt hgl HI hi1 hi2 hi3 hi4 hz
      go_enter Tryz.func146,Tryz.ntmps146
      go_wp2
      refine wp_region_class (C:=fun w'=>∃ s,w'=V s) (by kernel_rfl) (by kernel_rfl) (V2.out _ ((Below.refl _ _).drew)) ?_
      repeat (go_big_quiet_step (first|(go_at_call 76;exact HX.out _ _ rfl)|(go_at_call 76;exact HY.out _ _ rfl)|(go_at_call 205;exact HT.out _ _ _ _ _)))
      refine wpQuiet_nil ?_
      intro w9 hw9
      obtain ⟨s9,rfl⟩:=hw9
      go_wp2
      exact bodyPost_ret (results_tmp rfl _ _ _) rfl ⟨rfl,V1.out s9⟩
def bnC (i:Int):Value:=if i<0 then .tuple #[.int .i64 0,.int .i64 6] else .tuple #[.int .i64 i,.int .i64 0]
theorem rByName_c {b:Nat} {cs:List Cls} {W:World} (h:RAt b cs W) (nm:ByteArray) (hn:cs.length≤300):Calls Tryz.prog 177 #[.pointer (some ⟨b,0,none⟩),.string nm] W fun e w'=>e=.returned (bnC (nmdI nm.toList cs 0))∧w'=W:=by
  have HN:Hid (Calls Tryz.prog 136 #[.pointer (some ⟨b,0,none⟩),.string nm] W fun e w'=>e=.returned (.int .i64 (nmdI nm.toList cs 0))∧w'=W):=rNamed_c h nm hn
  clear h
  generalize nmdI nm.toList cs 0=k at *
  unfold bnC
  by_cases hk:k<0
  · rw [if_pos hk]
    go_enter Tryz.func177,Tryz.ntmps177
    go_wp2_with (go_at_call 136;refine HN.out.mono ?_;rintro e w9 ⟨rfl,hw9⟩;rw [hw9];clear hw9 w9)
    exact bodyPost_ret (results_tmp2 rfl _ _ _) rfl ⟨rfl,rfl⟩
  · rw [if_neg hk]
    go_enter Tryz.func177,Tryz.ntmps177
    go_wp2_with (go_at_call 136;refine HN.out.mono ?_;rintro e w9 ⟨rfl,hw9⟩;rw [hw9];clear hw9 w9)
    exact bodyPost_ret (results_tmp2 rfl _ _ _) rfl ⟨rfl,rfl⟩
set_option maxHeartbeats 1000000 in
theorem rOpen_c (c p:Cls) (vi vm vi' vm':Value) (hc:c.nm.size≤maxLen) (hp:p.nm.size≤maxLen) (W:World):Calls Tryz.prog 137 #[.agg #[.string c.nm,.string c.su,vi,.int .i64 c.fl,.int .i64 c.ld,vm],.agg #[.string p.nm,.string p.su,vi',.int .i64 p.fl,.int .i64 p.ld,vm']] W fun e w'=>e=.returned (.bool (hasI p.fl 1||togB c p))∧Below W.heap.size W w':=by
  have HT:Hid (∀ w,Calls Tryz.prog 205 #[.agg #[.string c.nm,.string c.su,vi,.int .i64 c.fl,.int .i64 c.ld,vm],.agg #[.string p.nm,.string p.su,vi',.int .i64 p.fl,.int .i64 p.ld,vm']] w fun e w'=>e=.returned (.bool (togB c p))∧Below w.heap.size w w'):=fun w=>rTog_c c p vi vm vi' vm' hc hp w
  have HF:Hid (∀ w:World,Calls Tryz.prog 101 #[.int .i64 p.fl,.int .i64 1] w fun e w'=>e=.returned (.bool (hasI p.fl 1))∧w'=w):=has_any p.fl 1
  generalize hasI p.fl 1=b1 at *
  generalize togB c p=b2 at *
  clear hc hp
  cases b1
  all_goals
    go_enter Tryz.func137,Tryz.ntmps137
    go_wp2_with (first
      | (go_at_call 101;refine (HF.out _).mono ?_;rintro e w9 ⟨rfl,hw9⟩;rw [hw9];clear hw9 w9)
      | (go_at_call 205;refine (HT.out _).mono ?_;rintro e w1 ⟨rfl,hb⟩;have B1:Hid (Below W.heap.size W w1):=bstep (by repeat (first|exact Below.refl _ _|refine Below.setCell ?_ (by simp;try omega) _|refine Below.alloc ?_ (by simp;try omega) _|refine Below.drew ?_)) hb;clear hb HT))
    first
      | exact bodyPost_ret (results_tmp rfl _ _ _) rfl ⟨rfl,B1.out⟩
      | exact bodyPost_ret (results_tmp rfl _ _ _) rfl ⟨rfl,(by repeat (first|exact Below.refl _ _|refine Below.setCell ?_ (by simp;try omega) _|refine Below.alloc ?_ (by simp;try omega) _|refine Below.drew ?_))⟩
structure CpR (W wr:World) (nm su:ByteArray) (fl ld:Int) (ai0 am0 ai:Option Addr) (ni ci0 capi M cm0 gm:Nat) (xi:List Value) (pm qm:List (HM×Value)) (k:Nat):Prop where
  bc:wr.heap[W.heap.size]?=some (.cells #[.string nm,.string su,.slice ai0 ni ci0,.int .i64 fl,.int .i64 ld,.slice am0 M cm0] 48 (0,0))
  br:wr.heap[W.heap.size+1]?=some (.cells #[.string ⟨#[]⟩,.string ⟨#[]⟩,.slice none 0 0,.int .i64 0,.int .i64 0,.slice none 0 0] 48 (0,0))
  bd:wr.heap[W.heap.size+1+1]?=some (.cells #[.string nm,.string su,.slice ai ni capi,.int .i64 fl,.int .i64 ld,.slice (some ⟨gm,0,none⟩) M M] 48 (0,0))
  ifs:wr.ownsRow (W.heap.size+1+1+1) 9 1 (.slice ai ni capi) ni xi
  len:qm.length=M
  ms:wr.ownsRow (W.heap.size+1+1+1) 81 6 (.slice (some ⟨gm,0,none⟩) M M) M (flatH qm)
  eq:∀ j<k,(qm[j]?).map Prod.fst=(pm[j]?).map Prod.fst
  old:∀ j p,qm[j]?=some p→j<k→wr.ownsRow (W.heap.size+1+1+1) 170 7 p.2 p.1.n p.1.xs
  below:Below W.heap.size W wr
def hm0:HM×Value:=(⟨⟨#[]⟩,⟨#[]⟩,0,0,0,0,[]⟩,.slice none 0 0)
theorem made_flat (M:Nat):(madeCells (Value.agg #[.string ⟨#[]⟩,.string ⟨#[]⟩,.int .i64 0,.int .i64 0,.int .i64 0,.slice none 0 0]).cells (M * 6)).toList=flatH (List.replicate M hm0):=by
  refine List.ext_getElem? fun j=>?_
  by_cases hj:j<M * 6
  · have hq:j / 6<M:=by omega
    have h:=flatH_at (List.replicate M hm0) (j / 6) hm0 (by simp [hq]) (j % 6) (Nat.mod_lt _ (by decide))
    rw [show j / 6 * 6+j % 6=j by omega] at h
    rw [h]
    have e:∀ r,r<6→(hmC hm0)[r]?=some ((Value.agg #[.string ⟨#[]⟩,.string ⟨#[]⟩,.int .i64 0,.int .i64 0,.int .i64 0,.slice none 0 0]).cells[r]!):=fun r hr=>by
      match r,hr with
      | 0,_=>rfl
      | 1,_=>rfl
      | 2,_=>rfl
      | 3,_=>rfl
      | 4,_=>rfl
      | 5,_=>rfl
    rw [e _ (Nat.mod_lt _ (by decide))]
    simp [madeCells,hj]
    rfl
  · rw [List.getElem?_eq_none (by simp [size_madeCells];omega),List.getElem?_eq_none (by rw [flatH_length];simp;omega)]
theorem flatH_put (l:List (HM×Value)) (k:Nat) (m:HM) (u:Value) (hk:k<l.length):((((((flatH l).set (k * 6) (.string m.nm)).set (k * 6+1) (.string m.ds)).set (k * 6+2) (.int .i64 m.fl)).set (k * 6+3) (.int .i64 m.lo)).set (k * 6+4) (.int .i64 m.st)).set (k * 6+5) u=flatH (l.set k (m,u)):=by
  induction l generalizing k with
  | nil=>simp at hk
  | cons t ts ih =>
    have e:∀ a b,flatH (a::b)=hmC a++flatH b:=fun a b=>by simp [flatH]
    cases k with
    | zero=>rw [List.set_cons_zero,e,e];simp [hmC]
    | succ k =>
      rw [List.set_cons_succ,e,e,← ih k (by simpa using hk)]
      have hs:∀ (r:Nat) (v:Value) (L:List Value),(hmC t++L).set ((k+1) * 6+r) v=hmC t++L.set (k * 6+r) v:=fun r v L=>by
        rw [List.set_append_right _ _ (by simp [hmC];omega)]
        congr 2
        simp [hmC];omega
      have h0:=hs 0
      simp only [Nat.add_zero] at h0
      rw [h0,hs 1,hs 2,hs 3,hs 4,hs 5]
theorem CpR.put {W wr:World} {nm su:ByteArray} {fl ld:Int} {ai0 am0 ai:Option Addr} {ni ci0 capi M cm0 g:Nat} {xi:List Value} {pm qm:List (HM×Value)} {k:Nat} (h:CpR W wr nm su fl ld ai0 am0 ai ni ci0 capi M cm0 g xi pm qm k) (hk:k<M) (m:HM) (u:Value) :
    CpR W ((((((wr.setCell ⟨g,k * 6,none⟩ (.string m.nm)).setCell ⟨g,k * 6+1,none⟩ (.string m.ds)).setCell ⟨g,k * 6+2,none⟩ (.int .i64 m.fl)).setCell ⟨g,k * 6+3,none⟩ (.int .i64 m.lo)).setCell ⟨g,k * 6+4,none⟩ (.int .i64 m.st)).setCell ⟨g,k * 6+5,none⟩ u).drew nm su fl ld ai0 am0 ai ni ci0 capi M cm0 g xi pm (qm.set k (m,u)) k:=by
  obtain ⟨hgN,hglt⟩:=h.ms.lt g rfl
  obtain ⟨cur,hcur⟩:=row_cur h.ms
  obtain ⟨s0,_⟩:=h.ms.stored (k * 6) (.string m.nm)
  obtain ⟨s1,_⟩:=s0.stored (k * 6+1) (.string m.ds)
  obtain ⟨s2,_⟩:=s1.stored (k * 6+2) (.int .i64 m.fl)
  obtain ⟨s3,_⟩:=s2.stored (k * 6+3) (.int .i64 m.lo)
  obtain ⟨s4,_⟩:=s3.stored (k * 6+4) (.int .i64 m.st)
  obtain ⟨s5,_⟩:=s4.stored (k * 6+5) u
  rw [flatH_put qm k m u (by rw [h.len];exact hk)] at s5
  have G:wr.grownBy ((((((wr.setCell ⟨g,k * 6,none⟩ (.string m.nm)).setCell ⟨g,k * 6+1,none⟩ (.string m.ds)).setCell ⟨g,k * 6+2,none⟩ (.int .i64 m.fl)).setCell ⟨g,k * 6+3,none⟩ (.int .i64 m.lo)).setCell ⟨g,k * 6+4,none⟩ (.int .i64 m.st)).setCell ⟨g,k * 6+5,none⟩ u) (some g) :=
    (grown_set _ g _ _).trans ((grown_set _ g _ _).trans ((grown_set _ g _ _).trans ((grown_set _ g _ _).trans ((grown_set _ g _ _).trans (grown_set _ g _ _)))))
  generalize ((((((wr.setCell ⟨g,k * 6,none⟩ (.string m.nm)).setCell ⟨g,k * 6+1,none⟩ (.string m.ds)).setCell ⟨g,k * 6+2,none⟩ (.int .i64 m.fl)).setCell ⟨g,k * 6+3,none⟩ (.int .i64 m.lo)).setCell ⟨g,k * 6+4,none⟩ (.int .i64 m.st)).setCell ⟨g,k * 6+5,none⟩ u)=w6 at *
  have B6:Below W.heap.size W w6:=h.below.grown G h.below.size (fun k hk=>by cases hk;omega)
  refine ⟨(G.block _ (Array.getElem?_eq_some_iff.1 h.bc).1 (by simp;omega)).trans h.bc,(G.block _ (Array.getElem?_eq_some_iff.1 h.br).1 (by simp;omega)).trans h.br,(G.block _ (Array.getElem?_eq_some_iff.1 h.bd).1 (by simp;omega)).trans h.bd,(h.ifs.kept G (row_kind_ne h.ifs hcur (by decide))).drew,by rw [List.length_set];exact h.len,s5.drew,?_,?_,B6.drew⟩
  · intro j hj
    rw [List.getElem?_set_ne (by omega)]
    exact h.eq j hj
  · intro j p hj hjk
    rw [List.getElem?_set_ne (by omega)] at hj
    have:=h.old j p hj hjk
    exact (this.kept G (row_kind_ne this hcur (by decide))).drew
theorem CpR.next {W wr w5:World} {nm su:ByteArray} {fl ld:Int} {ai0 am0 ai:Option Addr} {ni ci0 capi M cm0 g:Nat} {xi:List Value} {pm qm:List (HM×Value)} {k:Nat} {m:HM} {u u0 v':Value} (h:CpR W wr nm su fl ld ai0 am0 ai ni ci0 capi M cm0 g xi pm qm k) (hq:qm[k]?=some (m,u)) (hp:pm[k]?=some (m,u0)) (hb:Below wr.heap.size wr w5) (ho:w5.ownsRow (W.heap.size+1+1+1) 170 7 v' m.n m.xs) :
    CpR W (w5.setCell ⟨g,k * 6+5,none⟩ v') nm su fl ld ai0 am0 ai ni ci0 capi M cm0 g xi pm (qm.set k (m,v')) (k+1):=by
  have hms:=rowBelow h.ms hb
  obtain ⟨hgN,hglt⟩:=hms.lt g rfl
  obtain ⟨cur,hcur⟩:=row_cur hms
  obtain ⟨s5,G⟩:=hms.stored (k * 6+5) v'
  rw [flatH_set qm k m u v' hq] at s5
  have hif:=rowBelow h.ifs hb
  have hkq:k<qm.length:=(List.getElem?_eq_some_iff.1 hq).1
  refine ⟨(G.block _ (Nat.lt_of_lt_of_le (Array.getElem?_eq_some_iff.1 h.bc).1 hb.size) (by simp;omega)).trans ((hb.block _ (Array.getElem?_eq_some_iff.1 h.bc).1).trans h.bc),(G.block _ (Nat.lt_of_lt_of_le (Array.getElem?_eq_some_iff.1 h.br).1 hb.size) (by simp;omega)).trans ((hb.block _ (Array.getElem?_eq_some_iff.1 h.br).1).trans h.br),(G.block _ (Nat.lt_of_lt_of_le (Array.getElem?_eq_some_iff.1 h.bd).1 hb.size) (by simp;omega)).trans ((hb.block _ (Array.getElem?_eq_some_iff.1 h.bd).1).trans h.bd),(hif.kept G (row_kind_ne hif hcur (by decide))),by rw [List.length_set];exact h.len,s5,?_,?_,((h.below.trans (hb.mono h.below.size)).grown G (Nat.le_trans h.below.size hb.size) (fun k hk=>by cases hk;omega))⟩
  · intro j hj
    by_cases e:j=k
    · subst e
      rw [List.getElem?_set_self hkq,hp];rfl
    · rw [List.getElem?_set_ne (fun e2=>e e2.symm)]
      exact h.eq j (by omega)
  · intro j p hj hjk
    by_cases e:j=k
    · subst e
      rw [List.getElem?_set_self hkq] at hj
      cases hj
      exact (ho.kept G (row_kind_ne ho hcur (by decide)))
    · rw [List.getElem?_set_ne (fun e2=>e e2.symm)] at hj
      have:=rowBelow (h.old j p hj (by omega)) hb
      exact (this.kept G (row_kind_ne this hcur (by decide)))
set_option maxHeartbeats 1000000 in
theorem rCopy_any (nm su:ByteArray) (fl ld:Int) (vi vm:Value) (ni:Nat) (xi:List Value) (pm:List (HM×Value)) (W:World) (hi:Rdw W vi ni 1 xi) (hi1:∀ u∈xi,u.oneCell'=true) (hni:ni≤1000000)
    (hm:Rdw W vm pm.length 6 (flatH pm)) (hnm:pm.length≤1000000) (hc:∀ p∈pm,Rdw W p.2 p.1.n 7 p.1.xs∧(∀ u∈p.1.xs,u.oneCell'=true)∧p.1.n≤1000000) :
    Calls Tryz.prog 138 #[.agg #[.string nm,.string su,vi,.int .i64 fl,.int .i64 ld,vm]] W fun e w'=>∃ vi' vm' qm,e=.returned (.agg #[.string nm,.string su,vi',.int .i64 fl,.int .i64 ld,vm'])∧OwnC w' W.heap.size vi' ni xi vm' qm∧qm.map Prod.fst=pm.map Prod.fst∧Below W.heap.size W w':=by
  obtain ⟨ai0,ci0,rfl⟩:=hi.slice
  obtain ⟨am0,cm0,rfl⟩:=hm.slice
  obtain ⟨i0,hi0,hz0,hz1,hz2⟩:=info_parts Tryz.hinfo9
  have HI:Hid (Rdw W (.slice ai0 ni ci0) ni 1 xi):=hi
  have HM':Hid (Rdw W (.slice am0 pm.length cm0) pm.length 6 (flatH pm)):=hm
  have HC:Hid (∀ p∈pm,Rdw W p.2 p.1.n 7 p.1.xs∧(∀ u∈p.1.xs,u.oneCell'=true)∧p.1.n≤1000000):=hc
  have HI1:Hid (∀ u∈xi,u.oneCell'=true):=hi1
  obtain ⟨M,hM⟩:∃ M,pm.length=M:=⟨_,rfl⟩
  have HML:Hid (pm.length=M):=hM
  rw [hM] at hnm ⊢
  clear hi hm hc hM hi1
  go_enter Tryz.func138,Tryz.ntmps138
  go_wp2_with (at_builtin;refine wpList_append_rdw rfl _ _ 45 rfl (W.heap.size+1+1+1) 9 i0 (.string ⟨#[]⟩) 1 16 Tryz.underlying45 hi0 hz0 hz1 hz2 rfl (by decide) (.slice (some ⟨W.heap.size+1+1+1,0,none⟩) 0 0) 0 [] rfl (own_empty _ _ (by simp) _ _ _ (by simp)) (.slice ai0 ni ci0) ni xi rfl (HI.out.keep (by repeat (first|exact Below.refl _ _|refine Below.setCell ?_ (by simp;try omega) _|refine Below.alloc ?_ (by simp;try omega) _|refine Below.drew ?_))) HI1.out ?c1 ?c2 ?c3 ?_)
  case c1=>unfold maxLen;omega
  case c2=>omega
  case c3=>simp
  intro v' w1 hown hgrow
  obtain ⟨ai,capi,rfl⟩:=ownv hown
  have sz1:=hgrow.size
  simp only [World.size_alloc] at sz1
  have ob:∀ j,j<W.heap.size+1+1+1→some j≠(Value.slice (some ⟨W.heap.size+1+1+1,0,none⟩) 0 0).ownBlock:=fun j hj=>by simp [Value.ownBlock];omega
  have hbc:w1.heap[W.heap.size]?=some (.cells #[.string nm,.string su,.slice ai0 ni ci0,.int .i64 fl,.int .i64 ld,.slice am0 M cm0] 48 (0,0)):=by
    rw [hgrow.block _ (by simp;try omega) (ob _ (by omega))]
    exact (Below.heap_alloc _ _ _ (by simp;try omega)).trans ((Below.heap_alloc _ _ _ (by simp;try omega)).trans (heap_alloc2_old W _ _))
  have hbr:w1.heap[W.heap.size+1]?=some (.cells #[.string ⟨#[]⟩,.string ⟨#[]⟩,.slice none 0 0,.int .i64 0,.int .i64 0,.slice none 0 0] 48 (0,0)):=by
    rw [hgrow.block _ (by simp;try omega) (ob _ (by omega))]
    exact (Below.heap_alloc _ _ _ (by simp;try omega)).trans ((Below.heap_alloc _ _ _ (by simp)).trans (heap_alloc2_new W _ _))
  have hbd:w1.heap[W.heap.size+1+1]?=some (.cells #[.string nm,.string su,.slice ai0 ni ci0,.int .i64 fl,.int .i64 ld,.slice am0 M cm0] 48 (0,0)):=by
    rw [hgrow.block _ (by simp) (ob _ (by omega))]
    refine (Below.heap_alloc _ _ _ (by simp)).trans ?_
    have:=halloc1 ((W.alloc (.cells #[.string nm,.string su,.slice ai0 ni ci0,.int .i64 fl,.int .i64 ld,.slice am0 M cm0] 48)).alloc (.cells #[.string ⟨#[]⟩,.string ⟨#[]⟩,.slice none 0 0,.int .i64 0,.int .i64 0,.slice none 0 0] 48)) (.cells #[.string nm,.string su,.slice ai0 ni ci0,.int .i64 fl,.int .i64 ld,.slice am0 M cm0] 48)
    simpa using this
  have B1:Hid (Below W.heap.size W w1):=by
    refine Below.grown (w:=_) ?_ hgrow (by simp;try omega) (fun k hk=>by simp [Value.ownBlock] at hk;omega)
    exact (by repeat (first|exact Below.refl _ _|refine Below.setCell ?_ (by simp;try omega) _|refine Below.alloc ?_ (by simp;try omega) _|refine Below.drew ?_))
  have O1:Hid (w1.ownsRow (W.heap.size+1+1+1) 9 1 (.slice ai ni capi) ni xi):=hown
  have hc5:=cell_of_row w1 W.heap.size 5 _ _ _ hbc
  have d0:=cell_of_row w1 (W.heap.size+1+1) 0 _ _ _ hbd
  have e0:=frozen_of_row w1 (W.heap.size+1+1) 0 _ _ hbd
  have d1:=cell_of_row w1 (W.heap.size+1+1) 1 _ _ _ hbd
  have e1:=frozen_of_row w1 (W.heap.size+1+1) 1 _ _ hbd
  have d2:=cell_of_row w1 (W.heap.size+1+1) 2 _ _ _ hbd
  have e2:=frozen_of_row w1 (W.heap.size+1+1) 2 _ _ hbd
  have d3:=cell_of_row w1 (W.heap.size+1+1) 3 _ _ _ hbd
  have e3:=frozen_of_row w1 (W.heap.size+1+1) 3 _ _ hbd
  have d4:=cell_of_row w1 (W.heap.size+1+1) 4 _ _ _ hbd
  have e4:=frozen_of_row w1 (W.heap.size+1+1) 4 _ _ hbd
  have d5:=cell_of_row w1 (W.heap.size+1+1) 5 _ _ _ hbd
  have e5:=frozen_of_row w1 (W.heap.size+1+1) 5 _ _ hbd
  simp only [List.getElem?_toArray,List.getElem?_cons_zero,List.getElem?_cons_succ] at hc5 d0 d1 d2 d3 d4 d5
  have HBC:Hid _:=hbc
  have HBR:Hid _:=hbr
  have HBD:Hid _:=hbd
  clear hown hgrow ob hbc hbr hbd HI HI1
  obtain ⟨iM,hiM,hzM,hsM,hbM⟩:=info_parts Tryz.hinfo58
  have hmk:∀ w:World,(Instr.makeSlice 46 (.int .i64 (M:Int)) (.int .i64 (M:Int))).run Tryz.prog w=.ok (.slice (some ⟨w.heap.size,0,none⟩) M M) (w.alloc (.cells (madeCells (Value.agg #[.string ⟨#[]⟩,.string ⟨#[]⟩,.int .i64 0,.int .i64 0,.int .i64 0,.slice none 0 0]).cells (M * 6)) 81)):=fun w=>by
    have:=run_make w (P:=Tryz.prog) 46 81 iM _ Tryz.underlying46 hiM hzM .i64 .i64 (M:Int) (M:Int) (by omega) (Int.le_refl _) (by rw [hbM];omega) (by omega)
    rw [hsM,Int.toNat_natCast] at this
    exact this
  have hn2:¬ W.heap.size+1+1=w1.heap.size:=by omega
  have hl2:W.heap.size+1+1<w1.heap.size:=by omega
  have hn0:¬ W.heap.size=w1.heap.size:=by omega
  have hz:=made_flat M
  have HZ:Hid _:=hz
  generalize madeCells (Value.agg #[.string ⟨#[]⟩,.string ⟨#[]⟩,.int .i64 0,.int .i64 0,.int .i64 0,.slice none 0 0]).cells (M * 6)=ZC at *
  have hl1:W.heap.size+1<w1.heap.size:=by omega
  have hl0:W.heap.size<w1.heap.size:=by omega
  have HR0:Hid (CpR W (((w1.setCell ⟨W.heap.size+1+1,2,none⟩ (.slice ai ni capi)).setCell ⟨W.heap.size+1+1,5,none⟩ (.slice (some ⟨w1.heap.size,0,none⟩) M M)).alloc (.cells ZC 81)) nm su fl ld ai0 am0 ai ni ci0 capi M cm0 w1.heap.size xi pm (List.replicate M hm0) 0):=by
    have hne0:W.heap.size≠W.heap.size+1+1:=by omega
    have hne1:W.heap.size+1≠W.heap.size+1+1:=by omega
    have hd1:=heap_setCell_same w1 (W.heap.size+1+1) 2 _ 48 (.slice ai ni capi) HBD.out
    have hd2:=heap_setCell_same _ (W.heap.size+1+1) 5 _ 48 (.slice (some ⟨w1.heap.size,0,none⟩) M M) hd1
    have szs:((w1.setCell ⟨W.heap.size+1+1,2,none⟩ (.slice ai ni capi)).setCell ⟨W.heap.size+1+1,5,none⟩ (.slice (some ⟨w1.heap.size,0,none⟩) M M)).heap.size=w1.heap.size:=by simp
    refine ⟨?_,?_,?_,?_,by simp,?_,fun j hj=>absurd hj (Nat.not_lt_zero _),fun j p _ hj=>absurd hj (Nat.not_lt_zero _),?_⟩
    · exact (Below.heap_alloc _ _ _ (by rw [szs];exact hl0)).trans ((heap_setCell_other _ _ _ _ hne0).trans ((heap_setCell_other _ _ _ _ hne0).trans HBC.out))
    · exact (Below.heap_alloc _ _ _ (by rw [szs];exact hl1)).trans ((heap_setCell_other _ _ _ _ hne1).trans ((heap_setCell_other _ _ _ _ hne1).trans HBR.out))
    · exact (Below.heap_alloc _ _ _ (by rw [szs];exact hl2)).trans (hd2.trans rfl)
    · exact (ownsRow_setCell_below (a:=⟨W.heap.size+1+1,5,none⟩) (ownsRow_setCell_below (a:=⟨W.heap.size+1+1,2,none⟩) O1.out (by simp) _) (by simp) _).alloc _
    · have h:=World.ownsRow_lit (base:=W.heap.size+1+1+1) (e:=81) (size:=6) ((w1.setCell ⟨W.heap.size+1+1,2,none⟩ (.slice ai ni capi)).setCell ⟨W.heap.size+1+1,5,none⟩ (.slice (some ⟨w1.heap.size,0,none⟩) M M)) ZC M (by rw [szs];omega) (by unfold maxLen;omega) (by have:=congrArg List.length HZ.out;rw [flatH_length] at this;simpa using this)
      rw [szs,HZ.out] at h
      exact h
    · exact (((B1.out.setCell (p:=⟨W.heap.size+1+1,2,none⟩) (show W.heap.size≤W.heap.size+1+1 by omega) _).setCell (p:=⟨W.heap.size+1+1,5,none⟩) (show W.heap.size≤W.heap.size+1+1 by omega) _).alloc (by rw [szs];omega) _)
  go_wp2
  clear d0 d1 d2 d3 d4 d5 e0 e1 e2 e3 e4 e5 HBC HBR HBD O1 hc5 hmk HZ hz
  go_loopw [4] (fun kv wr=>∃ (k:Nat) (qm:List (HM×Value)),kv=.int .i64 k∧k≤M∧Hid (CpR W wr nm su fl ld ai0 am0 ai ni ci0 capi M cm0 w1.heap.size xi pm qm k)) (fun kv _=>M - (intOf kv).toNat)
  case atStart=>exact ⟨0,_,rfl,Nat.zero_le _,HR0⟩
  case round =>
    obtain ⟨k,qm,rfl,hk,hR⟩:=hrel
    clear HR0
    have c5:=cell_of_row wr W.heap.size 5 _ _ _ hR.out.bc
    have d5:=cell_of_row wr (W.heap.size+1+1) 5 _ _ _ hR.out.bd
    simp only [List.getElem?_toArray,List.getElem?_cons_zero,List.getElem?_cons_succ] at c5 d5
    generalize w1.heap.size=g at *
    by_cases hlt:k<M
    · obtain ⟨⟨m,u⟩,hku⟩:∃ p,pm[k]?=some p:=⟨_,List.getElem?_eq_getElem (by rw [HML.out];exact hlt)⟩
      have hmem:=List.mem_of_getElem? hku
      obtain ⟨hcr,hc1,hcn⟩:=HC.out _ hmem
      simp only at hcr hc1 hcn
      obtain ⟨ua,uc,hu⟩:=hcr.slice
      subst hu
      obtain ⟨bk,o,rfl,hbk,hcell⟩:∃ bk o,am0=some ⟨bk,o,none⟩∧bk<W.heap.size∧∀ j,j<6→W.cell? ⟨bk,o+k * 6+j,none⟩=(hmC (m,.slice ua m.n uc))[j]?:=by
        rcases HM'.out with h|⟨e,_⟩
        · rcases h.val with ⟨_,e⟩|⟨bk,o,cap,e,_,_,h3,h4⟩
          · rw [HML.out] at e;omega
          · simp only [Value.slice.injEq] at e
            refine ⟨bk,o,e.1,h3,fun j hj=>?_⟩
            have:=flatH_at pm k _ hku j hj
            have hs:∃ z,(hmC (m,.slice ua m.n uc))[j]?=some z:=⟨_,List.getElem?_eq_getElem (by simp [hmC];omega)⟩
            obtain ⟨z,hz⟩:=hs
            rw [hz,Nat.add_assoc]
            exact h4 _ z (this.trans hz)
        · rw [HML.out] at e;omega
      have q0:wr.cell? ⟨bk,o+k * 6,none⟩=some (.string m.nm):=(hR.out.below.cell (p:=⟨bk,o+k * 6,none⟩) hbk).trans (hcell 0 (by omega))
      have q1:wr.cell? ⟨bk,o+k * 6+1,none⟩=some (.string m.ds):=(hR.out.below.cell (p:=⟨bk,o+k * 6+1,none⟩) hbk).trans (hcell 1 (by omega))
      have q2:wr.cell? ⟨bk,o+k * 6+2,none⟩=some (.int .i64 m.fl):=(hR.out.below.cell (p:=⟨bk,o+k * 6+2,none⟩) hbk).trans (hcell 2 (by omega))
      have q3:wr.cell? ⟨bk,o+k * 6+3,none⟩=some (.int .i64 m.lo):=(hR.out.below.cell (p:=⟨bk,o+k * 6+3,none⟩) hbk).trans (hcell 3 (by omega))
      have q4:wr.cell? ⟨bk,o+k * 6+4,none⟩=some (.int .i64 m.st):=(hR.out.below.cell (p:=⟨bk,o+k * 6+4,none⟩) hbk).trans (hcell 4 (by omega))
      have q5:wr.cell? ⟨bk,o+k * 6+5,none⟩=some (.slice ua m.n uc):=(hR.out.below.cell (p:=⟨bk,o+k * 6+5,none⟩) hbk).trans (hcell 5 (by omega))
      obtain ⟨hgN,hglt⟩:=hR.out.ms.lt g rfl
      obtain ⟨⟨m',u'⟩,hqk⟩:∃ p,qm[k]?=some p:=⟨_,List.getElem?_eq_getElem (by rw [hR.out.len];exact hlt)⟩
      have hat:=fun j hj=>(hR.out.ms.cellAt (k * 6+j) (by omega)).trans (flatH_at qm k _ hqk j hj)
      have t0:wr.cell? ⟨g,k * 6,none⟩=some (.string m'.nm):=hat 0 (by omega)
      have t1:wr.cell? ⟨g,k * 6+1,none⟩=some (.string m'.ds):=hat 1 (by omega)
      have t2:wr.cell? ⟨g,k * 6+2,none⟩=some (.int .i64 m'.fl):=hat 2 (by omega)
      have t3:wr.cell? ⟨g,k * 6+3,none⟩=some (.int .i64 m'.lo):=hat 3 (by omega)
      have t4:wr.cell? ⟨g,k * 6+4,none⟩=some (.int .i64 m'.st):=hat 4 (by omega)
      have t5:wr.cell? ⟨g,k * 6+5,none⟩=some u':=hat 5 (by omega)
      have f0:=hR.out.ms.frozenAt (k * 6)
      have f1:=hR.out.ms.frozenAt (k * 6+1)
      have f2:=hR.out.ms.frozenAt (k * 6+2)
      have f3:=hR.out.ms.frozenAt (k * 6+3)
      have f4:=hR.out.ms.frozenAt (k * 6+4)
      have f5:=hR.out.ms.frozenAt (k * 6+5)
      have hkI:(k:Int)<(M:Int):=by omega
      have hnc:¬ W.heap.size=g:=by omega
      have hnd:¬ W.heap.size+1+1=g:=by omega
      have hnb:¬ bk=g:=by have:=hbk;omega
      clear hcell hat hmem
      go_wp2
      go_region
      have hR2:=hR.out.put hlt m (.slice ua m.n uc)
      generalize ((((((wr.setCell ⟨g,k * 6,none⟩ (.string m.nm)).setCell ⟨g,k * 6+1,none⟩ (.string m.ds)).setCell ⟨g,k * 6+2,none⟩ (.int .i64 m.fl)).setCell ⟨g,k * 6+3,none⟩ (.int .i64 m.lo)).setCell ⟨g,k * 6+4,none⟩ (.int .i64 m.st)).setCell ⟨g,k * 6+5,none⟩ (.slice ua m.n uc)).drew=W2 at *
      have HR2:Hid (CpR W W2 nm su fl ld ai0 (some ⟨bk,o,none⟩) ai ni ci0 capi M cm0 g xi pm (qm.set k (m,.slice ua m.n uc)) k):=hR2
      have hq2:(qm.set k (m,Value.slice ua m.n uc))[k]?=some (m,.slice ua m.n uc):=List.getElem?_set_self (by rw [hR.out.len];exact hlt)
      have c5':=cell_of_row W2 W.heap.size 5 _ _ _ hR2.bc
      have d5':=cell_of_row W2 (W.heap.size+1+1) 5 _ _ _ hR2.bd
      simp only [List.getElem?_toArray,List.getElem?_cons_zero,List.getElem?_cons_succ] at c5' d5'
      have q5':W2.cell? ⟨bk,o+k * 6+5,none⟩=some (.slice ua m.n uc):=(hR2.below.cell (p:=⟨bk,o+k * 6+5,none⟩) hbk).trans ((hR.out.below.cell (p:=⟨bk,o+k * 6+5,none⟩) hbk).symm.trans q5)
      obtain ⟨hgN2,hglt2⟩:=hR2.ms.lt g rfl
      have HQ2:Hid ((qm.set k (m,Value.slice ua m.n uc))[k]?=some (m,.slice ua m.n uc)):=hq2
      have hb2:W.heap.size+1+1+1≤W2.heap.size:=by omega
      have hbk2:bk<W2.heap.size:=by omega
      have hld2:W.heap.size+1+1<W2.heap.size:=by omega
      have hlc2:W.heap.size<W2.heap.size:=by omega
      obtain ⟨iI,hiI,hzI,hsI,hbI⟩:=info_parts Tryz.hinfo81
      have HCR:Hid (∀ w:World,Below W2.heap.size W2 w→Rdw w (.slice ua m.n uc) m.n 7 m.xs):=fun w hb=>hcr.keep (bstep HR2.out.below hb)
      have HC1:Hid (∀ u∈m.xs,u.oneCell'=true):=hc1
      have HKU:Hid (pm[k]?=some (m,.slice ua m.n uc)):=hku
      clear hq2 hR2 q0 q1 q2 q3 q4 q5 t0 t1 t2 t3 t4 t5 f0 f1 f2 f3 f4 f5 c5 d5 hqk hcr hc1 hku hR HM'
      go_wp2
      go_region_law
        (first
          | (refine step_append_rdw rfl (.tmp 35) (.tmp 41) 79 rfl (W.heap.size+1+1+1) 170 iI _ 7 _ Tryz.underlying79 hiI hzI hsI hbI rfl (by decide) (.slice (some ⟨W2.heap.size,0,none⟩) 0 0) 0 [] (by simp [Act.eval]) ((own_empty W2 _ rfl _ _ _ hb2).drew) (.slice ua m.n uc) m.n m.xs (by simp [Act.eval]) (HCR.out _ ((Below.refl _ W2).alloc (Nat.le_refl _) _).drew) HC1.out (by unfold maxLen;omega) (by omega) (by simp;omega) ?_;intro v' w5 hown hgrow;obtain ⟨ac,cc,rfl⟩:=ownv hown;simp only [Nat.zero_add,List.nil_append] at hown ⊢;have B5:Hid (Below W2.heap.size W2 w5):=(Below.grown (w:=_) ((Below.refl _ W2).alloc (Nat.le_refl _) _).drew hgrow (by simp) (fun k hk=>by simp [Value.ownBlock] at hk;omega));have O5:Hid (w5.ownsRow (W.heap.size+1+1+1) 170 7 (.slice ac m.n cc) m.n m.xs):=hown;have y5:w5.cell? ⟨W.heap.size+1+1,5,none⟩=some (.slice (some ⟨g,0,none⟩) M M):=(B5.out.cell (p:=⟨W.heap.size+1+1,5,none⟩) hld2).trans d5';have x5:w5.cell? ⟨g,k * 6+5,none⟩=some (.slice ua m.n uc):=(B5.out.cell (p:=⟨g,k * 6+5,none⟩) hglt2).trans ((HR2.out.ms.cellAt (k * 6+5) (by omega)).trans (flatH_at _ k _ HQ2.out 5 (by omega)));have z5:w5.frozen? ⟨g,k * 6+5,none⟩=false:=(rowBelow HR2.out.ms B5.out).frozenAt (k * 6+5);clear hown hgrow))
      all_goals
        go_wp2
        go_roundw
        case rel=>exact ⟨k+1,_,by go_num,by omega,HR2.out.next HQ2.out HKU.out B5.out O5.out⟩
        case measure=>simp [intOf];omega
    · have h1:=hR.out.br
      have h2:=hR.out.bd
      have d0:=cell_of_row wr (W.heap.size+1) 0 _ _ _ h1
      have e0:=frozen_of_row wr (W.heap.size+1) 0 _ _ h1
      have g0:=cell_of_row wr (W.heap.size+1+1) 0 _ _ _ h2
      have d1:=cell_of_row wr (W.heap.size+1) 1 _ _ _ h1
      have e1:=frozen_of_row wr (W.heap.size+1) 1 _ _ h1
      have g1:=cell_of_row wr (W.heap.size+1+1) 1 _ _ _ h2
      have d2:=cell_of_row wr (W.heap.size+1) 2 _ _ _ h1
      have e2:=frozen_of_row wr (W.heap.size+1) 2 _ _ h1
      have g2:=cell_of_row wr (W.heap.size+1+1) 2 _ _ _ h2
      have d3:=cell_of_row wr (W.heap.size+1) 3 _ _ _ h1
      have e3:=frozen_of_row wr (W.heap.size+1) 3 _ _ h1
      have g3:=cell_of_row wr (W.heap.size+1+1) 3 _ _ _ h2
      have d4:=cell_of_row wr (W.heap.size+1) 4 _ _ _ h1
      have e4:=frozen_of_row wr (W.heap.size+1) 4 _ _ h1
      have g4:=cell_of_row wr (W.heap.size+1+1) 4 _ _ _ h2
      have d5:=cell_of_row wr (W.heap.size+1) 5 _ _ _ h1
      have e5:=frozen_of_row wr (W.heap.size+1) 5 _ _ h1
      have g5:=cell_of_row wr (W.heap.size+1+1) 5 _ _ _ h2
      simp only [List.getElem?_toArray,List.getElem?_cons_zero,List.getElem?_cons_succ] at d0 d1 d2 d3 d4 d5 g0 g1 g2 g3 g4 g5
      have hkk:¬ (k:Int)<(M:Int):=by omega
      have hne:¬ W.heap.size+1+1=W.heap.size+1:=by omega
      have hkM:k=M:=by omega
      clear h1 h2
      go_wp2
      have hR6:=hR.out
      refine bodyPost_ret (v:=.agg #[.string nm,.string su,.slice ai ni capi,.int .i64 fl,.int .i64 ld,.slice (some ⟨g,0,none⟩) M M]) (by simp [results,Tryz.results138,go_sem, *]) rfl ⟨_,_,rfl,qm,⟨?_,?_,?_⟩,?_,?_⟩
      · refine Go.Joins.ownsRow_le (base:=W.heap.size+1+1+1) ?_ (by omega)
        repeat (refine ownsRow_setCell_below ?_ (by simp) _)
        exact hR6.ifs
      · refine Go.Joins.ownsRow_le (base:=W.heap.size+1+1+1) ?_ (by omega)
        repeat (refine ownsRow_setCell_below ?_ (by simp) _)
        rw [hR6.len]
        exact hR6.ms
      · intro p hp
        obtain ⟨j,hj⟩:=List.getElem?_of_mem hp
        have hjl:=(List.getElem?_eq_some_iff.1 hj).1
        rw [hR6.len] at hjl
        refine Go.Joins.ownsRow_le (base:=W.heap.size+1+1+1) ?_ (by omega)
        repeat (refine ownsRow_setCell_below ?_ (by simp) _)
        exact hR6.old j p hj (by omega)
      · refine List.ext_getElem? fun j=>?_
        rw [List.getElem?_map,List.getElem?_map]
        by_cases hj:j<M
        · exact hR6.eq j (by omega)
        · rw [List.getElem?_eq_none (by rw [hR6.len];omega),List.getElem?_eq_none (by rw [HML.out];omega)]
      · repeat (refine Below.setCell ?_ (by simp) _)
        exact hR6.below
theorem row_kept {U w5:World} {N e s:Nat} {v:Value} {n:Nat} {xs:List Value} {N' e' s':Nat} {v':Value} {n':Nat} {xs':List Value} (h:U.ownsRow N e s v n xs) (hr:U.ownsRow N' e' s' v' n' xs') (hg:U.grownBy w5 v'.ownBlock) (hne:e≠e'):w5.ownsRow N e s v n xs:=by
  rcases hr.2 with ⟨rfl,_⟩|⟨g,cap,cur,rfl,_,hc,_⟩
  · exact h.kept hg (by cases v.ownBlock <;> simp [Value.ownBlock])
  · exact h.kept hg (row_kind_ne h hc hne)
theorem row_far {w:World} {N e s:Nat} {v:Value} {n:Nat} {xs:List Value} (h:w.ownsRow N e s v n xs) {b:Nat} {cs:Array Value} {t:TypeId} (hb:w.heap[b]?=some (.cells cs t (0,0))) (hne:e≠t) (u:Value):(w.setCell ⟨b,0,none⟩ u).ownsRow N e s v n xs :=
  h.kept (grown_set w b 0 u) (row_kind_ne h hb hne)
theorem RW.add {w U w5:World} {N b:Nat} {v v':Value} {rs:List CR} {r:CR} (h:RW w N b v rs) (hr:CrO w N r) (hst:Below w.heap.size w U) (hg:U.grownBy w5 v.ownBlock) (ho:w5.ownsRow N 48 6 v' (rs.length+1) (flatR rs++crC r)) :
    w5.heap[b]?=some (.cells #[v] 113 (0,0))∧RW (w5.setCell ⟨b,0,none⟩ v') N b v' (rs++[r]):=by
  have hU:=h.below hst
  have hrU:=hr.below hst
  have hbne:some b≠v.ownBlock:=by
    rcases row_kind_ne hU.row hU.hb (by decide) with e|e
    · rw [e];simp
    · exact fun e2=>e e2.symm
  have hb5:w5.heap[b]?=some (.cells #[v] 113 (0,0)):=(hg.block b (Array.getElem?_eq_some_iff.1 hU.hb).1 hbne).trans hU.hb
  have cr:∀ q,CrO U N q→CrO (w5.setCell ⟨b,0,none⟩ v') N q:=by
    rintro q ⟨qm,h1,h2⟩
    refine ⟨qm,h1,?_,?_,fun p hp=>?_⟩
    · exact row_far (row_kept h2.ifs hU.row hg (by decide)) hb5 (by decide) _
    · exact row_far (row_kept h2.ms hU.row hg (by decide)) hb5 (by decide) _
    · exact row_far (row_kept (h2.cod p hp) hU.row hg (by decide)) hb5 (by decide) _
  refine ⟨hb5,heap_setCell_same w5 b 0 _ _ v' hb5,?_,?_,h.lb⟩
  · have e1:(rs++[r]).length=rs.length+1:=by simp
    have e2:flatR (rs++[r])=flatR rs++crC r:=by simp [flatR]
    rw [e1,e2]
    exact row_far ho hb5 (by decide) _
  · intro q hq
    rcases List.mem_append.1 hq with hq|hq
    · exact cr q (hU.own q hq)
    · rw [List.mem_singleton] at hq
      subst hq
      exact cr _ hrU
theorem copy_cr {w w1:World} {N:Nat} {c:Cls} {pm qm:List (HM×Value)} {vi' vm':Value} (hpm:pm.map Prod.fst=(hcOf c).ms) (hN:N≤w.heap.size) (ho:OwnC w1 w.heap.size vi' c.ifs.length (strsV c.ifs) vm' qm) (hq:qm.map Prod.fst=pm.map Prod.fst):CrO w1 N ⟨c,vi',vm'⟩ :=
  ⟨qm,hq.trans hpm,Go.Joins.ownsRow_le ho.ifs hN,Go.Joins.ownsRow_le ho.ms hN,fun p hp=>Go.Joins.ownsRow_le (ho.cod p hp) hN⟩
end Go.Proofs.YtjlfnelihbdhjaaGreat
