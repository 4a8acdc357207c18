import Derived.Test.YtfnmmpkhopochaaGreatHrOi
import Derived.Test.YtfnmmpkhopochaaGreatHrP
set_option maxRecDepth 100000
namespace Go.Proofs.YtfnmmpkhopochaaGreat
open Go.RowKit Go.Maps
def ifsN (ps:List Plc) (nm:ByteArray) (ld:Int) (acc:List Nat):List (List UInt8)→Except Int (List Nat)
  | []=>.ok acc
  | p::r=>match aboveN ps nm ld fitI p with
    | .error e=>.error e
    | .ok k=>ifsN ps nm ld (acc++[k]) r
def IfR (N:Nat):Except Int (List Nat)→Ending→World→Prop
  | .ok l,e,w'=>∃ v,e=.returned (.tuple #[v,.int .i64 0])∧w'.ownsRow N 3 1 v l.length (l.map numV)
  | .error x,e,_=>e=.returned (.tuple #[.slice none 0 0,.int .i64 x])
theorem above_err {ps:List Plc} {nm:ByteArray} {ld:Int} {fit:Nat→Plc→Bool} {p:List UInt8} {x:Int} (h:aboveN ps nm ld fit p=.error x):¬ x=0:=by
  unfold aboveN at h
  repeat' split at h
  all_goals first|(cases h;done)|(cases h;decide)
theorem above_ok {ps:List Plc} {nm:ByteArray} {ld:Int} {fit:Nat→Plc→Bool} {p:List UInt8} {k:Nat} (h:aboveN ps nm ld fit p=.ok k):lookL ps p=some k∧∃ q,ps[k]?=some q∧fit k q=true∧(pubB q.c.fl||sameP q.c nm ld)=true:=by
  unfold aboveN at h
  cases hl:lookL ps p with
  | none=>rw [hl] at h;cases h
  | some j =>
    rw [hl] at h
    simp only at h
    cases hq:ps[j]? with
    | none=>rw [hq] at h;cases h
    | some q =>
      rw [hq] at h
      simp only at h
      by_cases h1:fit j q=true
      · rw [if_pos h1] at h
        by_cases h2:(pubB q.c.fl||sameP q.c nm ld)=true
        · rw [if_pos h2] at h
          cases h
          exact ⟨rfl,q,hq,h1,h2⟩
        · rw [if_neg h2] at h;cases h
      · rw [if_neg h1] at h;cases h
set_option maxHeartbeats 4000000 in
theorem findIfaces_any (N b mb:Nat) (ps:List Plc) (vp:Value) (pv:List PV) (nm su:ByteArray) (fl ld:Int) (ifs:List (List UInt8)) (ai am:Option Addr) (ci nn cm:Nat) (W:World) (h:HW W N b mb ps vp pv) (hnz:nm.size≤maxLen) (hqz:∀ q∈ps,q.c.nm.size≤maxLen) (hI:IsStrs W (.slice ai ifs.length ci) ifs) (hiz:∀ p∈ifs,p.length≤maxLen) (hil:ifs.length≤1000) :
    Calls Tryz.prog 55 #[.pointer (some ⟨b,0,none⟩),.agg #[.string nm,.string su,.slice ai ifs.length ci,.int .i64 fl,.int .i64 ld,.slice am nn cm]] W fun e w'=>IfR W.heap.size (ifsN ps nm ld [] ifs) e w'∧Below W.heap.size W w':=by
  obtain ⟨i0,hi0,hz0,hz1,hz2⟩:=info_parts Tryz.hinfo3
  obtain ⟨K,hK⟩:∃ K,ifs.length=K:=⟨_,rfl⟩
  have HK:Hid (ifs.length=K):=hK
  have HI:Hid (IsStrs W (.slice ai ifs.length ci) ifs):=hI
  rw [hK] at hil ⊢
  have HA:Hid (∀ (p:List UInt8) (w:World),p∈ifs→Below W.heap.size W w→Calls Tryz.prog 89 #[.pointer (some ⟨b,0,none⟩),.agg #[.string nm,.string su,.slice ai K ci,.int .i64 fl,.int .i64 ld,.slice am nn cm],.string ⟨p.toArray⟩,.func (.func 91) #[.pointer (some ⟨b,0,none⟩)] #[]] w fun e w'=>e=.returned (abvV (aboveN ps nm ld fitI p))∧Below w.heap.size w w'):=by
    intro p w hp hb
    have hpz:(⟨p.toArray⟩:ByteArray).size≤maxLen:=by rw [mk_size];exact hiz p hp
    have hHW:=h.below hb
    cases hl:lookL ps p with
    | none =>
      refine (findAbove_none _ N b mb ps vp pv nm su fl ld _ _ ⟨p.toArray⟩ hpz w hHW (by simpa using hl)).mono ?_
      rintro e w' ⟨rfl,hb⟩
      exact ⟨by rw [aboveN,hl];rfl,hb⟩
    | some k =>
      obtain ⟨q,hq,_⟩:=look_place hl
      refine (findAbove_ifc N b mb ps vp pv nm su fl ld _ _ ⟨p.toArray⟩ hpz hnz w hHW k q (by simpa using hl) hq (hqz q (List.mem_of_getElem? hq)) (fitI k q) (fun w2 hb2=>isIfaceW_yes N b mb ps vp pv k q w2 (hHW.below hb2) hq)).mono ?_
      rintro e w' ⟨rfl,hb⟩
      exact ⟨by rw [aboveN,hl];simp only [hq],hb⟩
  obtain ⟨R,hR⟩:∃ R,R=ifsN ps nm ld [] ifs:=⟨_,rfl⟩
  rw [← hR]
  have HR:Hid (R=ifsN ps nm ld [] ifs):=hR
  clear hK h hqz hiz hR hI hnz
  go_enter Tryz.func55,Tryz.ntmps55
  go_wp2
  go_loopw [6,14] (fun sv kv wr=>∃ (k:Nat) (acc:List Nat),kv=.int .i64 k∧k≤K∧acc.length=k∧Hid (ifsN ps nm ld acc (ifs.drop k)=ifsN ps nm ld [] ifs)∧Hid (wr.ownsRow (W.heap.size+1) 3 1 sv acc.length (acc.map numV))∧Hid (Below W.heap.size W wr)∧wr.heap[W.heap.size]?=some (.cells #[.string nm,.string su,.slice ai K ci,.int .i64 fl,.int .i64 ld,.slice am nn cm] 70 (0,0))) (fun _ kv _=>K - (intOf kv).toNat)
  case atStart=>exact ⟨0,[],rfl,Nat.zero_le _,rfl,rfl,World.ownsRow_nil _ _ _ _,(Below.refl _ _).alloc (Nat.le_refl _) _,halloc _ _⟩
  case round =>
    obtain ⟨k,acc,rfl,hk,hal,hacc,hown,hB,hblk⟩:=hrel
    have c0:=cell_of_row wr W.heap.size 0 _ _ _ hblk
    have c1:=cell_of_row wr W.heap.size 1 _ _ _ hblk
    have c2:=cell_of_row wr W.heap.size 2 _ _ _ hblk
    have c3:=cell_of_row wr W.heap.size 3 _ _ _ hblk
    have c4:=cell_of_row wr W.heap.size 4 _ _ _ hblk
    have c5:=cell_of_row wr W.heap.size 5 _ _ _ hblk
    simp only [List.getElem?_toArray,List.getElem?_cons_zero,List.getElem?_cons_succ] at c0 c1 c2 c3 c4 c5
    have HBL:Hid (wr.heap[W.heap.size]?=some (.cells #[.string nm,.string su,.slice ai K ci,.int .i64 fl,.int .i64 ld,.slice am nn cm] 70 (0,0))):=hblk
    have hWr:W.heap.size<wr.heap.size:=(Array.getElem?_eq_some_iff.1 hblk).1
    clear hblk
    by_cases hlt:k<K
    · obtain ⟨p,hp⟩:∃ p,ifs[k]?=some p:=⟨_,List.getElem?_eq_getElem (by rw [HK.out];exact hlt)⟩
      have hdrop:ifs.drop k=p::ifs.drop (k+1):=by
        obtain ⟨h1,h2⟩:=List.getElem?_eq_some_iff.1 hp
        rw [List.drop_eq_getElem_cons h1,h2]
      obtain ⟨bk,o,rfl,hbk,hcell⟩:∃ bk o,ai=some ⟨bk,o,none⟩∧bk<W.heap.size∧W.cell? ⟨bk,o+k,none⟩=some (.string ⟨p.toArray⟩):=by
        obtain ⟨ao,cap,e,_,_,h3⟩:=HI.out
        obtain ⟨bk,o,e2,hlt2,hc⟩:=h3 (fun e=>by rw [e] at hp;simp at hp)
        injection e with e1
        exact ⟨bk,o,by rw [e1,e2],hlt2,hc k p hp⟩
      have hce:=(hB.out.cell (p:=⟨bk,o+k,none⟩) hbk).trans hcell
      have HA1:Hid (Calls Tryz.prog 89 #[.pointer (some ⟨b,0,none⟩),.agg #[.string nm,.string su,.slice (some ⟨bk,o,none⟩) K ci,.int .i64 fl,.int .i64 ld,.slice am nn cm],.string ⟨p.toArray⟩,.func (.func 91) #[.pointer (some ⟨b,0,none⟩)] #[]] wr fun e w'=>e=.returned (abvV (aboveN ps nm ld fitI p))∧Below wr.heap.size wr w'):=HA.out p wr (List.mem_of_getElem? hp) hB.out
      have hst:ifsN ps nm ld acc (ifs.drop k)=match aboveN ps nm ld fitI p with | .error e=>.error e | .ok j=>ifsN ps nm ld (acc++[j]) (ifs.drop (k+1)):=by rw [hdrop,ifsN]
      rw [hacc.out] at hst
      clear hcell hdrop hp HA hacc
      cases ha:aboveN ps nm ld fitI p with
      | error x =>
        rw [ha] at hst HA1
        have hRx:R=.error x:=by rw [HR.out,hst]
        have hx0:¬ x=0:=above_err ha
        clear hst ha
        obtain ⟨va,vn,rfl⟩:=ownv hown.out
        go_wp2_with (go_at_call 89;refine HA1.out.mono ?_;rintro e w1 ⟨rfl,hb⟩;rw [abvV];have B1:Hid (Below W.heap.size W w1):=bstep hB.out hb;clear hb HA1)
        subst hRx
        exact bodyPost_ret (results_tmp2 rfl _ _ _) rfl ⟨show Ending.returned _=Ending.returned _ from rfl,B1.out⟩
      | ok j =>
        rw [ha] at hst HA1
        have hnext:Hid (ifsN ps nm ld (acc++[j]) (ifs.drop (k+1))=ifsN ps nm ld [] ifs):=hst.symm
        clear hst ha
        obtain ⟨va,vn,rfl⟩:=ownv hown.out
        go_wp2_with (first
          | (go_at_call 89;refine HA1.out.mono ?_;rintro e w1 ⟨rfl,hb⟩;rw [abvV];have B1:Hid (Below W.heap.size W w1):=bstep hB.out hb;have O1:Hid (w1.ownsRow (W.heap.size+1) 3 1 (.slice va acc.length vn) acc.length (acc.map numV)):=rowBelow hown.out hb;have HB1:=(hb.block W.heap.size hWr).trans HBL.out;have hW1:W.heap.size<w1.heap.size:=Nat.lt_of_lt_of_le hWr hb.size;clear hb HA1)
          | (at_builtin;refine wpList_append_own _ rfl _ _ 41 rfl (W.heap.size+1) 3 i0 (.int .i64 0) 1 8 Tryz.underlying41 hi0 hz0 hz1 hz2 rfl (by decide) (.slice va acc.length vn) acc.length (acc.map numV) (by first|rfl|(rw [hal];rfl)) (O1.out.alloc _) ⟨w1.heap.size,0,none⟩ 1 1 [.int .i64 (j:Int)] rfl rfl ?c1 ?c2 ?c3 ?c4 ?c5 ?_))
        case c1=>intro jj u hj;rw [addr_add];cases jj with
          | zero=>simp at hj;subst hj;simp [go_sem]
          | succ jj=>simp at hj
        case c2=>intro u hu;simp at hu;subst hu;rfl
        case c3=>unfold maxLen;omega
        case c4=>omega
        case c5=>simp;omega
        intro v' w2 hown2 hgrow _
        obtain ⟨va2,vn2,rfl⟩:=ownv hown2
        simp only [← hal] at hown2 hgrow
        have B2:Hid (Below W.heap.size W w2):=by
          have hb1:Below W.heap.size W (w1.alloc (.cells #[.int .i64 (j:Int)] 3)):=B1.out.alloc B1.out.size _
          refine hb1.grown hgrow hb1.size (fun x hx=>?_)
          have:=(O1.out.lt x hx).1
          omega
        have HB2:Hid (w2.heap[W.heap.size]?=some (.cells #[.string nm,.string su,.slice (some ⟨bk,o,none⟩) K ci,.int .i64 fl,.int .i64 ld,.slice am nn cm] 70 (0,0))):=by
          refine (hgrow.block W.heap.size (by simp;omega) (fun hx=>?_)).trans ?_
          · have:=(O1.out.lt W.heap.size hx.symm).1
            omega
          · refine ((Below.refl w1.heap.size w1).alloc (Nat.le_refl _) _).block W.heap.size hW1 |>.trans HB1
        have O2:Hid (w2.ownsRow (W.heap.size+1) 3 1 (.slice va2 (k+1) vn2) (acc++[j]).length ((acc++[j]).map numV)):=by
          rw [Hid,List.length_append,List.map_append,← hal];exact hown2
        clear hown2 hgrow HB1
        go_wp2
        go_roundw
        case rel=>exact ⟨k+1,acc++[j],by go_num,by omega,by simp [hal],hnext,O2,B2,HB2.out⟩
        case measure=>simp [intOf];omega
    · have e:k=K:=by omega
      subst e
      have hRx:R=.ok acc:=by rw [HR.out,← hacc.out,List.drop_of_length_le (by rw [HK.out];exact Nat.le_refl _),ifsN]
      subst hRx
      obtain ⟨va,vn,rfl⟩:=ownv hown.out
      go_wp2
      exact bodyPost_ret (results_tmp2 rfl _ _ _) rfl ⟨⟨_,rfl,Go.Joins.ownsRow_le hown.out (by omega)⟩,hB.out⟩
end Go.Proofs.YtfnmmpkhopochaaGreat
