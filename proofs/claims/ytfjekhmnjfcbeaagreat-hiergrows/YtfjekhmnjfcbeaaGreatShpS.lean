import Derived.Test.YtfjekhmnjfcbeaaGreatHrR
import Derived.Test.YtfjekhmnjfcbeaaGreatCurB
import Derived.BigQuiet
import Derived.Deep.QuietTactic
set_option maxRecDepth 100000
namespace Go.Proofs.YtfjekhmnjfcbeaaGreat
open Go.RowKit
theorem nhas_at {l:List Nat} {p:Nat} (k:Nat) (x:Nat) (h:l[k]?=some x):(l.drop k).contains p=((p == x)||(l.drop (k+1)).contains p):=by
  obtain ⟨h1,h2⟩:=List.getElem?_eq_some_iff.1 h
  rw [List.drop_eq_getElem_cons h1,h2,List.contains_cons]
set_option maxHeartbeats 1000000 in
theorem nIndex_any (v:Value) (l:List Nat) (p:Nat) (W:World) (h:Rds W v l.length 1 (l.map numV)) (hl:l.length≤1000000) :
    Calls Tryz.prog 120 #[v,.int .i64 (p:Int)] W fun e w'=>(∃ i:Int,e=.returned (.int .i64 i)∧decide (0≤i)=l.contains p)∧Below W.heap.size W w':=by
  obtain ⟨av,cv,rfl⟩:=h.slice
  have HV:Hid (Rds W (.slice av l.length cv) l.length 1 (l.map numV)):=h
  obtain ⟨N,hN⟩:∃ N,l.length=N:=⟨_,rfl⟩
  rw [hN] at hl ⊢
  have HN1:Hid (l.length=N):=hN
  clear hN h
  go_enter Tryz.func120,Tryz.ntmps120
  go_wp2
  go_loopw [8] (fun iv wr=>∃ i:Nat,iv=.int .i64 i∧i≤N∧Hid (Below W.heap.size W wr)∧Hid ((l.drop i).contains p=l.contains p)) (fun iv _=>N - (intOf iv).toNat)
  case atStart=>exact ⟨0,rfl,Nat.zero_le _,Below.refl _ _,rfl⟩
  case round =>
    obtain ⟨i,rfl,hi,hb,hs⟩:=hrel
    by_cases hlt:i<N
    · obtain ⟨x,hx⟩:∃ x,l[i]?=some x:=⟨_,List.getElem?_eq_getElem (by rw [HN1.out];exact hlt)⟩
      obtain ⟨bk,o,rfl,hbk,hcell⟩:∃ bk o,av=some ⟨bk,o,none⟩∧bk<W.heap.size∧W.cell? ⟨bk,o+i,none⟩=some (.int .i64 (x:Int)):=by
        rcases HV.out.val with ⟨_,e2⟩|⟨bk,o,c,e,_,_,h3,h4⟩
        · rw [HN1.out] at e2;omega
        · simp only [Value.slice.injEq] at e
          exact ⟨bk,o,e.1,h3,h4 i _ (by rw [List.getElem?_map,hx];rfl)⟩
      have hst:=nhas_at (p:=p) i x hx
      rw [hs.out] at hst
      have p0:=(hb.out.cell hbk).trans hcell
      clear hs hx hcell
      by_cases hq:p=x
      · subst hq
        have HZ:Hid (l.contains p=true):=by rw [Hid,hst];simp
        clear hst
        go_wp2
        all_goals (try go_quiet (fail))
        all_goals (try go_wp2)
        go_ret
        exact ⟨⟨i,rfl,by rw [HZ.out];simp⟩,by first|exact hb.out|exact below_drewN hb.out _⟩
      · have HZ:Hid ((l.drop (i+1)).contains p=l.contains p):=by rw [Hid,hst];simp [hq]
        have hq2:¬ (p:Int)=(x:Int):=by omega
        clear hst
        go_wp2
        all_goals (try go_quiet (fail))
        all_goals (try go_wp2)
        go_roundw
        case rel=>exact ⟨i+1,by go_num,by omega,by first|exact hb|exact below_drewN hb.out _,HZ⟩
        case measure=>simp [intOf];omega
    · have e:i=N:=by omega
      subst e
      have HZ:Hid (l.contains p=false):=by rw [Hid,← hs.out,List.drop_of_length_le (by rw [HN1.out];exact Nat.le_refl _)];rfl
      clear hs
      go_wp2
      go_ret
      exact ⟨⟨-1,rfl,by rw [HZ.out];rfl⟩,hb.out⟩
theorem nContains_any (v:Value) (l:List Nat) (p:Nat) (W:World) (h:Rds W v l.length 1 (l.map numV)) (hl:l.length≤1000000) :
    Calls Tryz.prog 67 #[v,.int .i64 (p:Int)] W fun e w'=>e=.returned (.bool (l.contains p))∧Below W.heap.size W w':=by
  have HI:Hid (Calls Tryz.prog 120 #[v,.int .i64 (p:Int)] W fun e w'=>(∃ i:Int,e=.returned (.int .i64 i)∧Hid (decide (0≤i)=l.contains p))∧Below W.heap.size W w'):=nIndex_any v l p W h hl
  clear h hl
  generalize l.contains p=z at *
  go_enter Tryz.func67,Tryz.ntmps67
  go_wp2_with (go_at_call 120;refine HI.out.mono ?_;rintro e w1 ⟨⟨i,rfl,hi⟩,hb⟩;have B1:Hid _:=hb;clear hb HI)
  go_ret
  exact ⟨by rw [← hi.out];rfl,B1.out⟩
set_option maxHeartbeats 1000000 in
theorem same_some (b1 o1 c1 b2 o2 c2:Nat) (ps qs:List (List UInt8)) (w:World) (hl1:ps.length≤c1) (hm1:c1≤maxLen)
    (hc1:∀ k p,ps[k]?=some p→w.cell? ⟨b1,o1+k,none⟩=some (.string ⟨p.toArray⟩)) (hc2:∀ k p,qs[k]?=some p→w.cell? ⟨b2,o2+k,none⟩=some (.string ⟨p.toArray⟩)) :
    Calls Tryz.prog 65 #[.slice (some ⟨b1,o1,none⟩) ps.length c1,.slice (some ⟨b2,o2,none⟩) qs.length c2] w fun e w'=>e=.returned (.bool (decide (ps=qs)))∧∃ n,w'=w.drewN n:=by
  unfold maxLen at hm1
  by_cases hlen:ps.length=qs.length
  · have H1:Hid _:=hc1
    have H2:Hid _:=hc2
    have hq:((ps.length:Int) == (qs.length:Int))=true:=by rw [beq_iff_eq];omega
    have hle1:ps.length≤qs.length:=by omega
    have hle2:qs.length≤ps.length:=by omega
    have HLEN:Hid _:=hlen
    clear hc1 hc2 hlen
    go_enter Tryz.func65,Tryz.ntmps65
    go_wp2
    go_loopw [5] (fun i wr=>∃ k n:Nat,k≤ps.length∧i=.int .i64 k∧wr=w.drewN n∧Hid (ps.take k=qs.take k)) (fun i _=>ps.length - (intOf i).toNat)
    case atStart=>exact ⟨0,0,Nat.zero_le _,rfl,rfl,rfl⟩
    case round =>
      obtain ⟨k,n,hk,rfl,rfl,hr⟩:=hrel
      by_cases h1:k<ps.length
      · have h2:k<qs.length:=by omega
        obtain ⟨p,hp⟩:∃ p,ps[k]?=some p:=⟨_,List.getElem?_eq_getElem h1⟩
        obtain ⟨q,hqk⟩:∃ q,qs[k]?=some q:=⟨_,List.getElem?_eq_getElem h2⟩
        have g1:=H1.out k p hp
        have g2:=H2.out k q hqk
        have HS:Hid _:=same_stop ps qs k p q hp hqk
        have HT:Hid (p=q→ps.take (k+1)=qs.take (k+1)):=fun e=>by
          rw [List.take_add_one,List.take_add_one,hr.out,hp,hqk,e]
        clear hp hqk H1 H2
        by_cases e:p=q
        · have HT2:Hid _:=HT.out e
          subst e
          clear HT HS hr
          go_wp2
          go_quiet (fail)
          go_wp2
          go_roundw
          case rel=>exact ⟨k+1,_,by omega,by go_num,rfl,HT2⟩
          case measure=>simp [intOf];omega
        · have HS2:Hid _:=HS.out e
          have hpq:(p == q)=false:=by simpa using e
          clear HT HS hr e
          go_wp2
          go_quiet (fail)
          go_wp2
          go_ret
          exact ⟨ret_bool HS2.out.symm,_,World.drewN_drewN ..⟩
      · have hk':k=ps.length:=by omega
        have HS:Hid _:=same_end ps qs HLEN.out (by have:=hr.out;rw [hk'] at this;exact this)
        clear hr hk' H1 H2
        go_wp2
        go_ret
        exact ⟨ret_bool HS.out.symm,_,rfl⟩
  · have hq:((ps.length:Int) == (qs.length:Int))=false:=by rw [beq_eq_false_iff_ne];omega
    have HS:Hid (decide (ps=qs)=false):=by simp only [Hid,decide_eq_false_iff_not];intro e;rw [e] at hlen;exact hlen rfl
    clear hlen hc1 hc2
    go_enter Tryz.func65,Tryz.ntmps65
    go_wp2
    go_ret
    exact ⟨ret_bool HS.out.symm,0,rfl⟩
theorem same_any (v1 v2:Value) (ps qs:List (List UInt8)) (w:World) (h1:IsStrs w v1 ps) (h2:IsStrs w v2 qs) (n1:ps≠[]) (n2:qs≠[]) :
    Calls Tryz.prog 65 #[v1,v2] w fun e w'=>e=.returned (.bool (decide (ps=qs)))∧∃ n,w'=w.drewN n:=by
  obtain ⟨ao,c1,rfl,k1,m1,x1⟩:=h1
  obtain ⟨bo,c2,rfl,_,_,x2⟩:=h2
  obtain ⟨b1,o1,rfl,_,y1⟩:=x1 n1
  obtain ⟨b2,o2,rfl,_,y2⟩:=x2 n2
  exact same_some b1 o1 c1 b2 o2 c2 ps qs w k1 m1 y1 y2
end Go.Proofs.YtfjekhmnjfcbeaaGreat
