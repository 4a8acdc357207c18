import Derived.Test.YtjlfnelihbdhjaaGreatHrR
import Derived.BigQuiet
import Derived.Deep.QuietTactic
set_option maxRecDepth 100000
namespace Go.Proofs.YtjlfnelihbdhjaaGreat
open Go.RowKit
theorem nhas_at {l:List Nat} {p:Nat} (k:Nat) (x:Nat) (h:l[k]?=some x):(l.drop k).contains p=((p == x)||(l.drop (k+1)).contains p):=by
  obtain ⟨h1,h2⟩:=List.getElem?_eq_some_iff.1 h
  rw [List.drop_eq_getElem_cons h1,h2,List.contains_cons]
set_option maxHeartbeats 1000000 in
theorem nIndex_any (v:Value) (l:List Nat) (p:Nat) (W:World) (h:Rds W v l.length 1 (l.map numV)) (hl:l.length≤1000000) :
    Calls Tryz.prog 153 #[v,.int .i64 (p:Int)] W fun e w'=>(∃ i:Int,e=.returned (.int .i64 i)∧decide (0≤i)=l.contains p)∧Below W.heap.size W w':=by
  obtain ⟨av,cv,rfl⟩:=h.slice
  have HV:Hid (Rds W (.slice av l.length cv) l.length 1 (l.map numV)):=h
  obtain ⟨N,hN⟩:∃ N,l.length=N:=⟨_,rfl⟩
  rw [hN] at hl ⊢
  have HN1:Hid (l.length=N):=hN
  clear hN h
  go_enter Tryz.func153,Tryz.ntmps153
  go_wp2
  go_loopw [8] (fun iv wr=>∃ i:Nat,iv=.int .i64 i∧i≤N∧Hid (Below W.heap.size W wr)∧Hid ((l.drop i).contains p=l.contains p)) (fun iv _=>N - (intOf iv).toNat)
  case atStart=>exact ⟨0,rfl,Nat.zero_le _,Below.refl _ _,rfl⟩
  case round =>
    obtain ⟨i,rfl,hi,hb,hs⟩:=hrel
    by_cases hlt:i<N
    · obtain ⟨x,hx⟩:∃ x,l[i]?=some x:=⟨_,List.getElem?_eq_getElem (by rw [HN1.out];exact hlt)⟩
      obtain ⟨bk,o,rfl,hbk,hcell⟩:∃ bk o,av=some ⟨bk,o,none⟩∧bk<W.heap.size∧W.cell? ⟨bk,o+i,none⟩=some (.int .i64 (x:Int)):=by
        rcases HV.out.val with ⟨_,e2⟩|⟨bk,o,c,e,_,_,h3,h4⟩
        · rw [HN1.out] at e2;omega
        · simp only [Value.slice.injEq] at e
          exact ⟨bk,o,e.1,h3,h4 i _ (by rw [List.getElem?_map,hx];rfl)⟩
      have hst:=nhas_at (p:=p) i x hx
      rw [hs.out] at hst
      have p0:=(hb.out.cell hbk).trans hcell
      clear hs hx hcell
      by_cases hq:p=x
      · subst hq
        have HZ:Hid (l.contains p=true):=by rw [Hid,hst];simp
        clear hst
        go_wp2
        all_goals (try go_quiet (fail))
        all_goals (try go_wp2)
        go_ret
        exact ⟨⟨i,rfl,by rw [HZ.out];simp⟩,by first|exact hb.out|exact below_drewN hb.out _⟩
      · have HZ:Hid ((l.drop (i+1)).contains p=l.contains p):=by rw [Hid,hst];simp [hq]
        have hq2:¬ (p:Int)=(x:Int):=by omega
        clear hst
        go_wp2
        all_goals (try go_quiet (fail))
        all_goals (try go_wp2)
        go_roundw
        case rel=>exact ⟨i+1,by go_num,by omega,by first|exact hb|exact below_drewN hb.out _,HZ⟩
        case measure=>simp [intOf];omega
    · have e:i=N:=by omega
      subst e
      have HZ:Hid (l.contains p=false):=by rw [Hid,← hs.out,List.drop_of_length_le (by rw [HN1.out];exact Nat.le_refl _)];rfl
      clear hs
      go_wp2
      go_ret
      exact ⟨⟨-1,rfl,by rw [HZ.out];rfl⟩,hb.out⟩
theorem nContains_any (v:Value) (l:List Nat) (p:Nat) (W:World) (h:Rds W v l.length 1 (l.map numV)) (hl:l.length≤1000000) :
    Calls Tryz.prog 75 #[v,.int .i64 (p:Int)] W fun e w'=>e=.returned (.bool (l.contains p))∧Below W.heap.size W w':=by
  have HI:Hid (Calls Tryz.prog 153 #[v,.int .i64 (p:Int)] W fun e w'=>(∃ i:Int,e=.returned (.int .i64 i)∧Hid (decide (0≤i)=l.contains p))∧Below W.heap.size W w'):=nIndex_any v l p W h hl
  clear h hl
  generalize l.contains p=z at *
  go_enter Tryz.func75,Tryz.ntmps75
  go_wp2_with (go_at_call 153;refine HI.out.mono ?_;rintro e w1 ⟨⟨i,rfl,hi⟩,hb⟩;have B1:Hid _:=hb;clear hb HI)
  go_ret
  exact ⟨by rw [← hi.out];rfl,B1.out⟩
end Go.Proofs.YtjlfnelihbdhjaaGreat
