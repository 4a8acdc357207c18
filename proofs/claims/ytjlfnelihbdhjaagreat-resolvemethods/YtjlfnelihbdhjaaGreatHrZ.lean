import Derived.Test.YtjlfnelihbdhjaaGreatHrV
import Derived.WalkSmall
set_option maxRecDepth 100000
namespace Go.Proofs.YtjlfnelihbdhjaaGreat
open Go.RowKit
theorem rds_num {w:World} {av:Option Addr} {n c:Nat} {l:List Nat} {i x:Nat} (h:Rds w (.slice av n c) n 1 (l.map numV)) (hx:l[i]?=some x):∃ bk o,av=some ⟨bk,o,none⟩∧bk<w.heap.size∧w.cell? ⟨bk,o+i,none⟩=some (.int .i64 (x:Int)):=by
  have hl:=h.len
  rw [List.length_map] at hl
  have:=(List.getElem?_eq_some_iff.1 hx).1
  rcases h.val with ⟨_,e2⟩|⟨bk,o,c,e,_,_,h3,h4⟩
  · omega
  · simp only [Value.slice.injEq] at e
    exact ⟨bk,o,e.1,h3,h4 i _ (by rw [List.getElem?_map,hx];rfl)⟩
set_option maxHeartbeats 1000000 in
theorem rHas_any (v:Value) (l:List Nat) (p:Nat) (W:World) (h:Rds W v l.length 1 (l.map numV)) (hl:l.length≤1000000) :
    Calls Tryz.prog 192 #[v,.int .i64 (p:Int)] W fun e w'=>e=.returned (.bool (l.contains p))∧Below W.heap.size W w':=by
  obtain ⟨av,cv,rfl⟩:=h.slice
  have HV:Hid (Rds W (.slice av l.length cv) l.length 1 (l.map numV)):=h
  obtain ⟨N,hN⟩:∃ N,l.length=N:=⟨_,rfl⟩
  rw [hN] at hl ⊢
  have HN1:Hid (l.length=N):=hN
  obtain ⟨z,hz⟩:∃ z,z=l.contains p:=⟨_,rfl⟩
  rw [← hz]
  have HZ:Hid (z=l.contains p):=hz
  clear hN h hz
  go_enter Tryz.func192,Tryz.ntmps192
  go_wp2
  go_loopw [5] (fun iv wr=>∃ i:Nat,iv=.int .i64 i∧i≤N∧Hid (Below W.heap.size W wr)∧Hid ((l.drop i).contains p=l.contains p)) (fun iv _=>N - (intOf iv).toNat)
  case atStart=>exact ⟨0,rfl,Nat.zero_le _,Below.refl _ _,rfl⟩
  case round =>
    obtain ⟨i,rfl,hi,hb,hs⟩:=hrel
    by_cases hlt:i<N
    · obtain ⟨x,hx⟩:∃ x,l[i]?=some x:=⟨_,List.getElem?_eq_getElem (by rw [HN1.out];exact hlt)⟩
      obtain ⟨bk,o,rfl,hbk,hcell⟩:=rds_num HV.out hx
      have hst:=nhas_at (p:=p) i x hx
      rw [hs.out] at hst
      have p0:=(hb.out.cell (p:=⟨bk,o+i,none⟩) hbk).trans hcell
      have hltI:(i:Int)<(N:Int):=by omega
      clear hs hx hcell
      by_cases hq:p=x
      · subst hq
        have hzt:z=true:=by rw [HZ.out,hst];simp
        subst hzt
        clear hst
        go_wp2
        all_goals (try go_quiet (fail))
        all_goals (try go_wp2)
        go_ret
        exact ⟨rfl,by first|exact hb.out|exact below_drewN hb.out _⟩
      · have HZ2:Hid ((l.drop (i+1)).contains p=l.contains p):=by rw [Hid,hst];simp [hq]
        have hq2:¬ (x:Int)=(p:Int):=by omega
        clear hst
        go_wp2
        all_goals (try go_quiet (fail))
        all_goals (try go_wp2)
        go_roundw
        case rel=>exact ⟨i+1,by go_num,by omega,by first|exact hb|exact below_drewN hb.out _,HZ2⟩
        case measure=>simp [intOf];omega
    · have e:i=N:=by omega
      subst e
      have hzf:z=false:=by rw [HZ.out,← hs.out,List.drop_of_length_le (by rw [HN1.out];exact Nat.le_refl _)];rfl
      subst hzf
      clear hs
      go_wp2
      go_ret
      exact ⟨rfl,hb.out⟩
end Go.Proofs.YtjlfnelihbdhjaaGreat
