import Derived.Test.YtfjekhmnjfcbeaaGreatDescA
import Derived.Test.YtfjekhmnjfcbeaaGreatCurE
import Derived.WalkSmall
set_option maxRecDepth 100000
namespace Go.Proofs.YtfjekhmnjfcbeaaGreat
open Go.RowKit
set_option maxHeartbeats 1000000 in
theorem parseRef_any (s:ByteArray) (hs:s.size≤maxLen) (w:World) :
    Calls Tryz.prog 240 #[.string s] w fun e w'=>e=.returned (.tuple #[.agg #[.int .i64 (prfT s.data.toList).1,.string ⟨(prfT s.data.toList).2.toArray⟩],.int .i64 (prfE s.data.toList)])∧Below w.heap.size w w':=by
  have hlen:s.data.toList.length=s.size:=by simp
  have HP:Hid (∀ w,_):=parse_any s hs
  have HV:Hid (∀ w,_):=valid_any s hs
  have HH:Hid (∀ w,_):=hasPrefix_any s 91
  have hE:prfE s.data.toList=if s.data.toList.head?=some 91 then parE s.data.toList else if 2000<s.data.toList.length then 5 else if validL s.data.toList then 0 else 4:=by
    unfold prfE
    by_cases h1:s.data.toList.head?=some 91
    · by_cases h2:2000<s.data.toList.length
      · rw [if_pos h2,if_pos h1,parE,if_pos h2]
      · rw [if_neg h2,if_pos h1,if_pos h1]
    · rw [if_neg h1,if_neg h1]
  have hT:prfT s.data.toList=if s.data.toList.head?=some 91 then parT s.data.toList else if 2000<s.data.toList.length then (0,[]) else if validL s.data.toList then (0,s.data.toList) else (0,[]):=by
    unfold prfT
    by_cases h1:s.data.toList.head?=some 91
    · by_cases h2:2000<s.data.toList.length
      · rw [if_pos h2,if_pos h1,parT,parE,if_pos h2];rfl
      · rw [if_neg h2,if_pos h1,if_pos h1]
    · rw [if_neg h1,if_neg h1]
  unfold maxLen at hs
  by_cases hh:s.data.toList.head?=some 91
  · have h0:hd s 91=true:=by simp [hd,hh]
    rw [h0] at HH
    have HE:Hid (prfE s.data.toList=parE s.data.toList):=by rw [Hid,hE,if_pos hh]
    have HT:Hid (prfT s.data.toList=parT s.data.toList):=by rw [Hid,hT,if_pos hh]
    clear hlen HV hh hE hT h0
    generalize prfE s.data.toList=x at *
    generalize prfT s.data.toList=t at *
    generalize parE s.data.toList=pe at *
    generalize parT s.data.toList=pt at *
    go_enter Tryz.func240,Tryz.ntmps240
    go_wp2_with (first
      | (go_at_call 226;refine ((HH.out) _).mono ?_;rintro e w0 ⟨rfl,rfl⟩)
      | (go_at_call 241;refine ((HP.out) _).mono ?_;rintro e w1 ⟨rfl,hb1⟩;have hr0:=hb1.cell (p:=⟨w.heap.size,0,none⟩) (by simp);have hr1:=hb1.cell (p:=⟨w.heap.size,1,none⟩) (by simp);have hf0:=hb1.frozen (p:=⟨w.heap.size,0,none⟩) (by simp);have hf1:=hb1.frozen (p:=⟨w.heap.size,1,none⟩) (by simp)))
    refine bodyPost_ret (v:=.tuple #[.agg #[.int .i64 pt.1,.string ⟨pt.2.toArray⟩],.int .i64 pe]) (by simp [results,Tryz.results240,go_sem, *]) rfl ⟨?_,?_⟩
    · rw [HT.out,HE.out]
    · have hb9:Below w.heap.size w w1:=Below.step ((Below.refl _ _).alloc (Nat.le_refl _) _) hb1
      exact (hb9.setCell (Nat.le_refl _) _).setCell (Nat.le_refl _) _
  · have h0:hd s 91=false:=by simp [hd,hh]
    rw [h0] at HH
    by_cases hbig:2000<s.size
    · have HE:Hid (prfE s.data.toList=5):=by rw [Hid,hE,if_neg hh,if_pos (by rw [hlen];exact hbig)]
      have HT:Hid (prfT s.data.toList=(0,[])):=by rw [Hid,hT,if_neg hh,if_pos (by rw [hlen];exact hbig)]
      clear hlen HV hh hE hT h0 HP
      generalize prfE s.data.toList=x at *
      generalize prfT s.data.toList=t at *
      go_enter Tryz.func240,Tryz.ntmps240
      go_wp2_with (go_at_call 226;refine ((HH.out) _).mono ?_;rintro e w0 ⟨rfl,rfl⟩)
      refine bodyPost_ret (v:=.tuple #[.agg #[.int .i64 0,.string ⟨#[]⟩],.int .i64 5]) (by simp [results,Tryz.results240,go_sem, *]) rfl ⟨?_,?_⟩
      · rw [HT.out,HE.out];rfl
      · exact (Below.refl _ _).alloc (Nat.le_refl _) _
    · have hng:¬ 2000<s.data.toList.length:=by rw [hlen];exact hbig
      cases hv:validL s.data.toList with
      | true =>
        have HE:Hid (prfE s.data.toList=0):=by rw [Hid,hE,if_neg hh,if_neg hng,hv];rfl
        have HT:Hid (prfT s.data.toList=(0,s.data.toList)):=by rw [Hid,hT,if_neg hh,if_neg hng,hv];rfl
        rw [hv] at HV
        clear hlen HP hh hng hv hE hT h0
        generalize prfE s.data.toList=x at *
        generalize prfT s.data.toList=t at *
        go_enter Tryz.func240,Tryz.ntmps240
        go_wp2_with (first
          | (go_at_call 226;refine ((HH.out) _).mono ?_;rintro e w0 ⟨rfl,rfl⟩)
          | (go_at_call 154;refine ((HV.out) _).mono ?_;rintro e w1 ⟨rfl,hb1⟩;have hr0:=hb1.cell (p:=⟨w.heap.size,0,none⟩) (by simp);have hr1:=hb1.cell (p:=⟨w.heap.size,1,none⟩) (by simp);have hf0:=hb1.frozen (p:=⟨w.heap.size,0,none⟩) (by simp);have hf1:=hb1.frozen (p:=⟨w.heap.size,1,none⟩) (by simp)))
        refine bodyPost_ret (v:=.tuple #[.agg #[.int .i64 0,.string s],.int .i64 0]) (by simp [results,Tryz.results240,go_sem, *]) rfl ⟨?_,?_⟩
        · rw [HT.out,HE.out];rfl
        · have hb9:Below w.heap.size w w1:=Below.step ((Below.refl _ _).alloc (Nat.le_refl _) _) hb1
          exact (hb9.setCell (Nat.le_refl _) _).setCell (Nat.le_refl _) _
      | false =>
        have HE:Hid (prfE s.data.toList=4):=by rw [Hid,hE,if_neg hh,if_neg hng,hv];rfl
        have HT:Hid (prfT s.data.toList=(0,[])):=by rw [Hid,hT,if_neg hh,if_neg hng,hv];rfl
        rw [hv] at HV
        clear hlen HP hh hng hv hE hT h0
        generalize prfE s.data.toList=x at *
        generalize prfT s.data.toList=t at *
        go_enter Tryz.func240,Tryz.ntmps240
        go_wp2_with (first
          | (go_at_call 226;refine ((HH.out) _).mono ?_;rintro e w0 ⟨rfl,rfl⟩)
          | (go_at_call 154;refine ((HV.out) _).mono ?_;rintro e w1 ⟨rfl,hb1⟩;have hr0:=hb1.cell (p:=⟨w.heap.size,0,none⟩) (by simp);have hr1:=hb1.cell (p:=⟨w.heap.size,1,none⟩) (by simp);have hf0:=hb1.frozen (p:=⟨w.heap.size,0,none⟩) (by simp);have hf1:=hb1.frozen (p:=⟨w.heap.size,1,none⟩) (by simp)))
        refine bodyPost_ret (v:=.tuple #[.agg #[.int .i64 0,.string ⟨#[]⟩],.int .i64 4]) (by simp [results,Tryz.results240,go_sem, *]) rfl ⟨?_,?_⟩
        · rw [HT.out,HE.out];rfl
        · have hb9:Below w.heap.size w w1:=Below.step ((Below.refl _ _).alloc (Nat.le_refl _) _) hb1
          exact (hb9.setCell (Nat.le_refl _) _).setCell (Nat.le_refl _) _
theorem rds_num {w:World} {av:Option Addr} {n c:Nat} {l:List Nat} {i x:Nat} (h:Rds w (.slice av n c) n 1 (l.map numV)) (hx:l[i]?=some x):∃ bk o,av=some ⟨bk,o,none⟩∧bk<w.heap.size∧w.cell? ⟨bk,o+i,none⟩=some (.int .i64 (x:Int)):=by
  have hl:=h.len
  rw [List.length_map] at hl
  have:=(List.getElem?_eq_some_iff.1 hx).1
  rcases h.val with ⟨_,e2⟩|⟨bk,o,c,e,_,_,h3,h4⟩
  · omega
  · simp only [Value.slice.injEq] at e
    exact ⟨bk,o,e.1,h3,h4 i _ (by rw [List.getElem?_map,hx];rfl)⟩
set_option maxHeartbeats 1000000 in
theorem rHas_any (v:Value) (l:List Nat) (p:Nat) (W:World) (h:Rds W v l.length 1 (l.map numV)) (hl:l.length≤1000000) :
    Calls Tryz.prog 128 #[v,.int .i64 (p:Int)] W fun e w'=>e=.returned (.bool (l.contains p))∧Below W.heap.size W w':=by
  obtain ⟨av,cv,rfl⟩:=h.slice
  have HV:Hid (Rds W (.slice av l.length cv) l.length 1 (l.map numV)):=h
  obtain ⟨N,hN⟩:∃ N,l.length=N:=⟨_,rfl⟩
  rw [hN] at hl ⊢
  have HN1:Hid (l.length=N):=hN
  obtain ⟨z,hz⟩:∃ z,z=l.contains p:=⟨_,rfl⟩
  rw [← hz]
  have HZ:Hid (z=l.contains p):=hz
  clear hN h hz
  go_enter Tryz.func128,Tryz.ntmps128
  go_wp2
  go_loopw [5] (fun iv wr=>∃ i:Nat,iv=.int .i64 i∧i≤N∧Hid (Below W.heap.size W wr)∧Hid ((l.drop i).contains p=l.contains p)) (fun iv _=>N - (intOf iv).toNat)
  case atStart=>exact ⟨0,rfl,Nat.zero_le _,Below.refl _ _,rfl⟩
  case round =>
    obtain ⟨i,rfl,hi,hb,hs⟩:=hrel
    by_cases hlt:i<N
    · obtain ⟨x,hx⟩:∃ x,l[i]?=some x:=⟨_,List.getElem?_eq_getElem (by rw [HN1.out];exact hlt)⟩
      obtain ⟨bk,o,rfl,hbk,hcell⟩:=rds_num HV.out hx
      have hst:=nhas_at (p:=p) i x hx
      rw [hs.out] at hst
      have p0:=(hb.out.cell (p:=⟨bk,o+i,none⟩) hbk).trans hcell
      have hltI:(i:Int)<(N:Int):=by omega
      clear hs hx hcell
      by_cases hq:p=x
      · subst hq
        have hzt:z=true:=by rw [HZ.out,hst];simp
        subst hzt
        clear hst
        go_wp2
        all_goals (try go_quiet (fail))
        all_goals (try go_wp2)
        go_ret
        exact ⟨rfl,by first|exact hb.out|exact below_drewN hb.out _⟩
      · have HZ2:Hid ((l.drop (i+1)).contains p=l.contains p):=by rw [Hid,hst];simp [hq]
        have hq2:¬ (x:Int)=(p:Int):=by omega
        clear hst
        go_wp2
        all_goals (try go_quiet (fail))
        all_goals (try go_wp2)
        go_roundw
        case rel=>exact ⟨i+1,by go_num,by omega,by first|exact hb|exact below_drewN hb.out _,HZ2⟩
        case measure=>simp [intOf];omega
    · have e:i=N:=by omega
      subst e
      have hzf:z=false:=by rw [HZ.out,← hs.out,List.drop_of_length_le (by rw [HN1.out];exact Nat.le_refl _)];rfl
      subst hzf
      clear hs
      go_wp2
      go_ret
      exact ⟨rfl,hb.out⟩
end Go.Proofs.YtfjekhmnjfcbeaaGreat
