import Derived.Test.YtdpodamnfpehkaaGreatDoorOwnQ
import Derived.Deep.QuietTactic
import Derived.BigQuiet
set_option maxRecDepth 100000
namespace Go.Proofs.YtdpodamnfpehkaaGreatDoor
open Go.RowKit
set_option maxHeartbeats 4000000 in
theorem check_any (op n:Int) (t:ByteArray) (b:Bool) (c m d:ByteArray) (ht:t.size≤maxLen) (hc:c.size≤maxLen) (hm:m.size≤maxLen) (hd:d.size≤maxLen) (w:World):Calls Tryz.prog 307 #[.agg #[.int .i64 op,.int .i64 n,.string t,.bool b,.string c,.string m,.string d]] w fun e w'=>e=.returned (.int .i64 (ickE op n t b c m d))∧Below w.heap.size w w':=by
  have HR:Hid (ickE op n t b c m d=if sameI ⟨op,n,t,b,c,m,d⟩ (ownI ⟨op,n,t,b,c,m,d⟩)&&fitB (opdI op) n t.data.toList (rckB c.data.toList m.data.toList d.data.toList) then 0 else 1):=ick_own ⟨op,n,t,b,c,m,d⟩
  have HQ:∀ w,(Op.equal 39 (.agg #[.int .i64 op,.int .i64 n,.string t,.bool b,.string c,.string m,.string d]) (insV (ownI ⟨op,n,t,b,c,m,d⟩))).run Tryz.prog w=.ok (sameI ⟨op,n,t,b,c,m,d⟩ (ownI ⟨op,n,t,b,c,m,d⟩)) w:=eq_ins ⟨op,n,t,b,c,m,d⟩ _
  obtain ⟨BX,hBX⟩:∃ BX,BX=w.alloc (.cells #[.int .i64 op,.int .i64 n,.string t,.bool b,.string c,.string m,.string d] 39):=⟨_,rfl⟩
  have HP:Hid (∀ w',Hid (Below (w.heap.size+1) BX w')→Calls Tryz.prog 342 #[.agg #[.int .i64 op,.int .i64 n,.string t,.bool b,.string c,.string m,.string d]] w' fun e w''=>e=.returned (insV (ownI ⟨op,n,t,b,c,m,d⟩))∧Hid (Below (w.heap.size+1) BX w'')) :=
    fun w' h=>(ownParts_any op n t b c m d w').mono fun e w'' ⟨he,hb⟩=>⟨he,h.out.trans (hb.mono (by have:=h.out.size;rw [hBX] at this;simpa using this))⟩
  have HF:Hid (∀ w',Hid (Below (w.heap.size+1) BX w')→Calls Tryz.prog 343 #[.agg #[.int .i64 op,.int .i64 n,.string t,.bool b,.string c,.string m,.string d]] w' fun e w''=>e=.returned (.bool (fitB (opdI op) n t.data.toList (rckB c.data.toList m.data.toList d.data.toList)))∧Hid (Below (w.heap.size+1) BX w'')) :=
    fun w' h=>(fitsOperand_any op n t b c m d ht hc hm hd w').mono fun e w'' ⟨he,hb⟩=>⟨he,h.out.trans (hb.mono (by have:=h.out.size;rw [hBX] at this;simpa using this))⟩
  obtain ⟨σ,V,V1,V2⟩:∃ (σ:Type) (V:σ→World),Hid (∀ s,Hid (Below (w.heap.size+1) BX (V s)))∧Hid (∀ w',Hid (Below (w.heap.size+1) BX w')→∃ s,w'=V s) :=
    ⟨{w' // Hid (Below (w.heap.size+1) BX w')},Subtype.val,fun s=>s.2,fun w q=>⟨⟨w,q⟩,rfl⟩⟩
  have T0:Hid (Below (w.heap.size+1) BX BX.drew):=(Below.refl _ _).drew
  have hne:Nonempty σ:=(V2.out _ T0).elim fun s _=>⟨s⟩
  subst hBX
  have q0:∀ s,(V s).cell? ⟨w.heap.size,0,none⟩=some (.int .i64 op):=fun s=>((V1.out s).out.cell (p:=⟨w.heap.size,0,none⟩) (by simp)).trans (by simp [go_sem])
  have q1:∀ s,(V s).cell? ⟨w.heap.size,1,none⟩=some (.int .i64 n):=fun s=>((V1.out s).out.cell (p:=⟨w.heap.size,1,none⟩) (by simp)).trans (by simp [go_sem])
  have q2:∀ s,(V s).cell? ⟨w.heap.size,2,none⟩=some (.string t):=fun s=>((V1.out s).out.cell (p:=⟨w.heap.size,2,none⟩) (by simp)).trans (by simp [go_sem])
  have q3:∀ s,(V s).cell? ⟨w.heap.size,3,none⟩=some (.bool b):=fun s=>((V1.out s).out.cell (p:=⟨w.heap.size,3,none⟩) (by simp)).trans (by simp [go_sem])
  have q4:∀ s,(V s).cell? ⟨w.heap.size,4,none⟩=some (.string c):=fun s=>((V1.out s).out.cell (p:=⟨w.heap.size,4,none⟩) (by simp)).trans (by simp [go_sem])
  have q5:∀ s,(V s).cell? ⟨w.heap.size,5,none⟩=some (.string m):=fun s=>((V1.out s).out.cell (p:=⟨w.heap.size,5,none⟩) (by simp)).trans (by simp [go_sem])
  have q6:∀ s,(V s).cell? ⟨w.heap.size,6,none⟩=some (.string d):=fun s=>((V1.out s).out.cell (p:=⟨w.heap.size,6,none⟩) (by simp)).trans (by simp [go_sem])
  have HB:Hid (∀ s,Below w.heap.size w (V s)):=fun s=>((Below.refl w.heap.size w).alloc (Nat.le_refl _) _).trans ((V1.out s).out.mono (by omega))
  generalize ickE op n t b c m d=z at *
  generalize fitB (opdI op) n t.data.toList (rckB c.data.toList m.data.toList d.data.toList)=fb at *
  generalize hgo:sameI ⟨op,n,t,b,c,m,d⟩ (ownI ⟨op,n,t,b,c,m,d⟩)=sb at *
  clear hgo
  generalize hO:insV (ownI ⟨op,n,t,b,c,m,d⟩)=O at *
  obtain ⟨cs,rfl⟩:∃ cs,O=.agg cs:=⟨_,hO.symm⟩
  have G1:∀ w,(eqGuard .neq 39 (.tmp 3) (.tmp 5) (.agg #[.int .i64 op,.int .i64 n,.string t,.bool b,.string c,.string m,.string d]) (.agg cs)).run Tryz.prog w=.ok () w:=fun w=>by
    simp [eqGuard,go_sem]
  have G2:∀ w,(binOp .neq 39 (.agg #[.int .i64 op,.int .i64 n,.string t,.bool b,.string c,.string m,.string d]) (.agg cs)).run Tryz.prog w=.ok (.bool (!sb)) w:=fun w=>by
    simp [binOp,HQ,go_sem]
  clear hO ht hc hm hd HQ
  cases sb <;> cases fb
  all_goals go_enter Tryz.func307,Tryz.ntmps307
  all_goals go_wp2
  all_goals refine wp_region_class (C:=fun w'=>∃ s,w'=V s) (by kernel_rfl) (by kernel_rfl) (V2.out _ T0) ?_
  all_goals repeat (go_big_quiet_step (first
    | (go_at_call 342;exact (HP.out _ (V1.out _)).mono fun e w'' z=>⟨z.1,V2.out _ z.2⟩)
    | (go_at_call 343;exact (HF.out _ (V1.out _)).mono fun e w'' z=>⟨z.1,V2.out _ z.2⟩)))
  all_goals refine wpQuiet_nil ?_
  all_goals intro w9 hw9
  all_goals obtain ⟨s9,rfl⟩:=hw9
  all_goals go_wp2
  all_goals
    go_ret
    exact ⟨ret_int (by rw [HR.out];rfl),HB.out _⟩
theorem bad_own (locals len:Int) (i:Ins):badI locals len i=((ickI i != 0)||!fmB (opdI i.op) i.n locals len):=by
  unfold badI fmB
  by_cases h2:opdI i.op=2
  · rw [h2]
    have:decide (locals≤i.n)=!decide (i.n<locals):=by rw [Bool.eq_iff_iff];simp
    simp [this]
  · by_cases h3:opdI i.op=3
    · rw [h3]
      have:decide (len≤i.n)=!decide (i.n<len):=by rw [Bool.eq_iff_iff];simp
      simp [this]
    · have e2:(opdI i.op == 2)=false:=by simpa using h2
      have e3:(opdI i.op == 3)=false:=by simpa using h3
      simp [h2,h3,e2,e3]
set_option maxHeartbeats 8000000 in
theorem checkAll_any (v:Value) (l:List Ins) (locals:Int) (W:World) (h:IsInss W v l) (hok:∀ i∈l,InsOK i):Calls Tryz.prog 258 #[v,.int .i64 locals] W fun e w'=>e=.returned (.int .i64 (allE l locals))∧Below W.heap.size W w':=by
  obtain ⟨ao,cap,rfl,h1,h2,h3⟩:=h
  obtain ⟨N,hN⟩:∃ N,l.length=N:=⟨_,rfl⟩
  unfold maxLen at h2
  have HE:Hid (allE l locals=if N<1∨200<N then 1 else if l.any (badI locals N) then 1 else 0):=by rw [Hid,allE,hN]
  rw [hN] at h1 ⊢
  have HN1:Hid (l.length=N):=hN
  have HA:Hid _:=h3
  have HOK:Hid _:=hok
  clear hN h3 hok
  by_cases hlen:N<1∨200<N
  · have HZ:Hid (allE l locals=1):=by rw [Hid,HE.out,if_pos hlen]
    clear HE HA HOK HN1
    rcases hlen with hlen|hlen
    · have hlen2:((N:Int) == 0)=true:=by rw [beq_iff_eq];omega
      go_enter Tryz.func258,Tryz.ntmps258
      go_wp2
      go_ret
      exact ⟨ret_int HZ.out.symm,Below.refl _ _⟩
    · have hlen2:((N:Int) == 0)=false:=by rw [beq_eq_false_iff_ne];omega
      have hlen3:(200:Int)<N:=by omega
      go_enter Tryz.func258,Tryz.ntmps258
      go_wp2
      go_ret
      exact ⟨ret_int HZ.out.symm,Below.refl _ _⟩
  · have hlo:1≤N:=by omega
    have hhi:N≤200:=by omega
    have HE2:Hid (allE l locals=if l.any (badI locals N) then 1 else 0):=by rw [Hid,HE.out,if_neg hlen]
    have hlen2:((N:Int) == 0)=false:=by rw [beq_eq_false_iff_ne];omega
    have hlen3:¬ (200:Int)<N:=by omega
    clear HE hlen
    go_enter Tryz.func258,Tryz.ntmps258
    go_wp2
    go_loopw [17] (fun iv wr=>∃ i:Nat,iv=.int .i64 i∧i≤N∧Hid (Below W.heap.size W wr)∧Hid ((l.drop i).any (badI locals N)=l.any (badI locals N))) (fun iv _=>N - (intOf iv).toNat)
    case atStart=>exact ⟨0,rfl,Nat.zero_le _,Below.refl _ _,rfl⟩
    case round =>
      obtain ⟨i,rfl,hi,hb,hs⟩:=hrel
      by_cases hlt:i<N
      · obtain ⟨bk,o,hao,hbk,hc⟩:=HA.out (by intro e;have:=HN1.out;rw [e] at this;simp at this;omega)
        obtain ⟨x,hx⟩:∃ x,l[i]?=some x:=⟨_,List.getElem?_eq_getElem (by rw [HN1.out];exact hlt)⟩
        subst hao
        have hst:=any_at (p:=badI locals N) i x hx
        rw [hs.out] at hst
        have hcx:=hc i x hx
        obtain ⟨k1,k2,k3,k4⟩:=HOK.out x (List.mem_of_getElem? hx)
        have HC:=check_any x.op x.n x.t x.b x.c x.m x.d k1 k2 k3 k4
        have HF:=fitsMethod_any x.op x.n locals N x.t x.b x.c x.m x.d
        have hbad:badI locals N x=((ickE x.op x.n x.t x.b x.c x.m x.d != 0)||!fmB (opdI x.op) x.n locals N):=bad_own locals N x
        have h01:=ick_01 x.op x.n x.t x.b x.c x.m x.d
        obtain ⟨xo,xn,xt,xb,xc,xm,xd⟩:=x
        simp only at HC HF hbad h01
        generalize ickE xo xn xt xb xc xm xd=ck at *
        generalize badI locals N _=bad at *
        generalize fmB (opdI xo) xn locals N=fb at *
        obtain ⟨p0,p1,p2,p3,p4,p5,p6⟩:=hcx.keep hb.out hbk
        simp only at p0 p1 p2 p3 p4 p5 p6
        have hbk2:bk<wr.heap.size:=Nat.lt_of_lt_of_le hbk hb.out.size
        have HC:Hid (∀ w,_):=HC
        have HF:Hid (∀ w,_):=HF
        clear hc hcx HA HOK hx k1 k2 k3 k4 hs
        rcases h01 with rfl|rfl
        · have g0:((0:Int) != 0)=false:=rfl
          cases fb with
          | false =>
            have HG:Hid (allE l locals=1):=by rw [Hid,HE2.out,hst,show bad=true by rw [hbad];simp];rfl
            clear hst hbad HE2
            go_wp2_with (first
              | (go_at_call 307;refine (HC.out _).mono ?_;rintro e w1 ⟨rfl,hb1⟩;have hs1:wr.heap.size<w1.heap.size:=(by have:=hb1.size;simp at this;omega);have c0:w1.cell? ⟨wr.heap.size,0,none⟩=some (.int .i64 xo):=(hb1.cell (p:=⟨wr.heap.size,0,none⟩) (by simp)).trans (by simp [go_sem, *]);have c1:w1.cell? ⟨wr.heap.size,1,none⟩=some (.int .i64 xn):=(hb1.cell (p:=⟨wr.heap.size,1,none⟩) (by simp)).trans (by simp [go_sem, *]);have c2:w1.cell? ⟨wr.heap.size,2,none⟩=some (.string xt):=(hb1.cell (p:=⟨wr.heap.size,2,none⟩) (by simp)).trans (by simp [go_sem, *]);have c3:w1.cell? ⟨wr.heap.size,3,none⟩=some (.bool xb):=(hb1.cell (p:=⟨wr.heap.size,3,none⟩) (by simp)).trans (by simp [go_sem, *]);have c4:w1.cell? ⟨wr.heap.size,4,none⟩=some (.string xc):=(hb1.cell (p:=⟨wr.heap.size,4,none⟩) (by simp)).trans (by simp [go_sem, *]);have c5:w1.cell? ⟨wr.heap.size,5,none⟩=some (.string xm):=(hb1.cell (p:=⟨wr.heap.size,5,none⟩) (by simp)).trans (by simp [go_sem, *]);have c6:w1.cell? ⟨wr.heap.size,6,none⟩=some (.string xd):=(hb1.cell (p:=⟨wr.heap.size,6,none⟩) (by simp)).trans (by simp [go_sem, *]);have hB1:Hid (Below W.heap.size W w1):=Below.step (hb.out.alloc hb.out.size _) hb1;clear hb1 HC)
              | (go_at_call 308;refine (HF.out _).mono ?_;rintro e w2 ⟨rfl,hb2⟩;have hB2:Hid (Below W.heap.size W w2):=hB1.out.trans (hb2.mono hB1.out.size);clear hb2 HF))
            go_ret
            exact ⟨ret_int HG.out.symm,hB2.out⟩
          | true =>
            have HG:Hid ((l.drop (i+1)).any (badI locals N)=l.any (badI locals N)):=by rw [Hid,hst,show bad=false by rw [hbad];simp];simp
            clear hst hbad HE2
            go_wp2_with (first
              | (go_at_call 307;refine (HC.out _).mono ?_;rintro e w1 ⟨rfl,hb1⟩;have hs1:wr.heap.size<w1.heap.size:=(by have:=hb1.size;simp at this;omega);have c0:w1.cell? ⟨wr.heap.size,0,none⟩=some (.int .i64 xo):=(hb1.cell (p:=⟨wr.heap.size,0,none⟩) (by simp)).trans (by simp [go_sem, *]);have c1:w1.cell? ⟨wr.heap.size,1,none⟩=some (.int .i64 xn):=(hb1.cell (p:=⟨wr.heap.size,1,none⟩) (by simp)).trans (by simp [go_sem, *]);have c2:w1.cell? ⟨wr.heap.size,2,none⟩=some (.string xt):=(hb1.cell (p:=⟨wr.heap.size,2,none⟩) (by simp)).trans (by simp [go_sem, *]);have c3:w1.cell? ⟨wr.heap.size,3,none⟩=some (.bool xb):=(hb1.cell (p:=⟨wr.heap.size,3,none⟩) (by simp)).trans (by simp [go_sem, *]);have c4:w1.cell? ⟨wr.heap.size,4,none⟩=some (.string xc):=(hb1.cell (p:=⟨wr.heap.size,4,none⟩) (by simp)).trans (by simp [go_sem, *]);have c5:w1.cell? ⟨wr.heap.size,5,none⟩=some (.string xm):=(hb1.cell (p:=⟨wr.heap.size,5,none⟩) (by simp)).trans (by simp [go_sem, *]);have c6:w1.cell? ⟨wr.heap.size,6,none⟩=some (.string xd):=(hb1.cell (p:=⟨wr.heap.size,6,none⟩) (by simp)).trans (by simp [go_sem, *]);have hB1:Hid (Below W.heap.size W w1):=Below.step (hb.out.alloc hb.out.size _) hb1;clear hb1 HC)
              | (go_at_call 308;refine (HF.out _).mono ?_;rintro e w2 ⟨rfl,hb2⟩;have hB2:Hid (Below W.heap.size W w2):=hB1.out.trans (hb2.mono hB1.out.size);clear hb2 HF))
            go_roundw
            case rel=>exact ⟨i+1,by go_num,by omega,hB2,HG⟩
            case measure=>simp [intOf];omega
        · have g0:((1:Int) != 0)=true:=rfl
          have HG:Hid (allE l locals=1):=by rw [Hid,HE2.out,hst,show bad=true by rw [hbad];simp];rfl
          clear hst hbad HE2
          go_wp2_with (first
            | (go_at_call 307;refine (HC.out _).mono ?_;rintro e w1 ⟨rfl,hb1⟩;have hs1:wr.heap.size<w1.heap.size:=(by have:=hb1.size;simp at this;omega);have c0:w1.cell? ⟨wr.heap.size,0,none⟩=some (.int .i64 xo):=(hb1.cell (p:=⟨wr.heap.size,0,none⟩) (by simp)).trans (by simp [go_sem, *]);have c1:w1.cell? ⟨wr.heap.size,1,none⟩=some (.int .i64 xn):=(hb1.cell (p:=⟨wr.heap.size,1,none⟩) (by simp)).trans (by simp [go_sem, *]);have c2:w1.cell? ⟨wr.heap.size,2,none⟩=some (.string xt):=(hb1.cell (p:=⟨wr.heap.size,2,none⟩) (by simp)).trans (by simp [go_sem, *]);have c3:w1.cell? ⟨wr.heap.size,3,none⟩=some (.bool xb):=(hb1.cell (p:=⟨wr.heap.size,3,none⟩) (by simp)).trans (by simp [go_sem, *]);have c4:w1.cell? ⟨wr.heap.size,4,none⟩=some (.string xc):=(hb1.cell (p:=⟨wr.heap.size,4,none⟩) (by simp)).trans (by simp [go_sem, *]);have c5:w1.cell? ⟨wr.heap.size,5,none⟩=some (.string xm):=(hb1.cell (p:=⟨wr.heap.size,5,none⟩) (by simp)).trans (by simp [go_sem, *]);have c6:w1.cell? ⟨wr.heap.size,6,none⟩=some (.string xd):=(hb1.cell (p:=⟨wr.heap.size,6,none⟩) (by simp)).trans (by simp [go_sem, *]);have hB1:Hid (Below W.heap.size W w1):=Below.step (hb.out.alloc hb.out.size _) hb1;clear hb1 HC)
            | (go_at_call 308;refine (HF.out _).mono ?_;rintro e w2 ⟨rfl,hb2⟩;have hB2:Hid (Below W.heap.size W w2):=hB1.out.trans (hb2.mono hB1.out.size);clear hb2 HF))
          go_ret
          exact ⟨ret_int HG.out.symm,hB1.out⟩
      · have HG:Hid (allE l locals=0):=by
          rw [Hid,HE2.out,← hs.out,List.drop_of_length_le (by rw [HN1.out];omega)];rfl
        clear HA HOK hs HE2
        go_wp2
        go_ret
        exact ⟨ret_int HG.out.symm,hb.out⟩
end Go.Proofs.YtdpodamnfpehkaaGreatDoor
