import Derived.Test.YtkoogmegdfpopaaGreatOwnC
set_option maxRecDepth 100000
namespace Go.Proofs.YtkoogmegdfpopaaGreat
open Go.RowKit
theorem bad_own (locals len:Int) (i:Ins):badI locals len i=((ickI i != 0)||!fmB (opdI i.op) i.n locals len):=by
 unfold badI fmB
 by_cases h2:opdI i.op=2
 ·rw [h2]
  have:decide (locals≤i.n)=!decide (i.n<locals):=by rw [Bool.eq_iff_iff];simp
  simp [this]
 ·by_cases h3:opdI i.op=3
  ·rw [h3]
   have:decide (len≤i.n)=!decide (i.n<len):=by rw [Bool.eq_iff_iff];simp
   simp [this]
  ·have e2:(opdI i.op == 2)=false:=by simpa using h2
   have e3:(opdI i.op == 3)=false:=by simpa using h3
   simp [h2,h3,e2,e3]
set_option maxHeartbeats 8000000 in
theorem Zeb (v:Value) (l:List Ins) (locals:Int) (W:World) (h:IsInss W v l) (hok:∀ i∈l,Ze7 i):Calls Tryz.prog 119 #[v,.int .i64 locals] W fun e w'=>e=.returned (.int .i64 (allE l locals))∧Bw W w':=by
 obtain ⟨ao,cap,rfl,h1,h2,h3⟩:=h
 obtain ⟨N,hN⟩:∃ N,l.length=N:=⟨_,rfl⟩
 unfold maxLen at h2
 have HE:Hid (allE l locals=if N<1∨200<N then 1 else if l.any (badI locals N) then 1 else 0):=by rw [Hid,allE,hN]
 rw [hN] at h1 ⊢
 have HN1:Hid (l.length=N):=hN
 have HA:Hid _:=h3
 have HOK:Hid _:=hok
 clear hN h3 hok
 by_cases hlen:N<1∨200<N
 ·have HZ:Hid (allE l locals=1):=by rw [Hid,HE.out,if_pos hlen]
  clear HE HA HOK HN1
  rcases hlen with hlen|hlen
  ·have hlen2:((N:Int) == 0)=true:=by rw [beq_iff_eq];omega
   go_enter Tryz.func119,Tryz.ntmps119
   go_wp2
   go_ret
   exact ⟨Zf HZ.out.symm,Below.refl _ _⟩
  ·have hlen2:((N:Int) == 0)=false:=by rw [beq_eq_false_iff_ne];omega
   have hlen3:(200:Int)<N:=by omega
   go_enter Tryz.func119,Tryz.ntmps119
   go_wp2
   go_ret
   exact ⟨Zf HZ.out.symm,Below.refl _ _⟩
 ·have hlo:1≤N:=by omega
  have hhi:N≤200:=by omega
  have HE2:Hid (allE l locals=if l.any (badI locals N) then 1 else 0):=by rw [Hid,HE.out,if_neg hlen]
  have hlen2:((N:Int) == 0)=false:=by rw [beq_eq_false_iff_ne];omega
  have hlen3:¬ (200:Int)<N:=by omega
  clear HE hlen
  go_enter Tryz.func119,Tryz.ntmps119
  go_wp2
  go_loopw [17] (fun iv wr=>∃ i:Nat,iv=.int .i64 i∧i≤N∧Hid (Bw W wr)∧Hid ((l.drop i).any (badI locals N)=l.any (badI locals N))) (fun iv _=>N - (intOf iv).toNat)
  case atStart=>exact ⟨0,rfl,Nat.zero_le _,Below.refl _ _,rfl⟩
  case round =>
   obtain ⟨i,rfl,hi,hb,hs⟩:=hrel
   by_cases hlt:i<N
   ·obtain ⟨bk,o,hao,hbk,hc⟩:=HA.out (by intro e;have:=HN1.out;rw [e] at this;simp at this;omega)
    obtain ⟨x,hx⟩:∃ x,l[i]?=some x:=⟨_,List.getElem?_eq_getElem (by rw [HN1.out];exact hlt)⟩
    subst hao
    have hst:=any_at (p:=badI locals N) i x hx
    rw [hs.out] at hst
    have hcx:=hc i x hx
    obtain ⟨k1,k2,k3,k4⟩:=HOK.out x (List.mem_of_getElem? hx)
    have HC:=Zi3 x.op x.n x.t x.b x.c x.m x.d k1 k2 k3 k4
    have HF:=Y6 x.op x.n locals N x.t x.b x.c x.m x.d
    have hbad:badI locals N x=((ickE x.op x.n x.t x.b x.c x.m x.d != 0)||!fmB (opdI x.op) x.n locals N):=bad_own locals N x
    have h01:=ick_01 x.op x.n x.t x.b x.c x.m x.d
    obtain ⟨xo,xn,xt,xb,xc,xm,xd⟩:=x
    simp only at HC HF hbad h01
    generalize ickE xo xn xt xb xc xm xd=ck at *
    generalize badI locals N _=bad at *
    generalize fmB (opdI xo) xn locals N=fb at *
    obtain ⟨p0,p1,p2,p3,p4,p5,p6⟩:=hcx.keep hb.out hbk
    simp only at p0 p1 p2 p3 p4 p5 p6
    have hbk2:bk<wr.heap.size:=Nat.lt_of_lt_of_le hbk hb.out.size
    have HC:Hid (∀ w,_):=HC
    have HF:Hid (∀ w,_):=HF
    clear hc hcx HA HOK hx k1 k2 k3 k4 hs
    rcases h01 with rfl|rfl
    ·have g0:((0:Int) != 0)=false:=rfl
     cases fb with
     | false =>
       have HG:Hid (allE l locals=1):=by rw [Hid,HE2.out,hst,show bad=true by rw [hbad];simp];rfl
       clear hst hbad HE2
       go_wp2_with (first
        | (go_at_call 131;refine (HC.out _).mono ?_;rintro e w1 ⟨rfl,hb1⟩;have hs1:wr.heap.size<w1.heap.size:=sqS hb1;obtain ⟨c0,c1,c2,c3,c4,c5⟩:=sqX hb1 wr.heap.size (.int .i64 xo) (.int .i64 xn) (.string xt) (.bool xb) (.string xc) (.string xm);have c6:=sqA hb1 wr.heap.size 6 (.string xd);have hB1:Hid (Bw W w1):=Below.step (hb.out.alloc hb.out.size _) hb1;clear hb1 HC)
        | (go_at_call 132;refine (HF.out _).mono ?_;rintro e w2 ⟨rfl,hb2⟩;have hB2:Hid (Bw W w2):=hB1.out.trans (hb2.mono hB1.out.size);clear hb2 HF))
       go_ret
       exact ⟨Zf HG.out.symm,hB2.out⟩
     | true =>
       have HG:Hid ((l.drop (i+1)).any (badI locals N)=l.any (badI locals N)):=by rw [Hid,hst,show bad=false by rw [hbad];simp];simp
       clear hst hbad HE2
       go_wp2_with (first
        | (go_at_call 131;refine (HC.out _).mono ?_;rintro e w1 ⟨rfl,hb1⟩;have hs1:wr.heap.size<w1.heap.size:=sqS hb1;obtain ⟨c0,c1,c2,c3,c4,c5⟩:=sqX hb1 wr.heap.size (.int .i64 xo) (.int .i64 xn) (.string xt) (.bool xb) (.string xc) (.string xm);have c6:=sqA hb1 wr.heap.size 6 (.string xd);have hB1:Hid (Bw W w1):=Below.step (hb.out.alloc hb.out.size _) hb1;clear hb1 HC)
        | (go_at_call 132;refine (HF.out _).mono ?_;rintro e w2 ⟨rfl,hb2⟩;have hB2:Hid (Bw W w2):=hB1.out.trans (hb2.mono hB1.out.size);clear hb2 HF))
       go_roundw
       case rel=>exact ⟨i+1,by go_num,by omega,hB2,HG⟩
       case measure=>simp [intOf];omega
    ·have g0:((1:Int) != 0)=true:=rfl
     have HG:Hid (allE l locals=1):=by rw [Hid,HE2.out,hst,show bad=true by rw [hbad];simp];rfl
     clear hst hbad HE2
     go_wp2_with (first
      | (go_at_call 131;refine (HC.out _).mono ?_;rintro e w1 ⟨rfl,hb1⟩;have hs1:wr.heap.size<w1.heap.size:=sqS hb1;obtain ⟨c0,c1,c2,c3,c4,c5⟩:=sqX hb1 wr.heap.size (.int .i64 xo) (.int .i64 xn) (.string xt) (.bool xb) (.string xc) (.string xm);have c6:=sqA hb1 wr.heap.size 6 (.string xd);have hB1:Hid (Bw W w1):=Below.step (hb.out.alloc hb.out.size _) hb1;clear hb1 HC)
      | (go_at_call 132;refine (HF.out _).mono ?_;rintro e w2 ⟨rfl,hb2⟩;have hB2:Hid (Bw W w2):=hB1.out.trans (hb2.mono hB1.out.size);clear hb2 HF))
     go_ret
     exact ⟨Zf HG.out.symm,hB1.out⟩
   ·have HG:Hid (allE l locals=0):=by
     rw [Hid,HE2.out,← hs.out,List.drop_of_length_le (by rw [HN1.out];omega)];rfl
    clear HA HOK hs HE2
    go_wp2
    go_ret
    exact ⟨Zf HG.out.symm,hb.out⟩
end Go.Proofs.YtkoogmegdfpopaaGreat
