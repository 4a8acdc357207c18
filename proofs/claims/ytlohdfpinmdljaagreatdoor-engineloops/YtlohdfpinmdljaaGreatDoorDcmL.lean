import Derived.Test.YtlohdfpinmdljaaGreatDoorOwnC
set_option maxRecDepth 100000
namespace Go.Proofs.YtlohdfpinmdljaaGreatDoor
open Go.RowKit
theorem bad_own (locals len:Int) (i:Ins):badI locals len i=((ickI i != 0)||!fmB (opdI i.op) i.n locals len):=by
  unfold badI fmB
  by_cases h2:opdI i.op=2
  · rw [h2]
    have:decide (locals≤i.n)=!decide (i.n<locals):=by rw [Bool.eq_iff_iff];simp
    simp [this]
  · by_cases h3:opdI i.op=3
    · rw [h3]
      have:decide (len≤i.n)=!decide (i.n<len):=by rw [Bool.eq_iff_iff];simp
      simp [this]
    · have e2:(opdI i.op == 2)=false:=by simpa using h2
      have e3:(opdI i.op == 3)=false:=by simpa using h3
      simp [h2,h3,e2,e3]
set_option maxHeartbeats 8000000 in
theorem checkAll_any (v:Value) (l:List Ins) (locals:Int) (W:World) (h:IsInss W v l) (hok:∀ i∈l,InsOK i):Calls Tryz.prog 251 #[v,.int .i64 locals] W fun e w'=>e=.returned (.int .i64 (allE l locals))∧Below W.heap.size W w':=by
  obtain ⟨ao,cap,rfl,h1,h2,h3⟩:=h
  obtain ⟨N,hN⟩:∃ N,l.length=N:=⟨_,rfl⟩
  unfold maxLen at h2
  have HE:Hid (allE l locals=if N<1∨200<N then 1 else if l.any (badI locals N) then 1 else 0):=by rw [Hid,allE,hN]
  rw [hN] at h1 ⊢
  have HN1:Hid (l.length=N):=hN
  have HA:Hid _:=h3
  have HOK:Hid _:=hok
  clear hN h3 hok
  by_cases hlen:N<1∨200<N
  · have HZ:Hid (allE l locals=1):=by rw [Hid,HE.out,if_pos hlen]
    clear HE HA HOK HN1
    rcases hlen with hlen|hlen
    · have hlen2:((N:Int) == 0)=true:=by rw [beq_iff_eq];omega
      go_enter Tryz.func251,Tryz.ntmps251
      go_wp2
      go_ret
      exact ⟨ret_int HZ.out.symm,Below.refl _ _⟩
    · have hlen2:((N:Int) == 0)=false:=by rw [beq_eq_false_iff_ne];omega
      have hlen3:(200:Int)<N:=by omega
      go_enter Tryz.func251,Tryz.ntmps251
      go_wp2
      go_ret
      exact ⟨ret_int HZ.out.symm,Below.refl _ _⟩
  · have hlo:1≤N:=by omega
    have hhi:N≤200:=by omega
    have HE2:Hid (allE l locals=if l.any (badI locals N) then 1 else 0):=by rw [Hid,HE.out,if_neg hlen]
    have hlen2:((N:Int) == 0)=false:=by rw [beq_eq_false_iff_ne];omega
    have hlen3:¬ (200:Int)<N:=by omega
    clear HE hlen
    go_enter Tryz.func251,Tryz.ntmps251
    go_wp2
    go_loopw [17] (fun iv wr=>∃ i:Nat,iv=.int .i64 i∧i≤N∧Hid (Below W.heap.size W wr)∧Hid ((l.drop i).any (badI locals N)=l.any (badI locals N))) (fun iv _=>N - (intOf iv).toNat)
    case atStart=>exact ⟨0,rfl,Nat.zero_le _,Below.refl _ _,rfl⟩
    case round =>
      obtain ⟨i,rfl,hi,hb,hs⟩:=hrel
      by_cases hlt:i<N
      · obtain ⟨bk,o,hao,hbk,hc⟩:=HA.out (by intro e;have:=HN1.out;rw [e] at this;simp at this;omega)
        obtain ⟨x,hx⟩:∃ x,l[i]?=some x:=⟨_,List.getElem?_eq_getElem (by rw [HN1.out];exact hlt)⟩
        subst hao
        have hst:=any_at (p:=badI locals N) i x hx
        rw [hs.out] at hst
        have hcx:=hc i x hx
        obtain ⟨k1,k2,k3,k4⟩:=HOK.out x (List.mem_of_getElem? hx)
        have HC:=check_any x.op x.n x.t x.b x.c x.m x.d k1 k2 k3 k4
        have HF:=fitsMethod_any x.op x.n locals N x.t x.b x.c x.m x.d
        have hbad:badI locals N x=((ickE x.op x.n x.t x.b x.c x.m x.d != 0)||!fmB (opdI x.op) x.n locals N):=bad_own locals N x
        have h01:=ick_01 x.op x.n x.t x.b x.c x.m x.d
        obtain ⟨xo,xn,xt,xb,xc,xm,xd⟩:=x
        simp only at HC HF hbad h01
        generalize ickE xo xn xt xb xc xm xd=ck at *
        generalize badI locals N _=bad at *
        generalize fmB (opdI xo) xn locals N=fb at *
        obtain ⟨p0,p1,p2,p3,p4,p5,p6⟩:=hcx.keep hb.out hbk
        simp only at p0 p1 p2 p3 p4 p5 p6
        have hbk2:bk<wr.heap.size:=Nat.lt_of_lt_of_le hbk hb.out.size
        have HC:Hid (∀ w,_):=HC
        have HF:Hid (∀ w,_):=HF
        clear hc hcx HA HOK hx k1 k2 k3 k4 hs
        rcases h01 with rfl|rfl
        · have g0:((0:Int) != 0)=false:=rfl
          cases fb with
          | false =>
            have HG:Hid (allE l locals=1):=by rw [Hid,HE2.out,hst,show bad=true by rw [hbad];simp];rfl
            clear hst hbad HE2
            go_wp2_with (first
              | (go_at_call 300;refine (HC.out _).mono ?_;rintro e w1 ⟨rfl,hb1⟩;have hs1:wr.heap.size<w1.heap.size:=(by have:=hb1.size;simp at this;omega);have c0:w1.cell? ⟨wr.heap.size,0,none⟩=some (.int .i64 xo):=(hb1.cell (p:=⟨wr.heap.size,0,none⟩) (by simp)).trans (by simp [go_sem, *]);have c1:w1.cell? ⟨wr.heap.size,1,none⟩=some (.int .i64 xn):=(hb1.cell (p:=⟨wr.heap.size,1,none⟩) (by simp)).trans (by simp [go_sem, *]);have c2:w1.cell? ⟨wr.heap.size,2,none⟩=some (.string xt):=(hb1.cell (p:=⟨wr.heap.size,2,none⟩) (by simp)).trans (by simp [go_sem, *]);have c3:w1.cell? ⟨wr.heap.size,3,none⟩=some (.bool xb):=(hb1.cell (p:=⟨wr.heap.size,3,none⟩) (by simp)).trans (by simp [go_sem, *]);have c4:w1.cell? ⟨wr.heap.size,4,none⟩=some (.string xc):=(hb1.cell (p:=⟨wr.heap.size,4,none⟩) (by simp)).trans (by simp [go_sem, *]);have c5:w1.cell? ⟨wr.heap.size,5,none⟩=some (.string xm):=(hb1.cell (p:=⟨wr.heap.size,5,none⟩) (by simp)).trans (by simp [go_sem, *]);have c6:w1.cell? ⟨wr.heap.size,6,none⟩=some (.string xd):=(hb1.cell (p:=⟨wr.heap.size,6,none⟩) (by simp)).trans (by simp [go_sem, *]);have hB1:Hid (Below W.heap.size W w1):=Below.step (hb.out.alloc hb.out.size _) hb1;clear hb1 HC)
              | (go_at_call 301;refine (HF.out _).mono ?_;rintro e w2 ⟨rfl,hb2⟩;have hB2:Hid (Below W.heap.size W w2):=hB1.out.trans (hb2.mono hB1.out.size);clear hb2 HF))
            go_ret
            exact ⟨ret_int HG.out.symm,hB2.out⟩
          | true =>
            have HG:Hid ((l.drop (i+1)).any (badI locals N)=l.any (badI locals N)):=by rw [Hid,hst,show bad=false by rw [hbad];simp];simp
            clear hst hbad HE2
            go_wp2_with (first
              | (go_at_call 300;refine (HC.out _).mono ?_;rintro e w1 ⟨rfl,hb1⟩;have hs1:wr.heap.size<w1.heap.size:=(by have:=hb1.size;simp at this;omega);have c0:w1.cell? ⟨wr.heap.size,0,none⟩=some (.int .i64 xo):=(hb1.cell (p:=⟨wr.heap.size,0,none⟩) (by simp)).trans (by simp [go_sem, *]);have c1:w1.cell? ⟨wr.heap.size,1,none⟩=some (.int .i64 xn):=(hb1.cell (p:=⟨wr.heap.size,1,none⟩) (by simp)).trans (by simp [go_sem, *]);have c2:w1.cell? ⟨wr.heap.size,2,none⟩=some (.string xt):=(hb1.cell (p:=⟨wr.heap.size,2,none⟩) (by simp)).trans (by simp [go_sem, *]);have c3:w1.cell? ⟨wr.heap.size,3,none⟩=some (.bool xb):=(hb1.cell (p:=⟨wr.heap.size,3,none⟩) (by simp)).trans (by simp [go_sem, *]);have c4:w1.cell? ⟨wr.heap.size,4,none⟩=some (.string xc):=(hb1.cell (p:=⟨wr.heap.size,4,none⟩) (by simp)).trans (by simp [go_sem, *]);have c5:w1.cell? ⟨wr.heap.size,5,none⟩=some (.string xm):=(hb1.cell (p:=⟨wr.heap.size,5,none⟩) (by simp)).trans (by simp [go_sem, *]);have c6:w1.cell? ⟨wr.heap.size,6,none⟩=some (.string xd):=(hb1.cell (p:=⟨wr.heap.size,6,none⟩) (by simp)).trans (by simp [go_sem, *]);have hB1:Hid (Below W.heap.size W w1):=Below.step (hb.out.alloc hb.out.size _) hb1;clear hb1 HC)
              | (go_at_call 301;refine (HF.out _).mono ?_;rintro e w2 ⟨rfl,hb2⟩;have hB2:Hid (Below W.heap.size W w2):=hB1.out.trans (hb2.mono hB1.out.size);clear hb2 HF))
            go_roundw
            case rel=>exact ⟨i+1,by go_num,by omega,hB2,HG⟩
            case measure=>simp [intOf];omega
        · have g0:((1:Int) != 0)=true:=rfl
          have HG:Hid (allE l locals=1):=by rw [Hid,HE2.out,hst,show bad=true by rw [hbad];simp];rfl
          clear hst hbad HE2
          go_wp2_with (first
            | (go_at_call 300;refine (HC.out _).mono ?_;rintro e w1 ⟨rfl,hb1⟩;have hs1:wr.heap.size<w1.heap.size:=(by have:=hb1.size;simp at this;omega);have c0:w1.cell? ⟨wr.heap.size,0,none⟩=some (.int .i64 xo):=(hb1.cell (p:=⟨wr.heap.size,0,none⟩) (by simp)).trans (by simp [go_sem, *]);have c1:w1.cell? ⟨wr.heap.size,1,none⟩=some (.int .i64 xn):=(hb1.cell (p:=⟨wr.heap.size,1,none⟩) (by simp)).trans (by simp [go_sem, *]);have c2:w1.cell? ⟨wr.heap.size,2,none⟩=some (.string xt):=(hb1.cell (p:=⟨wr.heap.size,2,none⟩) (by simp)).trans (by simp [go_sem, *]);have c3:w1.cell? ⟨wr.heap.size,3,none⟩=some (.bool xb):=(hb1.cell (p:=⟨wr.heap.size,3,none⟩) (by simp)).trans (by simp [go_sem, *]);have c4:w1.cell? ⟨wr.heap.size,4,none⟩=some (.string xc):=(hb1.cell (p:=⟨wr.heap.size,4,none⟩) (by simp)).trans (by simp [go_sem, *]);have c5:w1.cell? ⟨wr.heap.size,5,none⟩=some (.string xm):=(hb1.cell (p:=⟨wr.heap.size,5,none⟩) (by simp)).trans (by simp [go_sem, *]);have c6:w1.cell? ⟨wr.heap.size,6,none⟩=some (.string xd):=(hb1.cell (p:=⟨wr.heap.size,6,none⟩) (by simp)).trans (by simp [go_sem, *]);have hB1:Hid (Below W.heap.size W w1):=Below.step (hb.out.alloc hb.out.size _) hb1;clear hb1 HC)
            | (go_at_call 301;refine (HF.out _).mono ?_;rintro e w2 ⟨rfl,hb2⟩;have hB2:Hid (Below W.heap.size W w2):=hB1.out.trans (hb2.mono hB1.out.size);clear hb2 HF))
          go_ret
          exact ⟨ret_int HG.out.symm,hB1.out⟩
      · have HG:Hid (allE l locals=0):=by
          rw [Hid,HE2.out,← hs.out,List.drop_of_length_le (by rw [HN1.out];omega)];rfl
        clear HA HOK hs HE2
        go_wp2
        go_ret
        exact ⟨ret_int HG.out.symm,hb.out⟩
theorem byte_conv (r:Nat) (hr:r<10) (w:World) :
    (convert 55 9 (.slice (some ⟨w.heap.size,0,none⟩) 1 1)).run Tryz.prog (w.alloc (.cells #[.int .u8 (48+(r:Int))] 5))=.ok (.string ⟨#[UInt8.ofNat (48+r)]⟩) (w.alloc (.cells #[.int .u8 (48+(r:Int))] 5)):=by
  have hm:(UInt8.ofNat (48+r)).toNat=48+r:=by simp;omega
  exact run_convert_bytes_back (P:=Tryz.prog) (w.alloc (.cells #[.int .u8 (48+(r:Int))] 5)) 55 9 5 ⟨w.heap.size,0,none⟩ 1 [UInt8.ofNat (48+r)] Tryz.underlying55 Tryz.underlying5 Tryz.underlying9 (fun j hj=>by
    match j,hj with
    | 0,_=>rw [Addr.add_lit,cell_of_row _ w.heap.size 0 _ 5 (0,0) (heap_alloc_new w _)];simp only [List.getElem?_toArray,List.getElem?_cons_zero];simp;omega)
set_option maxHeartbeats 4000000 in
theorem decimal_pos (u:Nat) (hu:u≤9223372036854775807) (h0:u≠0) (w:World):Calls Tryz.prog 7 #[.int .i64 u] w fun e w'=>e=.returned (.string ⟨(Lib.decDigits u).toArray⟩)∧Below w.heap.size w w':=by
  have hu0:((u:Int) == 0)=false:=by rw [beq_eq_false_iff_ne];omega
  have hun:¬ (u:Int)<0:=by omega
  go_enter Tryz.func7,Tryz.ntmps7
  go_wp2
  go_loopw [3,4] (fun sv mv wr=>∃ (v:Nat) (acc:ByteArray),sv=.string acc∧mv=.int .i64 v∧v≤u∧acc.size≤20∧Hid (decInv u v acc.data.toList)∧Hid (Below w.heap.size w wr)) (fun _ mv _=>(intOf mv).natAbs)
  case atStart=>exact ⟨u,⟨#[]⟩,rfl,rfl,Nat.le_refl _,by decide,by simp [Hid,decInv,h0],Below.refl _ _⟩
  case round =>
    obtain ⟨v,acc,rfl,rfl,hv,hacc,hd,hb⟩:=hrel
    by_cases hv0:v=0
    · subst hv0
      have HN:Hid (acc.data.toList=Lib.decDigits u):=by have:=hd.out;simp [decInv] at this;exact this.symm
      have hz:(((0:Nat):Int) != 0)=false:=by decide
      clear hd
      go_wp2
      go_ret
      exact ⟨ret_str (by apply bytes_ext;rw [HN.out]),hb.out⟩
    · have hne:((v:Int) != 0)=true:=by rw [bne_iff_ne];omega
      obtain ⟨r,hr⟩:∃ r,r=v % 10:=⟨_,rfl⟩
      obtain ⟨q,hq⟩:∃ q,q=v / 10:=⟨_,rfl⟩
      have hr10:r<10:=by omega
      have hqv:q<v:=by omega
      have hmp:(v:Int).tmod 10=(r:Int):=by rw [Int.tmod_eq_emod_of_nonneg (by omega)];omega
      have hdp:(v:Int).tdiv 10=(q:Int):=by rw [Int.tdiv_eq_ediv_of_nonneg (by omega)];omega
      obtain ⟨c,hc⟩:∃ c:UInt8,c=UInt8.ofNat (48+r):=⟨_,rfl⟩
      have hcv:=byte_conv r hr10 wr
      have hst:=decInv_step hv0 hd.out
      rw [← hr,← hq,← hc] at hst
      rw [← hc] at hcv
      have HST:Hid (decInv u q ((⟨#[c]⟩++acc:ByteArray).data.toList)):=by rw [Hid];simpa [ByteArray.data_append] using hst
      have hsz:=decInv_len hst (by omega)
      have HSZ:Hid ((⟨#[c]⟩++acc:ByteArray).size≤20):=by
        rw [Hid,ByteArray.size_append]
        simp at hsz
        show 1+acc.size≤20
        omega
      clear hst hsz hd hr hq hv0 hc
      have hrn:¬ (r:Int)<0:=by omega
      go_wp2
      go_roundw
      case rel=>exact ⟨q,_,rfl,by go_num,by omega,HSZ.out,HST,hb.out.alloc hb.out.size _⟩
      case measure=>simp [intOf];omega
set_option maxHeartbeats 4000000 in
theorem decimal_neg (u:Nat) (hu:u≤9223372036854775808) (h0:u≠0) (w:World):Calls Tryz.prog 7 #[.int .i64 (-(u:Int))] w fun e w'=>e=.returned (.string ⟨(45::Lib.decDigits u).toArray⟩)∧Below w.heap.size w w':=by
  have hu0:((-(u:Int)) == 0)=false:=by rw [beq_eq_false_iff_ne];omega
  have hun:(-(u:Int))<0:=by omega
  go_enter Tryz.func7,Tryz.ntmps7
  go_wp2
  go_loopw [3,4] (fun sv mv wr=>∃ (v:Nat) (acc:ByteArray),sv=.string acc∧mv=.int .i64 (-(v:Int))∧v≤u∧acc.size≤20∧Hid (decInv u v acc.data.toList)∧Hid (Below w.heap.size w wr)) (fun _ mv _=>(intOf mv).natAbs)
  case atStart=>exact ⟨u,⟨#[]⟩,rfl,rfl,Nat.le_refl _,by decide,by simp [Hid,decInv,h0],Below.refl _ _⟩
  case round =>
    obtain ⟨v,acc,rfl,rfl,hv,hacc,hd,hb⟩:=hrel
    by_cases hv0:v=0
    · subst hv0
      have HN:Hid (acc.data.toList=Lib.decDigits u):=by have:=hd.out;simp [decInv] at this;exact this.symm
      have hz:((-((0:Nat):Int)) != 0)=false:=by decide
      clear hd
      go_wp2
      go_ret
      exact ⟨ret_str (by apply bytes_ext;simp [ByteArray.data_append,HN.out]),hb.out⟩
    · have hne:((-(v:Int)) != 0)=true:=by rw [bne_iff_ne];omega
      obtain ⟨r,hr⟩:∃ r,r=v % 10:=⟨_,rfl⟩
      obtain ⟨q,hq⟩:∃ q,q=v / 10:=⟨_,rfl⟩
      have hr10:r<10:=by omega
      have hqv:q<v:=by omega
      have hmp:(v:Int).tmod 10=(r:Int):=by rw [Int.tmod_eq_emod_of_nonneg (by omega)];omega
      have hdp:(v:Int).tdiv 10=(q:Int):=by rw [Int.tdiv_eq_ediv_of_nonneg (by omega)];omega
      have hm:(-(v:Int)).tmod 10=-(r:Int):=by rw [Int.neg_tmod,hmp]
      have hdv:(-(v:Int)).tdiv 10=-(q:Int):=by rw [Int.neg_tdiv,hdp]
      clear hmp hdp
      obtain ⟨c,hc⟩:∃ c:UInt8,c=UInt8.ofNat (48+r):=⟨_,rfl⟩
      have hcv:=byte_conv r hr10 wr
      have hst:=decInv_step hv0 hd.out
      rw [← hr,← hq,← hc] at hst
      rw [← hc] at hcv
      have HST:Hid (decInv u q ((⟨#[c]⟩++acc:ByteArray).data.toList)):=by rw [Hid];simpa [ByteArray.data_append] using hst
      have hsz:=decInv_len hst (by omega)
      have HSZ:Hid ((⟨#[c]⟩++acc:ByteArray).size≤20):=by
        rw [Hid,ByteArray.size_append]
        simp at hsz
        show 1+acc.size≤20
        omega
      clear hst hsz hd hr hq hv0 hc
      by_cases hr0:r=0
      · subst hr0
        rw [show (48:Int)+((0:Nat):Int)=48 from rfl] at hcv
        go_wp2
        go_roundw
        case rel=>exact ⟨q,_,rfl,by go_num,by omega,HSZ.out,HST,hb.out.alloc hb.out.size _⟩
        case measure=>simp [intOf];omega
      · have hrn:-(r:Int)<0:=by omega
        go_wp2
        go_roundw
        case rel=>exact ⟨q,_,rfl,by go_num,by omega,HSZ.out,HST,hb.out.alloc hb.out.size _⟩
        case measure=>simp [intOf];omega
set_option maxHeartbeats 400000 in
theorem decimal_zero (w:World):Calls Tryz.prog 7 #[.int .i64 0] w fun e w'=>e=.returned (.string ⟨#[48]⟩)∧w'=w:=by
  go_enter Tryz.func7,Tryz.ntmps7
  go_wp2
  go_ret
  exact ⟨rfl,rfl⟩
theorem rDecimal_any (n:Int) (h1:-9223372036854775808≤n) (h2:n≤9223372036854775807) (w:World):Calls Tryz.prog 7 #[.int .i64 n] w fun e w'=>e=.returned (.string ⟨(Lib.itoa n).toArray⟩)∧Below w.heap.size w w':=by
  by_cases h0:n=0
  · subst h0
    refine (decimal_zero w).mono fun e w' ⟨he,hw⟩=>⟨?_,by rw [hw];exact Below.refl _ _⟩
    rw [he]
    have:Lib.itoa 0=[48]:=by rw [Lib.itoa,if_neg (by omega)];exact dec_small (by decide)
    rw [this]
  · by_cases hn:n<0
    · obtain ⟨u,rfl⟩:∃ u:Nat,n=-(u:Int):=⟨n.natAbs,by omega⟩
      have:Lib.itoa (-(u:Int))=45::Lib.decDigits u:=by rw [Lib.itoa,if_pos hn];congr 2;omega
      rw [this]
      exact decimal_neg u (by omega) (by omega) w
    · obtain ⟨u,rfl⟩:∃ u:Nat,n=(u:Int):=⟨n.toNat,by omega⟩
      have:Lib.itoa (u:Int)=Lib.decDigits u:=by rw [Lib.itoa,if_neg hn];rfl
      rw [this]
      exact decimal_pos u (by omega) (by omega) w
end Go.Proofs.YtlohdfpinmdljaaGreatDoor
