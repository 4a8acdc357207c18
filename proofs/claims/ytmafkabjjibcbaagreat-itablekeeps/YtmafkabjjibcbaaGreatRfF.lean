import Derived.Test.YtmafkabjjibcbaaGreatLcP
set_option maxHeartbeats 16000000
set_option maxRecDepth 100000
namespace Go.Proofs.YtmafkabjjibcbaaGreat
open Go.RowKit Go.Maps
theorem bitz (f k:Int):(bits .and .i64 f k == 0)=!hasI f k:=by
 rw [hasI]
 cases hz:(bits .and .i64 f k == 0) <;> simp_all
theorem top_has (m:HM):topB m=((hasI m.fl 1&&!hasI m.fl 8)&&!(m.nm.toList == [60,105,110,105,116,62])):=by rw [topB,bitz];rfl
theorem iro_has (m:HM):iroB m=(!hasI m.fl 2&&!hasI m.fl 8):=by
 rw [iroB,bitz,has10c]
 cases hasI m.fl 2 <;> cases hasI m.fl 8 <;> rfl
theorem fm_len (MS:Nat→List HM):∀ l:List Nat,(∀ k∈l,(MS k).length≤1000000)→(l.flatMap (fun k:Nat=>rtK iroB (k:Int) (MS k) 0)).length≤l.length * 1000000
 | [],_=>Nat.zero_le _
 | x::r,h=>by
   rw [List.flatMap_cons,List.length_append,List.length_cons]
   have h1:=Xj iroB (x:Int) (MS x) 0
   have h2:=h x (List.mem_cons_self ..)
   have h3:=fm_len MS r (fun k hk=>h k (List.mem_cons_of_mem _ hk))
   omega
theorem r14r_w (W:World) (b g CL cap:Nat) (am:Option Addr) (n0 cm:Nat) (ms:List HM) (MS:Nat→List HM) (C:List Nat) (K k:Nat)
 (b0:W.cell? ⟨b,0,none⟩=some (.slice (some ⟨g,0,none⟩) CL cap)) (hbl:b<W.heap.size) (hgl:g<W.heap.size) (hCL:(0:Int)<(CL:Int)) (c5:W.cell? ⟨g,5,none⟩=some (.slice am n0 cm)) (hn0:n0≤1000000) (HNL:Hid (ms.length=n0)) (HCL:Hid (C.length=K)) (hK:K≤300)
 (HM0:Hid (∀ (i:Nat) (m:HM),ms[i]?=some m→∃ bk o sa sn sc,am=some ⟨bk,o,none⟩∧bk<W.heap.size∧W.cell? ⟨bk,o+i * 6,none⟩=some (.string m.nm)∧W.cell? ⟨bk,o+i * 6+1,none⟩=some (.string m.ds)∧W.cell? ⟨bk,o+i * 6+2,none⟩=some (.int .i64 m.fl)∧W.cell? ⟨bk,o+i * 6+3,none⟩=some (.int .i64 m.lo)∧W.cell? ⟨bk,o+i * 6+4,none⟩=some (.int .i64 m.st)∧W.cell? ⟨bk,o+i * 6+5,none⟩=some (.slice sa sn sc)))
 (HMK:Hid (∀ (j kk:Nat),C[j]?=some kk→kk<CL∧(MS kk).length≤1000000∧∃ am cm,W.cell? ⟨g,kk * 6+5,none⟩=some (.slice am (MS kk).length cm)∧∀ (i:Nat) (m:HM),(MS kk)[i]?=some m→∃ bk o,am=some ⟨bk,o,none⟩∧bk<W.heap.size∧W.cell? ⟨bk,o+i * 6+2,none⟩=some (.int .i64 m.fl)))
 (HC:Hid (Calls Tryz.prog 51 #[.pointer (some ⟨b,0,none⟩),.int .i64 (k:Int)] W fun e w'=>(∃ v,e=.returned (.tuple #[v,.int .i64 0])∧w'.ownsRow W.heap.size 3 1 v K (C.map numV))∧Bw W w'))
 (HF:Hid (∀ w,Bw W w→Calls Tryz.prog 61 #[.pointer (some ⟨b,0,none⟩),.int .i64 (k:Int)] w fun e w'=>e=.returned (.bool false)∧w'=w)) :
 Calls Tryz.prog 18 #[.pointer (some ⟨b,0,none⟩),.int .i64 (k:Int)] W fun e w'=>(∃ v,e=.returned (.tuple #[v,.int .i64 0])∧w'.ownsRow W.heap.size 38 2 v (rtK topB 0 ms 0++C.flatMap (fun k:Nat=>rtK iroB (k:Int) (MS k) 0)).length (Zf (rtK topB 0 ms 0++C.flatMap (fun k:Nat=>rtK iroB (k:Int) (MS k) 0))))∧Bw W w':=by
 obtain ⟨i0,hi0,hz0,hz1,hz2⟩:=info_parts Tryz.hinfoD
 have B0:Hid (W.cell? ⟨b,0,none⟩=some (.slice (some ⟨g,0,none⟩) CL cap)):=b0
 have C5:Hid (W.cell? ⟨g,5,none⟩=some (.slice am n0 cm)):=c5
 clear b0 c5
 go_enter Tryz.func18,Tryz.ntmps18
 go_wp2_with (first
  | (go_at_call 51;refine HC.out.mono ?_;rintro e V ⟨⟨v0,rfl,ho⟩,hb⟩;obtain ⟨ca,cc,rfl⟩:=ownv ho;have RC:Hid (V.ownsRow W.heap.size 3 1 (.slice ca K cc) K (C.map numV)):=ho;have BV:Hid (Bw W V):=hb;clear ho hb HC)
  | (go_at_call 61;refine (HF.out _ BV.out).mono ?_;rintro e w9 ⟨rfl,hw9⟩;rw [hw9];clear hw9 w9 HF))
 go_loopw [8,9] (fun sv iv wr=>∃ i:Nat,iv=.int .i64 i∧i≤n0∧Hid (wr.ownsRow V.heap.size 38 2 sv (rtK topB 0 (ms.take i) 0).length (Zf (rtK topB 0 (ms.take i) 0)))∧Hid (Bw V wr)) (fun _ iv _=>n0 - (intOf iv).toNat)
 case atStart=>exact ⟨0,rfl,Nat.zero_le _,World.ownsRow_nil _ _ _ _,Below.refl _ _⟩
 case round =>
  obtain ⟨i,rfl,hi,hO,hB⟩:=hrel
  have bW:Bw W wr:=Za BV.out hB.out
  have b0:wr.cell? ⟨b,0,none⟩=some (.slice (some ⟨g,0,none⟩) CL cap):=(bW.cell (p:=⟨b,0,none⟩) hbl).trans B0.out
  have c5:wr.cell? ⟨g,5,none⟩=some (.slice am n0 cm):=(bW.cell (p:=⟨g,5,none⟩) hgl).trans C5.out
  have hbr:b<wr.heap.size:=Nat.lt_of_lt_of_le hbl bW.size
  have hgr:g<wr.heap.size:=Nat.lt_of_lt_of_le hgl bW.size
  by_cases hlt:i<n0
  ·have hiI:(i:Int)<(n0:Int):=by omega
   obtain ⟨m,hm⟩:∃ m,ms[i]?=some m:=⟨_,List.getElem?_eq_getElem (by rw [HNL.out];exact hlt)⟩
   obtain ⟨bk,o,sa,sn,sc,rfl,hbk,f0,f1,f2,f3,f4,f5⟩:=HM0.out i m hm
   have hbkr:bk<wr.heap.size:=Nat.lt_of_lt_of_le hbk bW.size
   have e0:wr.cell? ⟨bk,o+i * 6,none⟩=some (.string m.nm):=(bW.cell (p:=⟨bk,o+i * 6,none⟩) hbk).trans f0
   have e1:wr.cell? ⟨bk,o+i * 6+1,none⟩=some (.string m.ds):=(bW.cell (p:=⟨bk,o+i * 6+1,none⟩) hbk).trans f1
   have e2:wr.cell? ⟨bk,o+i * 6+2,none⟩=some (.int .i64 m.fl):=(bW.cell (p:=⟨bk,o+i * 6+2,none⟩) hbk).trans f2
   have e3:wr.cell? ⟨bk,o+i * 6+3,none⟩=some (.int .i64 m.lo):=(bW.cell (p:=⟨bk,o+i * 6+3,none⟩) hbk).trans f3
   have e4:wr.cell? ⟨bk,o+i * 6+4,none⟩=some (.int .i64 m.st):=(bW.cell (p:=⟨bk,o+i * 6+4,none⟩) hbk).trans f4
   have e5:wr.cell? ⟨bk,o+i * 6+5,none⟩=some (.slice sa sn sc):=(bW.cell (p:=⟨bk,o+i * 6+5,none⟩) hbk).trans f5
   have HST:Hid (rtK topB 0 (ms.take (i+1)) 0=(rtK topB 0 (ms.take i) 0)++(if topB m then [((0:Int),(i:Int))] else [])):=by
    show _=_
    rw [List.take_add_one,hm,Option.toList_some,Zbc,List.length_take,Nat.min_eq_left (by rw [HNL.out];omega),Nat.zero_add]
   have hll:(rtK topB 0 (ms.take i) 0).length≤400000000:=by
    have h1:=Xj topB 0 (ms.take i) 0
    rw [List.length_take] at h1
    omega
   obtain ⟨LS,hLS⟩:∃ LS,(rtK topB 0 (ms.take i) 0)=LS:=⟨_,rfl⟩
   rw [hLS] at hO HST hll
   obtain ⟨la,lc,rfl⟩:=ownv hO.out
   have H1:Hid (∀ w:World,Calls Tryz.prog 62 #[.int .i64 m.fl,.int .i64 1] w fun e w'=>e=.returned (.bool (hasI m.fl 1))∧w'=w):=Zw m.fl 1
   have H8:Hid (∀ w:World,Calls Tryz.prog 62 #[.int .i64 m.fl,.int .i64 8] w fun e w'=>e=.returned (.bool (hasI m.fl 8))∧w'=w):=Zw m.fl 8
   rw [top_has] at HST
   obtain ⟨ini,hin⟩:∃ ini,(m.nm.toList == [60,105,110,105,116,62])=ini:=⟨_,rfl⟩
   rw [hin] at HST
   have hU0:(wr.alloc (.cells #[.string m.nm,.string m.ds,.int .i64 m.fl,.int .i64 m.lo,.int .i64 m.st,.slice sa sn sc] 87)).heap[wr.heap.size]?=some (.cells #[.string m.nm,.string m.ds,.int .i64 m.fl,.int .i64 m.lo,.int .i64 m.st,.slice sa sn sc] 87 (0,0)):=Zm _ _
   have hUs:(wr.alloc (.cells #[.string m.nm,.string m.ds,.int .i64 m.fl,.int .i64 m.lo,.int .i64 m.st,.slice sa sn sc] 87)).heap.size=wr.heap.size+1:=by simp
   have OU:Hid ((wr.alloc (.cells #[.string m.nm,.string m.ds,.int .i64 m.fl,.int .i64 m.lo,.int .i64 m.st,.slice sa sn sc] 87)).ownsRow V.heap.size 38 2 (.slice la LS.length lc) LS.length (Zf LS)):=hO.out.alloc _
   have BU:Hid (Bw V (wr.alloc (.cells #[.string m.nm,.string m.ds,.int .i64 m.fl,.int .i64 m.lo,.int .i64 m.st,.slice sa sn sc] 87))):=hB.out.alloc hB.out.size _
   clear hLS hm f0 f1 f2 f3 f4 f5 bW
   generalize hasI m.fl 1=h1 at *
   generalize hasI m.fl 8=h8 at *
   go_upto_region 11 with fail
   generalize (wr.alloc (.cells #[.string m.nm,.string m.ds,.int .i64 m.fl,.int .i64 m.lo,.int .i64 m.st,.slice sa sn sc] 87))=U at *
   obtain ⟨u0,u1,u2,u3,u4,u5,uf,uL⟩:=rw6 hU0
   clear hU0 hUs b0 c5 e0 e1 e2 e3 e4 e5
   cases h1
   case' true=>cases h8
   case' true.false=>cases ini
   case true.false.false =>
    go_wp2_with (first|(go_at_call 62;refine (H1.out _).mono ?_;rintro e w9 ⟨rfl,hw9⟩;rw [hw9];clear hw9 w9 H1)|(go_at_call 62;refine (H8.out _).mono ?_;rintro e w9 ⟨rfl,hw9⟩;rw [hw9];clear hw9 w9 H8)|(at_builtin;refine wpList_append_own _ rfl _ _ 30 rfl V.heap.size 38 i0 (.agg #[.int .i64 0,.int .i64 0]) 2 16 Tryz.underlying30 hi0 hz0 hz1 hz2 rfl (by decide) (.slice la LS.length lc) LS.length (Zf LS) rfl (OU.out.alloc _) ⟨U.heap.size,0,none⟩ 1 1 [.int .i64 0,.int .i64 (i:Int)] rfl rfl ?c1 ?c2 ?c3 ?c4 ?c5 ?_))
    case c1=>exact World.news_of_block (cs:=#[.int .i64 0,.int .i64 (i:Int)]) (Zm _ _)
    case c2=>intro u hu;simp at hu;rcases hu with rfl|rfl <;> rfl
    case c3=>unfold maxLen;omega
    case c4=>omega
    case c5=>have:=BU.out.size;simp;omega
    intro v5 w5 hown hgrow _
    have hb5:Hid (Bw V w5):=by
     refine Below.grown (BU.out.alloc BU.out.size _) hgrow (by have:=BU.out.size;simp;omega) (fun z hz=>?_)
     exact (hO.out.lt z hz).1
    go_wp2
    exact ⟨⟨i+1,by simp,by omega,(by have e:=HST.out;simp only [Bool.not_false,Bool.and_self,↓reduceIte] at e;rw [e,List.length_append,List.length_singleton,Y2];exact hown),hb5⟩,by simp [intOf];omega⟩
   all_goals
    go_wp2_with (first|(go_at_call 62;refine (H1.out _).mono ?_;rintro e w9 ⟨rfl,hw9⟩;rw [hw9];clear hw9 w9 H1)|(go_at_call 62;refine (H8.out _).mono ?_;rintro e w9 ⟨rfl,hw9⟩;rw [hw9];clear hw9 w9 H8))
    exact ⟨⟨i+1,by simp,by omega,(by have e:=HST.out;simp at e;rw [e];exact OU),BU⟩,by simp [intOf];omega⟩
  ·have e:i=n0:=by omega
   subst e
   rw [List.take_of_length_le (by rw [HNL.out];exact Nat.le_refl _)] at hO
   obtain ⟨n0,rfl⟩:∃ n0,n0=i:=⟨_,rfl⟩
   obtain ⟨w1,hw1⟩:∃ w1,w1=wr:=⟨_,rfl⟩
   subst hw1
   go_wp2
   clear b0 c5
   have hL0:(rtK topB 0 ms 0).length≤1000000:=by
    have h1:=Xj topB 0 ms 0
    rw [HNL.out] at h1
    omega
   go_loopw [8,11] (fun sv qv wr=>∃ q:Nat,qv=.int .i64 q∧q≤K∧Hid (wr.ownsRow V.heap.size 38 2 sv (rtK topB 0 ms 0++(C.take q).flatMap (fun k:Nat=>rtK iroB (k:Int) (MS k) 0)).length (Zf (rtK topB 0 ms 0++(C.take q).flatMap (fun k:Nat=>rtK iroB (k:Int) (MS k) 0))))∧Hid (Bw V wr)) (fun _ qv _=>K - (intOf qv).toNat)
   case atStart=>exact ⟨0,rfl,Nat.zero_le _,(by rw [List.take_zero,List.flatMap_nil,List.append_nil];exact hO),hB⟩
   case round =>
    clear hO hB
    obtain ⟨q,rfl,hq,hO,hB⟩:=hrel
    by_cases hlq:q<K
    ·have hqI:(q:Int)<(K:Int):=by omega
     obtain ⟨kk,hkk⟩:∃ kk,C[q]?=some kk:=⟨_,List.getElem?_eq_getElem (by rw [HCL.out];exact hlq)⟩
     obtain ⟨hkC,hnk,ak,ck,d5,hfl⟩:=HMK.out q kk hkk
     have hkI:(kk:Int)<(CL:Int):=by omega
     have HFL:Hid (∀ (i:Nat) (m:HM),(MS kk)[i]?=some m→∃ bk o,ak=some ⟨bk,o,none⟩∧bk<W.heap.size∧W.cell? ⟨bk,o+i * 6+2,none⟩=some (.int .i64 m.fl)):=hfl
     have D5:Hid (W.cell? ⟨g,kk * 6+5,none⟩=some (.slice ak (MS kk).length ck)):=d5
     obtain ⟨g8,c8,hf8,_,hgl8,q8⟩:=Zal RC.out (by omega)
     injection hf8 with ha8 _ hc8
     subst ha8 hc8
     have CQ:Hid (V.cell? ⟨g8,q,none⟩=some (.int .i64 (kk:Int))):=q8 q _ (by rw [List.getElem?_map,hkk];rfl)
     have HSQ:Hid ((C.take (q+1)).flatMap (fun k:Nat=>rtK iroB (k:Int) (MS k) 0)=(C.take q).flatMap (fun k:Nat=>rtK iroB (k:Int) (MS k) 0)++rtK iroB (kk:Int) (MS kk) 0):=by
      show _=_
      rw [List.take_add_one,hkk,Option.toList_some,List.flatMap_append];simp
     have hLq:(rtK topB 0 ms 0++(C.take q).flatMap (fun k:Nat=>rtK iroB (k:Int) (MS k) 0)).length≤301000000:=by
      have h1:=fm_len MS (C.take q) (fun k hk=>by
       obtain ⟨j,hj⟩:=List.mem_iff_getElem?.1 (List.mem_of_mem_take hk)
       exact (HMK.out j k hj).2.1)
      rw [List.length_take] at h1
      rw [List.length_append]
      omega
     clear hfl d5 hkk q8
     obtain ⟨NK,hNK⟩:∃ NK,(MS kk).length=NK:=⟨_,rfl⟩
     have HNK:Hid ((MS kk).length=NK):=hNK
     rw [hNK] at hnk D5
     clear hNK
     obtain ⟨w2,hw2⟩:∃ w2,w2=wr:=⟨_,rfl⟩
     subst hw2
     go_wp2
     go_loopw [8,12] (fun sv iv wr=>∃ i:Nat,iv=.int .i64 i∧i≤NK∧Hid (wr.ownsRow V.heap.size 38 2 sv ((rtK topB 0 ms 0++(C.take q).flatMap (fun k:Nat=>rtK iroB (k:Int) (MS k) 0))++rtK iroB (kk:Int) ((MS kk).take i) 0).length (Zf ((rtK topB 0 ms 0++(C.take q).flatMap (fun k:Nat=>rtK iroB (k:Int) (MS k) 0))++rtK iroB (kk:Int) ((MS kk).take i) 0)))∧Hid (Bw V wr)) (fun _ iv _=>NK - (intOf iv).toNat)
     case atStart=>exact ⟨0,rfl,Nat.zero_le _,(by rw [List.take_zero,rtK,List.append_nil];exact hO),hB⟩
     case round =>
      clear hO hB
      obtain ⟨i,rfl,hi,hO,hB⟩:=hrel
      have bW:Bw W wr:=Za BV.out hB.out
      have b0:wr.cell? ⟨b,0,none⟩=some (.slice (some ⟨g,0,none⟩) CL cap):=(bW.cell (p:=⟨b,0,none⟩) hbl).trans B0.out
      have d5:wr.cell? ⟨g,kk * 6+5,none⟩=some (.slice ak NK ck):=(bW.cell (p:=⟨g,kk * 6+5,none⟩) hgl).trans D5.out
      have cq:wr.cell? ⟨g8,q,none⟩=some (.int .i64 (kk:Int)):=(hB.out.cell (p:=⟨g8,q,none⟩) hgl8).trans CQ.out
      have hbr:b<wr.heap.size:=Nat.lt_of_lt_of_le hbl bW.size
      have hgr:g<wr.heap.size:=Nat.lt_of_lt_of_le hgl bW.size
      have h8r:g8<wr.heap.size:=Nat.lt_of_lt_of_le hgl8 hB.out.size
      by_cases hlt:i<NK
      ·have hiI:(i:Int)<(NK:Int):=by omega
       obtain ⟨m,hm⟩:∃ m,(MS kk)[i]?=some m:=⟨_,List.getElem?_eq_getElem (by rw [HNK.out];exact hlt)⟩
       obtain ⟨bk,o,rfl,hbk,f2⟩:=HFL.out i m hm
       have hbkr:bk<wr.heap.size:=Nat.lt_of_lt_of_le hbk bW.size
       have e2:wr.cell? ⟨bk,o+i * 6+2,none⟩=some (.int .i64 m.fl):=(bW.cell (p:=⟨bk,o+i * 6+2,none⟩) hbk).trans f2
       have HST:Hid (((rtK topB 0 ms 0++(C.take q).flatMap (fun k:Nat=>rtK iroB (k:Int) (MS k) 0))++rtK iroB (kk:Int) ((MS kk).take (i+1)) 0)=((rtK topB 0 ms 0++(C.take q).flatMap (fun k:Nat=>rtK iroB (k:Int) (MS k) 0))++rtK iroB (kk:Int) ((MS kk).take i) 0)++(if iroB m then [((kk:Int),(i:Int))] else [])):=by
        show _=_
        rw [List.take_add_one,hm,Option.toList_some,Zbc,List.length_take,Nat.min_eq_left (by rw [HNK.out];omega),Nat.zero_add,List.append_assoc ((rtK topB 0 ms 0++(C.take q).flatMap (fun k:Nat=>rtK iroB (k:Int) (MS k) 0)))]
       have hll:((rtK topB 0 ms 0++(C.take q).flatMap (fun k:Nat=>rtK iroB (k:Int) (MS k) 0))++rtK iroB (kk:Int) ((MS kk).take i) 0).length≤400000000:=by
        have h1:=Xj iroB (kk:Int) ((MS kk).take i) 0
        rw [List.length_take] at h1
        rw [List.length_append]
        omega
       obtain ⟨LS,hLS⟩:∃ LS,((rtK topB 0 ms 0++(C.take q).flatMap (fun k:Nat=>rtK iroB (k:Int) (MS k) 0))++rtK iroB (kk:Int) ((MS kk).take i) 0)=LS:=⟨_,rfl⟩
       rw [hLS] at hO HST hll
       obtain ⟨la,lc,rfl⟩:=ownv hO.out
       have H2:Hid (∀ w:World,Calls Tryz.prog 62 #[.int .i64 m.fl,.int .i64 2] w fun e w'=>e=.returned (.bool (hasI m.fl 2))∧w'=w):=Zw m.fl 2
       have H8:Hid (∀ w:World,Calls Tryz.prog 62 #[.int .i64 m.fl,.int .i64 8] w fun e w'=>e=.returned (.bool (hasI m.fl 8))∧w'=w):=Zw m.fl 8
       rw [iro_has] at HST
       obtain ⟨MF,hMF⟩:∃ MF,m.fl=MF:=⟨_,rfl⟩
       rw [hMF] at HST H2 H8 e2
       clear hLS hm f2 bW hMF
       generalize hasI MF 2=h2 at *
       generalize hasI MF 8=h8 at *
       go_wp2
       go_region
       go_wp2
       go_region
       cases h2
       case' false=>cases h8
       case false.false =>
        go_wp2_with (first|(go_at_call 62;refine (H2.out _).mono ?_;rintro e w9 ⟨rfl,hw9⟩;rw [hw9];clear hw9 w9 H2)|(go_at_call 62;refine (H8.out _).mono ?_;rintro e w9 ⟨rfl,hw9⟩;rw [hw9];clear hw9 w9 H8)|(at_builtin;refine wpList_append_own _ rfl _ _ 30 rfl V.heap.size 38 i0 (.agg #[.int .i64 0,.int .i64 0]) 2 16 Tryz.underlying30 hi0 hz0 hz1 hz2 rfl (by decide) (.slice la LS.length lc) LS.length (Zf LS) rfl (by repeat (first|exact hO.out|refine World.ownsRow.alloc ?_ _|refine World.ownsRow.drew ?_)) ⟨wr.heap.size,0,none⟩ 1 1 [.int .i64 (kk:Int),.int .i64 (i:Int)] rfl rfl ?c1 ?c2 ?c3 ?c4 ?c5 ?_))
        case c1=>exact World.news_of_block (cs:=#[.int .i64 (kk:Int),.int .i64 (i:Int)]) (Zm _ _)
        case c2=>intro u hu;simp at hu;rcases hu with rfl|rfl <;> rfl
        case c3=>unfold maxLen;omega
        case c4=>omega
        case c5=>have:=hB.out.size;simp;omega
        intro v5 w5 hown hgrow _
        have hb5:Hid (Bw V w5):=by
         refine Below.grown (by repeat (first|refine Below.alloc ?_ (by have:=hB.out.size;simp;try omega) _|refine Below.drew ?_|exact hB.out)) hgrow (by have:=hB.out.size;simp;omega) (fun z hz=>?_)
         exact (hO.out.lt z hz).1
        go_wp2
        exact ⟨⟨i+1,by simp,by omega,(by have e:=HST.out;simp only [Bool.not_false,Bool.and_self,↓reduceIte] at e;rw [e,List.length_append,List.length_singleton,Y2];exact hown),hb5⟩,by simp [intOf];omega⟩
       all_goals
        go_wp2_with (first|(go_at_call 62;refine (H2.out _).mono ?_;rintro e w9 ⟨rfl,hw9⟩;rw [hw9];clear hw9 w9 H2)|(go_at_call 62;refine (H8.out _).mono ?_;rintro e w9 ⟨rfl,hw9⟩;rw [hw9];clear hw9 w9 H8))
        exact ⟨⟨i+1,by simp,by omega,(by have e:_=LS:=HST.out.trans (by simp);rw [e];exact (by repeat (first|exact hO.out|refine World.ownsRow.alloc ?_ _|refine World.ownsRow.drew ?_))),(by repeat (first|refine Below.alloc ?_ (by have:=hB.out.size;simp;try omega) _|refine Below.drew ?_|exact hB.out))⟩,by simp [intOf];omega⟩
      ·have e:i=NK:=by omega
       subst e
       rw [show (MS kk).take i=MS kk from List.take_of_length_le (by rw [HNK.out];exact Nat.le_refl _),List.append_assoc,← HSQ.out] at hO
       go_wp2
       go_region
       go_wp2
       exact ⟨⟨q+1,by simp,by omega,(by repeat (first|exact hO.out|refine World.ownsRow.alloc ?_ _|refine World.ownsRow.drew ?_)),(by repeat (first|refine Below.alloc ?_ (by have:=hB.out.size;simp;try omega) _|refine Below.drew ?_|exact hB.out))⟩,by simp [intOf];omega⟩
    ·have e:q=K:=by omega
     subst e
     rw [List.take_of_length_le (by rw [HCL.out];exact Nat.le_refl _)] at hO
     obtain ⟨la,lc,e9⟩:=ownv hO.out
     go_wp2
     exact bodyPost_ret (results_tmp2 rfl _ _ _) rfl ⟨⟨_,rfl,Go.Joins.ownsRow_le hO.out BV.out.size⟩,Za BV.out hB.out⟩
def ifcC (cs:List Cls) (i:Int):Bool:=match clsI cs i with
 | some c=>hasI c.fl 512
 | none=>false
theorem Y4 {b:Nat} {cs:List Cls} {W:World} (h:RAt b cs W) (i:Int):Calls Tryz.prog 61 #[.pointer (some ⟨b,0,none⟩),.int .i64 i] W fun e w'=>e=.returned (.bool (ifcC cs i))∧w'=W:=by
 have HI:Hid (∀ y,(clsI cs i).isSome=y→Calls Tryz.prog 68 #[.pointer (some ⟨b,0,none⟩),.int .i64 i] W fun e w'=>e=.returned (.bool y)∧w'=W):=fun y hy=>by rw [← hy];exact rIn_c h i
 rcases X7 cs i with ⟨h1,h2⟩|⟨k,c,rfl,h2,h1⟩
 ·have e:ifcC cs i=false:=by rw [ifcC,h1]
  rw [e]
  have HI:Hid (Calls Tryz.prog 68 #[.pointer (some ⟨b,0,none⟩),.int .i64 i] W fun e w'=>e=.returned (.bool false)∧w'=W):=HI.out false (by rw [h1];rfl)
  clear h h1 h2 e
  go_enter Tryz.func61,Tryz.ntmps61
  go_wp2_with (go_at_call 68;refine HI.out.mono ?_;rintro e w9 ⟨rfl,hw9⟩;rw [hw9];clear hw9 w9)
  exact bodyPost_ret (results_tmp rfl _ _ _) rfl ⟨rfl,rfl⟩
 ·have e:ifcC cs k=hasI c.fl 512:=by rw [ifcC,h1]
  rw [e]
  have HI:Hid (Calls Tryz.prog 68 #[.pointer (some ⟨b,0,none⟩),.int .i64 (k:Int)] W fun e w'=>e=.returned (.bool true)∧w'=W):=HI.out true (by rw [h1];rfl)
  obtain ⟨g,cap,vi,vm,b0,_,_,c0,c1,c2,c3,c4,c5,_⟩:=h.cells h2
  have hkI:(k:Int)<(cs.length:Int):=by have:=(List.getElem?_eq_some_iff.1 h2).1;omega
  have HF:Hid (∀ w:World,Calls Tryz.prog 62 #[.int .i64 c.fl,.int .i64 512] w fun e w'=>e=.returned (.bool (hasI c.fl 512))∧w'=w):=Zw c.fl 512
  generalize hasI c.fl 512=R at *
  clear h h1 h2 e
  go_enter Tryz.func61,Tryz.ntmps61
  go_wp2_with (first
   | (go_at_call 68;refine HI.out.mono ?_;rintro e w9 ⟨rfl,hw9⟩;rw [hw9];clear hw9 w9)
   | (go_at_call 62;refine (HF.out _).mono ?_;rintro e w9 ⟨rfl,hw9⟩;rw [hw9];clear hw9 w9))
  exact bodyPost_ret (results_tmp rfl _ _ _) rfl ⟨rfl,rfl⟩
def togB (p q:Cls):Bool:=(p.ld == q.ld)&&(pkgL p.nm.data.toList == pkgL q.nm.data.toList)
theorem rTog_c (p q:Cls) (vi vm vi' vm':Value) (hp:p.nm.size≤maxLen) (hq:q.nm.size≤maxLen) (W:World):Calls Tryz.prog 168 #[.agg #[.string p.nm,.string p.su,vi,.int .i64 p.fl,.int .i64 p.ld,vm],.agg #[.string q.nm,.string q.su,vi',.int .i64 q.fl,.int .i64 q.ld,vm']] W fun e w'=>e=.returned (.bool (togB p q))∧Bw W w':=by
 have HP:Hid (∀ u w,u=p.nm→Calls Tryz.prog 229 #[.string u] w fun e w'=>e=.returned (.string (pkB p.nm))∧w'=w):=fun u w hu=>by rw [hu];exact Zaz p.nm hp w
 have HQ:Hid (∀ u w,u=q.nm→Calls Tryz.prog 229 #[.string u] w fun e w'=>e=.returned (.string (pkB q.nm))∧w'=w):=fun u w hu=>by rw [hu];exact Zaz q.nm hq w
 have HR:Hid (togB p q=((p.ld == q.ld)&&((pkB p.nm).toList == (pkB q.nm).toList))):=by
  rw [Hid,togB,Lib.toList_data,Lib.toList_data];rfl
 generalize togB p q=R at *
 generalize pkB p.nm=s1 at *
 generalize pkB q.nm=s2 at *
 clear hp hq
 by_cases hld:p.ld=q.ld
 ·have hld2:(p.ld == q.ld)=true:=by rw [hld];simp
  cases hz:(s1.toList == s2.toList)
  all_goals
   rw [hld2,hz] at HR
   go_enter Tryz.func168,Tryz.ntmps168
   go_wp2
   go_quiet (first|(go_at_call 229;refine Calls.quiet_of_same (HP.out _ _ rfl))|(go_at_call 229;refine Calls.quiet_of_same (HQ.out _ _ rfl)))
   go_wp2
   exact bodyPost_ret (results_tmp rfl _ _ _) rfl ⟨by rw [HR.out];rfl,below_drewN sqR _⟩
 ·have hld2:(p.ld == q.ld)=false:=by simpa using hld
  rw [hld2] at HR
  go_enter Tryz.func168,Tryz.ntmps168
  go_wp2
  go_quiet (first|(go_at_call 229;refine Calls.quiet_of_same (HP.out _ _ rfl)))
  go_wp2
  exact bodyPost_ret (results_tmp rfl _ _ _) rfl ⟨by rw [HR.out];rfl,below_drewN sqR _⟩
def spC (cs:List Cls) (a b:Int):Bool:=match clsI cs a,clsI cs b with
 | some p,some q=>togB p q
 | _,_=>false
theorem Qv {w:World} {v:Value} {l:List (List UInt8)} (h:IsStrs w v l):∃ a c,v=.slice a l.length c:=by
 obtain ⟨a,c,e,_⟩:=h
 exact ⟨a,c,e⟩
theorem X0 {w:World} {v:Value} {l:List Mth} (h:IsMths w v l):∃ a c,v=.slice a l.length c:=by
 obtain ⟨a,c,e,_⟩:=h
 exact ⟨a,c,e⟩
theorem rSame_c {b:Nat} {cs:List Cls} {W:World} (h:RAt b cs W) (hz:∀ c∈cs,c.nm.size≤maxLen) (x y:Int):Calls Tryz.prog 214 #[.pointer (some ⟨b,0,none⟩),.int .i64 x,.int .i64 y] W fun e w'=>e=.returned (.bool (spC cs x y))∧Bw W w':=by
 obtain ⟨σ,V,hne,V1,V2⟩:=class_of' (fun w'=>Bw W w') ⟨_,Below.refl _ _⟩
 have HI:Hid (∀ i z y s,i=z→(clsI cs z).isSome=y→Calls Tryz.prog 68 #[.pointer (some ⟨b,0,none⟩),.int .i64 i] (V s) fun e w''=>e=.returned (.bool y)∧∃ s',w''=V s'):=fun i z y s hi hy=>by
  rw [hi,← hy];exact (rIn_c (h.below (V1.out s)) z).mono fun e w'' zz=>⟨zz.1,s,zz.2⟩
 rcases X7 cs x with ⟨h1,_⟩|⟨k,p,rfl,h2,h1⟩
 ·have e:spC cs x y=false:=by rw [spC,h1]
  rw [e]
  have HX:Hid (∀ i s,i=x→Calls Tryz.prog 68 #[.pointer (some ⟨b,0,none⟩),.int .i64 i] (V s) fun e w''=>e=.returned (.bool false)∧∃ s',w''=V s'):=fun i s hi=>HI.out i x _ s hi (by rw [h1];rfl)
  clear h h1 e HI
  go_enter Tryz.func214,Tryz.ntmps214
  go_wp2
  refine Ze (C:=fun w'=>∃ s,w'=V s) (by kernel_rfl) (by kernel_rfl) (V2.out _ ((Below.refl _ _).drew)) ?_
  repeat (go_big_quiet_step ((go_at_call 68;exact HX.out _ _ rfl)))
  refine wpQuiet_nil ?_
  intro w9 hw9
  obtain ⟨s9,rfl⟩:=hw9
  go_wp2
  exact bodyPost_ret (results_tmp rfl _ _ _) rfl ⟨rfl,V1.out s9⟩
 ·have HX:Hid (∀ i s,i=(k:Int)→Calls Tryz.prog 68 #[.pointer (some ⟨b,0,none⟩),.int .i64 i] (V s) fun e w''=>e=.returned (.bool true)∧∃ s',w''=V s'):=fun i s hi=>HI.out i k _ s hi (by rw [h1];rfl)
  rcases X7 cs y with ⟨g1,_⟩|⟨j,q,rfl,g2,g1⟩
  ·have e:spC cs k y=false:=by rw [spC,h1,g1]
   rw [e]
   have HY:Hid (∀ i s,i=y→Calls Tryz.prog 68 #[.pointer (some ⟨b,0,none⟩),.int .i64 i] (V s) fun e w''=>e=.returned (.bool false)∧∃ s',w''=V s'):=fun i s hi=>HI.out i y _ s hi (by rw [g1];rfl)
   clear h h1 g1 e HI h2
   go_enter Tryz.func214,Tryz.ntmps214
   go_wp2
   refine Ze (C:=fun w'=>∃ s,w'=V s) (by kernel_rfl) (by kernel_rfl) (V2.out _ ((Below.refl _ _).drew)) ?_
   repeat (go_big_quiet_step (first|(go_at_call 68;exact HX.out _ _ rfl)|(go_at_call 68;exact HY.out _ _ rfl)))
   refine wpQuiet_nil ?_
   intro w9 hw9
   obtain ⟨s9,rfl⟩:=hw9
   go_wp2
   exact bodyPost_ret (results_tmp rfl _ _ _) rfl ⟨rfl,V1.out s9⟩
  ·have e:spC cs k j=togB p q:=by rw [spC,h1,g1]
   rw [e]
   have HY:Hid (∀ i s,i=(j:Int)→Calls Tryz.prog 68 #[.pointer (some ⟨b,0,none⟩),.int .i64 i] (V s) fun e w''=>e=.returned (.bool true)∧∃ s',w''=V s'):=fun i s hi=>HI.out i j _ s hi (by rw [g1];rfl)
   have HT:Hid (∀ vi vm vi' vm' s,Calls Tryz.prog 168 #[.agg #[.string p.nm,.string p.su,vi,.int .i64 p.fl,.int .i64 p.ld,vm],.agg #[.string q.nm,.string q.su,vi',.int .i64 q.fl,.int .i64 q.ld,vm']] (V s) fun e w''=>e=.returned (.bool (togB p q))∧∃ s',w''=V s'):=fun vi vm vi' vm' s=>(rTog_c p q vi vm vi' vm' (hz p (List.mem_of_getElem? h2)) (hz q (List.mem_of_getElem? g2)) (V s)).mono fun e w'' zz=>⟨zz.1,V2.out _ (Za (V1.out s) zz.2)⟩
   obtain ⟨g,cap,vi,vm,b0,hlt,hgl,c0,c1,c2,c3,c4,c5,hi1,hi2⟩:=h.cells h2
   obtain ⟨g',cap',vi',vm',b0',_,_,d0,d1,d2,d3,d4,d5,hi3,hi4⟩:=h.cells g2
   rw [b0] at b0'
   simp only [Option.some.injEq,Value.slice.injEq,Addr.mk.injEq,and_true,true_and] at b0'
   obtain ⟨rfl,rfl⟩:=b0'
   obtain ⟨x1,x2,rfl⟩:=Qv hi1
   obtain ⟨x3,x4,rfl⟩:=X0 hi2
   obtain ⟨x5,x6,rfl⟩:=Qv hi3
   obtain ⟨x7,x8,rfl⟩:=X0 hi4
   have kp:∀ (s:σ) (bb j:Nat) (v:Value),bb<W.heap.size→W.cell? ⟨bb,j,none⟩=some v→(V s).cell? ⟨bb,j,none⟩=some v:=fun s bb j v hl h=>((V1.out s).cell (p:=⟨bb,j,none⟩) hl).trans h
   replace b0:=fun s=>kp s _ _ _ hlt b0
   replace c0:=fun s=>kp s _ _ _ hgl c0
   replace c1:=fun s=>kp s _ _ _ hgl c1
   replace c2:=fun s=>kp s _ _ _ hgl c2
   replace c3:=fun s=>kp s _ _ _ hgl c3
   replace c4:=fun s=>kp s _ _ _ hgl c4
   replace c5:=fun s=>kp s _ _ _ hgl c5
   replace d0:=fun s=>kp s _ _ _ hgl d0
   replace d1:=fun s=>kp s _ _ _ hgl d1
   replace d2:=fun s=>kp s _ _ _ hgl d2
   replace d3:=fun s=>kp s _ _ _ hgl d3
   replace d4:=fun s=>kp s _ _ _ hgl d4
   replace d5:=fun s=>kp s _ _ _ hgl d5
   have hxI:(k:Int)<(cs.length:Int):=by have:=(List.getElem?_eq_some_iff.1 h2).1;omega
   have hyI:(j:Int)<(cs.length:Int):=by have:=(List.getElem?_eq_some_iff.1 g2).1;omega
   generalize togB p q=R at *
   clear h h1 h2 g1 g2 e kp hlt hgl HI hi1 hi2 hi3 hi4 hz
   go_enter Tryz.func214,Tryz.ntmps214
   go_wp2
   refine Ze (C:=fun w'=>∃ s,w'=V s) (by kernel_rfl) (by kernel_rfl) (V2.out _ ((Below.refl _ _).drew)) ?_
   repeat (go_big_quiet_step (first|(go_at_call 68;exact HX.out _ _ rfl)|(go_at_call 68;exact HY.out _ _ rfl)|(go_at_call 168;exact HT.out _ _ _ _ _)))
   refine wpQuiet_nil ?_
   intro w9 hw9
   obtain ⟨s9,rfl⟩:=hw9
   go_wp2
   exact bodyPost_ret (results_tmp rfl _ _ _) rfl ⟨rfl,V1.out s9⟩
theorem rOpen_c (c p:Cls) (vi vm vi' vm':Value) (hc:c.nm.size≤maxLen) (hp:p.nm.size≤maxLen) (W:World):Calls Tryz.prog 105 #[.agg #[.string c.nm,.string c.su,vi,.int .i64 c.fl,.int .i64 c.ld,vm],.agg #[.string p.nm,.string p.su,vi',.int .i64 p.fl,.int .i64 p.ld,vm']] W fun e w'=>e=.returned (.bool (hasI p.fl 1||togB c p))∧Bw W w':=by
 have HT:Hid (∀ w,Calls Tryz.prog 168 #[.agg #[.string c.nm,.string c.su,vi,.int .i64 c.fl,.int .i64 c.ld,vm],.agg #[.string p.nm,.string p.su,vi',.int .i64 p.fl,.int .i64 p.ld,vm']] w fun e w'=>e=.returned (.bool (togB c p))∧Bw w w'):=fun w=>rTog_c c p vi vm vi' vm' hc hp w
 have HF:Hid (∀ w:World,Calls Tryz.prog 62 #[.int .i64 p.fl,.int .i64 1] w fun e w'=>e=.returned (.bool (hasI p.fl 1))∧w'=w):=Zw p.fl 1
 generalize hasI p.fl 1=b1 at *
 generalize togB c p=b2 at *
 clear hc hp
 cases b1
 all_goals
  go_enter Tryz.func105,Tryz.ntmps105
  go_wp2_with (first
   | (go_at_call 62;refine (HF.out _).mono ?_;rintro e w9 ⟨rfl,hw9⟩;rw [hw9];clear hw9 w9)
   | (go_at_call 168;refine (HT.out _).mono ?_;rintro e w1 ⟨rfl,hb⟩;have B1:Hid (Bw W w1):=Za sqR hb;clear hb HT))
  first
   | exact bodyPost_ret (results_tmp rfl _ _ _) rfl ⟨rfl,B1.out⟩
   | exact bodyPost_ret (results_tmp rfl _ _ _) rfl ⟨rfl,sqR⟩
structure CpR (W wr:World) (nm su:ByteArray) (fl ld:Int) (ai0 am0 ai:Option Addr) (ni ci0 capi M cm0 gm:Nat) (xi:List Value) (pm qm:List (HM×Value)) (k:Nat):Prop where
 bc:wr.heap[W.heap.size]?=some (.cells #[.string nm,.string su,.slice ai0 ni ci0,.int .i64 fl,.int .i64 ld,.slice am0 M cm0] 73 (0,0))
 br:wr.heap[W.heap.size+1]?=some (.cells #[.string ⟨#[]⟩,.string ⟨#[]⟩,.slice none 0 0,.int .i64 0,.int .i64 0,.slice none 0 0] 73 (0,0))
 bd:wr.heap[W.heap.size+1+1]?=some (.cells #[.string nm,.string su,.slice ai ni capi,.int .i64 fl,.int .i64 ld,.slice (some ⟨gm,0,none⟩) M M] 73 (0,0))
 ifs:wr.ownsRow (W.heap.size+1+1+1) 9 1 (.slice ai ni capi) ni xi
 len:qm.length=M
 ms:wr.ownsRow (W.heap.size+1+1+1) 87 6 (.slice (some ⟨gm,0,none⟩) M M) M (Z1 qm)
 eq:∀ j<k,(qm[j]?).map Prod.fst=(pm[j]?).map Prod.fst
 old:∀ j p,qm[j]?=some p→j<k→wr.ownsRow (W.heap.size+1+1+1) 91 7 p.2 p.1.n p.1.xs
 below:Bw W wr
def hm0:HM×Value:=(⟨⟨#[]⟩,⟨#[]⟩,0,0,0,0,[]⟩,.slice none 0 0)
theorem Zle (M:Nat):(madeCells (Value.agg #[.string ⟨#[]⟩,.string ⟨#[]⟩,.int .i64 0,.int .i64 0,.int .i64 0,.slice none 0 0]).cells (M * 6)).toList=Z1 (List.replicate M hm0):=by
 refine List.ext_getElem? fun j=>?_
 by_cases hj:j<M * 6
 ·have hq:j / 6<M:=by omega
  have h:=Zz (List.replicate M hm0) (j / 6) hm0 (by simp [hq]) (j % 6) (Nat.mod_lt _ (by decide))
  rw [show j / 6 * 6+j % 6=j by omega] at h
  rw [h]
  have e:∀ r,r<6→(hmC hm0)[r]?=some ((Value.agg #[.string ⟨#[]⟩,.string ⟨#[]⟩,.int .i64 0,.int .i64 0,.int .i64 0,.slice none 0 0]).cells[r]!):=fun r hr=>by
   match r,hr with
   | 0,_=>rfl
   | 1,_=>rfl
   | 2,_=>rfl
   | 3,_=>rfl
   | 4,_=>rfl
   | 5,_=>rfl
  rw [e _ (Nat.mod_lt _ (by decide))]
  simp [madeCells,hj]
  rfl
 ·rw [List.getElem?_eq_none (by simp [size_madeCells];omega),List.getElem?_eq_none (by rw [Xq];simp;omega)]
theorem Zls (l:List (HM×Value)) (k:Nat) (m:HM) (u:Value) (hk:k<l.length):((((((Z1 l).set (k * 6) (.string m.nm)).set (k * 6+1) (.string m.ds)).set (k * 6+2) (.int .i64 m.fl)).set (k * 6+3) (.int .i64 m.lo)).set (k * 6+4) (.int .i64 m.st)).set (k * 6+5) u=Z1 (l.set k (m,u)):=by
 induction l generalizing k with
 | nil=>simp at hk
 | cons t ts ih =>
   have e:∀ a b,Z1 (a::b)=hmC a++Z1 b:=fun a b=>by simp [Z1]
   cases k with
   | zero=>rw [List.set_cons_zero,e,e];simp [hmC]
   | succ k =>
     rw [List.set_cons_succ,e,e,← ih k (by simpa using hk)]
     have hs:∀ (r:Nat) (v:Value) (L:List Value),(hmC t++L).set ((k+1) * 6+r) v=hmC t++L.set (k * 6+r) v:=fun r v L=>by
      rw [List.set_append_right _ _ (by simp [hmC];omega)]
      congr 2
      simp [hmC];omega
     have h0:=hs 0
     simp only [Nat.add_zero] at h0
     rw [h0,hs 1,hs 2,hs 3,hs 4,hs 5]
theorem CpR.put {W wr:World} {nm su:ByteArray} {fl ld:Int} {ai0 am0 ai:Option Addr} {ni ci0 capi M cm0 g:Nat} {xi:List Value} {pm qm:List (HM×Value)} {k:Nat} (h:CpR W wr nm su fl ld ai0 am0 ai ni ci0 capi M cm0 g xi pm qm k) (hk:k<M) (m:HM) (u:Value) :
 CpR W ((((((wr.setCell ⟨g,k * 6,none⟩ (.string m.nm)).setCell ⟨g,k * 6+1,none⟩ (.string m.ds)).setCell ⟨g,k * 6+2,none⟩ (.int .i64 m.fl)).setCell ⟨g,k * 6+3,none⟩ (.int .i64 m.lo)).setCell ⟨g,k * 6+4,none⟩ (.int .i64 m.st)).setCell ⟨g,k * 6+5,none⟩ u).drew nm su fl ld ai0 am0 ai ni ci0 capi M cm0 g xi pm (qm.set k (m,u)) k:=by
 obtain ⟨hgN,hglt⟩:=h.ms.lt g rfl
 obtain ⟨cur,hcur⟩:=Zbq h.ms
 obtain ⟨s0,_⟩:=h.ms.stored (k * 6) (.string m.nm)
 obtain ⟨s1,_⟩:=s0.stored (k * 6+1) (.string m.ds)
 obtain ⟨s2,_⟩:=s1.stored (k * 6+2) (.int .i64 m.fl)
 obtain ⟨s3,_⟩:=s2.stored (k * 6+3) (.int .i64 m.lo)
 obtain ⟨s4,_⟩:=s3.stored (k * 6+4) (.int .i64 m.st)
 obtain ⟨s5,_⟩:=s4.stored (k * 6+5) u
 rw [Zls qm k m u (by rw [h.len];exact hk)] at s5
 have G:wr.grownBy ((((((wr.setCell ⟨g,k * 6,none⟩ (.string m.nm)).setCell ⟨g,k * 6+1,none⟩ (.string m.ds)).setCell ⟨g,k * 6+2,none⟩ (.int .i64 m.fl)).setCell ⟨g,k * 6+3,none⟩ (.int .i64 m.lo)).setCell ⟨g,k * 6+4,none⟩ (.int .i64 m.st)).setCell ⟨g,k * 6+5,none⟩ u) (some g) :=
  (Z0 _ g _ _).trans ((Z0 _ g _ _).trans ((Z0 _ g _ _).trans ((Z0 _ g _ _).trans ((Z0 _ g _ _).trans (Z0 _ g _ _)))))
 generalize ((((((wr.setCell ⟨g,k * 6,none⟩ (.string m.nm)).setCell ⟨g,k * 6+1,none⟩ (.string m.ds)).setCell ⟨g,k * 6+2,none⟩ (.int .i64 m.fl)).setCell ⟨g,k * 6+3,none⟩ (.int .i64 m.lo)).setCell ⟨g,k * 6+4,none⟩ (.int .i64 m.st)).setCell ⟨g,k * 6+5,none⟩ u)=w6 at *
 have B6:Bw W w6:=h.below.grown G h.below.size (fun k hk=>by cases hk;omega)
 refine ⟨(G.block _ (Array.getElem?_eq_some_iff.1 h.bc).1 (by simp;omega)).trans h.bc,(G.block _ (Array.getElem?_eq_some_iff.1 h.br).1 (by simp;omega)).trans h.br,(G.block _ (Array.getElem?_eq_some_iff.1 h.bd).1 (by simp;omega)).trans h.bd,(h.ifs.kept G (Zq h.ifs hcur (by decide))).drew,by rw [List.length_set];exact h.len,s5.drew,?_,?_,B6.drew⟩
 ·intro j hj
  rw [List.getElem?_set_ne (by omega)]
  exact h.eq j hj
 ·intro j p hj hjk
  rw [List.getElem?_set_ne (by omega)] at hj
  have:=h.old j p hj hjk
  exact (this.kept G (Zq this hcur (by decide))).drew
theorem CpR.next {W wr w5:World} {nm su:ByteArray} {fl ld:Int} {ai0 am0 ai:Option Addr} {ni ci0 capi M cm0 g:Nat} {xi:List Value} {pm qm:List (HM×Value)} {k:Nat} {m:HM} {u u0 v':Value} (h:CpR W wr nm su fl ld ai0 am0 ai ni ci0 capi M cm0 g xi pm qm k) (hq:qm[k]?=some (m,u)) (hp:pm[k]?=some (m,u0)) (hb:Bw wr w5) (ho:w5.ownsRow (W.heap.size+1+1+1) 91 7 v' m.n m.xs) :
 CpR W (w5.setCell ⟨g,k * 6+5,none⟩ v') nm su fl ld ai0 am0 ai ni ci0 capi M cm0 g xi pm (qm.set k (m,v')) (k+1):=by
 have hms:=Zb h.ms hb
 obtain ⟨hgN,hglt⟩:=hms.lt g rfl
 obtain ⟨cur,hcur⟩:=Zbq hms
 obtain ⟨s5,G⟩:=hms.stored (k * 6+5) v'
 rw [Zf3 qm k m u v' hq] at s5
 have hif:=Zb h.ifs hb
 have hkq:k<qm.length:=(List.getElem?_eq_some_iff.1 hq).1
 refine ⟨(G.block _ (Nat.lt_of_lt_of_le (Array.getElem?_eq_some_iff.1 h.bc).1 hb.size) (by simp;omega)).trans ((hb.block _ (Array.getElem?_eq_some_iff.1 h.bc).1).trans h.bc),(G.block _ (Nat.lt_of_lt_of_le (Array.getElem?_eq_some_iff.1 h.br).1 hb.size) (by simp;omega)).trans ((hb.block _ (Array.getElem?_eq_some_iff.1 h.br).1).trans h.br),(G.block _ (Nat.lt_of_lt_of_le (Array.getElem?_eq_some_iff.1 h.bd).1 hb.size) (by simp;omega)).trans ((hb.block _ (Array.getElem?_eq_some_iff.1 h.bd).1).trans h.bd),(hif.kept G (Zq hif hcur (by decide))),by rw [List.length_set];exact h.len,s5,?_,?_,((h.below.trans (hb.mono h.below.size)).grown G (Nat.le_trans h.below.size hb.size) (fun k hk=>by cases hk;omega))⟩
 ·intro j hj
  by_cases e:j=k
  ·subst e
   rw [List.getElem?_set_self hkq,hp];rfl
  ·rw [List.getElem?_set_ne (fun e2=>e e2.symm)]
   exact h.eq j (by omega)
 ·intro j p hj hjk
  by_cases e:j=k
  ·subst e
   rw [List.getElem?_set_self hkq] at hj
   cases hj
   exact (ho.kept G (Zq ho hcur (by decide)))
  ·rw [List.getElem?_set_ne (fun e2=>e e2.symm)] at hj
   have:=Zb (h.old j p hj (by omega)) hb
   exact (this.kept G (Zq this hcur (by decide)))
theorem Zkt (nm su:ByteArray) (fl ld:Int) (vi vm:Value) (ni:Nat) (xi:List Value) (pm:List (HM×Value)) (W:World) (hi:Rdw W vi ni 1 xi) (hi1:∀ u∈xi,u.oneCell'=true) (hni:ni≤8796093022208)
 (hm:Rdw W vm pm.length 6 (Z1 pm)) (hnm:pm.length≤1759218604390) (hc:∀ p∈pm,Rdw W p.2 p.1.n 7 p.1.xs∧(∀ u∈p.1.xs,u.oneCell'=true)∧p.1.n≤1599289640354) :
 Calls Tryz.prog 99 #[.agg #[.string nm,.string su,vi,.int .i64 fl,.int .i64 ld,vm]] W fun e w'=>∃ vi' vm' qm,e=.returned (.agg #[.string nm,.string su,vi',.int .i64 fl,.int .i64 ld,vm'])∧OwnC w' W.heap.size vi' ni xi vm' qm∧qm.map Prod.fst=pm.map Prod.fst∧Bw W w':=by
 obtain ⟨ai0,ci0,rfl⟩:=hi.slice
 obtain ⟨am0,cm0,rfl⟩:=hm.slice
 obtain ⟨i0,hi0,hz0,hz1,hz2⟩:=info_parts Tryz.hinfo9
 have HI:Hid (Rdw W (.slice ai0 ni ci0) ni 1 xi):=hi
 have HM':Hid (Rdw W (.slice am0 pm.length cm0) pm.length 6 (Z1 pm)):=hm
 have HC:Hid (∀ p∈pm,Rdw W p.2 p.1.n 7 p.1.xs∧(∀ u∈p.1.xs,u.oneCell'=true)∧p.1.n≤1599289640354):=hc
 have HI1:Hid (∀ u∈xi,u.oneCell'=true):=hi1
 obtain ⟨M,hM⟩:∃ M,pm.length=M:=⟨_,rfl⟩
 have HML:Hid (pm.length=M):=hM
 rw [hM] at hnm ⊢
 clear hi hm hc hM hi1
 go_enter Tryz.func99,Tryz.ntmps99
 go_wp2_with (at_builtin;refine Y3 rfl _ _ 70 rfl (W.heap.size+1+1+1) 9 i0 (.string ⟨#[]⟩) 1 16 Tryz.underlying70 hi0 hz0 hz1 hz2 rfl (by decide) (.slice (some ⟨W.heap.size+1+1+1,0,none⟩) 0 0) 0 [] rfl (Zbz _ _ (by simp) _ _ _ (by simp)) (.slice ai0 ni ci0) ni xi rfl (HI.out.keep sqR) HI1.out ?c1 ?c2 ?c3 ?_)
 case c1=>unfold maxLen;omega
 case c2=>omega
 case c3=>simp
 intro v' w1 hown hgrow
 obtain ⟨ai,capi,rfl⟩:=ownv hown
 have sz1:=hgrow.size
 simp only [World.size_alloc] at sz1
 have ob:∀ j,j<W.heap.size+1+1+1→some j≠(Value.slice (some ⟨W.heap.size+1+1+1,0,none⟩) 0 0).ownBlock:=fun j hj=>by simp [Value.ownBlock];omega
 have hbc:w1.heap[W.heap.size]?=some (.cells #[.string nm,.string su,.slice ai0 ni ci0,.int .i64 fl,.int .i64 ld,.slice am0 M cm0] 73 (0,0)):=by
  rw [hgrow.block _ (by simp;try omega) (ob _ (by omega))]
  exact (Below.heap_alloc _ _ _ (by simp;try omega)).trans ((Below.heap_alloc _ _ _ (by simp;try omega)).trans (heap_alloc2_old W _ _))
 have hbr:w1.heap[W.heap.size+1]?=some (.cells #[.string ⟨#[]⟩,.string ⟨#[]⟩,.slice none 0 0,.int .i64 0,.int .i64 0,.slice none 0 0] 73 (0,0)):=by
  rw [hgrow.block _ (by simp;try omega) (ob _ (by omega))]
  exact (Below.heap_alloc _ _ _ (by simp;try omega)).trans ((Below.heap_alloc _ _ _ (by simp)).trans (heap_alloc2_new W _ _))
 have hbd:w1.heap[W.heap.size+1+1]?=some (.cells #[.string nm,.string su,.slice ai0 ni ci0,.int .i64 fl,.int .i64 ld,.slice am0 M cm0] 73 (0,0)):=by
  rw [hgrow.block _ (by simp) (ob _ (by omega))]
  refine (Below.heap_alloc _ _ _ (by simp)).trans ?_
  have:=Zm ((W.alloc (.cells #[.string nm,.string su,.slice ai0 ni ci0,.int .i64 fl,.int .i64 ld,.slice am0 M cm0] 73)).alloc (.cells #[.string ⟨#[]⟩,.string ⟨#[]⟩,.slice none 0 0,.int .i64 0,.int .i64 0,.slice none 0 0] 73)) (.cells #[.string nm,.string su,.slice ai0 ni ci0,.int .i64 fl,.int .i64 ld,.slice am0 M cm0] 73)
  simpa using this
 have B1:Hid (Bw W w1):=by
  refine Below.grown (w:=_) ?_ hgrow (by simp;try omega) (fun k hk=>by simp [Value.ownBlock] at hk;omega)
  exact sqR
 have O1:Hid (w1.ownsRow (W.heap.size+1+1+1) 9 1 (.slice ai ni capi) ni xi):=hown
 have hc5:=cell_of_row w1 W.heap.size 5 _ _ _ hbc
 have d0:=cell_of_row w1 (W.heap.size+1+1) 0 _ _ _ hbd
 have e0:=frozen_of_row w1 (W.heap.size+1+1) 0 _ _ hbd
 have d1:=cell_of_row w1 (W.heap.size+1+1) 1 _ _ _ hbd
 have e1:=frozen_of_row w1 (W.heap.size+1+1) 1 _ _ hbd
 have d2:=cell_of_row w1 (W.heap.size+1+1) 2 _ _ _ hbd
 have e2:=frozen_of_row w1 (W.heap.size+1+1) 2 _ _ hbd
 have d3:=cell_of_row w1 (W.heap.size+1+1) 3 _ _ _ hbd
 have e3:=frozen_of_row w1 (W.heap.size+1+1) 3 _ _ hbd
 have d4:=cell_of_row w1 (W.heap.size+1+1) 4 _ _ _ hbd
 have e4:=frozen_of_row w1 (W.heap.size+1+1) 4 _ _ hbd
 have d5:=cell_of_row w1 (W.heap.size+1+1) 5 _ _ _ hbd
 have e5:=frozen_of_row w1 (W.heap.size+1+1) 5 _ _ hbd
 simp only [List.getElem?_toArray,List.getElem?_cons_zero,List.getElem?_cons_succ] at hc5 d0 d1 d2 d3 d4 d5
 have HBC:Hid _:=hbc
 have HBR:Hid _:=hbr
 have HBD:Hid _:=hbd
 clear hown hgrow ob hbc hbr hbd HI HI1
 obtain ⟨iM,hiM,hzM,hsM,hbM⟩:=info_parts Tryz.hinfo58
 have hmk:∀ w:World,(Instr.makeSlice 71 (.int .i64 (M:Int)) (.int .i64 (M:Int))).run Tryz.prog w=.ok (.slice (some ⟨w.heap.size,0,none⟩) M M) (w.alloc (.cells (madeCells (Value.agg #[.string ⟨#[]⟩,.string ⟨#[]⟩,.int .i64 0,.int .i64 0,.int .i64 0,.slice none 0 0]).cells (M * 6)) 87)):=fun w=>by
  have:=run_make w (P:=Tryz.prog) 71 87 iM _ Tryz.underlying71 hiM hzM .i64 .i64 (M:Int) (M:Int) (by omega) (Int.le_refl _) (by rw [hbM];omega) (by omega)
  rw [hsM,Int.toNat_natCast] at this
  exact this
 have hn2:¬ W.heap.size+1+1=w1.heap.size:=by omega
 have hl2:W.heap.size+1+1<w1.heap.size:=by omega
 have hn0:¬ W.heap.size=w1.heap.size:=by omega
 have hz:=Zle M
 have HZ:Hid _:=hz
 generalize madeCells (Value.agg #[.string ⟨#[]⟩,.string ⟨#[]⟩,.int .i64 0,.int .i64 0,.int .i64 0,.slice none 0 0]).cells (M * 6)=ZC at *
 have hl1:W.heap.size+1<w1.heap.size:=by omega
 have hl0:W.heap.size<w1.heap.size:=by omega
 have HR0:Hid (CpR W (((w1.setCell ⟨W.heap.size+1+1,2,none⟩ (.slice ai ni capi)).setCell ⟨W.heap.size+1+1,5,none⟩ (.slice (some ⟨w1.heap.size,0,none⟩) M M)).alloc (.cells ZC 87)) nm su fl ld ai0 am0 ai ni ci0 capi M cm0 w1.heap.size xi pm (List.replicate M hm0) 0):=by
  have hne0:W.heap.size≠W.heap.size+1+1:=by omega
  have hne1:W.heap.size+1≠W.heap.size+1+1:=by omega
  have hd1:=heap_setCell_same w1 (W.heap.size+1+1) 2 _ 73 (.slice ai ni capi) HBD.out
  have hd2:=heap_setCell_same _ (W.heap.size+1+1) 5 _ 73 (.slice (some ⟨w1.heap.size,0,none⟩) M M) hd1
  have szs:((w1.setCell ⟨W.heap.size+1+1,2,none⟩ (.slice ai ni capi)).setCell ⟨W.heap.size+1+1,5,none⟩ (.slice (some ⟨w1.heap.size,0,none⟩) M M)).heap.size=w1.heap.size:=by simp
  refine ⟨?_,?_,?_,?_,by simp,?_,fun j hj=>absurd hj (Nat.not_lt_zero _),fun j p _ hj=>absurd hj (Nat.not_lt_zero _),?_⟩
  ·exact (Below.heap_alloc _ _ _ (by rw [szs];exact hl0)).trans ((heap_setCell_other _ _ _ _ hne0).trans ((heap_setCell_other _ _ _ _ hne0).trans HBC.out))
  ·exact (Below.heap_alloc _ _ _ (by rw [szs];exact hl1)).trans ((heap_setCell_other _ _ _ _ hne1).trans ((heap_setCell_other _ _ _ _ hne1).trans HBR.out))
  ·exact (Below.heap_alloc _ _ _ (by rw [szs];exact hl2)).trans (hd2.trans rfl)
  ·exact (ownsRow_setCell_below (a:=⟨W.heap.size+1+1,5,none⟩) (ownsRow_setCell_below (a:=⟨W.heap.size+1+1,2,none⟩) O1.out (by simp) _) (by simp) _).alloc _
  ·have h:=World.ownsRow_lit (base:=W.heap.size+1+1+1) (e:=87) (size:=6) ((w1.setCell ⟨W.heap.size+1+1,2,none⟩ (.slice ai ni capi)).setCell ⟨W.heap.size+1+1,5,none⟩ (.slice (some ⟨w1.heap.size,0,none⟩) M M)) ZC M (by rw [szs];omega) (by unfold maxLen;omega) (by have:=congrArg List.length HZ.out;rw [Xq] at this;simpa using this)
   rw [szs,HZ.out] at h
   exact h
  ·exact (((B1.out.setCell (p:=⟨W.heap.size+1+1,2,none⟩) (show W.heap.size≤W.heap.size+1+1 by omega) _).setCell (p:=⟨W.heap.size+1+1,5,none⟩) (show W.heap.size≤W.heap.size+1+1 by omega) _).alloc (by rw [szs];omega) _)
 go_wp2
 clear d0 d1 d2 d3 d4 d5 e0 e1 e2 e3 e4 e5 HBC HBR HBD O1 hc5 hmk HZ hz
 go_loopw [4] (fun kv wr=>∃ (k:Nat) (qm:List (HM×Value)),kv=.int .i64 k∧k≤M∧Hid (CpR W wr nm su fl ld ai0 am0 ai ni ci0 capi M cm0 w1.heap.size xi pm qm k)) (fun kv _=>M - (intOf kv).toNat)
 case atStart=>exact ⟨0,_,rfl,Nat.zero_le _,HR0⟩
 case round =>
  obtain ⟨k,qm,rfl,hk,hR⟩:=hrel
  clear HR0
  have c5:=cell_of_row wr W.heap.size 5 _ _ _ hR.out.bc
  have d5:=cell_of_row wr (W.heap.size+1+1) 5 _ _ _ hR.out.bd
  simp only [List.getElem?_toArray,List.getElem?_cons_zero,List.getElem?_cons_succ] at c5 d5
  generalize w1.heap.size=g at *
  by_cases hlt:k<M
  ·obtain ⟨⟨m,u⟩,hku⟩:∃ p,pm[k]?=some p:=⟨_,List.getElem?_eq_getElem (by rw [HML.out];exact hlt)⟩
   have hmem:=List.mem_of_getElem? hku
   obtain ⟨hcr,hc1,hcn⟩:=HC.out _ hmem
   simp only at hcr hc1 hcn
   obtain ⟨ua,uc,hu⟩:=hcr.slice
   subst hu
   obtain ⟨bk,o,rfl,hbk,hcell⟩:∃ bk o,am0=some ⟨bk,o,none⟩∧bk<W.heap.size∧∀ j,j<6→W.cell? ⟨bk,o+k * 6+j,none⟩=(hmC (m,.slice ua m.n uc))[j]?:=by
    rcases HM'.out with h|⟨e,_⟩
    ·rcases h.val with ⟨_,e⟩|⟨bk,o,cap,e,_,_,h3,h4⟩
     ·rw [HML.out] at e;omega
     ·simp only [Value.slice.injEq] at e
      refine ⟨bk,o,e.1,h3,fun j hj=>?_⟩
      have:=Zz pm k _ hku j hj
      have hs:∃ z,(hmC (m,.slice ua m.n uc))[j]?=some z:=⟨_,List.getElem?_eq_getElem (by simp [hmC];omega)⟩
      obtain ⟨z,hz⟩:=hs
      rw [hz,Nat.add_assoc]
      exact h4 _ z (this.trans hz)
    ·rw [HML.out] at e;omega
   have q0:wr.cell? ⟨bk,o+k * 6,none⟩=some (.string m.nm):=(hR.out.below.cell (p:=⟨bk,o+k * 6,none⟩) hbk).trans (hcell 0 (by omega))
   have q1:wr.cell? ⟨bk,o+k * 6+1,none⟩=some (.string m.ds):=(hR.out.below.cell (p:=⟨bk,o+k * 6+1,none⟩) hbk).trans (hcell 1 (by omega))
   have q2:wr.cell? ⟨bk,o+k * 6+2,none⟩=some (.int .i64 m.fl):=(hR.out.below.cell (p:=⟨bk,o+k * 6+2,none⟩) hbk).trans (hcell 2 (by omega))
   have q3:wr.cell? ⟨bk,o+k * 6+3,none⟩=some (.int .i64 m.lo):=(hR.out.below.cell (p:=⟨bk,o+k * 6+3,none⟩) hbk).trans (hcell 3 (by omega))
   have q4:wr.cell? ⟨bk,o+k * 6+4,none⟩=some (.int .i64 m.st):=(hR.out.below.cell (p:=⟨bk,o+k * 6+4,none⟩) hbk).trans (hcell 4 (by omega))
   have q5:wr.cell? ⟨bk,o+k * 6+5,none⟩=some (.slice ua m.n uc):=(hR.out.below.cell (p:=⟨bk,o+k * 6+5,none⟩) hbk).trans (hcell 5 (by omega))
   obtain ⟨hgN,hglt⟩:=hR.out.ms.lt g rfl
   obtain ⟨⟨m',u'⟩,hqk⟩:∃ p,qm[k]?=some p:=⟨_,List.getElem?_eq_getElem (by rw [hR.out.len];exact hlt)⟩
   have hat:=fun j hj=>(hR.out.ms.cellAt (k * 6+j) (by omega)).trans (Zz qm k _ hqk j hj)
   have t0:wr.cell? ⟨g,k * 6,none⟩=some (.string m'.nm):=hat 0 (by omega)
   have t1:wr.cell? ⟨g,k * 6+1,none⟩=some (.string m'.ds):=hat 1 (by omega)
   have t2:wr.cell? ⟨g,k * 6+2,none⟩=some (.int .i64 m'.fl):=hat 2 (by omega)
   have t3:wr.cell? ⟨g,k * 6+3,none⟩=some (.int .i64 m'.lo):=hat 3 (by omega)
   have t4:wr.cell? ⟨g,k * 6+4,none⟩=some (.int .i64 m'.st):=hat 4 (by omega)
   have t5:wr.cell? ⟨g,k * 6+5,none⟩=some u':=hat 5 (by omega)
   have f0:=hR.out.ms.frozenAt (k * 6)
   have f1:=hR.out.ms.frozenAt (k * 6+1)
   have f2:=hR.out.ms.frozenAt (k * 6+2)
   have f3:=hR.out.ms.frozenAt (k * 6+3)
   have f4:=hR.out.ms.frozenAt (k * 6+4)
   have f5:=hR.out.ms.frozenAt (k * 6+5)
   have hkI:(k:Int)<(M:Int):=by omega
   have hnc:¬ W.heap.size=g:=by omega
   have hnd:¬ W.heap.size+1+1=g:=by omega
   have hnb:¬ bk=g:=by have:=hbk;omega
   clear hcell hat hmem
   go_wp2
   go_region
   have hR2:=hR.out.put hlt m (.slice ua m.n uc)
   generalize ((((((wr.setCell ⟨g,k * 6,none⟩ (.string m.nm)).setCell ⟨g,k * 6+1,none⟩ (.string m.ds)).setCell ⟨g,k * 6+2,none⟩ (.int .i64 m.fl)).setCell ⟨g,k * 6+3,none⟩ (.int .i64 m.lo)).setCell ⟨g,k * 6+4,none⟩ (.int .i64 m.st)).setCell ⟨g,k * 6+5,none⟩ (.slice ua m.n uc)).drew=W2 at *
   have HR2:Hid (CpR W W2 nm su fl ld ai0 (some ⟨bk,o,none⟩) ai ni ci0 capi M cm0 g xi pm (qm.set k (m,.slice ua m.n uc)) k):=hR2
   have hq2:(qm.set k (m,Value.slice ua m.n uc))[k]?=some (m,.slice ua m.n uc):=List.getElem?_set_self (by rw [hR.out.len];exact hlt)
   have c5':=cell_of_row W2 W.heap.size 5 _ _ _ hR2.bc
   have d5':=cell_of_row W2 (W.heap.size+1+1) 5 _ _ _ hR2.bd
   simp only [List.getElem?_toArray,List.getElem?_cons_zero,List.getElem?_cons_succ] at c5' d5'
   have q5':W2.cell? ⟨bk,o+k * 6+5,none⟩=some (.slice ua m.n uc):=(hR2.below.cell (p:=⟨bk,o+k * 6+5,none⟩) hbk).trans ((hR.out.below.cell (p:=⟨bk,o+k * 6+5,none⟩) hbk).symm.trans q5)
   obtain ⟨hgN2,hglt2⟩:=hR2.ms.lt g rfl
   have HQ2:Hid ((qm.set k (m,Value.slice ua m.n uc))[k]?=some (m,.slice ua m.n uc)):=hq2
   have hb2:W.heap.size+1+1+1≤W2.heap.size:=by omega
   have hbk2:bk<W2.heap.size:=by omega
   have hld2:W.heap.size+1+1<W2.heap.size:=by omega
   have hlc2:W.heap.size<W2.heap.size:=by omega
   obtain ⟨iI,hiI,hzI,hsI,hbI⟩:=info_parts Tryz.hinfo81
   have HCR:Hid (∀ w:World,Bw W2 w→Rdw w (.slice ua m.n uc) m.n 7 m.xs):=fun w hb=>hcr.keep (Za HR2.out.below hb)
   have HC1:Hid (∀ u∈m.xs,u.oneCell'=true):=hc1
   have HKU:Hid (pm[k]?=some (m,.slice ua m.n uc)):=hku
   clear hq2 hR2 q0 q1 q2 q3 q4 q5 t0 t1 t2 t3 t4 t5 f0 f1 f2 f3 f4 f5 c5 d5 hqk hcr hc1 hku hR HM'
   go_wp2
   go_region_law
    (first
     | (refine Zbo rfl (.tmp 35) (.tmp 41) 85 rfl (W.heap.size+1+1+1) 91 iI _ 7 _ Tryz.underlying85 hiI hzI hsI hbI rfl (by decide) (.slice (some ⟨W2.heap.size,0,none⟩) 0 0) 0 [] (by simp [Act.eval]) ((Zbz W2 _ rfl _ _ _ hb2).drew) (.slice ua m.n uc) m.n m.xs (by simp [Act.eval]) (HCR.out _ ((Below.refl _ W2).alloc (Nat.le_refl _) _).drew) HC1.out (by unfold maxLen;omega) (by omega) (by simp;omega) ?_;intro v' w5 hown hgrow;obtain ⟨ac,cc,rfl⟩:=ownv hown;simp only [Nat.zero_add,List.nil_append] at hown ⊢;have B5:Hid (Bw W2 w5):=(Below.grown (w:=_) ((Below.refl _ W2).alloc (Nat.le_refl _) _).drew hgrow (by simp) (fun k hk=>by simp [Value.ownBlock] at hk;omega));have O5:Hid (w5.ownsRow (W.heap.size+1+1+1) 91 7 (.slice ac m.n cc) m.n m.xs):=hown;have y5:w5.cell? ⟨W.heap.size+1+1,5,none⟩=some (.slice (some ⟨g,0,none⟩) M M):=(B5.out.cell (p:=⟨W.heap.size+1+1,5,none⟩) hld2).trans d5';have x5:w5.cell? ⟨g,k * 6+5,none⟩=some (.slice ua m.n uc):=(B5.out.cell (p:=⟨g,k * 6+5,none⟩) hglt2).trans ((HR2.out.ms.cellAt (k * 6+5) (by omega)).trans (Zz _ k _ HQ2.out 5 (by omega)));have z5:w5.frozen? ⟨g,k * 6+5,none⟩=false:=(Zb HR2.out.ms B5.out).frozenAt (k * 6+5);clear hown hgrow))
   all_goals
    go_wp2
    go_roundw
    case rel=>exact ⟨k+1,_,by go_num,by omega,HR2.out.next HQ2.out HKU.out B5.out O5.out⟩
    case measure=>simp [intOf];omega
  ·have h1:=hR.out.br
   have h2:=hR.out.bd
   have d0:=cell_of_row wr (W.heap.size+1) 0 _ _ _ h1
   have e0:=frozen_of_row wr (W.heap.size+1) 0 _ _ h1
   have g0:=cell_of_row wr (W.heap.size+1+1) 0 _ _ _ h2
   have d1:=cell_of_row wr (W.heap.size+1) 1 _ _ _ h1
   have e1:=frozen_of_row wr (W.heap.size+1) 1 _ _ h1
   have g1:=cell_of_row wr (W.heap.size+1+1) 1 _ _ _ h2
   have d2:=cell_of_row wr (W.heap.size+1) 2 _ _ _ h1
   have e2:=frozen_of_row wr (W.heap.size+1) 2 _ _ h1
   have g2:=cell_of_row wr (W.heap.size+1+1) 2 _ _ _ h2
   have d3:=cell_of_row wr (W.heap.size+1) 3 _ _ _ h1
   have e3:=frozen_of_row wr (W.heap.size+1) 3 _ _ h1
   have g3:=cell_of_row wr (W.heap.size+1+1) 3 _ _ _ h2
   have d4:=cell_of_row wr (W.heap.size+1) 4 _ _ _ h1
   have e4:=frozen_of_row wr (W.heap.size+1) 4 _ _ h1
   have g4:=cell_of_row wr (W.heap.size+1+1) 4 _ _ _ h2
   have d5:=cell_of_row wr (W.heap.size+1) 5 _ _ _ h1
   have e5:=frozen_of_row wr (W.heap.size+1) 5 _ _ h1
   have g5:=cell_of_row wr (W.heap.size+1+1) 5 _ _ _ h2
   simp only [List.getElem?_toArray,List.getElem?_cons_zero,List.getElem?_cons_succ] at d0 d1 d2 d3 d4 d5 g0 g1 g2 g3 g4 g5
   have hkk:¬ (k:Int)<(M:Int):=by omega
   have hne:¬ W.heap.size+1+1=W.heap.size+1:=by omega
   have hkM:k=M:=by omega
   clear h1 h2
   go_wp2
   have hR6:=hR.out
   refine bodyPost_ret (v:=.agg #[.string nm,.string su,.slice ai ni capi,.int .i64 fl,.int .i64 ld,.slice (some ⟨g,0,none⟩) M M]) (by simp [results,Tryz.results99,go_sem, *]) rfl ⟨_,_,rfl,qm,⟨?_,?_,?_⟩,?_,?_⟩
   ·refine Go.Joins.ownsRow_le (base:=W.heap.size+1+1+1) ?_ (by omega)
    repeat (refine ownsRow_setCell_below ?_ (by simp) _)
    exact hR6.ifs
   ·refine Go.Joins.ownsRow_le (base:=W.heap.size+1+1+1) ?_ (by omega)
    repeat (refine ownsRow_setCell_below ?_ (by simp) _)
    rw [hR6.len]
    exact hR6.ms
   ·intro p hp
    obtain ⟨j,hj⟩:=List.getElem?_of_mem hp
    have hjl:=(List.getElem?_eq_some_iff.1 hj).1
    rw [hR6.len] at hjl
    refine Go.Joins.ownsRow_le (base:=W.heap.size+1+1+1) ?_ (by omega)
    repeat (refine ownsRow_setCell_below ?_ (by simp) _)
    exact hR6.old j p hj (by omega)
   ·refine List.ext_getElem? fun j=>?_
    rw [List.getElem?_map,List.getElem?_map]
    by_cases hj:j<M
    ·exact hR6.eq j (by omega)
    ·rw [List.getElem?_eq_none (by rw [hR6.len];omega),List.getElem?_eq_none (by rw [HML.out];omega)]
   ·repeat (refine Below.setCell ?_ (by simp) _)
    exact hR6.below
theorem Zdt {U w5:World} {N e s:Nat} {v:Value} {n:Nat} {xs:List Value} {N' e' s':Nat} {v':Value} {n':Nat} {xs':List Value} (h:U.ownsRow N e s v n xs) (hr:U.ownsRow N' e' s' v' n' xs') (hg:U.grownBy w5 v'.ownBlock) (hne:e≠e'):w5.ownsRow N e s v n xs:=by
 rcases hr.2 with ⟨rfl,_⟩|⟨g,cap,cur,rfl,_,hc,_⟩
 ·exact h.kept hg (by cases v.ownBlock <;> simp [Value.ownBlock])
 ·exact h.kept hg (Zq h hc hne)
theorem Zdu {w:World} {N e s:Nat} {v:Value} {n:Nat} {xs:List Value} (h:w.ownsRow N e s v n xs) {b:Nat} {cs:Array Value} {t:TypeId} (hb:w.heap[b]?=some (.cells cs t (0,0))) (hne:e≠t) (u:Value):(w.setCell ⟨b,0,none⟩ u).ownsRow N e s v n xs :=
 h.kept (Z0 w b 0 u) (Zq h hb hne)
theorem RW.add {w U w5:World} {N b:Nat} {v v':Value} {rs:List CR} {r:CR} (h:RW w N b v rs) (hr:CrO w N r) (hst:Bw w U) (hg:U.grownBy w5 v.ownBlock) (ho:w5.ownsRow N 73 6 v' (rs.length+1) (Zas rs++crC r)) :
 w5.heap[b]?=some (.cells #[v] 110 (0,0))∧RW (w5.setCell ⟨b,0,none⟩ v') N b v' (rs++[r]):=by
 have hU:=h.below hst
 have hrU:=hr.below hst
 have hbne:some b≠v.ownBlock:=by
  rcases Zq hU.row hU.hb (by decide) with e|e
  ·rw [e];simp
  ·exact fun e2=>e e2.symm
 have hb5:w5.heap[b]?=some (.cells #[v] 110 (0,0)):=(hg.block b (Array.getElem?_eq_some_iff.1 hU.hb).1 hbne).trans hU.hb
 have cr:∀ q,CrO U N q→CrO (w5.setCell ⟨b,0,none⟩ v') N q:=by
  rintro q ⟨qm,h1,h2⟩
  refine ⟨qm,h1,?_,?_,fun p hp=>?_⟩
  ·exact Zdu (Zdt h2.ifs hU.row hg (by decide)) hb5 (by decide) _
  ·exact Zdu (Zdt h2.ms hU.row hg (by decide)) hb5 (by decide) _
  ·exact Zdu (Zdt (h2.cod p hp) hU.row hg (by decide)) hb5 (by decide) _
 refine ⟨hb5,heap_setCell_same w5 b 0 _ _ v' hb5,?_,?_,h.lb⟩
 ·have e1:(rs++[r]).length=rs.length+1:=by simp
  have e2:Zas (rs++[r])=Zas rs++crC r:=by simp [Zas]
  rw [e1,e2]
  exact Zdu ho hb5 (by decide) _
 ·intro q hq
  rcases List.mem_append.1 hq with hq|hq
  ·exact cr q (hU.own q hq)
  ·rw [List.mem_singleton] at hq
   subst hq
   exact cr _ hrU
theorem row_blk {w:World} {N e s:Nat} {v:Value} {n:Nat} {xs:List Value} (h:w.ownsRow N e s v n xs) {j:Nat} {o:Obj} (hj:w.heap[j]?=some o) (hno:∀ cs,o≠.cells cs e (0,0)):some j≠v.ownBlock:=by
 intro e1
 rcases h.2 with ⟨rfl,_⟩|⟨g,cap,cur,rfl,_,hc,_⟩
 ·simp [Value.ownBlock] at e1
 ·simp [Value.ownBlock] at e1
  subst e1
  rw [hj] at hc
  exact hno _ (Option.some.inj hc)
theorem RW.frame {w U w5:World} {N b:Nat} {v v':Value} {rs:List CR} (h:RW w N b v rs) (hst:Bw w U) (hg:U.grownBy w5 v.ownBlock) (j:Nat) (o:Obj) (hj:w.heap[j]?=some o) (hjb:j≠b) (hno:∀ cs,o≠.cells cs 73 (0,0)):(w5.setCell ⟨b,0,none⟩ v').heap[j]?=some o:=by
 have hl:j<w.heap.size:=(Array.getElem?_eq_some_iff.1 hj).1
 have hU:=h.below hst
 have h1:U.heap[j]?=some o:=(hst.block j hl).trans hj
 have h2:w5.heap[j]?=some o:=(hg.block j (Array.getElem?_eq_some_iff.1 h1).1 (row_blk hU.row h1 hno)).trans h1
 exact ((Z0 w5 b 0 v').block j (Array.getElem?_eq_some_iff.1 h2).1 (by simpa using hjb)).trans h2
theorem copy_cr {w w1:World} {N:Nat} {c:Cls} {pm qm:List (HM×Value)} {vi' vm':Value} (hpm:pm.map Prod.fst=(hcOf c).ms) (hN:N≤w.heap.size) (ho:OwnC w1 w.heap.size vi' c.ifs.length (Qe c.ifs) vm' qm) (hq:qm.map Prod.fst=pm.map Prod.fst):CrO w1 N ⟨c,vi',vm'⟩ :=
 ⟨qm,hq.trans hpm,Go.Joins.ownsRow_le ho.ifs hN,Go.Joins.ownsRow_le ho.ms hN,fun p hp=>Go.Joins.ownsRow_le (ho.cod p hp) hN⟩
end Go.Proofs.YtmafkabjjibcbaaGreat
