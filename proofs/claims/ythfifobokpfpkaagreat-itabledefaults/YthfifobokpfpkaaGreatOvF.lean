import Derived.Test.YthfifobokpfpkaaGreatOvE
import Derived.Test.YthfifobokpfpkaaGreatOvP
import Derived.Test.YthfifobokpfpkaaGreatAcE
import Derived.Test.YthfifobokpfpkaaGreatHrZ
import Derived.Lib.SmallJoins
import Derived.Deep.DeepCutAuto
import Derived.Deep.AppendLies
set_option maxRecDepth 100000
namespace Go.Proofs.YthfifobokpfpkaaGreat
open Go.RowKit Go.Maps
theorem st2 {w:World} {n:Nat} {t:TypeId} {a0 a1:Value} (h:w.heap[n]?=some (.cells #[a0,a1] t (0,0))) (v0 v1:Value):((w.setCell ⟨n,0,none⟩ v0).setCell ⟨n,1,none⟩ v1).heap[n]?=some (.cells #[v0,v1] t (0,0)):=by
  have h0:=Go.Joins.block_setCell (i:=0) h v0
  have h1:=Go.Joins.block_setCell (i:=1) h0 v1
  exact h1.trans (by simp)
def uppI (ps:List Plc) (nm ds:ByteArray):List Nat→(Int×Int)×Bool
  | []=>((0,0),false)
  | i::r=>if (fndI ps (i:Int) nm ds).2=0∧hasS ps (i:Int) (fndI ps (i:Int) nm ds).1 8=false then (((i:Int),(fndI ps (i:Int) nm ds).1),true) else uppI ps nm ds r
theorem uppI_at {ps:List Plc} {nm ds:ByteArray} {l:List Nat} {j i:Nat} (h:l[j]?=some i):uppI ps nm ds (l.drop j)=if (fndI ps (i:Int) nm ds).2=0∧hasS ps (i:Int) (fndI ps (i:Int) nm ds).1 8=false then (((i:Int),(fndI ps (i:Int) nm ds).1),true) else uppI ps nm ds (l.drop (j+1)):=by
  obtain ⟨h1,h2⟩:=List.getElem?_eq_some_iff.1 h
  rw [List.drop_eq_getElem_cons h1,h2,uppI]
set_option maxHeartbeats 1000000 in
theorem upp_no {b:Nat} {ps:List Plc} {W:World} (h:WAt b ps W) (c:Int) (hc:plcI ps c=none) (nm ds:ByteArray) (fl lo st:Int) (sa:Option Addr) (sk so:Nat):Calls Tryz.prog 136 #[.pointer (some ⟨b,0,none⟩),.int .i64 c,.agg #[.string nm,.string ds,.int .i64 fl,.int .i64 lo,.int .i64 st,.slice sa sk so]] W fun e w'=>e=.returned (idB ((0,0),false))∧Below W.heap.size W w':=by
  have HC:Hid (∀ w,Below W.heap.size W w→Calls Tryz.prog 21 #[.pointer (some ⟨b,0,none⟩),.int .i64 c] w fun e w'=>e=.returned (.tuple #[.slice none 0 0,.int .i64 3])∧Below w.heap.size w w'):=fun w hb=>chain_no (h.below hb) c hc
  clear h hc
  go_enter Tryz.func136,Tryz.ntmps136
  go_wp2
  go_step3
  go_wp2_with (go_at_call 21;refine (HC.out _ (by repeat (first|exact Below.refl _ _|refine Below.setCell ?_ (by simp;try omega) _|refine Below.alloc ?_ (by simp;try omega) _|refine Below.drew ?_))).mono ?_;rintro e w1 ⟨rfl,hb⟩;have yd:w1.heap[W.heap.size]?=some (.cells #[.string nm,.string ds,.int .i64 fl,.int .i64 lo,.int .i64 st,.slice sa sk so] 30 (0,0)):=(hb.block (W.heap.size) (by first|omega|(simp;try omega))).trans (hkeep (halloc1 _ _));(try clear yB y0 y1 y2 y3 y4 y5 yf yL yN);have yB:Hid _:=yd;obtain ⟨y0,y1,y2,y3,y4,y5,yf,yL⟩:=rw6 yd;have yN:¬ W.heap.size=w1.heap.size:=(by omega);clear yd;have zd:w1.heap[W.heap.size+1]?=some (.cells #[.int .i64 0,.int .i64 0] 24 (0,0)):=(hb.block (W.heap.size+1) (by first|omega|(simp;try omega))).trans (halloc2 _ _ (by simp));(try clear zB z0 z1 zf zL zN);have zB:Hid _:=zd;obtain ⟨z0,z1,zf,zL⟩:=rw2 zd;have zN:¬ W.heap.size+1=w1.heap.size:=(by omega);clear zd;have B1:Hid (Below W.heap.size W w1):=bstep (by repeat (first|exact Below.refl _ _|refine Below.setCell ?_ (by simp;try omega) _|refine Below.alloc ?_ (by simp;try omega) _|refine Below.drew ?_)) hb;clear hb HC)
  try rw [Exit.noGoto_ret]
  exact bodyPost_ret (v:=idB ((0,0),false)) (by simp [results,Tryz.results136,go_sem,idB, *]) rfl ⟨rfl,(by repeat (first|refine Below.setCell ?_ (by simp;try omega) _|refine Below.alloc ?_ (by have:=B1.out.size;simp;try omega) _|refine Below.drew ?_|exact B1.out))⟩
set_option maxHeartbeats 4000000 in
theorem upp_yes {b:Nat} {ps:List Plc} {W:World} (h:WAt b ps W) (hi:WI ps) (k:Nat) (q:Plc) (hq:ps[k]?=some q) (nm ds:ByteArray) (fl lo st:Int) (sa:Option Addr) (sk so:Nat):Calls Tryz.prog 136 #[.pointer (some ⟨b,0,none⟩),.int .i64 (k:Int),.agg #[.string nm,.string ds,.int .i64 fl,.int .i64 lo,.int .i64 st,.slice sa sk so]] W fun e w'=>e=.returned (idB (uppI ps nm ds (chL (ps.map nd) k)))∧Below W.heap.size W w':=by
  have HW0:Hid (WAt b ps W):=h
  have HPB:Hid (∀ q∈ps,PlcB q):=hi.pb
  have hKb:=chL_len hi (List.getElem?_eq_some_iff.1 hq).1
  have HC:Hid (∀ w,Below W.heap.size W w→Calls Tryz.prog 21 #[.pointer (some ⟨b,0,none⟩),.int .i64 (k:Int)] w fun e w'=>∃ v,e=.returned (.tuple #[v,.int .i64 0])∧w'.ownsRow w.heap.size 3 1 v (chL (ps.map nd) k).length ((chL (ps.map nd) k).map numV)∧Below w.heap.size w w'):=fun w hb=>by
    obtain ⟨N,mb,vp,pv,h⟩:=h.below hb
    exact chain_yes N b mb ps vp pv k (List.getElem?_eq_some_iff.1 hq).1 hi.wo hi.hi w h
  generalize chL (ps.map nd) k=l at *
  obtain ⟨R,hR⟩:∃ R,uppI ps nm ds l=R:=⟨_,rfl⟩
  have HR:Hid (uppI ps nm ds l=R):=hR
  rw [hR]
  obtain ⟨K,hK⟩:∃ K,l.length=K:=⟨_,rfl⟩
  have HK:Hid (l.length=K):=hK
  rw [hK] at hKb HC
  clear h hi hq hR hK
  go_enter Tryz.func136,Tryz.ntmps136
  go_wp2
  go_step3
  go_wp2_with (first
    | (go_at_call 21;refine (HC.out _ (by repeat (first|exact Below.refl _ _|refine Below.setCell ?_ (by simp;try omega) _|refine Below.alloc ?_ (by simp;try omega) _|refine Below.drew ?_))).mono ?_;rintro e w1 ⟨v,rfl,ho,hb⟩;obtain ⟨ca,cc,rfl⟩:=ownv ho;have yd:w1.heap[W.heap.size]?=some (.cells #[.string nm,.string ds,.int .i64 fl,.int .i64 lo,.int .i64 st,.slice sa sk so] 30 (0,0)):=(hb.block (W.heap.size) (by first|omega|(simp;try omega))).trans (hkeep (halloc1 _ _));(try clear yB y0 y1 y2 y3 y4 y5 yf yL yN);have yB:Hid _:=yd;obtain ⟨y0,y1,y2,y3,y4,y5,yf,yL⟩:=rw6 yd;have yN:¬ W.heap.size=w1.heap.size:=(by omega);clear yd;have zd:w1.heap[W.heap.size+1]?=some (.cells #[.int .i64 0,.int .i64 0] 24 (0,0)):=(hb.block (W.heap.size+1) (by first|omega|(simp;try omega))).trans (halloc2 _ _ (by simp));(try clear zB z0 z1 zf zL zN);have zB:Hid _:=zd;obtain ⟨z0,z1,zf,zL⟩:=rw2 zd;have zN:¬ W.heap.size+1=w1.heap.size:=(by omega);clear zd;have hz1:W.heap.size+1<w1.heap.size:=zL;have O1:Hid (w1.ownsRow W.heap.size 3 1 (.slice ca K cc) K (l.map numV)):=Go.Joins.ownsRow_le ho (by simp;try omega);have B1:Hid (Below W.heap.size W w1):=bstep (by repeat (first|exact Below.refl _ _|refine Below.setCell ?_ (by simp;try omega) _|refine Below.alloc ?_ (by simp;try omega) _|refine Below.drew ?_)) hb;have HW1:Hid (WAt b ps w1):=HW0.out.below B1.out;clear ho hb HC))
  go_step3
  go_wp2
  go_loopw [7,25] (fun tv kv wr=>∃ (j:Nat),tv=.bool false∧kv=.int .i64 j∧j≤K∧Hid (uppI ps nm ds (l.drop j)=R)∧Hid (Below w1.heap.size w1 wr)) (fun _ kv _=>K - (intOf kv).toNat)
  case atStart=>exact ⟨0,rfl,rfl,Nat.zero_le _,HR,Below.refl _ _⟩
  case round =>
    obtain ⟨j,rfl,rfl,hj,hU,hB⟩:=hrel
    have hb:=hB.out
    have yd:wr.heap[W.heap.size]?=some (.cells #[.string nm,.string ds,.int .i64 fl,.int .i64 lo,.int .i64 st,.slice sa sk so] 30 (0,0)):=(hb.block (W.heap.size) (by first|omega|(simp;try omega))).trans (yB.out);(try clear yB y0 y1 y2 y3 y4 y5 yf yL yN);have yB:Hid _:=yd;obtain ⟨y0,y1,y2,y3,y4,y5,yf,yL⟩:=rw6 yd;have yN:¬ W.heap.size=wr.heap.size:=(by omega);clear yd;have zd:wr.heap[W.heap.size+1]?=some (.cells #[.int .i64 0,.int .i64 0] 24 (0,0)):=(hb.block (W.heap.size+1) (by first|omega|(simp;try omega))).trans (zB.out);(try clear zB z0 z1 zf zL zN);have zB:Hid _:=zd;obtain ⟨z0,z1,zf,zL⟩:=rw2 zd;have zN:¬ W.heap.size+1=wr.heap.size:=(by omega);clear zd
    clear hb
    by_cases hlt:j<K
    · have hjl:j<l.length:=by rw [HK.out];exact hlt
      obtain ⟨i,hi⟩:∃ i,l[j]?=some i:=⟨_,List.getElem?_eq_getElem hjl⟩
      obtain ⟨g,c2,hform⟩:=Go.Joins.ownsRow_form O1.out (by omega)
      have hce:w1.cell? ⟨g,j,none⟩=some (.int .i64 (i:Int)):=by
        have hrow:=O1.out
        rw [hform] at hrow
        rw [hrow.cellAt j (by omega),List.getElem?_map,hi];rfl
      injection hform with hca _ hcc
      subst hca hcc
      have hgl:g<w1.heap.size:=World.block_lt_of_cell? w1 _ hce
      have hcr:=(hB.out.cell (p:=⟨g,j,none⟩) hgl).trans hce
      have HF:Hid (Calls Tryz.prog 182 #[.pointer (some ⟨b,0,none⟩),.int .i64 (i:Int),.agg #[.string nm,.string ds,.int .i64 fl,.int .i64 lo,.int .i64 st,.slice sa sk so]] wr fun e w'=>e=.returned (idB (owB ps nm ds i))∧Below wr.heap.size wr w'):=chO_c (HW1.out.below hB.out) HPB.out i nm ds fl lo st sa sk so
      have HS:Hid (∀ w,Below w1.heap.size w1 w→Calls Tryz.prog 137 #[.pointer (some ⟨b,0,none⟩),.agg #[.int .i64 (i:Int),.int .i64 (fndI ps (i:Int) nm ds).1],.int .i64 8] w fun e w'=>e=.returned (.bool (hasS ps i (fndI ps (i:Int) nm ds).1 8))∧Below w.heap.size w w'):=fun w hb=>chS_c (HW1.out.below hb) HPB.out i _ 8
      have hst:=uppI_at (ps:=ps) (nm:=nm) (ds:=ds) hi
      rw [hU.out] at hst
      have HST:Hid _:=hst
      unfold owB at HF
      generalize fndI ps (i:Int) nm ds=Fd at *
      obtain ⟨F1,F2⟩:=Fd
      simp only [idB] at HF HST HS
      generalize hasS ps (i:Int) F1 8=S at *
      clear hce hi hjl hst hU
      by_cases hF:F2=0
      · subst hF
        simp only [if_true] at HF
        cases S
        case false =>
          have eR:R=(((i:Int),F1),true):=by rw [HST.out,if_pos ⟨rfl,rfl⟩]
          subst eR
          clear HST HR
          go_wp2_with (first
            | (go_at_call 182;refine HF.out.mono ?_;rintro e w2 ⟨rfl,hb⟩;have yd:w2.heap[W.heap.size]?=some (.cells #[.string nm,.string ds,.int .i64 fl,.int .i64 lo,.int .i64 st,.slice sa sk so] 30 (0,0)):=(hb.block (W.heap.size) (by first|omega|(simp;try omega))).trans (yB.out);(try clear yB y0 y1 y2 y3 y4 y5 yf yL yN);have yB:Hid _:=yd;obtain ⟨y0,y1,y2,y3,y4,y5,yf,yL⟩:=rw6 yd;have yN:¬ W.heap.size=w2.heap.size:=(by omega);clear yd;have zd:w2.heap[W.heap.size+1]?=some (.cells #[.int .i64 0,.int .i64 0] 24 (0,0)):=(hb.block (W.heap.size+1) (by first|omega|(simp;try omega))).trans (zB.out);(try clear zB z0 z1 zf zL zN);have zB:Hid _:=zd;obtain ⟨z0,z1,zf,zL⟩:=rw2 zd;have zN:¬ W.heap.size+1=w2.heap.size:=(by omega);clear zd;have B2:Hid (Below w1.heap.size w1 w2):=bstep hB.out hb;clear hb HF)
            | (go_at_call 137;refine (HS.out _ (B2.out.alloc B2.out.size _)).mono ?_;rintro e w3 ⟨rfl,hb⟩;have yd:w3.heap[W.heap.size]?=some (.cells #[.string nm,.string ds,.int .i64 fl,.int .i64 lo,.int .i64 st,.slice sa sk so] 30 (0,0)):=(hb.block (W.heap.size) (by first|omega|(simp;try omega))).trans (hkeep yB.out);(try clear yB y0 y1 y2 y3 y4 y5 yf yL yN);have yB:Hid _:=yd;obtain ⟨y0,y1,y2,y3,y4,y5,yf,yL⟩:=rw6 yd;have yN:¬ W.heap.size=w3.heap.size:=(by omega);clear yd;have zd:w3.heap[W.heap.size+1]?=some (.cells #[.int .i64 0,.int .i64 0] 24 (0,0)):=(hb.block (W.heap.size+1) (by first|omega|(simp;try omega))).trans (hkeep zB.out);(try clear zB z0 z1 zf zL zN);have zB:Hid _:=zd;obtain ⟨z0,z1,zf,zL⟩:=rw2 zd;have zN:¬ W.heap.size+1=w3.heap.size:=(by omega);clear zd;have ud:w3.heap[w2.heap.size]?=some (.cells #[.int .i64 (i:Int),.int .i64 F1] 24 (0,0)):=(hb.block (w2.heap.size) (by first|omega|(simp;try omega))).trans (halloc1 _ _);(try clear uB u0 u1 uf uL uN);have uB:Hid _:=ud;obtain ⟨u0,u1,uf,uL⟩:=rw2 ud;have uN:¬ w2.heap.size=w3.heap.size:=(by omega);clear ud;have B3:Hid (Below w1.heap.size w1 w3):=bstep (B2.out.alloc B2.out.size _) hb;clear hb HS))
          have B4:Hid (Below W.heap.size W w3):=B1.out.trans (B3.out.mono B1.out.size)
          have hu2:¬ w2.heap.size=W.heap.size+1:=by have h1:=B1.out.size;have h2:=B2.out.size;have h3:=hz1;omega
          obtain ⟨k0,k1,kf,kL⟩:=rw2 (st2 (st2 zB.out (.int .i64 (i:Int)) (.int .i64 F1)) (.int .i64 (i:Int)) (.int .i64 F1))
          try rw [Exit.noGoto_ret]
          exact bodyPost_ret (v:=idB (((i:Int),F1),true)) (by simp [results,Tryz.results136,go_sem,idB, *]) rfl ⟨rfl,(by repeat (first|refine Below.setCell ?_ (by simp;try omega) _|refine Below.alloc ?_ (by have:=B4.out.size;simp;try omega) _|refine Below.drew ?_|exact B4.out))⟩
        case true =>
          have HU2:Hid (uppI ps nm ds (l.drop (j+1))=R):=by rw [Hid,HST.out,if_neg (by simp)]
          clear HST
          go_wp2_with (first
            | (go_at_call 182;refine HF.out.mono ?_;rintro e w2 ⟨rfl,hb⟩;have yd:w2.heap[W.heap.size]?=some (.cells #[.string nm,.string ds,.int .i64 fl,.int .i64 lo,.int .i64 st,.slice sa sk so] 30 (0,0)):=(hb.block (W.heap.size) (by first|omega|(simp;try omega))).trans (yB.out);(try clear yB y0 y1 y2 y3 y4 y5 yf yL yN);have yB:Hid _:=yd;obtain ⟨y0,y1,y2,y3,y4,y5,yf,yL⟩:=rw6 yd;have yN:¬ W.heap.size=w2.heap.size:=(by omega);clear yd;have zd:w2.heap[W.heap.size+1]?=some (.cells #[.int .i64 0,.int .i64 0] 24 (0,0)):=(hb.block (W.heap.size+1) (by first|omega|(simp;try omega))).trans (zB.out);(try clear zB z0 z1 zf zL zN);have zB:Hid _:=zd;obtain ⟨z0,z1,zf,zL⟩:=rw2 zd;have zN:¬ W.heap.size+1=w2.heap.size:=(by omega);clear zd;have B2:Hid (Below w1.heap.size w1 w2):=bstep hB.out hb;clear hb HF)
            | (go_at_call 137;refine (HS.out _ (B2.out.alloc B2.out.size _)).mono ?_;rintro e w3 ⟨rfl,hb⟩;have yd:w3.heap[W.heap.size]?=some (.cells #[.string nm,.string ds,.int .i64 fl,.int .i64 lo,.int .i64 st,.slice sa sk so] 30 (0,0)):=(hb.block (W.heap.size) (by first|omega|(simp;try omega))).trans (hkeep yB.out);(try clear yB y0 y1 y2 y3 y4 y5 yf yL yN);have yB:Hid _:=yd;obtain ⟨y0,y1,y2,y3,y4,y5,yf,yL⟩:=rw6 yd;have yN:¬ W.heap.size=w3.heap.size:=(by omega);clear yd;have zd:w3.heap[W.heap.size+1]?=some (.cells #[.int .i64 0,.int .i64 0] 24 (0,0)):=(hb.block (W.heap.size+1) (by first|omega|(simp;try omega))).trans (hkeep zB.out);(try clear zB z0 z1 zf zL zN);have zB:Hid _:=zd;obtain ⟨z0,z1,zf,zL⟩:=rw2 zd;have zN:¬ W.heap.size+1=w3.heap.size:=(by omega);clear zd;have ud:w3.heap[w2.heap.size]?=some (.cells #[.int .i64 (i:Int),.int .i64 F1] 24 (0,0)):=(hb.block (w2.heap.size) (by first|omega|(simp;try omega))).trans (halloc1 _ _);(try clear uB u0 u1 uf uL uN);have uB:Hid _:=ud;obtain ⟨u0,u1,uf,uL⟩:=rw2 ud;have uN:¬ w2.heap.size=w3.heap.size:=(by omega);clear ud;have B3:Hid (Below w1.heap.size w1 w3):=bstep (B2.out.alloc B2.out.size _) hb;clear hb HS))
          go_roundw
          case rel=>exact ⟨j+1,rfl,by go_num,by omega,HU2,B3⟩
          case measure=>simp [intOf];omega
      · have HU2:Hid (uppI ps nm ds (l.drop (j+1))=R):=by rw [Hid,HST.out,if_neg (fun h=>hF h.1)]
        rw [if_neg hF] at HF
        clear HST HS
        go_wp2_with (first
          | (go_at_call 182;refine HF.out.mono ?_;rintro e w2 ⟨rfl,hb⟩;have yd:w2.heap[W.heap.size]?=some (.cells #[.string nm,.string ds,.int .i64 fl,.int .i64 lo,.int .i64 st,.slice sa sk so] 30 (0,0)):=(hb.block (W.heap.size) (by first|omega|(simp;try omega))).trans (yB.out);(try clear yB y0 y1 y2 y3 y4 y5 yf yL yN);have yB:Hid _:=yd;obtain ⟨y0,y1,y2,y3,y4,y5,yf,yL⟩:=rw6 yd;have yN:¬ W.heap.size=w2.heap.size:=(by omega);clear yd;have zd:w2.heap[W.heap.size+1]?=some (.cells #[.int .i64 0,.int .i64 0] 24 (0,0)):=(hb.block (W.heap.size+1) (by first|omega|(simp;try omega))).trans (zB.out);(try clear zB z0 z1 zf zL zN);have zB:Hid _:=zd;obtain ⟨z0,z1,zf,zL⟩:=rw2 zd;have zN:¬ W.heap.size+1=w2.heap.size:=(by omega);clear zd;have B2:Hid (Below w1.heap.size w1 w2):=bstep hB.out hb;clear hb HF))
        go_roundw
        case rel=>exact ⟨j+1,rfl,by go_num,by omega,HU2,B2.out.alloc B2.out.size _⟩
        case measure=>simp [intOf];omega
    · have e:j=K:=by omega
      subst e
      have eR:R=((0,0),false):=by rw [← hU.out,List.drop_of_length_le (by rw [HK.out];exact Nat.le_refl _)];rfl
      subst eR
      clear hU HR
      have B4:Hid (Below W.heap.size W wr):=B1.out.trans (hB.out.mono B1.out.size)
      go_wp2
      try rw [Exit.noGoto_ret]
      exact bodyPost_ret (v:=idB ((0,0),false)) (by simp [results,Tryz.results136,go_sem,idB, *]) rfl ⟨rfl,(by repeat (first|refine Below.setCell ?_ (by simp;try omega) _|refine Below.alloc ?_ (by have:=B4.out.size;simp;try omega) _|refine Below.drew ?_|exact B4.out))⟩
def uchI (ps:List Plc) (nm ds:ByteArray) (c:Int):(Int×Int)×Bool:=match plcI ps c with
  | some _=>uppI ps nm ds (chL (ps.map nd) c.toNat)
  | none=>((0,0),false)
theorem uch_c {b:Nat} {ps:List Plc} {W:World} (h:WAt b ps W) (hi:WI ps) (c:Int) (nm ds:ByteArray) (fl lo st:Int) (sa:Option Addr) (sk so:Nat):Calls Tryz.prog 136 #[.pointer (some ⟨b,0,none⟩),.int .i64 c,.agg #[.string nm,.string ds,.int .i64 fl,.int .i64 lo,.int .i64 st,.slice sa sk so]] W fun e w'=>e=.returned (idB (uchI ps nm ds c))∧Below W.heap.size W w':=by
  rcases plcI_cases ps c with ⟨h1,_⟩|⟨k,q,rfl,h2,h1⟩
  · have e:uchI ps nm ds c=((0,0),false):=by rw [uchI,h1]
    rw [e];exact upp_no h c h1 nm ds fl lo st sa sk so
  · have e:uchI ps nm ds (k:Int)=uppI ps nm ds (chL (ps.map nd) k):=by rw [uchI,h1];rfl
    rw [e];exact upp_yes h hi k q h2 nm ds fl lo st sa sk so
def rdV (b:Nat) (c i:Int):Option HM→Ending→Prop
  | none,e=>e=.returned (.tuple #[.agg #[.string ⟨#[]⟩,.string ⟨#[]⟩,.int .i64 0,.int .i64 0,.int .i64 0,.slice none 0 0,.int .i64 0,.int .i64 0,.pointer none],.int .i64 3])
  | some m,e=>∃ a k o,e=.returned (.tuple #[.agg #[.string m.nm,.string m.ds,.int .i64 m.fl,.int .i64 m.lo,.int .i64 m.st,.slice a k o,.int .i64 c,.int .i64 i,.pointer (some ⟨b,0,none⟩)],.int .i64 0])
set_option maxHeartbeats 1000000 in
theorem read_no {b:Nat} {ps:List Plc} {W:World} (h:WAt b ps W) (hi:WI ps) (c i:Int) (hm:methI ps c i=none):Calls Tryz.prog 83 #[.pointer (some ⟨b,0,none⟩),.agg #[.int .i64 c,.int .i64 i]] W fun e w'=>rdV b c i none e∧Below W.heap.size W w':=by
  have HM:Hid (∀ w,Below W.heap.size W w→Calls Tryz.prog 17 #[.pointer (some ⟨b,0,none⟩),.agg #[.int .i64 c,.int .i64 i]] w fun e w'=>e=.returned noM∧Below w.heap.size w w'):=fun w hb=>by
    have:=method_c (h.below hb) hi.pb c i
    rw [hm] at this
    exact this
  simp only [noM] at HM
  clear h hi hm
  have BB:Hid (Below W.heap.size W W):=Below.refl _ _
  go_enter Tryz.func83,Tryz.ntmps83
  go_upto_region 5 with (first
    | (go_at_call 17;refine (HM.out _ (by repeat (first|exact Below.refl _ _|refine Below.setCell ?_ (by simp;try omega) _|refine Below.alloc ?_ (by simp;try omega) _|refine Below.drew ?_))).mono ?_;rintro e w1 ⟨rfl,hb⟩;have rd:w1.heap[W.heap.size+1]?=some (.cells #[.string ⟨#[]⟩,.string ⟨#[]⟩,.int .i64 0,.int .i64 0,.int .i64 0,.slice none 0 0,.int .i64 0,.int .i64 0,.pointer none] 119 (0,0)):=(hb.block (W.heap.size+1) (by first|omega|(simp;try omega))).trans (by first|exact rB.out|exact hkeep rB.out|exact hkeep (hkeep rB.out)|exact halloc2 _ _ rfl|exact heap_alloc2_old _ _ _|exact heap_alloc2_new _ _ _|exact hkeep (halloc2 _ _ rfl)|exact hkeep (hkeep (halloc2 _ _ rfl))|exact halloc2 _ _ (by simp;done));(try clear rB rL rN r0 r1 r2 r3 r4 r5 r6 r7 r8 rf0 rf1 rf2 rf3 rf4 rf5 rf6 rf7 rf8);have rB:Hid (w1.heap[W.heap.size+1]?=some (.cells #[.string ⟨#[]⟩,.string ⟨#[]⟩,.int .i64 0,.int .i64 0,.int .i64 0,.slice none 0 0,.int .i64 0,.int .i64 0,.pointer none] 119 (0,0))):=rd;have r0:w1.cell? ⟨W.heap.size+1,0,none⟩=some (.string ⟨#[]⟩):=(cell_of_row w1 (W.heap.size+1) 0 _ _ _ rd).trans rfl;have rf0:=frozen_of_row w1 (W.heap.size+1) 0 _ _ rd;have r1:w1.cell? ⟨W.heap.size+1,1,none⟩=some (.string ⟨#[]⟩):=(cell_of_row w1 (W.heap.size+1) 1 _ _ _ rd).trans rfl;have rf1:=frozen_of_row w1 (W.heap.size+1) 1 _ _ rd;have r2:w1.cell? ⟨W.heap.size+1,2,none⟩=some (.int .i64 0):=(cell_of_row w1 (W.heap.size+1) 2 _ _ _ rd).trans rfl;have rf2:=frozen_of_row w1 (W.heap.size+1) 2 _ _ rd;have r3:w1.cell? ⟨W.heap.size+1,3,none⟩=some (.int .i64 0):=(cell_of_row w1 (W.heap.size+1) 3 _ _ _ rd).trans rfl;have rf3:=frozen_of_row w1 (W.heap.size+1) 3 _ _ rd;have r4:w1.cell? ⟨W.heap.size+1,4,none⟩=some (.int .i64 0):=(cell_of_row w1 (W.heap.size+1) 4 _ _ _ rd).trans rfl;have rf4:=frozen_of_row w1 (W.heap.size+1) 4 _ _ rd;have r5:w1.cell? ⟨W.heap.size+1,5,none⟩=some (.slice none 0 0):=(cell_of_row w1 (W.heap.size+1) 5 _ _ _ rd).trans rfl;have rf5:=frozen_of_row w1 (W.heap.size+1) 5 _ _ rd;have r6:w1.cell? ⟨W.heap.size+1,6,none⟩=some (.int .i64 0):=(cell_of_row w1 (W.heap.size+1) 6 _ _ _ rd).trans rfl;have rf6:=frozen_of_row w1 (W.heap.size+1) 6 _ _ rd;have r7:w1.cell? ⟨W.heap.size+1,7,none⟩=some (.int .i64 0):=(cell_of_row w1 (W.heap.size+1) 7 _ _ _ rd).trans rfl;have rf7:=frozen_of_row w1 (W.heap.size+1) 7 _ _ rd;have r8:w1.cell? ⟨W.heap.size+1,8,none⟩=some (.pointer none):=(cell_of_row w1 (W.heap.size+1) 8 _ _ _ rd).trans rfl;have rf8:=frozen_of_row w1 (W.heap.size+1) 8 _ _ rd;have rL:W.heap.size+1<w1.heap.size:=(Array.getElem?_eq_some_iff.1 rd).1;have rN:¬ W.heap.size+1=w1.heap.size:=(by omega);clear rd;have BB2:Below W.heap.size W w1:=bstep (by repeat (first|exact Below.refl _ _|refine Below.setCell ?_ (by simp;try omega) _|refine Below.alloc ?_ (by simp;try omega) _|refine Below.drew ?_)) hb;clear BB;have BB:Hid (Below W.heap.size W w1):=BB2;clear BB2 hb;clear HM))
  obtain ⟨Wm,hWm⟩:∃ x,x=w1.alloc (.cells #[.string ⟨#[]⟩,.string ⟨#[]⟩,.int .i64 0,.int .i64 0,.int .i64 0,.slice none 0 0] 30):=⟨_,rfl⟩
  have BM:Hid (Below W.heap.size W Wm):=by rw [hWm];exact BB.out.alloc BB.out.size _
  have hd0:Wm.heap[W.heap.size+1]?=some (.cells #[.string ⟨#[]⟩,.string ⟨#[]⟩,.int .i64 0,.int .i64 0,.int .i64 0,.slice none 0 0,.int .i64 0,.int .i64 0,.pointer none] 119 (0,0)):=by rw [hWm];exact hkeep rB.out
  have p0:=cell_of_row Wm (W.heap.size+1) 0 _ _ _ hd0
  have pf0:=frozen_of_row Wm (W.heap.size+1) 0 _ _ hd0
  have p1:=cell_of_row Wm (W.heap.size+1) 1 _ _ _ hd0
  have pf1:=frozen_of_row Wm (W.heap.size+1) 1 _ _ hd0
  have p2:=cell_of_row Wm (W.heap.size+1) 2 _ _ _ hd0
  have pf2:=frozen_of_row Wm (W.heap.size+1) 2 _ _ hd0
  have p3:=cell_of_row Wm (W.heap.size+1) 3 _ _ _ hd0
  have pf3:=frozen_of_row Wm (W.heap.size+1) 3 _ _ hd0
  have p4:=cell_of_row Wm (W.heap.size+1) 4 _ _ _ hd0
  have pf4:=frozen_of_row Wm (W.heap.size+1) 4 _ _ hd0
  have p5:=cell_of_row Wm (W.heap.size+1) 5 _ _ _ hd0
  have pf5:=frozen_of_row Wm (W.heap.size+1) 5 _ _ hd0
  have p6:=cell_of_row Wm (W.heap.size+1) 6 _ _ _ hd0
  have pf6:=frozen_of_row Wm (W.heap.size+1) 6 _ _ hd0
  have p7:=cell_of_row Wm (W.heap.size+1) 7 _ _ _ hd0
  have pf7:=frozen_of_row Wm (W.heap.size+1) 7 _ _ hd0
  have p8:=cell_of_row Wm (W.heap.size+1) 8 _ _ _ hd0
  have pf8:=frozen_of_row Wm (W.heap.size+1) 8 _ _ hd0
  rw [← hWm]
  simp at p0 p1 p2 p3 p4 p5 p6 p7 p8
  clear hWm hd0  BB rB r0 r1 r2 r3 r4 r5 r6 r7 r8 rf0 rf1 rf2 rf3 rf4 rf5 rf6 rf7 rf8 rL rN
  go_wp2
  exact bodyPost_ret (v:=.tuple #[.agg #[.string ⟨#[]⟩,.string ⟨#[]⟩,.int .i64 0,.int .i64 0,.int .i64 0,.slice none 0 0,.int .i64 0,.int .i64 0,.pointer none],.int .i64 3]) (by simp [results,Tryz.results83,go_sem, *]) rfl ⟨rfl,(by repeat (first|refine Below.setCell ?_ (by simp;try omega) _|refine Below.alloc ?_ (by have:=BM.out.size;simp;try omega) _|refine Below.drew ?_|exact BM.out))⟩
set_option maxHeartbeats 1000000 in
theorem read_yes {b:Nat} {ps:List Plc} {W:World} (h:WAt b ps W) (hi:WI ps) (c i:Int) (m:HM) (hm:methI ps c i=some m):Calls Tryz.prog 83 #[.pointer (some ⟨b,0,none⟩),.agg #[.int .i64 c,.int .i64 i]] W fun e w'=>rdV b c i (some m) e∧Below W.heap.size W w':=by
  have HM:Hid (∀ w,Below W.heap.size W w→Calls Tryz.prog 17 #[.pointer (some ⟨b,0,none⟩),.agg #[.int .i64 c,.int .i64 i]] w fun e w'=>(∃ xa xk xo,e=.returned (.tuple #[.agg #[.string m.nm,.string m.ds,.int .i64 m.fl,.int .i64 m.lo,.int .i64 m.st,.slice xa xk xo],.int .i64 0]))∧Below w.heap.size w w'):=fun w hb=>by
    have:=method_c (h.below hb) hi.pb c i
    rw [hm] at this
    refine this.mono fun e w' zz=>⟨?_,zz.2⟩
    obtain ⟨vv,rfl,hown⟩:=zz.1
    obtain ⟨a1,c1,rfl⟩:=ownv hown
    exact ⟨a1,_,c1,rfl⟩
  clear h hi hm
  have BB:Hid (Below W.heap.size W W):=Below.refl _ _
  go_enter Tryz.func83,Tryz.ntmps83
  go_upto_region 6 with (first
    | (go_at_call 17;refine (HM.out _ (by repeat (first|exact Below.refl _ _|refine Below.setCell ?_ (by simp;try omega) _|refine Below.alloc ?_ (by simp;try omega) _|refine Below.drew ?_))).mono ?_;rintro e w1 ⟨⟨xa,xk,xo,rfl⟩,hb⟩;have ud:w1.heap[W.heap.size]?=some (.cells #[.int .i64 c,.int .i64 i] 24 (0,0)):=(hb.block (W.heap.size) (by first|omega|(simp;try omega))).trans (by first|exact uB.out|exact hkeep uB.out|exact hkeep (hkeep uB.out)|exact halloc2 _ _ rfl|exact heap_alloc2_old _ _ _|exact heap_alloc2_new _ _ _|exact hkeep (halloc2 _ _ rfl)|exact hkeep (hkeep (halloc2 _ _ rfl))|exact halloc2 _ _ (by simp;done));(try clear uB uL uN u0 u1 uf0 uf1);have uB:Hid (w1.heap[W.heap.size]?=some (.cells #[.int .i64 c,.int .i64 i] 24 (0,0))):=ud;have u0:w1.cell? ⟨W.heap.size,0,none⟩=some (.int .i64 c):=(cell_of_row w1 (W.heap.size) 0 _ _ _ ud).trans rfl;have uf0:=frozen_of_row w1 (W.heap.size) 0 _ _ ud;have u1:w1.cell? ⟨W.heap.size,1,none⟩=some (.int .i64 i):=(cell_of_row w1 (W.heap.size) 1 _ _ _ ud).trans rfl;have uf1:=frozen_of_row w1 (W.heap.size) 1 _ _ ud;have uL:W.heap.size<w1.heap.size:=(Array.getElem?_eq_some_iff.1 ud).1;have uN:¬ W.heap.size=w1.heap.size:=(by omega);clear ud;have rd:w1.heap[W.heap.size+1]?=some (.cells #[.string ⟨#[]⟩,.string ⟨#[]⟩,.int .i64 0,.int .i64 0,.int .i64 0,.slice none 0 0,.int .i64 0,.int .i64 0,.pointer none] 119 (0,0)):=(hb.block (W.heap.size+1) (by first|omega|(simp;try omega))).trans (by first|exact rB.out|exact hkeep rB.out|exact hkeep (hkeep rB.out)|exact halloc2 _ _ rfl|exact heap_alloc2_old _ _ _|exact heap_alloc2_new _ _ _|exact hkeep (halloc2 _ _ rfl)|exact hkeep (hkeep (halloc2 _ _ rfl))|exact halloc2 _ _ (by simp;done));(try clear rB rL rN r0 r1 r2 r3 r4 r5 r6 r7 r8 rf0 rf1 rf2 rf3 rf4 rf5 rf6 rf7 rf8);have rB:Hid (w1.heap[W.heap.size+1]?=some (.cells #[.string ⟨#[]⟩,.string ⟨#[]⟩,.int .i64 0,.int .i64 0,.int .i64 0,.slice none 0 0,.int .i64 0,.int .i64 0,.pointer none] 119 (0,0))):=rd;have r0:w1.cell? ⟨W.heap.size+1,0,none⟩=some (.string ⟨#[]⟩):=(cell_of_row w1 (W.heap.size+1) 0 _ _ _ rd).trans rfl;have rf0:=frozen_of_row w1 (W.heap.size+1) 0 _ _ rd;have r1:w1.cell? ⟨W.heap.size+1,1,none⟩=some (.string ⟨#[]⟩):=(cell_of_row w1 (W.heap.size+1) 1 _ _ _ rd).trans rfl;have rf1:=frozen_of_row w1 (W.heap.size+1) 1 _ _ rd;have r2:w1.cell? ⟨W.heap.size+1,2,none⟩=some (.int .i64 0):=(cell_of_row w1 (W.heap.size+1) 2 _ _ _ rd).trans rfl;have rf2:=frozen_of_row w1 (W.heap.size+1) 2 _ _ rd;have r3:w1.cell? ⟨W.heap.size+1,3,none⟩=some (.int .i64 0):=(cell_of_row w1 (W.heap.size+1) 3 _ _ _ rd).trans rfl;have rf3:=frozen_of_row w1 (W.heap.size+1) 3 _ _ rd;have r4:w1.cell? ⟨W.heap.size+1,4,none⟩=some (.int .i64 0):=(cell_of_row w1 (W.heap.size+1) 4 _ _ _ rd).trans rfl;have rf4:=frozen_of_row w1 (W.heap.size+1) 4 _ _ rd;have r5:w1.cell? ⟨W.heap.size+1,5,none⟩=some (.slice none 0 0):=(cell_of_row w1 (W.heap.size+1) 5 _ _ _ rd).trans rfl;have rf5:=frozen_of_row w1 (W.heap.size+1) 5 _ _ rd;have r6:w1.cell? ⟨W.heap.size+1,6,none⟩=some (.int .i64 0):=(cell_of_row w1 (W.heap.size+1) 6 _ _ _ rd).trans rfl;have rf6:=frozen_of_row w1 (W.heap.size+1) 6 _ _ rd;have r7:w1.cell? ⟨W.heap.size+1,7,none⟩=some (.int .i64 0):=(cell_of_row w1 (W.heap.size+1) 7 _ _ _ rd).trans rfl;have rf7:=frozen_of_row w1 (W.heap.size+1) 7 _ _ rd;have r8:w1.cell? ⟨W.heap.size+1,8,none⟩=some (.pointer none):=(cell_of_row w1 (W.heap.size+1) 8 _ _ _ rd).trans rfl;have rf8:=frozen_of_row w1 (W.heap.size+1) 8 _ _ rd;have rL:W.heap.size+1<w1.heap.size:=(Array.getElem?_eq_some_iff.1 rd).1;have rN:¬ W.heap.size+1=w1.heap.size:=(by omega);clear rd;have BB2:Below W.heap.size W w1:=bstep (by repeat (first|exact Below.refl _ _|refine Below.setCell ?_ (by simp;try omega) _|refine Below.alloc ?_ (by simp;try omega) _|refine Below.drew ?_)) hb;clear BB;have BB:Hid (Below W.heap.size W w1):=BB2;clear BB2 hb;clear HM))
  obtain ⟨Wm,hWm⟩:∃ x,x=w1.alloc (.cells #[.string m.nm,.string m.ds,.int .i64 m.fl,.int .i64 m.lo,.int .i64 m.st,.slice xa xk xo] 30):=⟨_,rfl⟩
  have BM:Hid (Below W.heap.size W Wm):=by rw [hWm];exact BB.out.alloc BB.out.size _
  have hd0:Wm.heap[W.heap.size+1]?=some (.cells #[.string ⟨#[]⟩,.string ⟨#[]⟩,.int .i64 0,.int .i64 0,.int .i64 0,.slice none 0 0,.int .i64 0,.int .i64 0,.pointer none] 119 (0,0)):=by rw [hWm];exact hkeep rB.out
  have p0:=cell_of_row Wm (W.heap.size+1) 0 _ _ _ hd0
  have pf0:=frozen_of_row Wm (W.heap.size+1) 0 _ _ hd0
  have p1:=cell_of_row Wm (W.heap.size+1) 1 _ _ _ hd0
  have pf1:=frozen_of_row Wm (W.heap.size+1) 1 _ _ hd0
  have p2:=cell_of_row Wm (W.heap.size+1) 2 _ _ _ hd0
  have pf2:=frozen_of_row Wm (W.heap.size+1) 2 _ _ hd0
  have p3:=cell_of_row Wm (W.heap.size+1) 3 _ _ _ hd0
  have pf3:=frozen_of_row Wm (W.heap.size+1) 3 _ _ hd0
  have p4:=cell_of_row Wm (W.heap.size+1) 4 _ _ _ hd0
  have pf4:=frozen_of_row Wm (W.heap.size+1) 4 _ _ hd0
  have p5:=cell_of_row Wm (W.heap.size+1) 5 _ _ _ hd0
  have pf5:=frozen_of_row Wm (W.heap.size+1) 5 _ _ hd0
  have p6:=cell_of_row Wm (W.heap.size+1) 6 _ _ _ hd0
  have pf6:=frozen_of_row Wm (W.heap.size+1) 6 _ _ hd0
  have p7:=cell_of_row Wm (W.heap.size+1) 7 _ _ _ hd0
  have pf7:=frozen_of_row Wm (W.heap.size+1) 7 _ _ hd0
  have p8:=cell_of_row Wm (W.heap.size+1) 8 _ _ _ hd0
  have pf8:=frozen_of_row Wm (W.heap.size+1) 8 _ _ hd0
  have hd1:Wm.heap[w1.heap.size]?=some (.cells #[.string m.nm,.string m.ds,.int .i64 m.fl,.int .i64 m.lo,.int .i64 m.st,.slice xa xk xo] 30 (0,0)):=by rw [hWm];exact halloc1 _ _
  have m0:=cell_of_row Wm w1.heap.size 0 _ _ _ hd1
  have m1:=cell_of_row Wm w1.heap.size 1 _ _ _ hd1
  have m2:=cell_of_row Wm w1.heap.size 2 _ _ _ hd1
  have m3:=cell_of_row Wm w1.heap.size 3 _ _ _ hd1
  have m4:=cell_of_row Wm w1.heap.size 4 _ _ _ hd1
  have m5:=cell_of_row Wm w1.heap.size 5 _ _ _ hd1
  have hd2:Wm.heap[W.heap.size]?=some (.cells #[.int .i64 c,.int .i64 i] 24 (0,0)):=by rw [hWm];exact hkeep uB.out
  have i0:=cell_of_row Wm W.heap.size 0 _ _ _ hd2
  have i1:=cell_of_row Wm W.heap.size 1 _ _ _ hd2
  rw [← hWm]
  simp at p0 p1 p2 p3 p4 p5 p6 p7 p8 m0 m1 m2 m3 m4 m5 i0 i1
  clear hWm hd0 hd1 hd2 uB u0 u1 uf0 uf1 uL uN BB rB r0 r1 r2 r3 r4 r5 r6 r7 r8 rf0 rf1 rf2 rf3 rf4 rf5 rf6 rf7 rf8 rL rN
  go_wp2
  exact bodyPost_ret (v:=.tuple #[.agg #[.string m.nm,.string m.ds,.int .i64 m.fl,.int .i64 m.lo,.int .i64 m.st,.slice xa xk xo,.int .i64 c,.int .i64 i,.pointer (some ⟨b,0,none⟩)],.int .i64 0]) (by simp [results,Tryz.results83,go_sem, *]) rfl ⟨⟨xa,xk,xo,rfl⟩,(by repeat (first|refine Below.setCell ?_ (by simp;try omega) _|refine Below.alloc ?_ (by have:=BM.out.size;simp;try omega) _|refine Below.drew ?_|exact BM.out))⟩
theorem read_c {b:Nat} {ps:List Plc} {W:World} (h:WAt b ps W) (hi:WI ps) (c i:Int):Calls Tryz.prog 83 #[.pointer (some ⟨b,0,none⟩),.agg #[.int .i64 c,.int .i64 i]] W fun e w'=>rdV b c i (methI ps c i) e∧Below W.heap.size W w':=by
  cases hm:methI ps c i with
  | none=>exact read_no h hi c i hm
  | some m=>exact read_yes h hi c i m hm
theorem Tryz.hinfoP9:(Tryz.prog.info? 119).map (fun i=>(i.zero,i.size,i.bytes))=some (some (.agg #[.string ⟨#[]⟩,.string ⟨#[]⟩,.int .i64 0,.int .i64 0,.int .i64 0,.slice none 0 0,.int .i64 0,.int .i64 0,.pointer none]),9,104):=by kernel_rfl
theorem nskL_take {ps:List Plc} {nm ds:ByteArray} {a:Int} {l:List Nat} {j i:Nat} (h:l[j]?=some i):nskL ps nm ds a (l.take (j+1))=nskL ps nm ds a (l.take j)++(if (fndI ps (i:Int) nm ds).2=0∧(i:Int)≠a then [((i:Int),(fndI ps (i:Int) nm ds).1)] else []):=by
  rw [List.take_add_one,h,nskL_app]
  congr 1
theorem own9_one {w:World} {N g b:Nat} {x:P9} (hg:N≤g) (h:w.heap[g]?=some (.cells (x.cells b).toArray 119 (0,0))):w.ownsRow N 119 9 (.slice (some ⟨g,0,none⟩) [x].length 1) [x].length (flat9 b [x]) :=
  ⟨rfl,.inr ⟨g,1,_,rfl,hg,h,Nat.le_refl _,by unfold maxLen;omega,rfl,rfl⟩⟩
set_option maxHeartbeats 8000000 in
theorem nsk_c {b:Nat} {ps:List Plc} {W:World} (h:WAt b ps W) (hi:WI ps) (x:P9) (hx:OkP ps x) (v:Value) (l:List Nat) (hv:Rds W v l.length 1 (l.map numV)) (hn:l.length≤300) :
    Calls Tryz.prog 145 #[x.agg b,v] W fun e w'=>∃ (L:List P9) (g cap:Nat),e=.returned (.slice (some ⟨g,0,none⟩) L.length cap)∧(∀ y∈L,OkP ps y)∧L.map P9.id=x.id::nskL ps x.nm x.ds x.c l∧w'.ownsRow W.heap.size 119 9 (.slice (some ⟨g,0,none⟩) L.length cap) L.length (flat9 b L)∧Below W.heap.size W w':=by
  obtain ⟨i0,hi0,hz0,hz1,hz2⟩:=info_parts Tryz.hinfoP9
  have HX:Hid (OkP ps x):=hx
  obtain ⟨X,hX⟩:∃ X,X=x:=⟨_,rfl⟩
  obtain ⟨an,ad,af,al,az,aa,ak,ao,ac,ai⟩:=x
  have HXE:Hid (X=⟨an,ad,af,al,az,aa,ak,ao,ac,ai⟩):=hX
  simp only [P9.agg]
  obtain ⟨K,hK⟩:∃ K,l.length=K:=⟨_,rfl⟩
  have HK:Hid (l.length=K):=hK
  obtain ⟨va,vc,rfl⟩:=hv.slice
  have HV:Hid (Rds W (.slice va l.length vc) l.length 1 (l.map numV)):=hv
  have HU:Hid (WAt b ps (W.alloc (.cells #[.string an,.string ad,.int .i64 af,.int .i64 al,.int .i64 az,.slice aa ak ao,.int .i64 ac,.int .i64 ai,.pointer (some ⟨b,0,none⟩)] 119))):=h.below ((Below.refl _ _).alloc (Nat.le_refl _) _)
  have HA9:Hid ((W.alloc (.cells #[.string an,.string ad,.int .i64 af,.int .i64 al,.int .i64 az,.slice aa ak ao,.int .i64 ac,.int .i64 ai,.pointer (some ⟨b,0,none⟩)] 119)).heap[W.heap.size]?=some (.cells #[.string an,.string ad,.int .i64 af,.int .i64 al,.int .i64 az,.slice aa ak ao,.int .i64 ac,.int .i64 ai,.pointer (some ⟨b,0,none⟩)] 119 (0,0))):=halloc1 _ _
  have HI:Hid (WI ps):=hi
  rw [hK] at hn ⊢
  clear hv hK h hi hx hX
  go_enter Tryz.func145,Tryz.ntmps145
  go_wp2
  go_loopw [5,16] (fun sv kv wr=>∃ (j:Nat) (L:List P9) (g cap:Nat),sv=.slice (some ⟨g,0,none⟩) L.length cap∧kv=.int .i64 j∧j≤K∧Hid (∀ y∈L,OkP ps y)∧Hid (L.map P9.id=(ac,ai)::nskL ps an ad ac (l.take j))∧Hid (wr.ownsRow (W.heap.size+1) 119 9 (.slice (some ⟨g,0,none⟩) L.length cap) L.length (flat9 b L))∧Hid (Below (W.heap.size+1) (W.alloc (.cells #[.string an,.string ad,.int .i64 af,.int .i64 al,.int .i64 az,.slice aa ak ao,.int .i64 ac,.int .i64 ai,.pointer (some ⟨b,0,none⟩)] 119)) wr)) (fun _ kv _=>K - (intOf kv).toNat)
  case atStart=>exact ⟨0,[⟨an,ad,af,al,az,aa,ak,ao,ac,ai⟩],W.heap.size+1,1,rfl,rfl,Nat.zero_le _,(by intro y hy;rw [List.mem_singleton] at hy;subst hy;exact HX.out),rfl,own9_one (Nat.le_refl _) (halloc2 _ _ (by simp)),(Below.refl _ _).alloc (by simp) _⟩
  case round =>
    obtain ⟨j,L,g,cap,rfl,rfl,hj,hOk,hM,hO,hB⟩:=hrel
    have hNr:W.heap.size+1≤wr.heap.size:=by have:=hB.out.size;simpa using this
    have hLl:L.length≤301:=by
      have e:=congrArg List.length hM.out
      have:=nskL_len ps an ad ac (l.take j)
      rw [List.length_map,List.length_cons] at e
      rw [List.length_take] at this
      omega
    have BW:Hid (Below W.heap.size W wr):=((Below.refl _ W).alloc (Nat.le_refl _) _).trans (hB.out.mono (by omega))
    by_cases hlt:j<K
    · have hjl:j<l.length:=by rw [HK.out];exact hlt
      obtain ⟨i,hil⟩:∃ i,l[j]?=some i:=⟨_,List.getElem?_eq_getElem hjl⟩
      have hv2:=HV.out.keep BW.out
      obtain ⟨bk,oo,rfl,hbk,hcr⟩:=rds_num hv2 hil
      rw [HK.out] at hv2
      have HWr:Hid (WAt b ps wr):=HU.out.below (by simpa using hB.out)
      have HF:Hid (Calls Tryz.prog 24 #[.pointer (some ⟨b,0,none⟩),.int .i64 (i:Int),.string an,.string ad] wr fun e w'=>e=.returned (.tuple #[.int .i64 (fndI ps i an ad).1,.int .i64 (fndI ps i an ad).2])∧Below wr.heap.size wr w'):=find_c HWr.out HI.out.pb i an ad
      have hst:=nskL_take (ps:=ps) (nm:=an) (ds:=ad) (a:=ac) hil
      obtain ⟨q0,q1,q2,q3,q4,q5,q6,q7,q8,qL⟩:=row9 ((hB.out.block W.heap.size (by omega)).trans HA9.out)
      by_cases hF:(fndI ps i an ad).2=0
      · obtain ⟨hff,_⟩:=fnd_facts hF
        obtain ⟨m,hm⟩:∃ m,methI ps (i:Int) (fndI ps i an ad).1=some m:=⟨_,hff.choose_spec.1⟩
        have HR:Hid (∀ w,Below (W.heap.size+1) (W.alloc (.cells #[.string an,.string ad,.int .i64 af,.int .i64 al,.int .i64 az,.slice aa ak ao,.int .i64 ac,.int .i64 ai,.pointer (some ⟨b,0,none⟩)] 119)) w→Calls Tryz.prog 83 #[.pointer (some ⟨b,0,none⟩),.agg #[.int .i64 (i:Int),.int .i64 (fndI ps i an ad).1]] w fun e w'=>(∃ ma mk mo,e=.returned (.tuple #[.agg #[.string m.nm,.string m.ds,.int .i64 m.fl,.int .i64 m.lo,.int .i64 m.st,.slice ma mk mo,.int .i64 (i:Int),.int .i64 (fndI ps i an ad).1,.pointer (some ⟨b,0,none⟩)],.int .i64 0]))∧Below w.heap.size w w'):=fun w hb=>by
          have:=read_c (HU.out.below (by simpa using hb)) HI.out (i:Int) (fndI ps i an ad).1
          rw [hm] at this
          exact this
        have HM:Hid (methI ps (i:Int) (fndI ps i an ad).1=some m):=hm
        rw [hF] at hst HF
        clear hff hm hF hil hjl hv2
        generalize (fndI ps i an ad).1=F1 at *
        by_cases hic:(i:Int)=ac
        · have hst2:nskL ps an ad ac (List.take (j+1) l)=nskL ps an ad ac (List.take j l):=by rw [hst,if_neg (fun h=>h.2 hic),List.append_nil]
          have HST:Hid _:=hst2
          have hic2:((i:Int) == ac)=true:=by simp [hic]
          clear hst hst2 hic HR
          go_wp2_with (first
            | (go_at_call 24;refine HF.out.mono ?_;rintro e w2 ⟨rfl,hb⟩;have B2:Hid (Below (W.heap.size+1) (W.alloc (.cells #[.string an,.string ad,.int .i64 af,.int .i64 al,.int .i64 az,.slice aa ak ao,.int .i64 ac,.int .i64 ai,.pointer (some ⟨b,0,none⟩)] 119)) w2):=hB.out.trans (hb.mono hNr);have O2:Hid (w2.ownsRow (W.heap.size+1) 119 9 (.slice (some ⟨g,0,none⟩) L.length cap) L.length (flat9 b L)):=rowBelow hO.out hb;clear q0 q1 q2 q3 q4 q5 q6 q7 q8 qL;obtain ⟨q0,q1,q2,q3,q4,q5,q6,q7,q8,qL⟩:=row9 ((B2.out.block W.heap.size (by omega)).trans HA9.out);clear hb HF))
          refine ⟨⟨j+1,L,g,cap,rfl,by simp,by omega,hOk,?_,O2,B2⟩,by simp [intOf];omega⟩
          rw [HST.out];exact hM
        · have hst2:nskL ps an ad ac (List.take (j+1) l)=nskL ps an ad ac (List.take j l)++[((i:Int),F1)]:=by rw [hst,if_pos ⟨rfl,hic⟩]
          have HST:Hid _:=hst2
          have hic2:((i:Int) == ac)=false:=beq_eq_false_iff_ne.2 hic
          clear hst hst2
          go_wp2_with (first
            | (go_at_call 24;refine HF.out.mono ?_;rintro e w2 ⟨rfl,hb⟩;have B2:Hid (Below (W.heap.size+1) (W.alloc (.cells #[.string an,.string ad,.int .i64 af,.int .i64 al,.int .i64 az,.slice aa ak ao,.int .i64 ac,.int .i64 ai,.pointer (some ⟨b,0,none⟩)] 119)) w2):=hB.out.trans (hb.mono hNr);have O2:Hid (w2.ownsRow (W.heap.size+1) 119 9 (.slice (some ⟨g,0,none⟩) L.length cap) L.length (flat9 b L)):=rowBelow hO.out hb;clear q0 q1 q2 q3 q4 q5 q6 q7 q8 qL;obtain ⟨q0,q1,q2,q3,q4,q5,q6,q7,q8,qL⟩:=row9 ((B2.out.block W.heap.size (by omega)).trans HA9.out);clear hb HF)
            | (go_at_call 83;refine (HR.out _ B2.out).mono ?_;rintro e w3 ⟨⟨ma,mk,mo,rfl⟩,hb⟩;have B3:Hid (Below (W.heap.size+1) (W.alloc (.cells #[.string an,.string ad,.int .i64 af,.int .i64 al,.int .i64 az,.slice aa ak ao,.int .i64 ac,.int .i64 ai,.pointer (some ⟨b,0,none⟩)] 119)) w3):=B2.out.trans (hb.mono (Nat.le_trans (by simp) B2.out.size));have O3:Hid (w3.ownsRow (W.heap.size+1) 119 9 (.slice (some ⟨g,0,none⟩) L.length cap) L.length (flat9 b L)):=rowBelow O2.out hb;clear hb HR)
            | (at_builtin;refine wpList_append_lies _ rfl _ _ 122 rfl (W.heap.size+1) 119 i0 (.agg #[.string ⟨#[]⟩,.string ⟨#[]⟩,.int .i64 0,.int .i64 0,.int .i64 0,.slice none 0 0,.int .i64 0,.int .i64 0,.pointer none]) 9 104 Tryz.underlying122 hi0 hz0 hz1 hz2 rfl (by decide) (.slice (some ⟨g,0,none⟩) L.length cap) L.length (flat9 b L) rfl ((O3.out.alloc _).alloc _) ⟨w3.heap.size+1,0,none⟩ 1 1 (P9.cells b ⟨m.nm,m.ds,m.fl,m.lo,m.st,ma,mk,mo,(i:Int),F1⟩) rfl rfl ?c1 ?c2 (by omega) ?c3 ?c4 ?c5 _ rfl ?_))
          case c1 =>
            intro jj u hj
            rw [addr_add,Nat.zero_add]
            have hd:((w3.alloc (.cells #[.string m.nm,.string m.ds,.int .i64 m.fl,.int .i64 m.lo,.int .i64 m.st,.slice ma mk mo,.int .i64 (i:Int),.int .i64 F1,.pointer (some ⟨b,0,none⟩)] 119)).alloc (.cells #[.string m.nm,.string m.ds,.int .i64 m.fl,.int .i64 m.lo,.int .i64 m.st,.slice ma mk mo,.int .i64 (i:Int),.int .i64 F1,.pointer (some ⟨b,0,none⟩)] 119)).heap[w3.heap.size+1]?=some (.cells #[.string m.nm,.string m.ds,.int .i64 m.fl,.int .i64 m.lo,.int .i64 m.st,.slice ma mk mo,.int .i64 (i:Int),.int .i64 F1,.pointer (some ⟨b,0,none⟩)] 119 (0,0)):=halloc2 _ _ (by simp)
            rw [cell_of_row _ _ jj _ _ _ hd,← hj]
            simp only [P9.cells,List.getElem?_toArray]
          case c2=>intro u hu;exact flat9_one b [⟨m.nm,m.ds,m.fl,m.lo,m.st,ma,mk,mo,(i:Int),F1⟩] u (by rw [flat9_cons];exact List.mem_append_left _ hu)
          case c3=>unfold maxLen;omega
          case c4=>omega
          case c5=>have:=B3.out.size;simp at this;simp;omega
          intro g2 cap2 w4 hown hgrow _ _
          have B4:Hid (Below (W.heap.size+1) (W.alloc (.cells #[.string an,.string ad,.int .i64 af,.int .i64 al,.int .i64 az,.slice aa ak ao,.int .i64 ac,.int .i64 ai,.pointer (some ⟨b,0,none⟩)] 119)) w4):=by
            have hs3:W.heap.size+1≤w3.heap.size:=by have:=B3.out.size;simpa using this
            have hb1:Below (W.heap.size+1) (W.alloc (.cells #[.string an,.string ad,.int .i64 af,.int .i64 al,.int .i64 az,.slice aa ak ao,.int .i64 ac,.int .i64 ai,.pointer (some ⟨b,0,none⟩)] 119)) ((w3.alloc (.cells #[.string m.nm,.string m.ds,.int .i64 m.fl,.int .i64 m.lo,.int .i64 m.st,.slice ma mk mo,.int .i64 (i:Int),.int .i64 F1,.pointer (some ⟨b,0,none⟩)] 119)).alloc (.cells #[.string m.nm,.string m.ds,.int .i64 m.fl,.int .i64 m.lo,.int .i64 m.st,.slice ma mk mo,.int .i64 (i:Int),.int .i64 F1,.pointer (some ⟨b,0,none⟩)] 119)):=(B3.out.alloc hs3 _).alloc (by simp;omega) _
            refine hb1.grown hgrow (by simp;omega) (fun x hx=>?_)
            have:=(O3.out.lt x hx).1
            omega
          have O4:Hid (w4.ownsRow (W.heap.size+1) 119 9 (.slice (some ⟨g2,0,none⟩) (L.length+1) cap2) (L++([⟨m.nm,m.ds,m.fl,m.lo,m.st,ma,mk,mo,(i:Int),F1⟩]:List P9)).length (flat9 b (L++([⟨m.nm,m.ds,m.fl,m.lo,m.st,ma,mk,mo,(i:Int),F1⟩]:List P9)))):=by
            rw [Hid,List.length_append,flat9_app];exact hown
          go_wp2
          refine ⟨⟨j+1,L++([⟨m.nm,m.ds,m.fl,m.lo,m.st,ma,mk,mo,(i:Int),F1⟩]:List P9),g2,cap2,(by simp),by simp,by omega,?_,?_,?_,B4⟩,by simp [intOf];omega⟩
          · intro y hy
            rcases List.mem_append.1 hy with hy|hy
            · exact hOk.out y hy
            · rw [List.mem_singleton] at hy
              subst hy
              exact ⟨m,HM.out,rfl,rfl,rfl⟩
          · rw [Hid,List.map_append,hM.out,HST.out];rfl
          · have:=O4.out;rw [List.length_append] at this ⊢;exact this
      · have hst2:nskL ps an ad ac (List.take (j+1) l)=nskL ps an ad ac (List.take j l):=by rw [hst,if_neg (fun h=>hF h.1),List.append_nil]
        have HST:Hid _:=hst2
        generalize fndI ps i an ad=F at *
        obtain ⟨F1,F2⟩:=F
        simp only at HF hF
        clear hst hst2 hil hjl hv2
        go_wp2_with (first
          | (go_at_call 24;refine HF.out.mono ?_;rintro e w2 ⟨rfl,hb⟩;have B2:Hid (Below (W.heap.size+1) (W.alloc (.cells #[.string an,.string ad,.int .i64 af,.int .i64 al,.int .i64 az,.slice aa ak ao,.int .i64 ac,.int .i64 ai,.pointer (some ⟨b,0,none⟩)] 119)) w2):=hB.out.trans (hb.mono hNr);have O2:Hid (w2.ownsRow (W.heap.size+1) 119 9 (.slice (some ⟨g,0,none⟩) L.length cap) L.length (flat9 b L)):=rowBelow hO.out hb;clear q0 q1 q2 q3 q4 q5 q6 q7 q8 qL;obtain ⟨q0,q1,q2,q3,q4,q5,q6,q7,q8,qL⟩:=row9 ((B2.out.block W.heap.size (by omega)).trans HA9.out);clear hb HF))
        refine ⟨⟨j+1,L,g,cap,rfl,by simp,by omega,hOk,?_,O2,B2⟩,by simp [intOf];omega⟩
        rw [HST.out];exact hM
    · have e:j=K:=by omega
      subst e
      have HE:Hid (l.take j=l):=by rw [Hid,List.take_of_length_le (by rw [HK.out];exact Nat.le_refl _)]
      go_wp2
      refine bodyPost_ret (results_tmp rfl _ _ _) rfl ⟨L,g,cap,rfl,hOk.out,?_,Go.Joins.ownsRow_le hO.out (by omega),BW.out⟩
      rw [hM.out,HE.out];rfl
end Go.Proofs.YthfifobokpfpkaaGreat
