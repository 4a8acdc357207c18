import Derived.Test.YtkclpcmkplbclaaGreatWtB
import Derived.Deep.AppendLies
set_option maxRecDepth 100000
namespace Go.Proofs.YtkclpcmkplbclaaGreat
open Go.RowKit Go.Maps
def stp0 (ps:List Plc) (s:ByteArray):List (Int×List UInt8):=match lookL ps s.data.toList with
  | some k=>(match ps[k]? with
    | some q=>(if k=0 then [] else [(0,q.c.su.data.toList)])++(txtL q.c.xi).map fun p=>((0:Int),p)
    | none=>[])
  | none=>[]
def stpP (ps:List Plc):Nat→ByteArray→List (Int×List UInt8)
  | 0,s=>if s.toList.isEmpty then [] else stp0 ps s
  | d+1,s=>if d=0∧(s.toList.isEmpty=true∨s.toList=sObj) then abv3.map fun p=>((0:Int),p) else (stpP ps d s).map fun u=>(u.1+1,u.2)
set_option maxHeartbeats 8000000 in
theorem stp_1 (W:World) (b:Nat) (s:ByteArray) (HII:Hid (∀ w,Calls Tryz.prog 107 #[.agg #[.int .i64 0,.string s]] w fun e w'=>e=.returned (.bool true)∧Below w.heap.size w w')):Calls Tryz.prog 112 #[.pointer (some ⟨b,0,none⟩),.agg #[.int .i64 0,.string s]] W fun e w'=>(∃ v,e=.returned v∧w'.ownsRow W.heap.size 24 2 v 0 (flatU []))∧Below W.heap.size W w':=by
  go_enter Tryz.func112,Tryz.ntmps112
  go_wp2_with (go_at_call 107;refine (HII.out _).mono ?_;rintro e w1 ⟨rfl,hb⟩;have ssd:=kp2 (n:=W.heap.size) hb (by simp) (halloc1 _ _);obtain ⟨ssB,ss0,ss1,ssf,ssL,ssN⟩:=ssd;have B1:Hid (Below W.heap.size W w1):=bstep (by repeat (first|exact Below.refl _ _|refine Below.setCell ?_ (by simp;try omega) _|refine Below.alloc ?_ (by simp;try omega) _|refine Below.drew ?_)) hb;clear hb HII)
  exact bodyPost_ret (results_tmp rfl _ _ _) rfl ⟨⟨_,rfl,World.ownsRow_nil _ _ _ _⟩,B1.out⟩
set_option maxHeartbeats 8000000 in
theorem stp_2 (W:World) (b k m:Nat) (s:ByteArray) (c:Cls) (g cap:Nat) (ai:Option Addr) (n ci:Nat) (am:Option Addr) (nm cm:Nat) (hn:n≤1000000) (HN:Hid (c.ifs.length=n)) (hkm:k<m) (hbl:b<W.heap.size) (hgl:g<W.heap.size)
    (b0:W.cell? ⟨b,0,none⟩=some (.slice (some ⟨g,0,none⟩) m cap)) (c0:W.cell? ⟨g,k * 6,none⟩=some (.string c.nm)) (c1:W.cell? ⟨g,k * 6+1,none⟩=some (.string c.su)) (c2:W.cell? ⟨g,k * 6+2,none⟩=some (.slice ai n ci)) (c3:W.cell? ⟨g,k * 6+3,none⟩=some (.int .i64 c.fl)) (c4:W.cell? ⟨g,k * 6+4,none⟩=some (.int .i64 c.ld)) (c5:W.cell? ⟨g,k * 6+5,none⟩=some (.slice am nm cm))
    (HST0:Hid (c.ifs≠[]→∃ bk o,ai=some ⟨bk,o,none⟩∧bk<W.heap.size∧∀ (j:Nat) (p:List UInt8),c.ifs[j]?=some p→W.cell? ⟨bk,o+j,none⟩=some (.string (mkB p)))) (HII:Hid (∀ w,Calls Tryz.prog 107 #[.agg #[.int .i64 0,.string s]] w fun e w'=>e=.returned (.bool false)∧Below w.heap.size w w'))
    (HBN:Hid (∀ w,Below W.heap.size W w→Calls Tryz.prog 57 #[.pointer (some ⟨b,0,none⟩),.string s] w fun e w'=>e=.returned (.tuple #[.int .i64 (k:Int),.int .i64 0])∧w'=w)) (hk0:k=0) :
    Calls Tryz.prog 112 #[.pointer (some ⟨b,0,none⟩),.agg #[.int .i64 0,.string s]] W fun e w'=>(∃ v,e=.returned v∧w'.ownsRow W.heap.size 24 2 v (n) (flatU (([]:List (Int×List UInt8))++c.ifs.map fun p=>((0:Int),p))))∧Below W.heap.size W w':=by
  subst hk0
  obtain ⟨i0,hi0,hz0,hz1,hz2⟩:=info_parts Tryz.hinfoTy
  have hkI:(0:Int)<(m:Int):=by omega
  go_enter Tryz.func112,Tryz.ntmps112
  go_upto_region 7 with (first
    | (go_at_call 107;refine (HII.out _).mono ?_;rintro e w1 ⟨rfl,hb⟩;have ssd:=kp2 (n:=W.heap.size) hb (by simp) (halloc1 _ _);obtain ⟨ssB,ss0,ss1,ssf,ssL,ssN⟩:=ssd;have B1:Hid (Below W.heap.size W w1):=bstep (by repeat (first|exact Below.refl _ _|refine Below.setCell ?_ (by simp;try omega) _|refine Below.alloc ?_ (by simp;try omega) _|refine Below.drew ?_)) hb;have d0:=(B1.out.cell (p:=⟨b,0,none⟩) hbl).trans b0;have f0:=(B1.out.cell (p:=⟨g,0,none⟩) hgl).trans c0;have f1:=(B1.out.cell (p:=⟨g,1,none⟩) hgl).trans c1;have f2:=(B1.out.cell (p:=⟨g,2,none⟩) hgl).trans c2;have f3:=(B1.out.cell (p:=⟨g,3,none⟩) hgl).trans c3;have f4:=(B1.out.cell (p:=⟨g,4,none⟩) hgl).trans c4;have f5:=(B1.out.cell (p:=⟨g,5,none⟩) hgl).trans c5;have hbl1:b<w1.heap.size:=(by omega);have hgl1:g<w1.heap.size:=(by omega);clear hb HII)
    | (go_at_call 57;refine (HBN.out _ B1.out).mono ?_;rintro e w9 ⟨rfl,hw9⟩;rw [hw9];clear hw9 w9))
  have bw2:Below w1.heap.size w1 (w1.alloc (.cells #[.string c.nm,.string c.su,.slice ai n ci,.int .i64 c.fl,.int .i64 c.ld,.slice am nm cm] 37)):=(Below.refl _ _).alloc (Nat.le_refl _) _
  have cw2:(w1.alloc (.cells #[.string c.nm,.string c.su,.slice ai n ci,.int .i64 c.fl,.int .i64 c.ld,.slice am nm cm] 37)).heap[w1.heap.size]?=some (.cells #[.string c.nm,.string c.su,.slice ai n ci,.int .i64 c.fl,.int .i64 c.ld,.slice am nm cm] 37 (0,0)):=halloc1 _ _
  have sw2:(w1.alloc (.cells #[.string c.nm,.string c.su,.slice ai n ci,.int .i64 c.fl,.int .i64 c.ld,.slice am nm cm] 37)).heap.size=w1.heap.size+1:=by simp
  have B2:Hid (Below W.heap.size W (w1.alloc (.cells #[.string c.nm,.string c.su,.slice ai n ci,.int .i64 c.fl,.int .i64 c.ld,.slice am nm cm] 37))):=bstep B1.out bw2
  clear d0 f0 f1 f2 f3 f4 f5 b0 c0 c1 c2 c3 c4 c5 hbl1 hgl1 ss0 ss1 ssB ssf ssL ssN HBN
  generalize w1.alloc (.cells #[.string c.nm,.string c.su,.slice ai n ci,.int .i64 c.fl,.int .i64 c.ld,.slice am nm cm] 37)=w2 at *
  obtain ⟨cc0,cc1,cc2,cc3,cc4,cc5,ccf,ccL⟩:=rw6 cw2
  have HST:Hid (c.ifs≠[]→∃ bk o,ai=some ⟨bk,o,none⟩∧bk<w2.heap.size∧∀ (j:Nat) (p:List UInt8),c.ifs[j]?=some p→w2.cell? ⟨bk,o+j,none⟩=some (.string (mkB p))):=fun hne=>by
    obtain ⟨bk,o,e,h1,h2⟩:=HST0.out hne
    exact ⟨bk,o,e,Nat.lt_of_lt_of_le h1 B2.out.size,fun j p hj=>(B2.out.cell (p:=⟨bk,o+j,none⟩) h1).trans (h2 j p hj)⟩
  clear HST0 cw2 sw2 bw2
  go_wp2
  go_loopw [5,9] (fun lv iv wr=>∃ (i:Nat) (al:Option Addr) (cl:Nat),iv=.int .i64 i∧lv=.slice al (i) cl∧i≤n∧Hid (wr.ownsRow (w2.heap.size) 24 2 (.slice al (i) cl) (i) (flatU (([]:List (Int×List UInt8))++(c.ifs.take i).map fun p=>((0:Int),p))))∧Hid (Below w2.heap.size w2 wr)) (fun _ iv _=>n - (intOf iv).toNat)
  case atStart=>exact ⟨0,none,0,rfl,rfl,Nat.zero_le _,(by rw [Hid,List.take_zero];exact World.ownsRow_nil _ _ _ _),Below.refl _ _⟩
  case round =>
    obtain ⟨i,al,cl,rfl,rfl,hi,hO,hB⟩:=hrel
    have k2:=(hB.out.cell (p:=⟨w1.heap.size,2,none⟩) ccL).trans cc2
    have kL:w1.heap.size<wr.heap.size:=Nat.lt_of_lt_of_le ccL hB.out.size
    by_cases hlt:i<n
    · have hiI:(i:Int)<(n:Int):=by omega
      obtain ⟨p,hp⟩:∃ p,c.ifs[i]?=some p:=⟨_,List.getElem?_eq_getElem (by rw [HN.out];exact hlt)⟩
      obtain ⟨bk,oo,rfl,hbk,hcs⟩:=HST.out (fun e=>by rw [e] at hp;simp at hp)
      have q0:wr.cell? ⟨bk,oo+i,none⟩=some (.string (mkB p)):=(hB.out.cell (p:=⟨bk,oo+i,none⟩) hbk).trans (hcs i p hp)
      have qL:bk<wr.heap.size:=Nat.lt_of_lt_of_le hbk hB.out.size
      have FL:Hid (flatU (([]:List (Int×List UInt8))++(c.ifs.take (i+1)).map fun p=>((0:Int),p))=flatU (([]:List (Int×List UInt8))++(c.ifs.take i).map fun p=>((0:Int),p))++[.int .i64 0,.string (mkB p)]):=by
        rw [Hid,List.take_add_one,hp,Option.toList_some,List.map_append,← List.append_assoc,flatU_app]
        rfl
      generalize ([]:List (Int×List UInt8))++(c.ifs.take i).map (fun p=>((0:Int),p))=xs at *
      clear hcs hp
      go_wp2_with (at_builtin;refine wpList_append_own _ rfl _ _ 66 rfl w2.heap.size 24 i0 (.agg #[.int .i64 0,.string ⟨#[]⟩]) 2 24 Tryz.underlying66 hi0 hz0 hz1 hz2 rfl (by decide) (.slice al (i) cl) (i) (flatU xs) rfl (hO.out.alloc _) ⟨wr.heap.size,0,none⟩ 1 1 [.int .i64 0,.string (mkB p)] rfl rfl ?c1 ?c2 ?c3 ?c4 ?c5 ?_)
      case c1=>exact World.news_of_block (cs:=#[.int .i64 0,.string (mkB p)]) (halloc1 _ _)
      case c2=>intro u hu;simp at hu;rcases hu with rfl|rfl <;> rfl
      case c3=>unfold maxLen;omega
      case c4=>omega
      case c5=>have:=hB.out.size;simp;omega
      intro v' w4 hown hgrow _
      obtain ⟨a4,c4,rfl⟩:=ownv hown
      have B4:Hid (Below w2.heap.size w2 w4):=by
        refine (hB.out.alloc hB.out.size _).grown hgrow (by have:=hB.out.size;simp;omega) (fun z hz=>?_)
        exact (hO.out.lt z hz).1
      have O4:Hid (w4.ownsRow w2.heap.size 24 2 (.slice a4 (i+1) c4) (i+1) (flatU xs++[.int .i64 0,.string (mkB p)])):=hown
      clear hown hgrow
      go_wp2
      exact ⟨⟨i+1,a4,c4,by simp,rfl,by omega,(by rw [FL.out];exact O4),B4⟩,by simp [intOf];omega⟩
    · have e:i=n:=by omega
      subst e
      have E0:Hid (c.ifs.take i=c.ifs):=List.take_of_length_le (by rw [HN.out];exact Nat.le_refl _)
      rw [E0.out] at hO
      go_wp2
      exact bodyPost_ret (results_tmp rfl _ _ _) rfl ⟨⟨_,rfl,Go.Joins.ownsRow_le hO.out B2.out.size⟩,B2.out.trans (hB.out.mono B2.out.size)⟩
set_option maxHeartbeats 8000000 in
theorem stp_3 (W:World) (b k m:Nat) (s:ByteArray) (c:Cls) (g cap:Nat) (ai:Option Addr) (n ci:Nat) (am:Option Addr) (nm cm:Nat) (hn:n≤1000000) (HN:Hid (c.ifs.length=n)) (hkm:k<m) (hbl:b<W.heap.size) (hgl:g<W.heap.size)
    (b0:W.cell? ⟨b,0,none⟩=some (.slice (some ⟨g,0,none⟩) m cap)) (c0:W.cell? ⟨g,k * 6,none⟩=some (.string c.nm)) (c1:W.cell? ⟨g,k * 6+1,none⟩=some (.string c.su)) (c2:W.cell? ⟨g,k * 6+2,none⟩=some (.slice ai n ci)) (c3:W.cell? ⟨g,k * 6+3,none⟩=some (.int .i64 c.fl)) (c4:W.cell? ⟨g,k * 6+4,none⟩=some (.int .i64 c.ld)) (c5:W.cell? ⟨g,k * 6+5,none⟩=some (.slice am nm cm))
    (HST0:Hid (c.ifs≠[]→∃ bk o,ai=some ⟨bk,o,none⟩∧bk<W.heap.size∧∀ (j:Nat) (p:List UInt8),c.ifs[j]?=some p→W.cell? ⟨bk,o+j,none⟩=some (.string (mkB p)))) (HII:Hid (∀ w,Calls Tryz.prog 107 #[.agg #[.int .i64 0,.string s]] w fun e w'=>e=.returned (.bool false)∧Below w.heap.size w w'))
    (HBN:Hid (∀ w,Below W.heap.size W w→Calls Tryz.prog 57 #[.pointer (some ⟨b,0,none⟩),.string s] w fun e w'=>e=.returned (.tuple #[.int .i64 (k:Int),.int .i64 0])∧w'=w)) (hk0:¬ k=0) :
    Calls Tryz.prog 112 #[.pointer (some ⟨b,0,none⟩),.agg #[.int .i64 0,.string s]] W fun e w'=>(∃ v,e=.returned v∧w'.ownsRow W.heap.size 24 2 v (n+1) (flatU ([((0:Int),c.su.data.toList)]++c.ifs.map fun p=>((0:Int),p))))∧Below W.heap.size W w':=by
  obtain ⟨i0,hi0,hz0,hz1,hz2⟩:=info_parts Tryz.hinfoTy
  have hkI:(k:Int)<(m:Int):=by omega
  have hk1:((k:Int) == 0)=false:=by rw [← Bool.not_eq_true,beq_iff_eq];omega
  have hk2:¬ (k:Int)=0:=by omega
  go_enter Tryz.func112,Tryz.ntmps112
  go_upto_region 7 with (first
    | (go_at_call 107;refine (HII.out _).mono ?_;rintro e w1 ⟨rfl,hb⟩;have ssd:=kp2 (n:=W.heap.size) hb (by simp) (halloc1 _ _);obtain ⟨ssB,ss0,ss1,ssf,ssL,ssN⟩:=ssd;have B1:Hid (Below W.heap.size W w1):=bstep (by repeat (first|exact Below.refl _ _|refine Below.setCell ?_ (by simp;try omega) _|refine Below.alloc ?_ (by simp;try omega) _|refine Below.drew ?_)) hb;have d0:=(B1.out.cell (p:=⟨b,0,none⟩) hbl).trans b0;have f0:=(B1.out.cell (p:=⟨g,k * 6,none⟩) hgl).trans c0;have f1:=(B1.out.cell (p:=⟨g,k * 6+1,none⟩) hgl).trans c1;have f2:=(B1.out.cell (p:=⟨g,k * 6+2,none⟩) hgl).trans c2;have f3:=(B1.out.cell (p:=⟨g,k * 6+3,none⟩) hgl).trans c3;have f4:=(B1.out.cell (p:=⟨g,k * 6+4,none⟩) hgl).trans c4;have f5:=(B1.out.cell (p:=⟨g,k * 6+5,none⟩) hgl).trans c5;have hbl1:b<w1.heap.size:=(by omega);have hgl1:g<w1.heap.size:=(by omega);clear hb HII)
    | (go_at_call 57;refine (HBN.out _ B1.out).mono ?_;rintro e w9 ⟨rfl,hw9⟩;rw [hw9];clear hw9 w9))
  have bw2:Below w1.heap.size w1 (w1.alloc (.cells #[.string c.nm,.string c.su,.slice ai n ci,.int .i64 c.fl,.int .i64 c.ld,.slice am nm cm] 37)):=(Below.refl _ _).alloc (Nat.le_refl _) _
  have cw2:(w1.alloc (.cells #[.string c.nm,.string c.su,.slice ai n ci,.int .i64 c.fl,.int .i64 c.ld,.slice am nm cm] 37)).heap[w1.heap.size]?=some (.cells #[.string c.nm,.string c.su,.slice ai n ci,.int .i64 c.fl,.int .i64 c.ld,.slice am nm cm] 37 (0,0)):=halloc1 _ _
  have sw2:(w1.alloc (.cells #[.string c.nm,.string c.su,.slice ai n ci,.int .i64 c.fl,.int .i64 c.ld,.slice am nm cm] 37)).heap.size=w1.heap.size+1:=by simp
  have B2:Hid (Below W.heap.size W (w1.alloc (.cells #[.string c.nm,.string c.su,.slice ai n ci,.int .i64 c.fl,.int .i64 c.ld,.slice am nm cm] 37))):=bstep B1.out bw2
  clear d0 f0 f1 f2 f3 f4 f5 b0 c0 c1 c2 c3 c4 c5 hbl1 hgl1 ss0 ss1 ssB ssf ssL ssN HBN
  generalize w1.alloc (.cells #[.string c.nm,.string c.su,.slice ai n ci,.int .i64 c.fl,.int .i64 c.ld,.slice am nm cm] 37)=w2 at *
  obtain ⟨cc0,cc1,cc2,cc3,cc4,cc5,ccf,ccL⟩:=rw6 cw2
  have HST:Hid (c.ifs≠[]→∃ bk o,ai=some ⟨bk,o,none⟩∧bk<w2.heap.size∧∀ (j:Nat) (p:List UInt8),c.ifs[j]?=some p→w2.cell? ⟨bk,o+j,none⟩=some (.string (mkB p))):=fun hne=>by
    obtain ⟨bk,o,e,h1,h2⟩:=HST0.out hne
    exact ⟨bk,o,e,Nat.lt_of_lt_of_le h1 B2.out.size,fun j p hj=>(B2.out.cell (p:=⟨bk,o+j,none⟩) h1).trans (h2 j p hj)⟩
  clear HST0 cw2 sw2 bw2
  go_wp2_with (at_builtin;refine wpList_append_own _ rfl _ _ 66 rfl w2.heap.size 24 i0 (.agg #[.int .i64 0,.string ⟨#[]⟩]) 2 24 Tryz.underlying66 hi0 hz0 hz1 hz2 rfl (by decide) (.slice none 0 0) 0 [] rfl (World.ownsRow_nil _ _ _ _) ⟨w2.heap.size,0,none⟩ 1 1 [.int .i64 0,.string c.su] rfl rfl ?c1 ?c2 ?c3 ?c4 ?c5 ?_)
  case c1=>exact World.news_of_block (cs:=#[.int .i64 0,.string c.su]) (halloc1 _ _)
  case c2=>intro u hu;simp at hu;rcases hu with rfl|rfl <;> rfl
  case c3=>unfold maxLen;omega
  case c4=>omega
  case c5=>simp
  intro v3 w3 hown hgrow _
  obtain ⟨a3,d3,rfl⟩:=ownv hown
  have B3:Hid (Below w2.heap.size w2 w3):=((Below.refl _ w2).alloc (Nat.le_refl _) _).grown hgrow (by simp) (fun z hz=>by simp [Value.ownBlock] at hz)
  have O3:Hid (w3.ownsRow w2.heap.size 24 2 (.slice a3 (0+1) d3) (0+1) (flatU ([((0:Int),c.su.data.toList)]++[]))):=by
    have e:flatU ([((0:Int),c.su.data.toList)]++[])=[.int .i64 0,.string c.su]:=by
      show [Value.int .i64 0,Value.string (mkB c.su.data.toList)]=_
      rw [mkB_eq]
    rw [Hid,e];exact hown
  clear hown hgrow
  go_wp2
  go_loopw [5,9] (fun lv iv wr=>∃ (i:Nat) (al:Option Addr) (cl:Nat),iv=.int .i64 i∧lv=.slice al (i+1) cl∧i≤n∧Hid (wr.ownsRow (w2.heap.size) 24 2 (.slice al (i+1) cl) (i+1) (flatU ([((0:Int),c.su.data.toList)]++(c.ifs.take i).map fun p=>((0:Int),p))))∧Hid (Below w2.heap.size w2 wr)) (fun _ iv _=>n - (intOf iv).toNat)
  case atStart=>exact ⟨0,a3,d3,rfl,rfl,Nat.zero_le _,(by rw [Hid,List.take_zero];exact O3),B3⟩
  case round =>
    obtain ⟨i,al,cl,rfl,rfl,hi,hO,hB⟩:=hrel
    have k2:=(hB.out.cell (p:=⟨w1.heap.size,2,none⟩) ccL).trans cc2
    have kL:w1.heap.size<wr.heap.size:=Nat.lt_of_lt_of_le ccL hB.out.size
    by_cases hlt:i<n
    · have hiI:(i:Int)<(n:Int):=by omega
      obtain ⟨p,hp⟩:∃ p,c.ifs[i]?=some p:=⟨_,List.getElem?_eq_getElem (by rw [HN.out];exact hlt)⟩
      obtain ⟨bk,oo,rfl,hbk,hcs⟩:=HST.out (fun e=>by rw [e] at hp;simp at hp)
      have q0:wr.cell? ⟨bk,oo+i,none⟩=some (.string (mkB p)):=(hB.out.cell (p:=⟨bk,oo+i,none⟩) hbk).trans (hcs i p hp)
      have qL:bk<wr.heap.size:=Nat.lt_of_lt_of_le hbk hB.out.size
      have FL:Hid (flatU ([((0:Int),c.su.data.toList)]++(c.ifs.take (i+1)).map fun p=>((0:Int),p))=flatU ([((0:Int),c.su.data.toList)]++(c.ifs.take i).map fun p=>((0:Int),p))++[.int .i64 0,.string (mkB p)]):=by
        rw [Hid,List.take_add_one,hp,Option.toList_some,List.map_append,← List.append_assoc,flatU_app]
        rfl
      generalize [((0:Int),c.su.data.toList)]++(c.ifs.take i).map (fun p=>((0:Int),p))=xs at *
      clear hcs hp
      go_wp2_with (at_builtin;refine wpList_append_own _ rfl _ _ 66 rfl w2.heap.size 24 i0 (.agg #[.int .i64 0,.string ⟨#[]⟩]) 2 24 Tryz.underlying66 hi0 hz0 hz1 hz2 rfl (by decide) (.slice al (i+1) cl) (i+1) (flatU xs) rfl (hO.out.alloc _) ⟨wr.heap.size,0,none⟩ 1 1 [.int .i64 0,.string (mkB p)] rfl rfl ?c1 ?c2 ?c3 ?c4 ?c5 ?_)
      case c1=>exact World.news_of_block (cs:=#[.int .i64 0,.string (mkB p)]) (halloc1 _ _)
      case c2=>intro u hu;simp at hu;rcases hu with rfl|rfl <;> rfl
      case c3=>unfold maxLen;omega
      case c4=>omega
      case c5=>have:=hB.out.size;simp;omega
      intro v' w4 hown hgrow _
      obtain ⟨a4,c4,rfl⟩:=ownv hown
      have B4:Hid (Below w2.heap.size w2 w4):=by
        refine (hB.out.alloc hB.out.size _).grown hgrow (by have:=hB.out.size;simp;omega) (fun z hz=>?_)
        exact (hO.out.lt z hz).1
      have O4:Hid (w4.ownsRow w2.heap.size 24 2 (.slice a4 (i+1+1) c4) (i+1+1) (flatU xs++[.int .i64 0,.string (mkB p)])):=hown
      clear hown hgrow
      go_wp2
      exact ⟨⟨i+1,a4,c4,by simp,rfl,by omega,(by rw [FL.out];exact O4),B4⟩,by simp [intOf];omega⟩
    · have e:i=n:=by omega
      subst e
      have E0:Hid (c.ifs.take i=c.ifs):=List.take_of_length_le (by rw [HN.out];exact Nat.le_refl _)
      rw [E0.out] at hO
      go_wp2
      exact bodyPost_ret (results_tmp rfl _ _ _) rfl ⟨⟨_,rfl,Go.Joins.ownsRow_le hO.out B2.out.size⟩,B2.out.trans (hB.out.mono B2.out.size)⟩
set_option maxHeartbeats 8000000 in
theorem stp_4 (W:World) (b d:Nat) (s:ByteArray) (HI1:Hid (∀ z w,z=((d:Int)+1)→Calls Tryz.prog 107 #[.agg #[.int .i64 z,.string s]] w fun e w'=>e=.returned (.bool false)∧Below w.heap.size w w')) (HLO:Hid (∀ w,Calls Tryz.prog 146 #[.agg #[.int .i64 ((d:Int)+1),.string s]] w fun e w'=>e=.returned (.agg #[.int .i64 (d:Int),.string s])∧Below w.heap.size w w')) (HI2:Hid (∀ z w,z=(d:Int)→Calls Tryz.prog 107 #[.agg #[.int .i64 z,.string s]] w fun e w'=>e=.returned (.bool true)∧Below w.heap.size w w')) :
    Calls Tryz.prog 112 #[.pointer (some ⟨b,0,none⟩),.agg #[.int .i64 ((d:Int)+1),.string s]] W fun e w'=>(∃ v,e=.returned v∧w'.ownsRow W.heap.size 24 2 v 3 (flatU (abv3.map fun p=>((0:Int),p))))∧Below W.heap.size W w':=by
  have hd1:(((d:Int)+1) == 0)=false:=by rw [← Bool.not_eq_true,beq_iff_eq];omega
  have hd2:¬ ((d:Int)+1)=0:=by omega
  go_enter Tryz.func112,Tryz.ntmps112
  go_wp2_with (first
    | (go_at_call 107;refine (HI1.out _ _ (by rfl)).mono ?_;rintro e w1 ⟨rfl,hb⟩;have ssd:=kp2 (n:=W.heap.size) hb (by first|omega|(simp;try omega)) (halloc1 _ _);(try clear ssB ss0 ss1 ssf ssL ssN);obtain ⟨ssB,ss0,ss1,ssf,ssL,ssN⟩:=ssd;have B1:Hid (Below W.heap.size W w1):=bstep (by repeat (first|exact Below.refl _ _|refine Below.setCell ?_ (by simp;try omega) _|refine Below.alloc ?_ (by simp;try omega) _|refine Below.drew ?_)) hb;clear hb HI1)
    | (go_at_call 146;refine (HLO.out _).mono ?_;rintro e w2 ⟨rfl,hb⟩;have ssd:=kp2 (n:=W.heap.size) hb (by first|omega|(simp;try omega)) (ssB.out);(try clear ssB ss0 ss1 ssf ssL ssN);obtain ⟨ssB,ss0,ss1,ssf,ssL,ssN⟩:=ssd;have B2:Hid (Below W.heap.size W w2):=bstep B1.out hb;clear hb HLO)
    | (go_at_call 107;refine (HI2.out _ _ (by rfl)).mono ?_;rintro e w3 ⟨rfl,hb⟩;have lld:=kp2 (n:=w2.heap.size) hb (by simp) (halloc1 _ _);obtain ⟨llB,ll0,ll1,llf,llL,llN⟩:=lld;have B3:Hid (Below W.heap.size W w3):=bstep (B2.out.alloc B2.out.size _) hb;clear hb HI2))
  refine bodyPost_ret (results_tmp rfl _ _ _) rfl ⟨⟨_,rfl,?_⟩,B3.out.alloc B3.out.size _⟩
  exact ⟨rfl,.inr ⟨w3.heap.size,3,_,rfl,B3.out.size,halloc1 _ _,Nat.le_refl _,by unfold maxLen;omega,rfl,rfl⟩⟩
set_option maxHeartbeats 8000000 in
theorem stp_4o (W:World) (b d:Nat) (s:ByteArray) (hd:d=0) (hs:s=⟨#[79,98,106,101,99,116]⟩) (HI1:Hid (∀ z w,z=((d:Int)+1)→Calls Tryz.prog 107 #[.agg #[.int .i64 z,.string s]] w fun e w'=>e=.returned (.bool false)∧Below w.heap.size w w')) (HLO:Hid (∀ w,Calls Tryz.prog 146 #[.agg #[.int .i64 ((d:Int)+1),.string s]] w fun e w'=>e=.returned (.agg #[.int .i64 (d:Int),.string s])∧Below w.heap.size w w')) (HI2:Hid (∀ z w,z=(d:Int)→Calls Tryz.prog 107 #[.agg #[.int .i64 z,.string s]] w fun e w'=>e=.returned (.bool false)∧Below w.heap.size w w')) :
    Calls Tryz.prog 112 #[.pointer (some ⟨b,0,none⟩),.agg #[.int .i64 ((d:Int)+1),.string s]] W fun e w'=>(∃ v,e=.returned v∧w'.ownsRow W.heap.size 24 2 v 3 (flatU (abv3.map fun p=>((0:Int),p))))∧Below W.heap.size W w':=by
  subst hd hs
  go_enter Tryz.func112,Tryz.ntmps112
  go_wp2_with (first
    | (go_at_call 107;refine (HI1.out _ _ (by rfl)).mono ?_;rintro e w1 ⟨rfl,hb⟩;have ssd:=kp2 (n:=W.heap.size) hb (by first|omega|(simp;try omega)) (halloc1 _ _);(try clear ssB ss0 ss1 ssf ssL ssN);obtain ⟨ssB,ss0,ss1,ssf,ssL,ssN⟩:=ssd;have B1:Hid (Below W.heap.size W w1):=bstep (by repeat (first|exact Below.refl _ _|refine Below.setCell ?_ (by simp;try omega) _|refine Below.alloc ?_ (by simp;try omega) _|refine Below.drew ?_)) hb;clear hb HI1)
    | (go_at_call 146;refine (HLO.out _).mono ?_;rintro e w2 ⟨rfl,hb⟩;have ssd:=kp2 (n:=W.heap.size) hb (by first|omega|(simp;try omega)) (ssB.out);(try clear ssB ss0 ss1 ssf ssL ssN);obtain ⟨ssB,ss0,ss1,ssf,ssL,ssN⟩:=ssd;have B2:Hid (Below W.heap.size W w2):=bstep B1.out hb;clear hb HLO)
    | (go_at_call 107;refine (HI2.out _ _ (by rfl)).mono ?_;rintro e w3 ⟨rfl,hb⟩;have lld:=kp2 (n:=w2.heap.size) hb (by simp) (halloc1 _ _);obtain ⟨llB,ll0,ll1,llf,llL,llN⟩:=lld;have B3:Hid (Below W.heap.size W w3):=bstep (B2.out.alloc B2.out.size _) hb;clear hb HI2))
  refine bodyPost_ret (results_tmp rfl _ _ _) rfl ⟨⟨_,rfl,?_⟩,B3.out.alloc B3.out.size _⟩
  exact ⟨rfl,.inr ⟨w3.heap.size,3,_,rfl,B3.out.size,halloc1 _ _,Nat.le_refl _,by unfold maxLen;omega,rfl,rfl⟩⟩
set_option maxHeartbeats 8000000 in
theorem stp_5a (W:World) (b d n:Nat) (s:ByteArray) (us:List (Int×List UInt8)) (hn:n≤1000000) (HN:Hid (us.length=n)) (HBU:Hid (∀ u∈us,0≤u.1∧u.1≤1000)) (hd0:¬ d=0) (HI1:Hid (∀ z w,z=((d:Int)+1)→Calls Tryz.prog 107 #[.agg #[.int .i64 z,.string s]] w fun e w'=>e=.returned (.bool false)∧Below w.heap.size w w')) (HLO:Hid (∀ w,Calls Tryz.prog 146 #[.agg #[.int .i64 ((d:Int)+1),.string s]] w fun e w'=>e=.returned (.agg #[.int .i64 (d:Int),.string s])∧Below w.heap.size w w')) (HI2:Hid (∀ z w,z=(d:Int)→Calls Tryz.prog 107 #[.agg #[.int .i64 z,.string s]] w fun e w'=>e=.returned (.bool false)∧Below w.heap.size w w')) (HRE:Hid (∀ w,Below W.heap.size W w→Calls Tryz.prog 112 #[.pointer (some ⟨b,0,none⟩),.agg #[.int .i64 (d:Int),.string s]] w fun e w'=>(∃ v,e=.returned v∧w'.ownsRow w.heap.size 24 2 v n (flatU us))∧Below w.heap.size w w')) :
    Calls Tryz.prog 112 #[.pointer (some ⟨b,0,none⟩),.agg #[.int .i64 ((d:Int)+1),.string s]] W fun e w'=>(∃ v,e=.returned v∧w'.ownsRow W.heap.size 24 2 v n (flatU (us.map fun u=>(u.1+1,u.2))))∧Below W.heap.size W w':=by
  have hd1:(((d:Int)+1) == 0)=false:=by rw [← Bool.not_eq_true,beq_iff_eq];omega
  have hd2:¬ ((d:Int)+1)=0:=by omega
  have hd3:((d:Int) == 0)=false:=by rw [← Bool.not_eq_true,beq_iff_eq];omega
  have hd4:¬ (d:Int)=0:=by omega
  obtain ⟨i0,hi0,hz0,hz1,hz2⟩:=info_parts Tryz.hinfoTy
  go_enter Tryz.func112,Tryz.ntmps112
  go_wp2_with (first
    | (go_at_call 107;refine (HI1.out _ _ (by rfl)).mono ?_;rintro e w1 ⟨rfl,hb⟩;have ssd:=kp2 (n:=W.heap.size) hb (by first|omega|(simp;try omega)) (halloc1 _ _);(try clear ssB ss0 ss1 ssf ssL ssN);obtain ⟨ssB,ss0,ss1,ssf,ssL,ssN⟩:=ssd;have B1:Hid (Below W.heap.size W w1):=bstep (by repeat (first|exact Below.refl _ _|refine Below.setCell ?_ (by simp;try omega) _|refine Below.alloc ?_ (by simp;try omega) _|refine Below.drew ?_)) hb;clear hb HI1)
    | (go_at_call 146;refine (HLO.out _).mono ?_;rintro e w2 ⟨rfl,hb⟩;have ssd:=kp2 (n:=W.heap.size) hb (by first|omega|(simp;try omega)) (ssB.out);(try clear ssB ss0 ss1 ssf ssL ssN);obtain ⟨ssB,ss0,ss1,ssf,ssL,ssN⟩:=ssd;have B2:Hid (Below W.heap.size W w2):=bstep B1.out hb;clear hb HLO)
    | (go_at_call 107;refine (HI2.out _ _ (by rfl)).mono ?_;rintro e w3 ⟨rfl,hb⟩;have lld:=kp2 (n:=w2.heap.size) hb (by simp) (halloc1 _ _);obtain ⟨llB,ll0,ll1,llf,llL,llN⟩:=lld;have B3:Hid (Below W.heap.size W w3):=bstep (B2.out.alloc B2.out.size _) hb;clear hb HI2)
    | (go_at_call 112;refine (HRE.out _ B3.out).mono ?_;rintro e w4 ⟨⟨vu,rfl,ho⟩,hb⟩;obtain ⟨au,cu,rfl⟩:=ownv ho;have U4:Hid (w4.ownsRow w3.heap.size 24 2 (.slice au n cu) n (flatU us)):=ho;have B4:Hid (Below W.heap.size W w4):=bstep B3.out hb;clear hb ho HRE))
  go_loopw [5,12] (fun lv iv wr=>∃ (i:Nat) (al:Option Addr) (cl:Nat),iv=.int .i64 i∧lv=.slice al i cl∧i≤n∧Hid (wr.ownsRow w4.heap.size 24 2 (.slice al i cl) i (flatU ((us.take i).map fun u=>(u.1+1,u.2))))∧Hid (Below w4.heap.size w4 wr)) (fun _ iv _=>n - (intOf iv).toNat)
  case atStart=>exact ⟨0,none,0,rfl,rfl,Nat.zero_le _,(by rw [Hid,List.take_zero];exact World.ownsRow_nil _ _ _ _),Below.refl _ _⟩
  case round =>
    obtain ⟨i,al,cl,rfl,rfl,hi,hO,hB⟩:=hrel
    by_cases hlt:i<n
    · have hiI:(i:Int)<(n:Int):=by omega
      obtain ⟨⟨e0,p⟩,hu⟩:∃ u,us[i]?=some u:=⟨_,List.getElem?_eq_getElem (by rw [HN.out];exact hlt)⟩
      have hbu:=HBU.out _ (List.mem_of_getElem? hu)
      obtain ⟨gu,capu,hfu⟩:=Go.Joins.ownsRow_form U4.out (by omega)
      injection hfu with e1 _ e2
      subst e1 e2
      obtain ⟨m0,m1,mL⟩:=rowU_at U4.out hu
      simp only at m0 m1 hbu
      have x0:=(hB.out.cell (p:=⟨gu,i * 2,none⟩) mL).trans m0
      have x1:=(hB.out.cell (p:=⟨gu,i * 2+1,none⟩) mL).trans m1
      have xL:gu<wr.heap.size:=Nat.lt_of_lt_of_le mL hB.out.size
      have xN:¬ gu=wr.heap.size:=by omega
      have hwz:=hB.out.size
      have FL:Hid (flatU ((us.take (i+1)).map fun u=>(u.1+1,u.2))=flatU ((us.take i).map fun u=>(u.1+1,u.2))++[.int .i64 (e0+1),.string (mkB p)]):=by
        rw [Hid,List.take_add_one,hu,Option.toList_some,List.map_append,flatU_app]
        rfl
      generalize (us.take i).map (fun u=>(u.1+1,u.2))=xs at *
      generalize mkB p=pb at *
      have hw1:IntKind.i64.wrap (e0+1)=e0+1:=by rw [IntKind.wrap_i64];omega
      clear hu m0 m1
      go_upto_region 21 with fail
      go_region_law (refine step_append_lies _ rfl (.tmp 85) (.tmp 98) 66 rfl w4.heap.size 24 i0 (.agg #[.int .i64 0,.string ⟨#[]⟩]) 2 24 Tryz.underlying66 hi0 hz0 hz1 hz2 rfl (by decide) (.slice al i cl) i (flatU xs) (by simp [Act.eval]) ((hO.out.drew).alloc _) ⟨wr.heap.size,0,none⟩ 1 1 [.int .i64 (e0+1),.string pb] (by simp [Act.eval]) rfl (World.news_of_block (heap_alloc_new _ _)) ?_ (by decide) ?_ ?_ ?_ _ rfl ?_;(intro u hu;simp at hu;rcases hu with rfl|rfl <;> rfl);(unfold maxLen;omega);omega;(simp;omega);intro g5 cap5 w5 hown hgrow _ _;have O5:Hid (w5.ownsRow w4.heap.size 24 2 (.slice (some ⟨g5,0,none⟩) (i+1) cap5) (i+1) (flatU xs++[.int .i64 (e0+1),.string pb])):=hown;have B5:Hid (Below w4.heap.size w4 w5):=(Below.grown (w:=_) ((hB.out.drew).alloc (by simpa using hwz) _) hgrow (by simp;omega) (fun z hz=>(hO.out.lt z hz).1));clear hown hgrow)
      all_goals go_wp2
      all_goals exact ⟨⟨i+1,_,cap5,by simp,rfl,by omega,(by rw [FL.out];exact O5),B5⟩,by simp [intOf];omega⟩
    · have e:i=n:=by omega
      subst e
      have E0:Hid (us.take i=us):=List.take_of_length_le (by rw [HN.out];exact Nat.le_refl _)
      rw [E0.out] at hO
      go_wp2
      exact bodyPost_ret (results_tmp rfl _ _ _) rfl ⟨⟨_,rfl,Go.Joins.ownsRow_le hO.out B4.out.size⟩,B4.out.trans (hB.out.mono B4.out.size)⟩
set_option maxHeartbeats 8000000 in
theorem stp_5b (W:World) (b d n:Nat) (s:ByteArray) (us:List (Int×List UInt8)) (hn:n≤1000000) (HN:Hid (us.length=n)) (HBU:Hid (∀ u∈us,0≤u.1∧u.1≤1000)) (hd0:d=0) (hs0:¬ s.toList=sObj) (HI1:Hid (∀ z w,z=((d:Int)+1)→Calls Tryz.prog 107 #[.agg #[.int .i64 z,.string s]] w fun e w'=>e=.returned (.bool false)∧Below w.heap.size w w')) (HLO:Hid (∀ w,Calls Tryz.prog 146 #[.agg #[.int .i64 ((d:Int)+1),.string s]] w fun e w'=>e=.returned (.agg #[.int .i64 (d:Int),.string s])∧Below w.heap.size w w')) (HI2:Hid (∀ z w,z=(d:Int)→Calls Tryz.prog 107 #[.agg #[.int .i64 z,.string s]] w fun e w'=>e=.returned (.bool false)∧Below w.heap.size w w')) (HRE:Hid (∀ w,Below W.heap.size W w→Calls Tryz.prog 112 #[.pointer (some ⟨b,0,none⟩),.agg #[.int .i64 (d:Int),.string s]] w fun e w'=>(∃ v,e=.returned v∧w'.ownsRow w.heap.size 24 2 v n (flatU us))∧Below w.heap.size w w')) :
    Calls Tryz.prog 112 #[.pointer (some ⟨b,0,none⟩),.agg #[.int .i64 ((d:Int)+1),.string s]] W fun e w'=>(∃ v,e=.returned v∧w'.ownsRow W.heap.size 24 2 v n (flatU (us.map fun u=>(u.1+1,u.2))))∧Below W.heap.size W w':=by
  have hs1:(s.toList == [79,98,106,101,99,116])=false:=by rw [← Bool.not_eq_true,beq_iff_eq];exact hs0
  subst hd0
  obtain ⟨i0,hi0,hz0,hz1,hz2⟩:=info_parts Tryz.hinfoTy
  go_enter Tryz.func112,Tryz.ntmps112
  go_wp2_with (first
    | (go_at_call 107;refine (HI1.out _ _ (by rfl)).mono ?_;rintro e w1 ⟨rfl,hb⟩;have ssd:=kp2 (n:=W.heap.size) hb (by first|omega|(simp;try omega)) (halloc1 _ _);(try clear ssB ss0 ss1 ssf ssL ssN);obtain ⟨ssB,ss0,ss1,ssf,ssL,ssN⟩:=ssd;have B1:Hid (Below W.heap.size W w1):=bstep (by repeat (first|exact Below.refl _ _|refine Below.setCell ?_ (by simp;try omega) _|refine Below.alloc ?_ (by simp;try omega) _|refine Below.drew ?_)) hb;clear hb HI1)
    | (go_at_call 146;refine (HLO.out _).mono ?_;rintro e w2 ⟨rfl,hb⟩;have ssd:=kp2 (n:=W.heap.size) hb (by first|omega|(simp;try omega)) (ssB.out);(try clear ssB ss0 ss1 ssf ssL ssN);obtain ⟨ssB,ss0,ss1,ssf,ssL,ssN⟩:=ssd;have B2:Hid (Below W.heap.size W w2):=bstep B1.out hb;clear hb HLO)
    | (go_at_call 107;refine (HI2.out _ _ (by rfl)).mono ?_;rintro e w3 ⟨rfl,hb⟩;have lld:=kp2 (n:=w2.heap.size) hb (by simp) (halloc1 _ _);obtain ⟨llB,ll0,ll1,llf,llL,llN⟩:=lld;have B3:Hid (Below W.heap.size W w3):=bstep (B2.out.alloc B2.out.size _) hb;clear hb HI2)
    | (go_at_call 112;refine (HRE.out _ B3.out).mono ?_;rintro e w4 ⟨⟨vu,rfl,ho⟩,hb⟩;obtain ⟨au,cu,rfl⟩:=ownv ho;have U4:Hid (w4.ownsRow w3.heap.size 24 2 (.slice au n cu) n (flatU us)):=ho;have B4:Hid (Below W.heap.size W w4):=bstep B3.out hb;clear hb ho HRE))
  go_loopw [5,12] (fun lv iv wr=>∃ (i:Nat) (al:Option Addr) (cl:Nat),iv=.int .i64 i∧lv=.slice al i cl∧i≤n∧Hid (wr.ownsRow w4.heap.size 24 2 (.slice al i cl) i (flatU ((us.take i).map fun u=>(u.1+1,u.2))))∧Hid (Below w4.heap.size w4 wr)) (fun _ iv _=>n - (intOf iv).toNat)
  case atStart=>exact ⟨0,none,0,rfl,rfl,Nat.zero_le _,(by rw [Hid,List.take_zero];exact World.ownsRow_nil _ _ _ _),Below.refl _ _⟩
  case round =>
    obtain ⟨i,al,cl,rfl,rfl,hi,hO,hB⟩:=hrel
    by_cases hlt:i<n
    · have hiI:(i:Int)<(n:Int):=by omega
      obtain ⟨⟨e0,p⟩,hu⟩:∃ u,us[i]?=some u:=⟨_,List.getElem?_eq_getElem (by rw [HN.out];exact hlt)⟩
      have hbu:=HBU.out _ (List.mem_of_getElem? hu)
      obtain ⟨gu,capu,hfu⟩:=Go.Joins.ownsRow_form U4.out (by omega)
      injection hfu with e1 _ e2
      subst e1 e2
      obtain ⟨m0,m1,mL⟩:=rowU_at U4.out hu
      simp only at m0 m1 hbu
      have x0:=(hB.out.cell (p:=⟨gu,i * 2,none⟩) mL).trans m0
      have x1:=(hB.out.cell (p:=⟨gu,i * 2+1,none⟩) mL).trans m1
      have xL:gu<wr.heap.size:=Nat.lt_of_lt_of_le mL hB.out.size
      have xN:¬ gu=wr.heap.size:=by omega
      have hwz:=hB.out.size
      have FL:Hid (flatU ((us.take (i+1)).map fun u=>(u.1+1,u.2))=flatU ((us.take i).map fun u=>(u.1+1,u.2))++[.int .i64 (e0+1),.string (mkB p)]):=by
        rw [Hid,List.take_add_one,hu,Option.toList_some,List.map_append,flatU_app]
        rfl
      generalize (us.take i).map (fun u=>(u.1+1,u.2))=xs at *
      generalize mkB p=pb at *
      have hw1:IntKind.i64.wrap (e0+1)=e0+1:=by rw [IntKind.wrap_i64];omega
      clear hu m0 m1
      go_upto_region 21 with fail
      go_region_law (refine step_append_lies _ rfl (.tmp 85) (.tmp 98) 66 rfl w4.heap.size 24 i0 (.agg #[.int .i64 0,.string ⟨#[]⟩]) 2 24 Tryz.underlying66 hi0 hz0 hz1 hz2 rfl (by decide) (.slice al i cl) i (flatU xs) (by simp [Act.eval]) ((hO.out.drew).alloc _) ⟨wr.heap.size,0,none⟩ 1 1 [.int .i64 (e0+1),.string pb] (by simp [Act.eval]) rfl (World.news_of_block (heap_alloc_new _ _)) ?_ (by decide) ?_ ?_ ?_ _ rfl ?_;(intro u hu;simp at hu;rcases hu with rfl|rfl <;> rfl);(unfold maxLen;omega);omega;(simp;omega);intro g5 cap5 w5 hown hgrow _ _;have O5:Hid (w5.ownsRow w4.heap.size 24 2 (.slice (some ⟨g5,0,none⟩) (i+1) cap5) (i+1) (flatU xs++[.int .i64 (e0+1),.string pb])):=hown;have B5:Hid (Below w4.heap.size w4 w5):=(Below.grown (w:=_) ((hB.out.drew).alloc (by simpa using hwz) _) hgrow (by simp;omega) (fun z hz=>(hO.out.lt z hz).1));clear hown hgrow)
      all_goals go_wp2
      all_goals exact ⟨⟨i+1,_,cap5,by simp,rfl,by omega,(by rw [FL.out];exact O5),B5⟩,by simp [intOf];omega⟩
    · have e:i=n:=by omega
      subst e
      have E0:Hid (us.take i=us):=List.take_of_length_le (by rw [HN.out];exact Nat.le_refl _)
      rw [E0.out] at hO
      go_wp2
      exact bodyPost_ret (results_tmp rfl _ _ _) rfl ⟨⟨_,rfl,Go.Joins.ownsRow_le hO.out B4.out.size⟩,B4.out.trans (hB.out.mono B4.out.size)⟩
theorem stp_arr {ps:List Plc} {s:ByteArray} (h:s.toList.isEmpty=true∨s.toList=sObj):∀ d:Nat,stpP ps (d+1) s=abv3.map fun p=>((d:Int),p)
  | 0=>by rw [stpP,if_pos ⟨rfl,h⟩];rfl
  | d+1=>by
    rw [stpP,if_neg (fun e=>absurd e.1 (by omega)),stp_arr h d,List.map_map]
    apply List.map_congr_left
    intro p _
    show ((d:Int)+1,p)=(((d+1:Nat):Int),p)
    rw [Int.natCast_add];rfl
theorem stp_cls {ps:List Plc} {s:ByteArray} {k:Nat} {q:Plc} (he:s.toList.isEmpty=false) (ho:¬ s.toList=sObj) (hk:lookL ps s.data.toList=some k) (hq:ps[k]?=some q) (h0:¬ k=0) (ns:List (List UInt8)) (hns:q.c.xi=strsV ns):∀ d:Nat,stpP ps d s=[((d:Int),q.c.su.data.toList)]++ns.map fun p=>((d:Int),p)
  | 0=>by
    rw [stpP,he,stp0,hk]
    simp only [hq]
    rw [if_neg (by decide),if_neg h0,hns,txt_strs]
    rfl
  | d+1=>by
    rw [stpP,if_neg (fun e=>by rcases e.2 with e|e;rw [he] at e;cases e;exact ho e),stp_cls he ho hk hq h0 ns hns d,List.map_append,List.map_map]
    have e:((d:Int)+1)=((d+1:Nat):Int):=by rw [Int.natCast_add];rfl
    show [((d:Int)+1,q.c.su.data.toList)]++(ns.map fun p=>((d:Int)+1,p))=_
    rw [e]
theorem stp_top {ps:List Plc} (hT:TyW ps) {s:ByteArray} (he:s.toList.isEmpty=false) (hk:lookL ps s.data.toList=some 0):stpP ps 0 s=[]:=by
  rw [stpP,he,stp0,hk]
  simp only [hT.first.1]
  rfl
theorem stp_small {ps:List Plc} (hS:StW ps) {s:ByteArray} {x:Int} (hl:ldI ps x s=0):∀ d:Nat,(d:Int)≤x→(stpP ps d s).length≤100∧∀ u∈stpP ps d s,0≤u.1∧u.1≤(d:Int):=by
  intro d hd
  by_cases hE:s.toList.isEmpty=true∨s.toList=sObj
  · cases d with
    | zero =>
      rcases hE with hE|hE
      · rw [stpP,hE];exact ⟨Nat.zero_le _,fun u hu=>by cases hu⟩
      · have he:s.toList.isEmpty=false:=by rw [hE];rfl
        have hk:lookL ps s.data.toList=some 0:=by rw [← Lib.toList_data,hE];exact hS.ty.look3.1
        rw [stp_top hS.ty he hk];exact ⟨Nat.zero_le _,fun u hu=>by cases hu⟩
    | succ d =>
      rw [stp_arr hE d]
      refine ⟨by rw [List.length_map];decide,fun u hu=>?_⟩
      obtain ⟨p,_,rfl⟩:=List.mem_map.1 hu
      show 0≤(d:Int)∧(d:Int)≤((d+1:Nat):Int)
      omega
  · have he:s.toList.isEmpty=false:=by
      cases h:s.toList.isEmpty with
      | false=>rfl
      | true=>exact absurd (.inl h) hE
    have ho:¬ s.toList=sObj:=fun h=>hE (.inr h)
    obtain ⟨k,hk⟩:=(ld_facts hl).2.2 he
    obtain ⟨q,hq,_⟩:=look_place hk
    obtain ⟨names,ks,p1,p2,_⟩:=hS.wj k q hq
    have h0:¬ k=0:=fun e=>by
      subst e
      exact ho (by rw [Lib.toList_data];exact hS.ty.inj hk hS.ty.look3.1)
    rw [stp_cls he ho hk hq h0 names p1 d]
    have hni:=hS.ni q (List.mem_of_getElem? hq)
    rw [p2] at hni
    refine ⟨by simp;omega,fun u hu=>?_⟩
    rcases List.mem_append.1 hu with hu|hu
    · rw [List.mem_singleton] at hu;subst hu;show 0≤(d:Int)∧(d:Int)≤(d:Int);omega
    · obtain ⟨p,_,rfl⟩:=List.mem_map.1 hu
      show 0≤(d:Int)∧(d:Int)≤(d:Int)
      omega
theorem stp_c {b:Nat} {cs:List Cls} {ps:List Plc} (ht:TwW cs ps) (hS:StW ps) (s:ByteArray) (x:Int) (hl:ldI ps x s=0):∀ (d:Nat),(d:Int)≤x→∀ W:World,RAt b cs W→Calls Tryz.prog 112 #[.pointer (some ⟨b,0,none⟩),.agg #[.int .i64 (d:Int),.string s]] W fun e w'=>(∃ v,e=.returned v∧w'.ownsRow W.heap.size 24 2 v (stpP ps d s).length (flatU (stpP ps d s)))∧Below W.heap.size W w':=by
  intro d
  induction d with
  | zero =>
    intro hd W h
    cases he:s.toList.isEmpty with
    | true =>
      have e0:stpP ps 0 s=[]:=by rw [stpP,he];rfl
      rw [e0]
      exact stp_1 W b s (fun w=>(rIsInt_c 0 s w).mono fun e w' zz=>⟨by rw [zz.1,intB,he];rfl,zz.2⟩)
    | false =>
      obtain ⟨k,hk⟩:=(ld_facts hl).2.2 he
      obtain ⟨q,hq,_⟩:=look_place hk
      obtain ⟨c,hc,hqc⟩:=ht.tw.at' hq
      obtain ⟨g,cap,vi,vm,b0,hbl,hgl,c0,c1,c2,c3,c4,c5,hst,hmt⟩:=h.cells hc
      obtain ⟨ai,ci,rfl,_,_,hcs⟩:=hst
      obtain ⟨am,cm,rfl⟩:=mths_slice hmt
      have hkl:=(List.getElem?_eq_some_iff.1 hc).1
      have hni:=hS.ni q (List.mem_of_getElem? hq)
      have e1:q.c.ni=c.ifs.length:=by rw [hqc];rfl
      have e2:q.c.xi=strsV c.ifs:=by rw [hqc];rfl
      have e3:q.c.su=c.su:=by rw [hqc];rfl
      rw [e1] at hni
      have HI:∀ w,Calls Tryz.prog 107 #[.agg #[.int .i64 0,.string s]] w fun e w'=>e=.returned (.bool false)∧Below w.heap.size w w':=fun w=>(rIsInt_c 0 s w).mono fun e w' zz=>⟨by rw [zz.1,intB,he];rfl,zz.2⟩
      have HBN:∀ w,Below W.heap.size W w→Calls Tryz.prog 57 #[.pointer (some ⟨b,0,none⟩),.string s] w fun e w'=>e=.returned (.tuple #[.int .i64 (k:Int),.int .i64 0])∧w'=w:=fun w hb=>rByName_t (h.below hb) ht s k hk
      by_cases h0:k=0
      · have e0:stpP ps 0 s=[]++c.ifs.map fun p=>((0:Int),p):=by
          rw [stpP,he,stp0,hk]
          simp only [hq]
          rw [if_neg (by decide),if_pos h0,e2,txt_strs]
        rw [e0]
        have hlen:([]++c.ifs.map fun p=>((0:Int),p)).length=c.ifs.length:=by simp
        rw [hlen]
        exact stp_2 W b k cs.length s c g cap ai c.ifs.length ci am c.ms.length cm (by omega) rfl hkl hbl hgl b0 c0 c1 c2 c3 c4 c5 hcs HI HBN h0
      · have e0:stpP ps 0 s=[((0:Int),c.su.data.toList)]++c.ifs.map fun p=>((0:Int),p):=by
          rw [stpP,he,stp0,hk]
          simp only [hq]
          rw [if_neg (by decide),if_neg h0,e2,txt_strs,e3]
        rw [e0]
        have hlen:([((0:Int),c.su.data.toList)]++c.ifs.map fun p=>((0:Int),p)).length=c.ifs.length+1:=by simp
        rw [hlen]
        exact stp_3 W b k cs.length s c g cap ai c.ifs.length ci am c.ms.length cm (by omega) rfl hkl hbl hgl b0 c0 c1 c2 c3 c4 c5 hcs HI HBN h0
  | succ d ih =>
    intro hd W h
    have hx:=(ld_facts hl).2.1
    have ec:((d+1:Nat):Int)=(d:Int)+1:=by rw [Int.natCast_add];rfl
    have HI1:∀ z w,z=(d:Int)+1→Calls Tryz.prog 107 #[.agg #[.int .i64 z,.string s]] w fun e w'=>e=.returned (.bool false)∧Below w.heap.size w w':=fun z w hz=>by
      rw [hz]
      refine (rIsInt_c _ s w).mono fun e w' zz=>⟨?_,zz.2⟩
      have:((d:Int)+1 == 0)=false:=by rw [← Bool.not_eq_true,beq_iff_eq];omega
      rw [zz.1,intB,this,Bool.false_and]
    have HI2:∀ z w,z=(d:Int)→Calls Tryz.prog 107 #[.agg #[.int .i64 z,.string s]] w fun e w'=>e=.returned (.bool (intB (d:Int) s))∧Below w.heap.size w w':=fun z w hz=>by rw [hz];exact rIsInt_c _ s w
    have HLO:∀ w,Calls Tryz.prog 146 #[.agg #[.int .i64 ((d:Int)+1),.string s]] w fun e w'=>e=.returned (.agg #[.int .i64 (d:Int),.string s])∧Below w.heap.size w w':=fun w=>by rw [← ec];exact rLower_c d (by omega) s w
    have HRE:=fun w (hb:Below W.heap.size W w)=>ih (by omega) w (h.below hb)
    obtain ⟨s1,s2⟩:=stp_small hS hl d (by omega)
    have hlen:((stpP ps d s).map fun u=>(u.1+1,u.2)).length=(stpP ps d s).length:=List.length_map _
    rw [ec]
    by_cases h0:d=0
    · cases he:s.toList.isEmpty with
      | true =>
        have e0:stpP ps (d+1) s=abv3.map fun p=>((0:Int),p):=by rw [stpP,if_pos ⟨h0,.inl he⟩]
        have ei:intB (d:Int) s=true:=by rw [intB,he,h0];rfl
        rw [ei] at HI2
        rw [e0]
        exact stp_4 W b d s HI1 HLO HI2
      | false =>
        have ei:intB (d:Int) s=false:=by rw [intB,he,Bool.and_false]
        rw [ei] at HI2
        by_cases ho:s.toList=sObj
        · have e0:stpP ps (d+1) s=abv3.map fun p=>((0:Int),p):=by rw [stpP,if_pos ⟨h0,.inr ho⟩]
          rw [e0]
          exact stp_4o W b d s h0 (eqB (by rw [ho,Lib.toList_data];rfl)) HI1 HLO HI2
        · have e0:stpP ps (d+1) s=(stpP ps d s).map fun u=>(u.1+1,u.2):=by rw [stpP,if_neg (fun e=>by rcases e.2 with e|e;rw [he] at e;cases e;exact ho e)]
          rw [e0,hlen]
          exact stp_5b W b d _ s (stpP ps d s) (by omega) rfl (fun u hu=>by have:=s2 u hu;omega) h0 ho HI1 HLO HI2 HRE
    · have ei:intB (d:Int) s=false:=by
        have:((d:Int) == 0)=false:=by rw [← Bool.not_eq_true,beq_iff_eq];omega
        rw [intB,this,Bool.false_and]
      rw [ei] at HI2
      have e0:stpP ps (d+1) s=(stpP ps d s).map fun u=>(u.1+1,u.2):=by rw [stpP,if_neg (fun e=>h0 e.1)]
      rw [e0,hlen]
      exact stp_5a W b d _ s (stpP ps d s) (by omega) rfl (fun u hu=>by have:=s2 u hu;omega) h0 HI1 HLO HI2 HRE
def abvR (ps:List Plc) (x:Int) (s:ByteArray):List (Int×List UInt8)×Int:=if ldI ps x s=0 then (stpP ps x.toNat s,0) else ([],ldI ps x s)
theorem rAbv_c {b:Nat} {cs:List Cls} {ps:List Plc} {W:World} (h:RAt b cs W) (ht:TwW cs ps) (hS:StW ps) (x:Int) (s:ByteArray) (hs:s.size≤maxLen):Calls Tryz.prog 69 #[.pointer (some ⟨b,0,none⟩),.agg #[.int .i64 x,.string s]] W fun e w'=>(∃ v,e=.returned (.tuple #[v,.int .i64 (abvR ps x s).2])∧w'.ownsRow W.heap.size 24 2 v (abvR ps x s).1.length (flatU (abvR ps x s).1))∧Below W.heap.size W w':=by
  have HL:Hid (∀ w,Below W.heap.size W w→Calls Tryz.prog 106 #[.pointer (some ⟨b,0,none⟩),.agg #[.int .i64 x,.string s]] w fun e w'=>e=.returned (.int .i64 (ldI ps x s))∧Below w.heap.size w w'):=fun w hb=>by
    rw [← ldC_eq ht];exact rLoaded_c (h.below hb) (by rw [ht.tw.len];exact ht.wi.hi) x s hs
  by_cases hl:ldI ps x s=0
  · have e0:abvR ps x s=(stpP ps x.toNat s,0):=by rw [abvR,if_pos hl]
    rw [e0]
    have hx:=(ld_facts hl).1
    have HS:Hid (∀ w,Below W.heap.size W w→Calls Tryz.prog 112 #[.pointer (some ⟨b,0,none⟩),.agg #[.int .i64 x,.string s]] w fun e w'=>(∃ v,e=.returned v∧w'.ownsRow w.heap.size 24 2 v (stpP ps x.toNat s).length (flatU (stpP ps x.toNat s)))∧Below w.heap.size w w'):=fun w hb=>by
      have:=stp_c ht hS s x hl x.toNat (by omega) w (h.below hb)
      rw [show ((x.toNat:Nat):Int)=x by omega] at this
      exact this
    rw [hl] at HL
    generalize stpP ps x.toNat s=us at *
    clear h ht hS hl hs e0 hx
    obtain ⟨n,hn⟩:∃ n,us.length=n:=⟨_,rfl⟩
    simp only [hn] at HS ⊢
    clear hn
    go_enter Tryz.func69,Tryz.ntmps69
    go_wp2_with (first
      | (go_at_call 106;refine (HL.out _ (by repeat (first|exact Below.refl _ _|refine Below.setCell ?_ (by simp;try omega) _|refine Below.alloc ?_ (by simp;try omega) _|refine Below.drew ?_))).mono ?_;rintro e w1 ⟨rfl,hb⟩;have ssd:=kp2 (n:=W.heap.size) hb (by simp) (halloc1 _ _);obtain ⟨ssB,ss0,ss1,ssf,ssL,ssN⟩:=ssd;have B1:Hid (Below W.heap.size W w1):=bstep (by repeat (first|exact Below.refl _ _|refine Below.setCell ?_ (by simp;try omega) _|refine Below.alloc ?_ (by simp;try omega) _|refine Below.drew ?_)) hb;clear hb HL)
      | (go_at_call 112;refine (HS.out _ B1.out).mono ?_;rintro e w2 ⟨⟨v,rfl,ho⟩,hb⟩;obtain ⟨a2,c2,rfl⟩:=ownv ho;have O2:Hid (w2.ownsRow W.heap.size 24 2 (.slice a2 n c2) n (flatU us)):=Go.Joins.ownsRow_le ho B1.out.size;have B2:Hid (Below W.heap.size W w2):=bstep B1.out hb;clear hb ho HS))
    exact bodyPost_ret (results_tmp2 rfl _ _ _) rfl ⟨⟨_,rfl,O2.out⟩,B2.out⟩
  · have e0:abvR ps x s=([],ldI ps x s):=by rw [abvR,if_neg hl]
    rw [e0]
    generalize ldI ps x s=E at *
    have hE:(E == 0)=false:=by simp [hl]
    clear h ht hS hs e0
    go_enter Tryz.func69,Tryz.ntmps69
    go_wp2_with (go_at_call 106;refine (HL.out _ (by repeat (first|exact Below.refl _ _|refine Below.setCell ?_ (by simp;try omega) _|refine Below.alloc ?_ (by simp;try omega) _|refine Below.drew ?_))).mono ?_;rintro e w1 ⟨rfl,hb⟩;have B1:Hid (Below W.heap.size W w1):=bstep (by repeat (first|exact Below.refl _ _|refine Below.setCell ?_ (by simp;try omega) _|refine Below.alloc ?_ (by simp;try omega) _|refine Below.drew ?_)) hb;clear hb HL)
    exact bodyPost_ret (results_tmp2 rfl _ _ _) rfl ⟨⟨_,rfl,World.ownsRow_nil _ _ _ _⟩,B1.out⟩
theorem abv_no {b:Nat} {ps:List Plc} {W:World} (h:WAt b ps W) (x:Int) (s:ByteArray) (hs:s.size≤maxLen) (hl:¬ ldI ps x s=0):Calls Tryz.prog 68 #[.pointer (some ⟨b,0,none⟩),.agg #[.int .i64 x,.string s]] W fun e w'=>e=.returned (.tuple #[.slice none 0 0,.int .i64 (ldI ps x s)])∧Below W.heap.size W w':=by
  have HL:Hid (∀ w,Below W.heap.size W w→Calls Tryz.prog 71 #[.pointer (some ⟨b,0,none⟩),.agg #[.int .i64 x,.string s]] w fun e w'=>e=.returned (.int .i64 (ldI ps x s))∧Below w.heap.size w w'):=fun w hb=>loaded_c (h.below hb) x s hs
  generalize ldI ps x s=E at *
  have hE:(E == 0)=false:=by simp [hl]
  clear h hs
  go_enter Tryz.func68,Tryz.ntmps68
  go_wp2_with (go_at_call 71;refine (HL.out _ (by repeat (first|exact Below.refl _ _|refine Below.setCell ?_ (by simp;try omega) _|refine Below.alloc ?_ (by simp;try omega) _|refine Below.drew ?_))).mono ?_;rintro e w1 ⟨rfl,hb⟩;have B1:Hid (Below W.heap.size W w1):=bstep (by repeat (first|exact Below.refl _ _|refine Below.setCell ?_ (by simp;try omega) _|refine Below.alloc ?_ (by simp;try omega) _|refine Below.drew ?_)) hb;clear hb HL)
  exact bodyPost_ret (results_tmp2 rfl _ _ _) rfl ⟨rfl,B1.out⟩
theorem abv_c {b:Nat} {ps:List Plc} {W:World} (h:WAt b ps W) (hS:StW ps) (x:Int) (s:ByteArray) (hs:s.size≤maxLen):Calls Tryz.prog 68 #[.pointer (some ⟨b,0,none⟩),.agg #[.int .i64 x,.string s]] W fun e w'=>(∃ v,e=.returned (.tuple #[v,.int .i64 (abvR ps x s).2])∧w'.ownsRow W.heap.size 24 2 v (abvR ps x s).1.length (flatU (abvR ps x s).1))∧Below W.heap.size W w':=by
  by_cases hl:ldI ps x s=0
  · have e0:abvR ps x s=(stpP ps x.toNat s,0):=by rw [abvR,if_pos hl]
    rw [e0]
    obtain ⟨x0,x1,xk⟩:=ld_facts hl
    obtain ⟨d,rfl⟩:∃ d:Nat,x=(d:Int):=⟨x.toNat,by omega⟩
    rw [Int.toNat_natCast]
    cases hn:intB (d:Int) s with
    | true =>
      have hd:d=0∧s.toList.isEmpty=true:=by
        rw [intB,Bool.and_eq_true,beq_iff_eq] at hn
        exact ⟨by omega,hn.2⟩
      obtain ⟨rfl,he⟩:=hd
      have e1:stpP ps 0 s=[]:=by rw [stpP,he];rfl
      rw [e1]
      exact above_int h _ s hs hl hn
    | false =>
      by_cases hc:0<d∧(s.toList.isEmpty=true∨s.toList=sObj)
      · obtain ⟨d1,rfl⟩:∃ d1,d=d1+1:=⟨d - 1,by omega⟩
        rw [stp_arr hc.2 d1,List.length_map]
        have:=above_arr h ((d1+1:Nat):Int) s hs hl hn hc.2 (by omega) x1
        rw [show ((d1+1:Nat):Int) - 1=(d1:Int) by omega] at this
        exact this
      · have he:s.toList.isEmpty=false:=by
          cases he:s.toList.isEmpty with
          | false=>rfl
          | true =>
            exfalso
            by_cases hx:0<d
            · exact hc ⟨hx,.inl he⟩
            · have e0:d=0:=by omega
              rw [intB,he,e0] at hn
              exact absurd hn (by decide)
        have hc2:¬ (0<(d:Int)∧s.toList=sObj):=fun h=>hc ⟨by omega,.inr h.2⟩
        obtain ⟨k,hk⟩:=xk he
        obtain ⟨q,hq,hnm⟩:=look_place hk
        have hqm:=List.mem_of_getElem? hq
        have hB:=hS.ty.wi.pb q hqm
        obtain ⟨names,ks,p1,p2,p3,p4,p5,p6,p7⟩:=hS.wj k q hq
        have hni:=hS.ni q hqm
        by_cases h0:0<k
        · have hsu:=(hS.su k q h0 hq).2
          have ho:¬ s.toList=sObj:=fun e=>by
            have e1:lookL ps s.data.toList=some 0:=by rw [← Lib.toList_data,e];exact hS.ty.look3.1
            rw [hk] at e1
            have:=Option.some.inj e1
            omega
          rw [stp_cls he ho hk hq (by omega) names p1 d]
          have:=above_cls h (d:Int) s hs hl hn he hc2 k q hk hq hB names p2 p1 (by omega) hsu
          have hlen:([((d:Int),q.c.su.data.toList)]++names.map fun p=>((d:Int),p)).length=names.length+1:=by simp
          rw [hlen]
          exact this
        · obtain rfl:k=0:=by omega
          have hq0:=hS.ty.first.1
          rw [hq] at hq0
          cases hq0
          have hob:s.toList=sObj:=by
            rw [Lib.toList_data];exact hS.ty.inj hk hS.ty.look3.1
          have hx0:¬ 0<(d:Int):=fun hx=>hc2 ⟨hx,hob⟩
          obtain rfl:d=0:=by omega
          have hnn:names=[]:=List.length_eq_zero_iff.1 p2.symm
          rw [stp_top hS.ty he hk]
          exact above_top h _ s hs hl hn he hc2 0 _ hk hq hB names p2 p1 (by rw [hnn];decide) (by rw [Lib.toList_data];rfl) hnn hx0
  · have e0:abvR ps x s=([],ldI ps x s):=by rw [abvR,if_neg hl]
    rw [e0]
    exact (abv_no h x s hs hl).mono fun e w' zz=>⟨⟨_,zz.1,World.ownsRow_nil _ _ _ _⟩,zz.2⟩
end Go.Proofs.YtkclpcmkplbclaaGreat
