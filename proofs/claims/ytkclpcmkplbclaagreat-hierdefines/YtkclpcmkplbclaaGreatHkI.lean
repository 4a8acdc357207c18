import Derived.Test.YtkclpcmkplbclaaGreatHkA
import Derived.Test.YtkclpcmkplbclaaGreatRfF
import Derived.Test.YtkclpcmkplbclaaGreatOrdB
import Derived.Test.YtkclpcmkplbclaaGreatHrR
import Derived.Test.YtkclpcmkplbclaaGreatWdB
import Derived.Test.YtkclpcmkplbclaaGreatShpG
import Derived.Test.YtkclpcmkplbclaaGreatRfX
import Derived.Test.YtkclpcmkplbclaaGreatHrX
import Derived.Test.YtkclpcmkplbclaaGreatHrH
import Derived.Test.YtkclpcmkplbclaaGreatTys
import Derived.Test.YtkclpcmkplbclaaGreatTypesRef
import Derived.Test.YtkclpcmkplbclaaGreatSoD
import Derived.Test.YtkclpcmkplbclaaGreatOwnRefs
import Derived.Test.YtkclpcmkplbclaaGreatOwnC
import Derived.Test.YtkclpcmkplbclaaGreatSmA
import Derived.BigQuiet
import Derived.Deep.QuietTactic
import Derived.WalkSmall
import Derived.Lib.SliceRun
import Derived.Shelf.RegionOpen
import Derived.Laws.IdiomStrings
import Derived.Deep.LoopGhost
import Derived.Deep.DeepCutAuto
import Derived.Laws.AppendOwn
import Derived.Lib.SmallJoins
import Derived.Deep.AppendLies
set_option maxRecDepth 100000
namespace Go.Proofs.YtkclpcmkplbclaaGreat
open Go.RowKit Go.Maps
def ClsZ (c:Cls):Prop:=c.ifs.length≤8796093022208∧c.ms.length≤1759218604390∧∀ m∈c.ms,m.code.length≤1599289640354
theorem own_shp {w:World} {N e s:Nat} {v:Value} {n:Nat} {xs:List Value} (h:w.ownsRow N e s v n xs):Shp v:=by
  rcases h.2 with ⟨rfl,_⟩|⟨g,cap,cur,rfl,_⟩
  · exact .inl rfl
  · exact .inr ⟨_,_,_,rfl⟩
theorem copy_in {w:World} {N:Nat} {c:Cls} {vi vm:Value} {qm:List (HM×Value)} (ho:OwnC w N vi c.ifs.length (strsV c.ifs) vm qm) (hq:qm.map Prod.fst=c.ms.map hmOf) (hw:ClsW c):ClsIn w vi vm c:=by
  refine ⟨rds_strs (own_rds ho.ifs),own_mths ho hq,own_shp ho.ifs,own_shp ho.ms,fun bk o n cap e k hk v hv=>?_,hw⟩
  have hlen:qm.length=c.ms.length:=by have:=congrArg List.length hq;simpa using this
  obtain ⟨p,hp⟩:∃ p,qm[k]?=some p:=⟨_,List.getElem?_eq_getElem (by omega)⟩
  rcases (own_rds ho.ms).val with ⟨e1,e2⟩|⟨bk',o',cap',e1,h1,h2,h3,h4⟩
  · rw [e1] at e;cases e
  · have e3:=e1.symm.trans e
    injection e3 with e4
    injection e4 with e5
    injection e5 with e6 e7
    subst e6 e7
    have h5:=h4 (k * 6+5) p.2 ((flatH_at qm k p hp 5 (by omega)).trans rfl)
    rw [← Nat.add_assoc,hv] at h5
    rw [Option.some.inj h5]
    exact own_shp (ho.cod p (List.mem_of_getElem? hp))
theorem copy_call (c:Cls) (vi vm:Value) (W:World) (hc:ClsIn W vi vm c) (hz:ClsZ c):Calls Tryz.prog 93 #[.agg #[.string c.nm,.string c.su,vi,.int .i64 c.fl,.int .i64 c.ld,vm]] W fun e w'=>(∃ vi' vm',e=.returned (.agg #[.string c.nm,.string c.su,vi',.int .i64 c.fl,.int .i64 c.ld,vm'])∧ClsIn w' vi' vm' c)∧Below W.heap.size W w':=by
  obtain ⟨r1,pm,r2,r3,r4⟩:=hc.rdw
  have hlen:pm.length=c.ms.length:=by
    have:=congrArg List.length r2
    simpa [hcOf] using this
  refine (rCopy_any c.nm c.su c.fl c.ld vi vm c.ifs.length (strsV c.ifs) pm W r1 (strs_one _) hz.1 r3 (by rw [hlen];exact hz.2.1) (fun p hp=>⟨r4 p hp,?_⟩)).mono ?_
  · have hp1:p.1∈(hcOf c).ms:=by rw [← r2];exact List.mem_map_of_mem hp
    obtain ⟨m,hm,e⟩:=List.mem_map.1 hp1
    rw [← e]
    exact ⟨flatI_one _,hz.2.2 m hm⟩
  · rintro e w' ⟨vi',vm',qm,rfl,ho,hq,hb⟩
    exact ⟨⟨vi',vm',rfl,copy_in ho (hq.trans r2) hc.ok⟩,hb⟩
theorem two_say {cs:List Cls} {ps:List Plc} (h:Twin cs ps) (hn:NmW ps) (c:Cls):rdfV cs (rdfN cs c)=dfV ps.length (defN ps c):=by
  rw [rdf_eq h hn c]
  cases hd:defN ps c with
  | ok p=>simp [errN,rdfV,dfV,h.len]
  | error x=>rw [errN,rdfV,if_neg (def_err hd)];rfl
theorem clss_keep {w w':World} {v:Value} {l:List Cls} (h:IsClss w v l) (hb:Below w.heap.size w w'):IsClss w' v l:=by
  obtain ⟨ao,cap,rfl,h1,h2,h3⟩:=h
  refine ⟨ao,cap,rfl,h1,h2,fun hne=>?_⟩
  obtain ⟨bk,o,e,hlt,hc⟩:=h3 hne
  refine ⟨bk,o,e,Nat.lt_of_lt_of_le hlt hb.size,fun k c hk=>?_⟩
  obtain ⟨vi,vm,h4,h5⟩:=hc k c hk
  exact ⟨vi,vm,fun j u hj=>(hb.cell hlt).trans (h4 j u hj),h5.keep hb⟩
def TwoW (W:World) (b mb b':Nat) (ps:List Plc) (cs:List Cls) (w:World):Prop:=(∃ vp pv,HW w W.heap.size b mb ps vp pv)∧(∃ M v rs,W.heap.size≤M∧M≤w.heap.size∧RW w M b' v rs∧rs.map CR.c=cs)∧Below W.heap.size W w
theorem TwoW.below {W w w':World} {b mb b':Nat} {ps:List Plc} {cs:List Cls} (h:TwoW W b mb b' ps cs w) (hb:Below w.heap.size w w'):TwoW W b mb b' ps cs w':=by
  obtain ⟨⟨vp,pv,h1⟩,⟨M,v,rs,h2,h3,h4,h5⟩,h6⟩:=h
  exact ⟨⟨vp,pv,h1.below hb⟩,⟨M,v,rs,h2,Nat.le_trans h3 hb.size,h4.below hb,h5⟩,bstep h6 hb⟩
theorem two_hier {W w:World} {b mb b':Nat} {ps:List Plc} {cs:List Cls} (h:TwoW W b mb b' ps cs w) (hW:WI ps) (c:Cls) (vi vm:Value) (hc:ClsIn w vi vm c):Calls Tryz.prog 40 #[.pointer (some ⟨b,0,none⟩),.agg #[.string c.nm,.string c.su,vi,.int .i64 c.fl,.int .i64 c.ld,vm]] w fun e w'=>e=.returned (dfV ps.length (defN ps c))∧TwoW W b mb b' (dfP ps (defN ps c)) cs w':=by
  obtain ⟨⟨vp,pv,h1⟩,⟨M,v,rs,h2,h3,h4,h5⟩,h6⟩:=h
  refine (define_any W.heap.size b mb ps vp pv c vi vm w h1 h6.size hc hW.nm).mono ?_
  rintro e w' ⟨rfl,hw',hb',hk⟩
  exact ⟨rfl,hw',⟨M,v,rs,h2,Nat.le_trans h3 hb'.size,h4.keptK (kept_hier h1 hk),h5⟩,h6.trans hb'⟩
theorem two_ref {W w:World} {b mb b':Nat} {ps qs:List Plc} {cs:List Cls} (h:TwoW W b mb b' ps cs w) (ht:Twin cs qs) (hW:WI qs) (c:Cls) (vi vm:Value) (hc:ClsIn w vi vm c):Calls Tryz.prog 86 #[.pointer (some ⟨b',0,none⟩),.agg #[.string c.nm,.string c.su,vi,.int .i64 c.fl,.int .i64 c.ld,vm]] w fun e w'=>e=.returned (rdfV cs (rdfN cs c))∧TwoW W b mb b' ps (rdfC cs c (rdfN cs c)) w':=by
  obtain ⟨⟨vp,pv,h1⟩,⟨M,v,rs,h2,h3,h4,h5⟩,h6⟩:=h
  have hln:rs.length≤300:=by
    have e1:rs.length=cs.length:=by rw [← h5,List.length_map]
    rw [e1,ht.len];exact hW.hi
  refine (rDefine_any M b' v rs c vi vm w h4 h3 hc (fun q hq=>ht.sz hW q.c (by rw [← h5];exact List.mem_map_of_mem hq)) hln).mono ?_
  rintro e w' ⟨rfl,⟨v2,rs2,hw2,hrs2⟩,hb',hf⟩
  rw [h5] at hrs2 ⊢
  exact ⟨rfl,⟨vp,pv,h1.keptK (kept_ref h4 hf)⟩,⟨M,v2,rs2,h2,Nat.le_trans h3 hb'.size,hw2,hrs2⟩,h6.trans (hb'.mono h2)⟩
set_option maxHeartbeats 4000000 in
theorem built6_c (v:Value) (l:List Cls) (W:World) (h:IsClss W v l) (hz:∀ c∈l,ClsZ c):Calls Tryz.prog 42 #[v] W fun e w'=>(∃ b b',e=.returned (.tuple #[.pointer (some ⟨b,0,none⟩),.pointer (some ⟨b',0,none⟩),.bool true])∧WAt b (wld l) w'∧RAt b' (wldC l) w')∧Below W.heap.size W w':=by
  have hCW:=clss_w h
  obtain ⟨ao,cap,rfl,h1,h2,h3⟩:=h
  unfold maxLen at h2
  obtain ⟨L,hL⟩:∃ L,l.length=L:=⟨_,rfl⟩
  have HL:Hid (l.length=L):=hL
  have HI:Hid _:=h3
  have HCW:Hid (∀ c∈l,ClsW c):=hCW
  have HZ:Hid (∀ c∈l,ClsZ c):=hz
  rw [hL] at h1 ⊢
  clear hL h3 hCW hz
  have HN:Hid (∀ w:World,Calls Tryz.prog 38 #[] w fun e w'=>e=.returned (.pointer (some ⟨w.heap.size+1,0,none⟩))∧(∃ vp pv,HW w' w.heap.size (w.heap.size+1) w.heap.size P3 vp pv)∧Below w.heap.size w w'):=new_any
  have HM:Hid (∀ w:World,Calls Tryz.prog 85 #[] w fun e w'=>∃ b v rs,e=.returned (.pointer (some ⟨b,0,none⟩))∧RW w' w.heap.size b v rs∧rs.map CR.c=C3∧Below w.heap.size w w'):=rNew_c
  go_enter Tryz.func42,Tryz.ntmps42
  go_wp2_with (first
    | (go_at_call 38;refine (HN.out _).mono ?_;rintro e w2 ⟨rfl,hw,hb⟩;have H2:Hid (∃ vp pv,HW w2 W.heap.size (W.heap.size+1) W.heap.size P3 vp pv):=hw;have B2:Hid (Below W.heap.size W w2):=hb;clear hb hw HN)
    | (go_at_call 85;refine (HM.out _).mono ?_;rintro e w3 ⟨b',v3,rs3,rfl,hw,hc3,hb⟩;have H3:Hid (TwoW W (W.heap.size+1) W.heap.size b' (wld (l.take 0)) (wldC (l.take 0)) w3):=⟨(by obtain ⟨vp,pv,hh⟩:=H2.out;exact ⟨vp,pv,hh.below hb⟩),⟨w2.heap.size,v3,rs3,B2.out.size,hb.size,hw,hc3⟩,bstep B2.out hb⟩;clear hb hw hc3 HM H2 B2))
  go_loopw [7,8] (fun kv iv wr=>∃ (i:Nat),kv=.bool true∧iv=.int .i64 i∧i≤L∧Hid (TwoW W (W.heap.size+1) W.heap.size b' (wld (l.take i)) (wldC (l.take i)) wr)) (fun _ iv _=>L - (intOf iv).toNat)
  case atStart=>exact ⟨0,rfl,rfl,Nat.zero_le _,H3⟩
  case round =>
    clear H3
    obtain ⟨i,rfl,rfl,hi,hT⟩:=hrel
    by_cases hlt:i<L
    · obtain ⟨c,hc⟩:∃ c,l[i]?=some c:=⟨_,List.getElem?_eq_getElem (by rw [HL.out];exact hlt)⟩
      obtain ⟨bk,o,rfl,hbk,hcl⟩:=HI.out (fun e=>by rw [e] at hc;simp at hc)
      obtain ⟨vi,vm,hcell,hin⟩:=hcl i c hc
      have bel:Below W.heap.size W wr:=hT.out.2.2
      have p0:wr.cell? ⟨bk,o+i * 6,none⟩=some (.string c.nm):=(bel.cell (p:=⟨bk,o+i * 6,none⟩) hbk).trans (hcell 0 _ rfl)
      have p1:wr.cell? ⟨bk,o+i * 6+1,none⟩=some (.string c.su):=(bel.cell (p:=⟨bk,o+i * 6+1,none⟩) hbk).trans (hcell 1 _ rfl)
      have p2:wr.cell? ⟨bk,o+i * 6+2,none⟩=some (vi):=(bel.cell (p:=⟨bk,o+i * 6+2,none⟩) hbk).trans (hcell 2 _ rfl)
      have p3:wr.cell? ⟨bk,o+i * 6+3,none⟩=some (.int .i64 c.fl):=(bel.cell (p:=⟨bk,o+i * 6+3,none⟩) hbk).trans (hcell 3 _ rfl)
      have p4:wr.cell? ⟨bk,o+i * 6+4,none⟩=some (.int .i64 c.ld):=(bel.cell (p:=⟨bk,o+i * 6+4,none⟩) hbk).trans (hcell 4 _ rfl)
      have p5:wr.cell? ⟨bk,o+i * 6+5,none⟩=some (vm):=(bel.cell (p:=⟨bk,o+i * 6+5,none⟩) hbk).trans (hcell 5 _ rfl)
      have hTk:∀ c∈l.take i,ClsW c:=fun c hc=>HCW.out c (List.mem_of_mem_take hc)
      have hTw:Twin (wldC (l.take i)) (wld (l.take i)):=twin_take l HCW.out i
      have hWI:WI (wld (l.take i)):=wld_wi _ hTk
      have hNm:NmW (wld (l.take i)):=nmW _ hTk
      have hmem:c∈l:=List.mem_of_getElem? hc
      obtain ⟨K,E,hKE⟩:∃ K E,dfV (wld (l.take i)).length (defN (wld (l.take i)) c)=.tuple #[.int .i64 K,.int .i64 E]:=by
        cases defN (wld (l.take i)) c with
        | ok p=>exact ⟨_,_,rfl⟩
        | error x=>exact ⟨_,_,rfl⟩
      have HC:Hid (Calls Tryz.prog 93 #[.agg #[.string c.nm,.string c.su,vi,.int .i64 c.fl,.int .i64 c.ld,vm]] wr fun e w'=>(∃ vi' vm',e=.returned (.agg #[.string c.nm,.string c.su,vi',.int .i64 c.fl,.int .i64 c.ld,vm'])∧ClsIn w' vi' vm' c)∧Below wr.heap.size wr w'):=copy_call c vi vm wr (hin.keep bel) (HZ.out c hmem)
      have HD:Hid (∀ (w:World) (vi' vm':Value),Below wr.heap.size wr w→ClsIn w vi' vm' c→Calls Tryz.prog 40 #[.pointer (some ⟨W.heap.size+1,0,none⟩),.agg #[.string c.nm,.string c.su,vi',.int .i64 c.fl,.int .i64 c.ld,vm']] w fun e w'=>e=.returned (.tuple #[.int .i64 K,.int .i64 E])∧TwoW W (W.heap.size+1) W.heap.size b' (wld (l.take (i+1))) (wldC (l.take i)) w'):=by
        intro w vi' vm' hb hci
        refine (two_hier (hT.out.below hb) hWI c vi' vm' hci).mono ?_
        rintro e w' ⟨rfl,ht⟩
        rw [wld_at hc]
        exact ⟨by rw [hKE],ht⟩
      have HE:Hid (∀ w:World,TwoW W (W.heap.size+1) W.heap.size b' (wld (l.take (i+1))) (wldC (l.take i)) w→Calls Tryz.prog 86 #[.pointer (some ⟨b',0,none⟩),.agg #[.string c.nm,.string c.su,vi,.int .i64 c.fl,.int .i64 c.ld,vm]] w fun e w'=>e=.returned (.tuple #[.int .i64 K,.int .i64 E])∧Hid (TwoW W (W.heap.size+1) W.heap.size b' (wld (l.take (i+1))) (wldC (l.take (i+1))) w')):=by
        intro w hw
        refine (two_ref hw hTw hWI c vi vm (hin.keep hw.2.2)).mono ?_
        rintro e w' ⟨rfl,ht⟩
        rw [wldC_at hc]
        exact ⟨by rw [two_say hTw hNm c,hKE],ht⟩
      have HQ:Hid (∀ w:World,Below W.heap.size W w→w.cell? ⟨bk,o+i * 6,none⟩=some (.string c.nm)∧w.cell? ⟨bk,o+i * 6+1,none⟩=some (.string c.su)∧w.cell? ⟨bk,o+i * 6+2,none⟩=some (vi)∧w.cell? ⟨bk,o+i * 6+3,none⟩=some (.int .i64 c.fl)∧w.cell? ⟨bk,o+i * 6+4,none⟩=some (.int .i64 c.ld)∧w.cell? ⟨bk,o+i * 6+5,none⟩=some (vm)):=fun w bel=>⟨(bel.cell (p:=⟨bk,o+i * 6,none⟩) hbk).trans (hcell 0 _ rfl),(bel.cell (p:=⟨bk,o+i * 6+1,none⟩) hbk).trans (hcell 1 _ rfl),(bel.cell (p:=⟨bk,o+i * 6+2,none⟩) hbk).trans (hcell 2 _ rfl),(bel.cell (p:=⟨bk,o+i * 6+3,none⟩) hbk).trans (hcell 3 _ rfl),(bel.cell (p:=⟨bk,o+i * 6+4,none⟩) hbk).trans (hcell 4 _ rfl),(bel.cell (p:=⟨bk,o+i * 6+5,none⟩) hbk).trans (hcell 5 _ rfl)⟩
      clear hcl hcell hin hc bel hWI hT HI hTw hTk hmem hKE hNm
      go_wp2_with (first
        | (go_at_call 93;refine HC.out.mono ?_;rintro e w4 ⟨⟨vi4,vm4,rfl,hci⟩,hb4⟩;have CI:Hid (ClsIn w4 vi4 vm4 c):=hci;have B4:Hid (Below wr.heap.size wr w4):=hb4;clear hci hb4 HC)
        | (go_at_call 40;refine (HD.out _ _ _ B4.out CI.out).mono ?_;rintro e w5 ⟨rfl,ht⟩;obtain ⟨q0,q1,q2,q3,q4,q5⟩:=HQ.out w5 ht.2.2;have T5:Hid (TwoW W (W.heap.size+1) W.heap.size b' (wld (l.take (i+1))) (wldC (l.take i)) w5):=ht;clear ht HD B4 CI HQ)
        | (go_at_call 86;refine (HE.out _ T5.out).mono ?_;rintro e w6 ⟨rfl,T6⟩;clear T5 HE))
      go_roundw
      case rel=>exact ⟨i+1,rfl,by go_num,by omega,T6⟩
      case measure=>simp [intOf];omega
    · have e:i=L:=by omega
      subst e
      have HF:Hid (TwoW W (W.heap.size+1) W.heap.size b' (wld l) (wldC l) wr):=by
        have:=hT.out
        rw [List.take_of_length_le (by rw [HL.out];exact Nat.le_refl _)] at this
        exact this
      clear hT HI
      go_wp2
      refine bodyPost_ret (results_tmp3 rfl _ _ _) rfl ?_
      obtain ⟨⟨vp,pv,f1⟩,⟨M,v',rs',_,_,f4,f5⟩,f6⟩:=HF.out
      exact ⟨⟨_,_,rfl,f1.wat,⟨_,_,_,f4,f5⟩⟩,f6⟩
def SpW (ps:List Plc):Prop:=∀ k q,0<k→ps[k]?=some q→lookL ps q.c.su.data.toList=some q.sp
theorem spW (l:List Cls) (hl:∀ c∈l,ClsW c):SpW (wld l):=by
  have key:WI (wld l)∧SpW (wld l):=by
    refine wld_ind (P:=fun ps=>WI ps∧SpW ps) ⟨wi3,fun k q h0 hk=>?_⟩ (fun ps c h hc=>⟨h.1.define c hc,?_⟩) l hl
    · match k,hk with
      | 1,hk=>simp [P3] at hk;subst hk;decide
      | 2,hk=>simp [P3] at hk;subst hk;decide
      | (k+3),hk=>simp [P3] at hk
    · cases hd:defN ps c with
      | error e=>exact h.2
      | ok p =>
        obtain ⟨_,_,hn,s,l,hs,_,rfl⟩:=def_ok hd
        intro k q h0 hk
        have hk2:(ps++[(⟨hcOf c,s,gathL (ps.map Plc.cl) s l⟩:Plc)])[k]?=some q:=hk
        show lookL (ps++[_]) q.c.su.data.toList=some q.sp
        by_cases hlt:k<ps.length
        · rw [List.getElem?_append_left hlt] at hk2
          exact look_snoc (h.2 k q h0 hk2) hn
        · rw [List.getElem?_append_right (by omega)] at hk2
          have he:k - ps.length=0:=by
            have:=(List.getElem?_eq_some_iff.1 hk2).1
            simp at this;omega
          rw [he] at hk2
          simp at hk2
          subst hk2
          refine look_snoc ?_ hn
          show lookL ps c.su.data.toList=some s
          rw [aboveN] at hs
          cases hl2:lookL ps c.su.data.toList with
          | none=>rw [hl2] at hs;cases hs
          | some j =>
            rw [hl2] at hs
            simp only at hs
            cases hq:ps[j]? with
            | none=>rw [hq] at hs;cases hs
            | some q =>
              rw [hq] at hs
              simp only at hs
              split at hs
              · split at hs
                · cases hs;rfl
                · cases hs
              · cases hs
  exact key.2
structure TwW (cs:List Cls) (ps:List Plc):Prop where
  tw:Twin cs ps
  nm:NmW ps
  sp:SpW ps
  wi:WI ps
theorem twW (l:List Cls) (hl:∀ c∈l,ClsW c):TwW (wldC l) (wld l):=⟨twin_all l hl,nmW l hl,spW l hl,wld_wi l hl⟩
theorem rIn_t {b:Nat} {cs:List Cls} {ps:List Plc} {W:World} (h:RAt b cs W) (ht:TwW cs ps) (i:Int):Calls Tryz.prog 84 #[.pointer (some ⟨b,0,none⟩),.int .i64 i] W fun e w'=>e=.returned (.bool (plcI ps i).isSome)∧w'=W:=by
  have:=rIn_c h i
  rcases ht.tw.clsI i with ⟨h1,h2⟩|⟨k,c,q,rfl,_,_,_,h1,h2⟩
  · rw [h1] at this;rw [h2];exact this
  · rw [h1] at this;rw [h2];exact this
theorem TwW.ms {cs:List Cls} {ps:List Plc} (h:TwW cs ps) {k:Nat} {c:Cls} {q:Plc} (hc:cs[k]?=some c) (hq:ps[k]?=some q):q.c=hcOf c:=by
  obtain ⟨q',h1,h2⟩:=h.tw.at hc
  rw [hq] at h1
  cases h1
  exact h2
theorem hkeep {w:World} {n:Nat} {x o:Obj} (h:w.heap[n]?=some x):(w.alloc o).heap[n]?=some x:=by
  have hb:Below w.heap.size w (w.alloc o):=(Below.refl _ w).alloc (Nat.le_refl _) _
  exact (hb.block n (Array.getElem?_eq_some_iff.1 h).1).trans h
theorem rw6 {w:World} {n:Nat} {t:TypeId} {a0 a1 a2 a3 a4 a5:Value} (h:w.heap[n]?=some (.cells #[a0,a1,a2,a3,a4,a5] t (0,0))):w.cell? ⟨n,0,none⟩=some a0∧w.cell? ⟨n,1,none⟩=some a1∧w.cell? ⟨n,2,none⟩=some a2∧w.cell? ⟨n,3,none⟩=some a3∧w.cell? ⟨n,4,none⟩=some a4∧w.cell? ⟨n,5,none⟩=some a5∧(∀ k,w.frozen? ⟨n,k,none⟩=false)∧n<w.heap.size :=
  ⟨(cell_of_row w n 0 _ _ _ h).trans rfl,(cell_of_row w n 1 _ _ _ h).trans rfl,(cell_of_row w n 2 _ _ _ h).trans rfl,(cell_of_row w n 3 _ _ _ h).trans rfl,(cell_of_row w n 4 _ _ _ h).trans rfl,(cell_of_row w n 5 _ _ _ h).trans rfl,fun k=>frozen_of_row w n k _ _ h,(Array.getElem?_eq_some_iff.1 h).1⟩
theorem kp6 {V w:World} {N n:Nat} {t:TypeId} {a0 a1 a2 a3 a4 a5:Value} (hb:Below N V w) (hn:n<N:=by first|omega|(simp;try omega)) (h:V.heap[n]?=some (.cells #[a0,a1,a2,a3,a4,a5] t (0,0)):=by first|exact Hid.out (by assumption)|exact hkeep (Hid.out (by assumption))|exact hkeep (hkeep (Hid.out (by assumption)))|exact halloc2 _ _ rfl|exact hkeep (halloc2 _ _ rfl)|exact hkeep (hkeep (halloc2 _ _ rfl))|exact halloc2 _ _ (by simp;done)):Hid (w.heap[n]?=some (.cells #[a0,a1,a2,a3,a4,a5] t (0,0)))∧w.cell? ⟨n,0,none⟩=some a0∧w.cell? ⟨n,1,none⟩=some a1∧w.cell? ⟨n,2,none⟩=some a2∧w.cell? ⟨n,3,none⟩=some a3∧w.cell? ⟨n,4,none⟩=some a4∧w.cell? ⟨n,5,none⟩=some a5∧(∀ k,w.frozen? ⟨n,k,none⟩=false)∧n<w.heap.size∧¬ n=w.heap.size:=by
  have h2:=(hb.block n hn).trans h
  obtain ⟨c0,c1,c2,c3,c4,c5,f,l⟩:=rw6 h2
  exact ⟨h2,c0,c1,c2,c3,c4,c5,f,l,by omega⟩
def cls0:Cls:=⟨⟨#[]⟩,⟨#[]⟩,[],0,0,[]⟩
theorem strs_nil (w:World):IsStrs w (.slice none 0 0) []:=⟨none,0,rfl,Nat.le_refl _,by unfold maxLen;omega,fun h=>absurd rfl h⟩
theorem mths_nil (w:World):IsMths w (.slice none 0 0) []:=⟨none,0,rfl,Nat.le_refl _,by unfold maxLen;omega,fun h=>absurd rfl h⟩
theorem ownc_lists {w:World} {N:Nat} {vi vm:Value} {qm:List (HM×Value)} {c:Cls} (h:OwnC w N vi c.ifs.length (strsV c.ifs) vm qm) (hq:qm.map Prod.fst=c.ms.map hmOf):(∃ ai ci,vi=.slice ai c.ifs.length ci)∧(∃ am cm,vm=.slice am c.ms.length cm)∧IsStrs w vi c.ifs∧IsMths w vm c.ms:=by
  have hlen:qm.length=c.ms.length:=by have:=congrArg List.length hq;simpa using this
  obtain ⟨a1,c1,e1⟩:=ownv h.ifs
  obtain ⟨a2,c2,e2⟩:=ownv h.ms
  exact ⟨⟨a1,c1,e1⟩,⟨a2,c2,by rw [e2,hlen]⟩,rds_strs (own_rds h.ifs),own_mths h hq⟩
set_option maxHeartbeats 4000000 in
theorem rClass_no {b:Nat} {cs:List Cls} {ps:List Plc} {W:World} (h:RAt b cs W) (ht:TwW cs ps) (x:Int) (hx:plcI ps x=none):Calls Tryz.prog 59 #[.pointer (some ⟨b,0,none⟩),.int .i64 x] W fun e w'=>e=.returned (.tuple #[.agg #[.string ⟨#[]⟩,.string ⟨#[]⟩,.slice none 0 0,.int .i64 0,.int .i64 0,.slice none 0 0],.int .i64 3])∧Below W.heap.size W w':=by
  have HI:Hid (∀ w,Below W.heap.size W w→Calls Tryz.prog 84 #[.pointer (some ⟨b,0,none⟩),.int .i64 x] w fun e w'=>e=.returned (.bool false)∧w'=w):=fun w hb=>(rIn_t (h.below hb) ht x).mono fun e w' zz=>⟨by rw [zz.1,hx];rfl,zz.2⟩
  clear h ht hx
  go_enter Tryz.func59,Tryz.ntmps59
  go_wp2_with (go_at_call 84;refine (HI.out _ (by repeat (first|exact Below.refl _ _|refine Below.setCell ?_ (by simp;try omega) _|refine Below.alloc ?_ (by simp;try omega) _|refine Below.drew ?_))).mono ?_;rintro e w9 ⟨rfl,hw9⟩;rw [hw9];clear hw9 w9)
  exact bodyPost_ret (v:=.tuple #[.agg #[.string ⟨#[]⟩,.string ⟨#[]⟩,.slice none 0 0,.int .i64 0,.int .i64 0,.slice none 0 0],.int .i64 3]) (by simp [results,Tryz.results59,go_sem, *]) rfl ⟨rfl,(by repeat (first|exact Below.refl _ _|refine Below.setCell ?_ (by simp;try omega) _|refine Below.alloc ?_ (by simp;try omega) _|refine Below.drew ?_))⟩
set_option maxHeartbeats 8000000 in
theorem rClass_yes {b:Nat} {cs:List Cls} {ps:List Plc} {W:World} (h:RAt b cs W) (ht:TwW cs ps) (k:Nat) (c:Cls) (q:Plc) (hc:cs[k]?=some c) (hq:ps[k]?=some q):Calls Tryz.prog 59 #[.pointer (some ⟨b,0,none⟩),.int .i64 (k:Int)] W fun e w'=>(∃ ai ci am cm,e=.returned (.tuple #[.agg #[.string c.nm,.string c.su,.slice ai c.ifs.length ci,.int .i64 c.fl,.int .i64 c.ld,.slice am c.ms.length cm],.int .i64 0])∧IsStrs w' (.slice ai c.ifs.length ci) c.ifs∧IsMths w' (.slice am c.ms.length cm) c.ms)∧Below W.heap.size W w':=by
  have HI:Hid (∀ w,Below W.heap.size W w→Calls Tryz.prog 84 #[.pointer (some ⟨b,0,none⟩),.int .i64 (k:Int)] w fun e w'=>e=.returned (.bool true)∧w'=w):=fun w hb=>(rIn_t (h.below hb) ht k).mono fun e w' zz=>⟨by rw [zz.1,plcI_nat,hq];rfl,zz.2⟩
  have hB:=ht.wi.pb q (List.mem_of_getElem? hq)
  have hqc:=ht.ms hc hq
  have hkl:k<cs.length:=(List.getElem?_eq_some_iff.1 hc).1
  obtain ⟨N,v,rs,h,rfl⟩:=h
  rw [List.getElem?_map] at hc
  obtain ⟨r,hr,rfl⟩:∃ r,rs[k]?=some r∧r.c=c:=by
    cases e:rs[k]? with
    | none=>rw [e] at hc;cases hc
    | some r=>rw [e] at hc;exact ⟨r,rfl,Option.some.inj hc⟩
  rw [List.length_map] at hkl
  obtain ⟨g,cap,rfl⟩:=Go.Joins.ownsRow_form h.row (by omega)
  have hat:=fun j hj=>(h.row.cellAt (k * 6+j) (by omega)).trans (flatR_at rs k r hr j hj)
  have b0:=cell_of_row W b 0 _ _ _ h.hb
  simp only [List.getElem?_toArray,List.getElem?_cons_zero] at b0
  obtain ⟨qm,hqm,ho⟩:=h.own r (List.mem_of_getElem? hr)
  obtain ⟨⟨ai,ci,hvi⟩,⟨am,cm,hvm⟩,_,_⟩:=ownc_lists ho hqm
  have c0:W.cell? ⟨g,k * 6,none⟩=some (.string r.c.nm):=hat 0 (by omega)
  have c1:W.cell? ⟨g,k * 6+1,none⟩=some (.string r.c.su):=hat 1 (by omega)
  have c2:W.cell? ⟨g,k * 6+2,none⟩=some (.slice ai r.c.ifs.length ci):=by rw [← hvi];exact hat 2 (by omega)
  have c3:W.cell? ⟨g,k * 6+3,none⟩=some (.int .i64 r.c.fl):=hat 3 (by omega)
  have c4:W.cell? ⟨g,k * 6+4,none⟩=some (.int .i64 r.c.ld):=hat 4 (by omega)
  have c5:W.cell? ⟨g,k * 6+5,none⟩=some (.slice am r.c.ms.length cm):=by rw [← hvm];exact hat 5 (by omega)
  have hbl:b<W.heap.size:=(Array.getElem?_eq_some_iff.1 h.hb).1
  have hgl:g<W.heap.size:=World.block_lt_of_cell? W _ c0
  have hbn:¬ b=W.heap.size:=by omega
  have hgn:¬ g=W.heap.size:=by omega
  have HCP:Hid (∀ w,Below W.heap.size W w→Calls Tryz.prog 93 #[.agg #[.string r.c.nm,.string r.c.su,.slice ai r.c.ifs.length ci,.int .i64 r.c.fl,.int .i64 r.c.ld,.slice am r.c.ms.length cm]] w fun e w'=>(∃ vi vm qm,e=.returned (.agg #[.string r.c.nm,.string r.c.su,vi,.int .i64 r.c.fl,.int .i64 r.c.ld,vm])∧OwnC w' w.heap.size vi r.c.ifs.length (strsV r.c.ifs) vm qm∧qm.map Prod.fst=r.c.ms.map hmOf)∧Below w.heap.size w w'):=fun w hb=>by
    have e1:q.c.ni=r.c.ifs.length:=by rw [hqc];rfl
    have e2:q.c.xi=strsV r.c.ifs:=by rw [hqc];rfl
    have e3:q.c.ms=r.c.ms.map hmOf:=by rw [hqc];rfl
    have hlen:qm.length=r.c.ms.length:=by have:=congrArg List.length hqm;simpa using this
    have hml:r.c.ms.length≤1000000:=by have:=hB.ms;rw [e3,List.length_map] at this;exact this
    have hcp:=rCopy_any r.c.nm r.c.su r.c.fl r.c.ld r.vi r.vm r.c.ifs.length (strsV r.c.ifs) qm w (.inl ((own_rds ho.ifs).keep hb)) (by rw [← e2];exact hB.xi) (by have:=hB.ni;omega) (.inl ((own_rds ho.ms).keep hb)) (by omega) (fun p hp=>by
      have hm:p.1∈q.c.ms:=by rw [e3,← hqm];exact List.mem_map_of_mem hp
      have:=hB.cd p.1 hm
      exact ⟨.inl ((own_rds (ho.cod p hp)).keep hb),this.1,by omega⟩)
    rw [hvi,hvm] at hcp
    refine hcp.mono ?_
    rintro e w' ⟨vi,vm,qm',rfl,h1,h2,h3⟩
    exact ⟨⟨vi,vm,qm',rfl,h1,h2.trans hqm⟩,h3⟩
  have hkI:(k:Int)<(rs.length:Int):=by omega
  generalize r.c=c at *
  clear hat ho hqm hB hqc h hr ht hq hc
  go_enter Tryz.func59,Tryz.ntmps59
  go_wp2_with (first
    | (go_at_call 84;refine (HI.out _ (by repeat (first|exact Below.refl _ _|refine Below.setCell ?_ (by simp;try omega) _|refine Below.alloc ?_ (by simp;try omega) _|refine Below.drew ?_))).mono ?_;rintro e w9 ⟨rfl,hw9⟩;rw [hw9];clear hw9 w9)
    | (go_at_call 93;refine (HCP.out _ (by repeat (first|exact Below.refl _ _|refine Below.setCell ?_ (by simp;try omega) _|refine Below.alloc ?_ (by simp;try omega) _|refine Below.drew ?_))).mono ?_;rintro e w1 ⟨⟨vi,vm,qm1,rfl,ho,hm⟩,hb⟩;obtain ⟨⟨a1,d1,rfl⟩,⟨a2,d2,rfl⟩,_,_⟩:=ownc_lists ho hm;have O1:Hid (OwnC w1 (W.heap.size+1) (.slice a1 c.ifs.length d1) c.ifs.length (strsV c.ifs) (.slice a2 c.ms.length d2) qm1∧qm1.map Prod.fst=c.ms.map hmOf):=⟨ho.le (by simp),hm⟩;have rrd:=kp6 (n:=W.heap.size) hb (by simp) (halloc1 _ _);obtain ⟨rrB,rr0,rr1,rr2,rr3,rr4,rr5,rrf,rrL,rrN⟩:=rrd;have B1:Hid (Below W.heap.size W w1):=bstep (by repeat (first|exact Below.refl _ _|refine Below.setCell ?_ (by simp;try omega) _|refine Below.alloc ?_ (by simp;try omega) _|refine Below.drew ?_)) hb;clear hb ho hm HCP))
  refine bodyPost_ret (v:=.tuple #[.agg #[.string c.nm,.string c.su,.slice a1 c.ifs.length d1,.int .i64 c.fl,.int .i64 c.ld,.slice a2 c.ms.length d2],.int .i64 0]) (by simp [results,Tryz.results59,go_sem, *]) rfl ⟨⟨_,_,_,_,rfl,?_⟩,?_⟩
  · have o2:=(((((O1.out.1.setCell (a:=⟨W.heap.size,0,none⟩) (Nat.lt_succ_self _) (.string c.nm)).setCell (a:=⟨W.heap.size,1,none⟩) (Nat.lt_succ_self _) (.string c.su)).setCell (a:=⟨W.heap.size,2,none⟩) (Nat.lt_succ_self _) (.slice a1 c.ifs.length d1)).setCell (a:=⟨W.heap.size,3,none⟩) (Nat.lt_succ_self _) (.int .i64 c.fl)).setCell (a:=⟨W.heap.size,4,none⟩) (Nat.lt_succ_self _) (.int .i64 c.ld)).setCell (a:=⟨W.heap.size,5,none⟩) (Nat.lt_succ_self _) (.slice a2 c.ms.length d2)
    obtain ⟨_,_,s1,s2⟩:=ownc_lists o2 O1.out.2
    exact ⟨s1,s2⟩
  · exact (((((B1.out.setCell (Nat.le_refl _) _).setCell (Nat.le_refl _) _).setCell (Nat.le_refl _) _).setCell (Nat.le_refl _) _).setCell (Nat.le_refl _) _).setCell (Nat.le_refl _) _
theorem two_class {cs:List Cls} {ps:List Plc} (ht:TwW cs ps) (x:Int):∃ (c:Cls) (E:Int),(∀ b w,WAt b ps w→Calls Tryz.prog 19 #[.pointer (some ⟨b,0,none⟩),.int .i64 x] w fun e w'=>(∃ ai ci am cm,e=.returned (.tuple #[.agg #[.string c.nm,.string c.su,.slice ai c.ifs.length ci,.int .i64 c.fl,.int .i64 c.ld,.slice am c.ms.length cm],.int .i64 E])∧IsStrs w' (.slice ai c.ifs.length ci) c.ifs∧IsMths w' (.slice am c.ms.length cm) c.ms)∧Below w.heap.size w w')∧(∀ b w,RAt b cs w→Calls Tryz.prog 59 #[.pointer (some ⟨b,0,none⟩),.int .i64 x] w fun e w'=>(∃ ai ci am cm,e=.returned (.tuple #[.agg #[.string c.nm,.string c.su,.slice ai c.ifs.length ci,.int .i64 c.fl,.int .i64 c.ld,.slice am c.ms.length cm],.int .i64 E])∧IsStrs w' (.slice ai c.ifs.length ci) c.ifs∧IsMths w' (.slice am c.ms.length cm) c.ms)∧Below w.heap.size w w')∧(E=3∨(E=0∧∀ b w,WAt b ps w→Calls Tryz.prog 56 #[.pointer (some ⟨b,0,none⟩),.string c.nm] w fun e w'=>e=.returned (.tuple #[.int .i64 x,.int .i64 0])∧Below w.heap.size w w')):=by
  rcases plcI_cases ps x with ⟨hn,_⟩|⟨k,q,rfl,hk,hq⟩
  · refine ⟨cls0,3,fun b w hw=>?_,fun b w hw=>?_,.inl rfl⟩
    · refine (class_c hw ht.wi.pb x).mono fun e w' zz=>⟨?_,zz.2⟩
      have z:=zz.1
      rw [hn] at z
      exact ⟨none,0,none,0,z,strs_nil _,mths_nil _⟩
    · refine (rClass_no hw ht x hn).mono fun e w' zz=>⟨?_,zz.2⟩
      exact ⟨none,0,none,0,zz.1,strs_nil _,mths_nil _⟩
  · obtain ⟨c,hc,hqc⟩:=ht.tw.at' hk
    refine ⟨c,0,fun b w hw=>?_,fun b w hw=>rClass_yes hw ht k c q hc hk,.inr ⟨rfl,fun b w hw=>?_⟩⟩
    · refine (class_c hw ht.wi.pb (k:Int)).mono fun e w' zz=>⟨?_,zz.2⟩
      have z:=zz.1
      rw [plcI_nat,hk] at z
      obtain ⟨vi,vm,qm,rfl,z2,z3⟩:=z
      rw [hqc] at z2 z3
      obtain ⟨⟨a1,d1,rfl⟩,⟨a2,d2,rfl⟩,s1,s2⟩:=ownc_lists (c:=c) z2 z3
      exact ⟨a1,d1,a2,d2,by rw [hqc];rfl,s1,s2⟩
    · have hn:=(ht.nm k q hk).1
      have e1:nameL q=c.nm.data.toList:=by rw [nameL,hqc];rfl
      have hz:=ht.wi.nm q (List.mem_of_getElem? hk)
      have e2:q.c.nm=c.nm:=by rw [hqc];rfl
      rw [e2] at hz
      refine (byName_c hw c.nm hz).mono fun e w' zz=>⟨?_,zz.2⟩
      rw [zz.1,← e1,hn];rfl
set_option maxHeartbeats 16000000 in
theorem defines_w (ps:List Plc) (cs:List Cls) (W:World) (v:Value) (n:Nat) (hn:n≤300) (HCLN:Hid (cs.length=n))
    (HA:Hid (∀ w:World,Calls Tryz.prog 41 #[] w fun e w'=>e=.returned (.bool true)∧Below w.heap.size w w'))
    (HB:Hid (∀ w:World,Below W.heap.size W w→Calls Tryz.prog 42 #[v] w fun e w'=>(∃ b b',e=.returned (.tuple #[.pointer (some ⟨b,0,none⟩),.pointer (some ⟨b',0,none⟩),.bool true])∧WAt b ps w'∧RAt b' cs w')∧Below w.heap.size w w'))
    (HL:Hid (∀ b w,WAt b ps w→Calls Tryz.prog 58 #[.pointer (some ⟨b,0,none⟩)] w fun e w'=>e=.returned (.int .i64 (n:Int))∧w'=w))
    (HT:Hid (∀ x:Int,∃ (c:Cls) (E:Int),(∀ b w,WAt b ps w→Calls Tryz.prog 19 #[.pointer (some ⟨b,0,none⟩),.int .i64 x] w fun e w'=>(∃ ai ci am cm,e=.returned (.tuple #[.agg #[.string c.nm,.string c.su,.slice ai c.ifs.length ci,.int .i64 c.fl,.int .i64 c.ld,.slice am c.ms.length cm],.int .i64 E])∧IsStrs w' (.slice ai c.ifs.length ci) c.ifs∧IsMths w' (.slice am c.ms.length cm) c.ms)∧Below w.heap.size w w')∧(∀ b w,RAt b cs w→Calls Tryz.prog 59 #[.pointer (some ⟨b,0,none⟩),.int .i64 x] w fun e w'=>(∃ ai ci am cm,e=.returned (.tuple #[.agg #[.string c.nm,.string c.su,.slice ai c.ifs.length ci,.int .i64 c.fl,.int .i64 c.ld,.slice am c.ms.length cm],.int .i64 E])∧IsStrs w' (.slice ai c.ifs.length ci) c.ifs∧IsMths w' (.slice am c.ms.length cm) c.ms)∧Below w.heap.size w w')∧(E=3∨(E=0∧∀ b w,WAt b ps w→Calls Tryz.prog 56 #[.pointer (some ⟨b,0,none⟩),.string c.nm] w fun e w'=>e=.returned (.tuple #[.int .i64 x,.int .i64 0])∧Below w.heap.size w w')))) :
    Calls Tryz.prog 11 #[v] W fun e w'=>e=.returned (.bool true)∧Below W.heap.size W w':=by
  have BB:Hid (Below W.heap.size W W):=Below.refl _ _
  go_enter Tryz.func11,Tryz.ntmps11
  go_upto_region 4 with (first
    | (go_at_call 41;refine (HA.out _).mono ?_;rintro e w1 ⟨rfl,hb⟩;have BB2:Below W.heap.size W w1:=bstep (by repeat (first|refine Below.setCell ?_ (by simp;try omega) _|refine Below.alloc ?_ (by have:=BB.out.size;simp;try omega) _|refine Below.drew ?_|exact BB.out)) hb;clear BB;have BB:Hid (Below W.heap.size W w1):=BB2;clear BB2;clear hb HA)
    | (go_at_call 42;refine (HB.out _ BB.out).mono ?_;rintro e w2 ⟨⟨b,bx,rfl,hw,hx⟩,hb⟩;have HH:Hid (WAt b ps w2):=hw;have HR:Hid (RAt bx cs w2):=hx;have BB2:Below W.heap.size W w2:=bstep (by repeat (first|refine Below.setCell ?_ (by simp;try omega) _|refine Below.alloc ?_ (by have:=BB.out.size;simp;try omega) _|refine Below.drew ?_|exact BB.out)) hb;clear BB;have BB:Hid (Below W.heap.size W w2):=BB2;clear BB2;clear hb HB hw hx))
  obtain ⟨ca,cc,hc0,hc1⟩:=HR.out.len
  rw [HCLN.out] at hc0
  obtain ⟨σ,V,hne,V1,V2⟩:=class_of' (fun w'=>Below w2.heap.size w2 w') ⟨_,Below.refl _ _⟩
  have cV0:∀ z9,(V z9).cell? ⟨bx,0,none⟩=some (.slice ca n cc):=fun z9=>((V1.out z9).cell (p:=⟨bx,0,none⟩) hc1).trans hc0
  have HQ:Hid (∀ z9,Calls Tryz.prog 58 #[.pointer (some ⟨b,0,none⟩)] (V z9) fun e w''=>e=.returned (.int .i64 (n:Int))∧∃ z8,w''=V z8):=fun z9=>(((HL.out b (V z9) (HH.out.below (V1.out z9))).mono fun e w'' zz=>(⟨zz.1,by rw [zz.2];exact Below.refl _ _⟩:_∧Below (V z9).heap.size (V z9) w''))).mono fun e w'' zz=>⟨zz.1,V2.out _ (bstep (V1.out z9) zz.2)⟩
  refine wp_region_class (C:=fun w'=>∃ z8,w'=V z8) (by kernel_rfl) (by kernel_rfl) (V2.out _ (Below.refl _ _).drew) ?_
  repeat (go_big_quiet_step (first|(go_at_call 58;exact HQ.out _)))
  refine wpQuiet_nil ?_
  intro wq hw9
  obtain ⟨s9,hw9⟩:=hw9
  have hb:Below w2.heap.size w2 wq:=by rw [hw9];exact V1.out s9
  clear hw9 cV0 HQ V1 V2 s9 hne V σ
  have HH2:=HH.out.below hb
  have HR2:=HR.out.below hb
  have BB2:=bstep BB.out hb
  clear HH HR BB hb hc0 hc1
  have HH:Hid (WAt b ps wq):=HH2
  have HR:Hid (RAt bx cs wq):=HR2
  have BB:Hid (Below W.heap.size W wq):=BB2
  clear HH2 HR2 BB2
  go_wp2
  go_loopw [6] (fun iv wr=>∃ (i:Nat),iv=.int .i64 ((i:Int) - 1)∧i≤n+2∧Hid (WAt b ps wr)∧Hid (RAt bx cs wr)∧Hid (Below W.heap.size W wr)) (fun iv _=>(n+1 - (intOf iv)).toNat)
  case atStart=>exact ⟨0,rfl,Nat.zero_le _,HH,HR,BB⟩
  case round =>
    clear HH HR BB
    obtain ⟨i,rfl,hi,HH,HR,BB⟩:=hrel
    obtain ⟨x,hx⟩:∃ x:Int,(i:Int) - 1=x:=⟨_,rfl⟩
    rw [hx]
    by_cases hlt:x≤(n:Int)
    · obtain ⟨c,E,hC,hD,hE⟩:=HT.out x
      have HC:Hid (∀ b w,WAt b ps w→Calls Tryz.prog 19 #[.pointer (some ⟨b,0,none⟩),.int .i64 x] w fun e w'=>(∃ ai ci am cm,e=.returned (.tuple #[.agg #[.string c.nm,.string c.su,.slice ai c.ifs.length ci,.int .i64 c.fl,.int .i64 c.ld,.slice am c.ms.length cm],.int .i64 E])∧IsStrs w' (.slice ai c.ifs.length ci) c.ifs∧IsMths w' (.slice am c.ms.length cm) c.ms)∧Below w.heap.size w w'):=hC
      have HD:Hid (∀ b w,RAt b cs w→Calls Tryz.prog 59 #[.pointer (some ⟨b,0,none⟩),.int .i64 x] w fun e w'=>(∃ ai ci am cm,e=.returned (.tuple #[.agg #[.string c.nm,.string c.su,.slice ai c.ifs.length ci,.int .i64 c.fl,.int .i64 c.ld,.slice am c.ms.length cm],.int .i64 E])∧IsStrs w' (.slice ai c.ifs.length ci) c.ifs∧IsMths w' (.slice am c.ms.length cm) c.ms)∧Below w.heap.size w w'):=hD
      have HS:Hid (∀ vi vm ui um w,IsStrs w vi c.ifs→IsMths w vm c.ms→IsStrs w ui c.ifs→IsMths w um c.ms→Calls Tryz.prog 60 #[.agg #[.string c.nm,.string c.su,vi,.int .i64 c.fl,.int .i64 c.ld,vm],.agg #[.string c.nm,.string c.su,ui,.int .i64 c.fl,.int .i64 c.ld,um]] w fun e w'=>e=.returned (.bool true)∧Below w.heap.size w w'):=fun vi vm ui um w h1 h2 h3 h4=>rSame_eq c vi vm ui um w h1 h2 h3 h4
      clear hC hD
      rcases hE with rfl|⟨rfl,hB6⟩
      · go_wp2_with (first
          | (go_at_call 58;refine (HL.out _ _ HH.out).mono ?_;rintro e w9 ⟨rfl,hw9⟩;rw [hw9];clear hw9 w9)
          | (go_at_call 19;refine (HC.out _ _ HH.out).mono ?_;rintro e w3 ⟨⟨a1,d1,a2,d2,rfl,hs1,hs2⟩,hb⟩;have S3:Hid (IsStrs w3 (.slice a1 c.ifs.length d1) c.ifs∧IsMths w3 (.slice a2 c.ms.length d2) c.ms):=⟨hs1,hs2⟩;have BB2:Below W.heap.size W w3:=bstep (by repeat (first|refine Below.setCell ?_ (by simp;try omega) _|refine Below.alloc ?_ (by have:=BB.out.size;simp;try omega) _|refine Below.drew ?_|exact BB.out)) hb;clear BB;have BB:Hid (Below W.heap.size W w3):=BB2;clear BB2;have HH2:=HH.out.below hb;clear HH;have HH:Hid (WAt b ps w3):=HH2;clear HH2;have HR2:=HR.out.below hb;clear HR;have HR:Hid (RAt bx cs w3):=HR2;clear HR2;clear hb HC hs1 hs2)
          | (go_at_call 59;refine (HD.out _ _ (HR.out.below (by repeat (first|refine Below.setCell ?_ (by simp;try omega) _|refine Below.alloc ?_ (by simp;try omega) _|refine Below.drew ?_|exact Below.refl _ _)))).mono ?_;rintro e w4 ⟨⟨b1,f1,b2,f2,rfl,hs1,hs2⟩,hb⟩;have T4:Hid (IsStrs w4 (.slice b1 c.ifs.length f1) c.ifs∧IsMths w4 (.slice b2 c.ms.length f2) c.ms):=⟨hs1,hs2⟩;have S4:Hid (IsStrs w4 (.slice a1 c.ifs.length d1) c.ifs∧IsMths w4 (.slice a2 c.ms.length d2) c.ms):=(by have hk:=(show Below w3.heap.size w3 w4 from bstep (by repeat (first|refine Below.setCell ?_ (by simp;try omega) _|refine Below.alloc ?_ (by simp;try omega) _|refine Below.drew ?_|exact Below.refl _ _)) hb);exact ⟨S3.out.1.keep hk,S3.out.2.keep hk⟩);have uud:=kp6 (n:=w3.heap.size) hb (by first|omega|(simp;try omega)) (halloc1 _ _);(try clear uuB uu0 uu1 uu2 uu3 uu4 uu5 uuf uuL uuN);obtain ⟨uuB,uu0,uu1,uu2,uu3,uu4,uu5,uuf,uuL,uuN⟩:=uud;have BB2:Below W.heap.size W w4:=bstep (by repeat (first|refine Below.setCell ?_ (by simp;try omega) _|refine Below.alloc ?_ (by have:=BB.out.size;simp;try omega) _|refine Below.drew ?_|exact BB.out)) hb;clear BB;have BB:Hid (Below W.heap.size W w4):=BB2;clear BB2;have HH2:=(HH.out.below (by repeat (first|refine Below.setCell ?_ (by simp;try omega) _|refine Below.alloc ?_ (by simp;try omega) _|refine Below.drew ?_|exact Below.refl _ _))).below hb;clear HH;have HH:Hid (WAt b ps w4):=HH2;clear HH2;have HR2:=(HR.out.below (by repeat (first|refine Below.setCell ?_ (by simp;try omega) _|refine Below.alloc ?_ (by simp;try omega) _|refine Below.drew ?_|exact Below.refl _ _))).below hb;clear HR;have HR:Hid (RAt bx cs w4):=HR2;clear HR2;clear hb HD hs1 hs2)
          | (go_at_call 60;refine (HS.out _ _ _ _ _ (S4.out.1.keep (by repeat (first|refine Below.setCell ?_ (by simp;try omega) _|refine Below.alloc ?_ (by simp;try omega) _|refine Below.drew ?_|exact Below.refl _ _))) (S4.out.2.keep (by repeat (first|refine Below.setCell ?_ (by simp;try omega) _|refine Below.alloc ?_ (by simp;try omega) _|refine Below.drew ?_|exact Below.refl _ _))) (T4.out.1.keep (by repeat (first|refine Below.setCell ?_ (by simp;try omega) _|refine Below.alloc ?_ (by simp;try omega) _|refine Below.drew ?_|exact Below.refl _ _))) (T4.out.2.keep (by repeat (first|refine Below.setCell ?_ (by simp;try omega) _|refine Below.alloc ?_ (by simp;try omega) _|refine Below.drew ?_|exact Below.refl _ _)))).mono ?_;rintro e w5 ⟨rfl,hb⟩;have uud:=kp6 (n:=w3.heap.size) hb (by first|omega|(simp;try omega)) (hkeep uuB.out);(try clear uuB uu0 uu1 uu2 uu3 uu4 uu5 uuf uuL uuN);obtain ⟨uuB,uu0,uu1,uu2,uu3,uu4,uu5,uuf,uuL,uuN⟩:=uud;have BB2:Below W.heap.size W w5:=bstep (by repeat (first|refine Below.setCell ?_ (by simp;try omega) _|refine Below.alloc ?_ (by have:=BB.out.size;simp;try omega) _|refine Below.drew ?_|exact BB.out)) hb;clear BB;have BB:Hid (Below W.heap.size W w5):=BB2;clear BB2;have HH2:=(HH.out.below (by repeat (first|refine Below.setCell ?_ (by simp;try omega) _|refine Below.alloc ?_ (by simp;try omega) _|refine Below.drew ?_|exact Below.refl _ _))).below hb;clear HH;have HH:Hid (WAt b ps w5):=HH2;clear HH2;have HR2:=(HR.out.below (by repeat (first|refine Below.setCell ?_ (by simp;try omega) _|refine Below.alloc ?_ (by simp;try omega) _|refine Below.drew ?_|exact Below.refl _ _))).below hb;clear HR;have HR:Hid (RAt bx cs w5):=HR2;clear HR2;clear hb ))
        exact ⟨⟨i+1,by rw [← hx];simp,by omega,HH,HR,BB⟩,by simp [intOf];omega⟩
      · have HB6:Hid (∀ b w,WAt b ps w→Calls Tryz.prog 56 #[.pointer (some ⟨b,0,none⟩),.string c.nm] w fun e w'=>e=.returned (.tuple #[.int .i64 x,.int .i64 0])∧Below w.heap.size w w'):=hB6
        clear hB6
        go_wp2_with (first
          | (go_at_call 58;refine (HL.out _ _ HH.out).mono ?_;rintro e w9 ⟨rfl,hw9⟩;rw [hw9];clear hw9 w9)
          | (go_at_call 19;refine (HC.out _ _ HH.out).mono ?_;rintro e w3 ⟨⟨a1,d1,a2,d2,rfl,hs1,hs2⟩,hb⟩;have S3:Hid (IsStrs w3 (.slice a1 c.ifs.length d1) c.ifs∧IsMths w3 (.slice a2 c.ms.length d2) c.ms):=⟨hs1,hs2⟩;have BB2:Below W.heap.size W w3:=bstep (by repeat (first|refine Below.setCell ?_ (by simp;try omega) _|refine Below.alloc ?_ (by have:=BB.out.size;simp;try omega) _|refine Below.drew ?_|exact BB.out)) hb;clear BB;have BB:Hid (Below W.heap.size W w3):=BB2;clear BB2;have HH2:=HH.out.below hb;clear HH;have HH:Hid (WAt b ps w3):=HH2;clear HH2;have HR2:=HR.out.below hb;clear HR;have HR:Hid (RAt bx cs w3):=HR2;clear HR2;clear hb HC hs1 hs2)
          | (go_at_call 59;refine (HD.out _ _ (HR.out.below (by repeat (first|refine Below.setCell ?_ (by simp;try omega) _|refine Below.alloc ?_ (by simp;try omega) _|refine Below.drew ?_|exact Below.refl _ _)))).mono ?_;rintro e w4 ⟨⟨b1,f1,b2,f2,rfl,hs1,hs2⟩,hb⟩;have T4:Hid (IsStrs w4 (.slice b1 c.ifs.length f1) c.ifs∧IsMths w4 (.slice b2 c.ms.length f2) c.ms):=⟨hs1,hs2⟩;have S4:Hid (IsStrs w4 (.slice a1 c.ifs.length d1) c.ifs∧IsMths w4 (.slice a2 c.ms.length d2) c.ms):=(by have hk:=(show Below w3.heap.size w3 w4 from bstep (by repeat (first|refine Below.setCell ?_ (by simp;try omega) _|refine Below.alloc ?_ (by simp;try omega) _|refine Below.drew ?_|exact Below.refl _ _)) hb);exact ⟨S3.out.1.keep hk,S3.out.2.keep hk⟩);have uud:=kp6 (n:=w3.heap.size) hb (by first|omega|(simp;try omega)) (halloc1 _ _);(try clear uuB uu0 uu1 uu2 uu3 uu4 uu5 uuf uuL uuN);obtain ⟨uuB,uu0,uu1,uu2,uu3,uu4,uu5,uuf,uuL,uuN⟩:=uud;have BB2:Below W.heap.size W w4:=bstep (by repeat (first|refine Below.setCell ?_ (by simp;try omega) _|refine Below.alloc ?_ (by have:=BB.out.size;simp;try omega) _|refine Below.drew ?_|exact BB.out)) hb;clear BB;have BB:Hid (Below W.heap.size W w4):=BB2;clear BB2;have HH2:=(HH.out.below (by repeat (first|refine Below.setCell ?_ (by simp;try omega) _|refine Below.alloc ?_ (by simp;try omega) _|refine Below.drew ?_|exact Below.refl _ _))).below hb;clear HH;have HH:Hid (WAt b ps w4):=HH2;clear HH2;have HR2:=(HR.out.below (by repeat (first|refine Below.setCell ?_ (by simp;try omega) _|refine Below.alloc ?_ (by simp;try omega) _|refine Below.drew ?_|exact Below.refl _ _))).below hb;clear HR;have HR:Hid (RAt bx cs w4):=HR2;clear HR2;clear hb HD hs1 hs2)
          | (go_at_call 60;refine (HS.out _ _ _ _ _ (S4.out.1.keep (by repeat (first|refine Below.setCell ?_ (by simp;try omega) _|refine Below.alloc ?_ (by simp;try omega) _|refine Below.drew ?_|exact Below.refl _ _))) (S4.out.2.keep (by repeat (first|refine Below.setCell ?_ (by simp;try omega) _|refine Below.alloc ?_ (by simp;try omega) _|refine Below.drew ?_|exact Below.refl _ _))) (T4.out.1.keep (by repeat (first|refine Below.setCell ?_ (by simp;try omega) _|refine Below.alloc ?_ (by simp;try omega) _|refine Below.drew ?_|exact Below.refl _ _))) (T4.out.2.keep (by repeat (first|refine Below.setCell ?_ (by simp;try omega) _|refine Below.alloc ?_ (by simp;try omega) _|refine Below.drew ?_|exact Below.refl _ _)))).mono ?_;rintro e w5 ⟨rfl,hb⟩;have uud:=kp6 (n:=w3.heap.size) hb (by first|omega|(simp;try omega)) (hkeep uuB.out);(try clear uuB uu0 uu1 uu2 uu3 uu4 uu5 uuf uuL uuN);obtain ⟨uuB,uu0,uu1,uu2,uu3,uu4,uu5,uuf,uuL,uuN⟩:=uud;have BB2:Below W.heap.size W w5:=bstep (by repeat (first|refine Below.setCell ?_ (by simp;try omega) _|refine Below.alloc ?_ (by have:=BB.out.size;simp;try omega) _|refine Below.drew ?_|exact BB.out)) hb;clear BB;have BB:Hid (Below W.heap.size W w5):=BB2;clear BB2;have HH2:=(HH.out.below (by repeat (first|refine Below.setCell ?_ (by simp;try omega) _|refine Below.alloc ?_ (by simp;try omega) _|refine Below.drew ?_|exact Below.refl _ _))).below hb;clear HH;have HH:Hid (WAt b ps w5):=HH2;clear HH2;have HR2:=(HR.out.below (by repeat (first|refine Below.setCell ?_ (by simp;try omega) _|refine Below.alloc ?_ (by simp;try omega) _|refine Below.drew ?_|exact Below.refl _ _))).below hb;clear HR;have HR:Hid (RAt bx cs w5):=HR2;clear HR2;clear hb )
          | (go_at_call 56;refine (HB6.out _ _ HH.out).mono ?_;rintro e w6 ⟨rfl,hb⟩;have BB2:Below W.heap.size W w6:=bstep (by repeat (first|refine Below.setCell ?_ (by simp;try omega) _|refine Below.alloc ?_ (by have:=BB.out.size;simp;try omega) _|refine Below.drew ?_|exact BB.out)) hb;clear BB;have BB:Hid (Below W.heap.size W w6):=BB2;clear BB2;have HH2:=HH.out.below hb;clear HH;have HH:Hid (WAt b ps w6):=HH2;clear HH2;have HR2:=HR.out.below hb;clear HR;have HR:Hid (RAt bx cs w6):=HR2;clear HR2;clear hb HB6))
        exact ⟨⟨i+1,by rw [← hx];simp,by omega,HH,HR,BB⟩,by simp [intOf];omega⟩
    · go_wp2_with (first
        | (go_at_call 58;refine (HL.out _ _ HH.out).mono ?_;rintro e w9 ⟨rfl,hw9⟩;rw [hw9];clear hw9 w9))
      exact bodyPost_ret (results_tmp rfl _ _ _) rfl ⟨rfl,BB.out⟩
theorem HierDefines_any (v:Value) (l:List Cls) (W:World) (h:IsClss W v l) (hz:∀ c∈l,ClsZ c):Calls Tryz.prog 11 #[v] W fun e w'=>e=.returned (.bool true)∧Below W.heap.size W w':=by
  have ht:TwW (wldC l) (wld l):=twW l (clss_w h)
  exact defines_w (wld l) (wldC l) W v (wld l).length ht.wi.hi ht.tw.len awake_any (fun w hb=>built6_c v l w (clss_keep h hb) hz) (fun b w hw=>len_c hw) (fun x=>two_class ht x)
end Go.Proofs.YtkclpcmkplbclaaGreat
