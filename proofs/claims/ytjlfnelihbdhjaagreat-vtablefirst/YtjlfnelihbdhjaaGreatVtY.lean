import Derived.Test.YtjlfnelihbdhjaaGreatVtR
import Derived.Test.YtjlfnelihbdhjaaGreatGrA
set_option maxRecDepth 100000
namespace Go.Proofs.YtjlfnelihbdhjaaGreat
open Go.RowKit Go.Maps
theorem sel_yes {ps:List Plc} (hW:WI ps) (hU:UnqM ps) (hS:SndM ps) {r c i:Int} (hs:(sloR ps c i).2=0) (hr:vckE ps r=0) (he:extI ps r c=true):selR ps r c i=firI ps r (c,i)∧(selR ps r c i).2=0:=by
  obtain ⟨m,hm,_⟩:=slo_vrt hs
  obtain ⟨kc,j,x,rfl,_,hj,_,_,_,hall⟩:=vown_facts hW hU hS hs
  obtain ⟨y,hy,_,hf,_⟩:=hall r hr he
  have h1:selR ps r (kc:Int) i=(y.2,0):=by
    unfold selR
    rw [hm]
    simp only [if_pos hr,if_pos he,if_pos hs,hj,Int.toNat_natCast]
    rw [bldT,if_pos hr] at hy
    rw [hy]
  rw [h1,hf]
  exact ⟨rfl,rfl⟩
theorem sel_no {ps:List Plc} {r c i:Int} {m:HM} (hm:methI ps c i=some m) (h:¬ ((sloR ps c i).2=0∧vckE ps r=0∧extI ps r c=true)):¬ (selR ps r c i).2=0:=by
  unfold selR
  rw [hm]
  simp only
  by_cases hr:vckE ps r=0
  · rw [if_pos hr]
    by_cases he:extI ps r c=true
    · rw [if_pos he]
      by_cases hs:(sloR ps c i).2=0
      · exact absurd ⟨hs,hr,he⟩ h
      · rw [if_neg hs];exact hs
    · rw [if_neg he];exact (by decide:¬ (6:Int)=0)
  · rw [if_neg hr];exact hr
set_option maxHeartbeats 32000000 in
theorem vfirst_w (ps:List Plc) (W:World) (v:Value) (N:Nat) (HNp:Hid (ps.length=N)) (hN:N≤1000000)
    (HB:Hid (∀ w:World,Below W.heap.size W w→Calls Tryz.prog 45 #[v] w fun e w'=>(∃ b,e=.returned (.pointer (some ⟨b,0,none⟩))∧WAt b ps w')∧Below w.heap.size w w'))
    (HLn:Hid (∀ b w,WAt b ps w→Calls Tryz.prog 28 #[.pointer (some ⟨b,0,none⟩)] w fun e w'=>(e=.returned (.int .i64 (N:Int)))∧w'=w))
    (HCL:Hid (∀ (k:Nat) (q:Plc),ps[k]?=some q→∀ b w,WAt b ps w→Calls Tryz.prog 55 #[.pointer (some ⟨b,0,none⟩),.int .i64 (k:Int)] w fun e w'=>(∃ vi vm qm,e=.returned (.tuple #[.agg #[.string q.c.nm,.string q.c.su,vi,.int .i64 q.c.fl,.int .i64 q.c.ld,vm],.int .i64 0])∧OwnC w' w.heap.size vi q.c.ni q.c.xi vm qm∧qm.map Prod.fst=q.c.ms)∧Below w.heap.size w w'))
    (HKb:Hid (∀ (k:Nat) (q:Plc),ps[k]?=some q→q.c.ms.length≤1000000))
    (HSl:Hid (∀ (k i:Nat),∀ b w,WAt b ps w→Calls Tryz.prog 51 #[.pointer (some ⟨b,0,none⟩),.agg #[.int .i64 (k:Int),.int .i64 (i:Int)]] w fun e w'=>(e=.returned (.tuple #[.int .i64 (sloR ps (k:Int) (i:Int)).1,.int .i64 (sloR ps (k:Int) (i:Int)).2]))∧Below w.heap.size w w'))
    (HIf:Hid (∀ (k:Nat),∀ b w,WAt b ps w→Calls Tryz.prog 56 #[.pointer (some ⟨b,0,none⟩),.int .i64 (k:Int)] w fun e w'=>(e=.returned (.bool (ifcI ps (k:Int))))∧Below w.heap.size w w'))
    (HSe:Hid (∀ (k i r:Nat),∀ b w,WAt b ps w→Calls Tryz.prog 53 #[.pointer (some ⟨b,0,none⟩),.int .i64 (r:Int),.agg #[.int .i64 (k:Int),.int .i64 (i:Int)]] w fun e w'=>(e=.returned (.tuple #[.agg #[.int .i64 (selR ps (r:Int) (k:Int) (i:Int)).1.1,.int .i64 (selR ps (r:Int) (k:Int) (i:Int)).1.2],.int .i64 (selR ps (r:Int) (k:Int) (i:Int)).2]))∧Below w.heap.size w w'))
    (HEx:Hid (∀ (k r:Nat),∀ b w,WAt b ps w→Calls Tryz.prog 57 #[.pointer (some ⟨b,0,none⟩),.int .i64 (r:Int),.int .i64 (k:Int)] w fun e w'=>(e=.returned (.bool (extI ps (r:Int) (k:Int))))∧Below w.heap.size w w'))
    (HFi:Hid (∀ (k i r:Nat),∀ b w,WAt b ps w→Calls Tryz.prog 22 #[.pointer (some ⟨b,0,none⟩),.int .i64 (r:Int),.agg #[.int .i64 (k:Int),.int .i64 (i:Int)]] w fun e w'=>(e=.returned (.tuple #[.agg #[.int .i64 (firI ps (r:Int) ((k:Int),(i:Int))).1.1,.int .i64 (firI ps (r:Int) ((k:Int),(i:Int))).1.2],.int .i64 (firI ps (r:Int) ((k:Int),(i:Int))).2]))∧Below w.heap.size w w'))
    (HQ:Hid (∀ (k i:Nat) (q:Plc) (m:HM),ps[k]?=some q→q.c.ms[i]?=some m→∀ fc,fc=ifcI ps (k:Int)→(fc=false∧(bits .and .i64 m.fl 10 == 0)=true∧(m.nm.toList == [60,105,110,105,116,62])=false→(sloR ps (k:Int) (i:Int)).2=0∧∀ r:Nat,r<N→(ifcI ps (r:Int)=false∧extI ps (r:Int) (k:Int)=true→selR ps (r:Int) (k:Int) (i:Int)=firI ps (r:Int) ((k:Int),(i:Int))∧(selR ps (r:Int) (k:Int) (i:Int)).2=0)∧(¬ (ifcI ps (r:Int)=false∧extI ps (r:Int) (k:Int)=true)→¬ (selR ps (r:Int) (k:Int) (i:Int)).2=0))∧(¬ (fc=false∧(bits .and .i64 m.fl 10 == 0)=true∧(m.nm.toList == [60,105,110,105,116,62])=false)→¬ (sloR ps (k:Int) (i:Int)).2=0∧∀ r:Nat,r<N→¬ (selR ps (r:Int) (k:Int) (i:Int)).2=0))):Calls Tryz.prog 11 #[v] W fun e w'=>e=.returned (.bool true)∧Below W.heap.size W w':=by
  have HA:Hid (∀ w:World,Calls Tryz.prog 44 #[] w fun e w'=>e=.returned (.bool true)∧Below w.heap.size w w'):=awake13_c
  have SI:Hid (∀ (a1 a2:Int) (w:World),Calls Tryz.prog 24 #[.agg #[.int .i64 a1,.int .i64 a2],.agg #[.int .i64 a1,.int .i64 a2]] w fun e w'=>e=.returned (.bool true)∧Below w.heap.size w w'):=fun a1 a2 w=>(sameID_c (a1,a2) (a1,a2) w).mono fun e w' zz=>⟨by rw [zz.1];simp,zz.2⟩
  go_enter Tryz.func11,Tryz.ntmps11
  go_wp2_with (first
    | (go_at_call 44;refine (HA.out _).mono ?_;rintro e w1 ⟨rfl,hb⟩;have B1:Hid (Below W.heap.size W w1):=bstep (by repeat (first|exact Below.refl _ _|refine Below.setCell ?_ (by simp;try omega) _|refine Below.alloc ?_ (by simp;try omega) _|refine Below.drew ?_)) hb;clear hb HA)
    | (go_at_call 45;refine (HB.out _ B1.out).mono ?_;rintro e w2 ⟨⟨b,rfl,hw⟩,hb⟩;have HW2:Hid (∀ w',Below w2.heap.size w2 w'→WAt b ps w'):=(fun w' hb=>hw.below hb);have B2:Hid (Below W.heap.size W w2):=bstep B1.out hb;clear hb HB hw))
  go_loopw [4] (fun kv wr=>∃ (k:Nat),kv=.int .i64 k∧k≤N∧Hid (Below w2.heap.size w2 wr)) (fun kv _=>N - (intOf kv).toNat)
  case atStart=>exact ⟨0,rfl,Nat.zero_le _,Below.refl _ _⟩
  case round =>
    obtain ⟨k,rfl,hk,BB⟩:=hrel
    by_cases hlk:k<N
    · have hkI:(k:Int)<(N:Int):=by omega
      obtain ⟨q,hq⟩:∃ q,ps[k]?=some q:=⟨_,List.getElem?_eq_getElem (by rw [HNp.out];exact hlk)⟩
      go_wp2_with (first
        | (go_at_call 28;refine (HLn.out _ _ (HW2.out _ (by repeat (first|refine Below.setCell ?_ (by simp;try omega) _|refine Below.alloc ?_ (by have:=BB.out.size;simp;try omega) _|refine Below.drew ?_|exact BB.out)))).mono ?_;rintro e w9 ⟨rfl,hw9⟩;rw [hw9];clear hw9 w9)
        | (go_at_call 55;refine (HCL.out k q hq _ _ (HW2.out _ (by repeat (first|refine Below.setCell ?_ (by simp;try omega) _|refine Below.alloc ?_ (by have:=BB.out.size;simp;try omega) _|refine Below.drew ?_|exact BB.out)))).mono ?_;rintro e w3 ⟨⟨vi,vm,qm,rfl,hoc,hqm⟩,hb⟩;obtain ⟨ia,ic,rfl⟩:=ownv hoc.ifs;obtain ⟨ma,mc,rfl⟩:=ownv hoc.ms;have OM:Hid (w3.ownsRow wr.heap.size 81 6 (.slice ma qm.length mc) qm.length (flatH qm)):=hoc.ms;have HQM:Hid (qm.map Prod.fst=q.c.ms):=hqm;have BB2:Below w2.heap.size w2 w3:=bstep (by repeat (first|refine Below.setCell ?_ (by simp;try omega) _|refine Below.alloc ?_ (by have:=BB.out.size;simp;try omega) _|refine Below.drew ?_|exact BB.out)) hb;clear BB;have BB:Hid (Below w2.heap.size w2 w3):=BB2;clear BB2;clear hb hoc hqm))
      obtain ⟨K,hK⟩:∃ K,qm.length=K:=⟨_,rfl⟩
      have HK:Hid (qm.length=K):=hK
      have hKb:K≤1000000:=by
        have h1:=congrArg List.length HQM.out
        have h2:=HKb.out k q hq
        rw [List.length_map,hK] at h1
        omega
      rw [hK] at OM ⊢
      obtain ⟨U,hU⟩:∃ U,U=w3.alloc (.cells #[.string q.c.nm,.string q.c.su,.slice ia q.c.ni ic,.int .i64 q.c.fl,.int .i64 q.c.ld,.slice ma K mc] 48):=⟨_,rfl⟩
      have BB2:Hid (Below w2.heap.size w2 U):=by rw [hU];exact BB.out.alloc BB.out.size _
      have OMU:Hid (U.ownsRow wr.heap.size 81 6 (.slice ma K mc) K (flatH qm)):=by rw [hU];exact OM.out.alloc _
      have hUB:U.heap[w3.heap.size]?=some (.cells #[.string q.c.nm,.string q.c.su,.slice ia q.c.ni ic,.int .i64 q.c.fl,.int .i64 q.c.ld,.slice ma K mc] 48 (0,0)):=by rw [hU];exact halloc1 _ _
      obtain ⟨_,_,_,_,_,xU5,_,xL⟩:=rw6 hUB
      rw [← hU]
      clear hU hK OM BB hUB
      go_loopw [7] (fun kv wr=>∃ (i:Nat),kv=.int .i64 i∧i≤K∧Hid (Below w2.heap.size w2 wr)∧Hid (Below U.heap.size U wr)) (fun kv _=>K - (intOf kv).toNat)
      case atStart=>exact ⟨0,rfl,Nat.zero_le _,BB2,Below.refl _ _⟩
      case round =>
        clear BB2
        obtain ⟨i,rfl,hi,BB,BU⟩:=hrel
        obtain ⟨wm,hwm⟩:∃ w,w=wr:=⟨_,rfl⟩
        subst hwm
        have x5:=(BU.out.cell (p:=⟨w3.heap.size,5,none⟩) xL).trans xU5
        by_cases hlt:i<K
        · have hiI:(i:Int)<(K:Int):=by omega
          obtain ⟨⟨m,um⟩,hm⟩:∃ m,qm[i]?=some m:=⟨_,List.getElem?_eq_getElem (by rw [HK.out];exact hlt)⟩
          have hmm:q.c.ms[i]?=some m:=by rw [← HQM.out,List.getElem?_map,hm];rfl
          obtain ⟨gm,cm,hform,_,gL,_⟩:=own_atS OMU.out (by omega)
          injection hform with hca _ hcc
          subst hca hcc
          have hcell:=fun j (hj:j<6)=>(OMU.out.cellAt (i * 6+j) (by have:=flatH_length qm;have:=HK.out;omega)).trans (flatH_at qm i (m,um) hm j hj)
          have cU0:=hcell 0 (by omega)
          have cU2:=hcell 2 (by omega)
          simp only [hmC,List.getElem?_cons_zero,List.getElem?_cons_succ,Nat.add_zero] at cU0 cU2
          obtain ⟨qa,qb⟩:=HQ.out k i q m hq hmm _ rfl
          have HS1:=HSl.out k i
          have HIk:=HIf.out k
          obtain ⟨G,FR,FI,EX,HSe1,HFi1,HIf1,HEx1,ha,hb2⟩:∃ (G FR:Nat→(Int×Int)×Int) (FI EX:Nat→Bool),Hid (∀ (r:Nat),∀ b w,WAt b ps w→Calls Tryz.prog 53 #[.pointer (some ⟨b,0,none⟩),.int .i64 (r:Int),.agg #[.int .i64 (k:Int),.int .i64 (i:Int)]] w fun e w'=>(e=.returned (.tuple #[.agg #[.int .i64 (G r).1.1,.int .i64 (G r).1.2],.int .i64 (G r).2]))∧Below w.heap.size w w')∧Hid (∀ (r:Nat),∀ b w,WAt b ps w→Calls Tryz.prog 22 #[.pointer (some ⟨b,0,none⟩),.int .i64 (r:Int),.agg #[.int .i64 (k:Int),.int .i64 (i:Int)]] w fun e w'=>(e=.returned (.tuple #[.agg #[.int .i64 (FR r).1.1,.int .i64 (FR r).1.2],.int .i64 (FR r).2]))∧Below w.heap.size w w')∧Hid (∀ (r:Nat),∀ b w,WAt b ps w→Calls Tryz.prog 56 #[.pointer (some ⟨b,0,none⟩),.int .i64 (r:Int)] w fun e w'=>(e=.returned (.bool (FI r)))∧Below w.heap.size w w')∧Hid (∀ (r:Nat),∀ b w,WAt b ps w→Calls Tryz.prog 57 #[.pointer (some ⟨b,0,none⟩),.int .i64 (r:Int),.int .i64 (k:Int)] w fun e w'=>(e=.returned (.bool (EX r)))∧Below w.heap.size w w')∧(ifcI ps (k:Int)=false∧(bits .and .i64 m.fl 10 == 0)=true∧(m.nm.toList == [60,105,110,105,116,62])=false→(sloR ps (k:Int) (i:Int)).2=0∧∀ r:Nat,r<N→(FI r=false∧EX r=true→G r=FR r∧(G r).2=0)∧(¬ (FI r=false∧EX r=true)→¬ (G r).2=0))∧(¬ (ifcI ps (k:Int)=false∧(bits .and .i64 m.fl 10 == 0)=true∧(m.nm.toList == [60,105,110,105,116,62])=false)→¬ (sloR ps (k:Int) (i:Int)).2=0∧∀ r:Nat,r<N→¬ (G r).2=0) :=
            ⟨fun r=>selR ps (r:Int) (k:Int) (i:Int),fun r=>firI ps (r:Int) ((k:Int),(i:Int)),fun r=>ifcI ps (r:Int),fun r=>extI ps (r:Int) (k:Int),fun r=>HSe.out k i r,fun r=>HFi.out k i r,fun r=>HIf.out r,fun r=>HEx.out k r,qa,qb⟩
          clear qa qb HSl HIf HSe HEx HFi HQ HCL HKb hcell hm hmm hq
          have HS1:Hid _:=HS1
          have HIk:Hid _:=HIk
          generalize sloR ps (k:Int) (i:Int)=S at *
          obtain ⟨s1,s2⟩:=S
          generalize ifcI ps (k:Int)=fc at *
          obtain ⟨mn,md,mf,ml,ms,mk⟩:=m
          simp only at ha hb2 cU0 cU2
          have HS1:Hid (∀ b w,WAt b ps w→Calls Tryz.prog 51 #[.pointer (some ⟨b,0,none⟩),.agg #[.int .i64 (k:Int),.int .i64 (i:Int)]] w fun e w'=>e=.returned (.tuple #[.int .i64 s1,.int .i64 s2])∧Below w.heap.size w w'):=HS1
          have HIk:Hid (∀ b w,WAt b ps w→Calls Tryz.prog 56 #[.pointer (some ⟨b,0,none⟩),.int .i64 (k:Int)] w fun e w'=>e=.returned (.bool fc)∧Below w.heap.size w w'):=HIk
          by_cases hv:fc=false∧(bits .and .i64 mf 10 == 0)=true∧(mn.toList == [60,105,110,105,116,62])=false
          · obtain ⟨hs2,hall⟩:=ha hv
            obtain ⟨rfl,hv2,hv3⟩:=hv
            have HP2:Hid (∀ r:Nat,r<N→(FI r=false∧EX r=true→G r=FR r∧(G r).2=0)):=fun r hr=>(hall r hr).1
            have HP3:Hid (∀ r:Nat,r<N→¬ (FI r=false∧EX r=true)→¬ (G r).2=0):=fun r hr=>(hall r hr).2
            subst hs2
            clear ha hb2 hall
            go_wp2_with (first
              | (go_at_call 51;refine (HS1.out _ _ (HW2.out _ (by repeat (first|refine Below.setCell ?_ (by simp;try omega) _|refine Below.alloc ?_ (by have:=BB.out.size;simp;try omega) _|refine Below.drew ?_|exact BB.out)))).mono ?_;rintro e w4 ⟨rfl,hb⟩;have mmd:=kp2 (n:=wm.heap.size) hb;(try clear mmB mm0 mm1 mmf mmL mmN);obtain ⟨mmB,mm0,mm1,mmf,mmL,mmN⟩:=mmd;have BB2:Below w2.heap.size w2 w4:=bstep (by repeat (first|refine Below.setCell ?_ (by simp;try omega) _|refine Below.alloc ?_ (by have:=BB.out.size;simp;try omega) _|refine Below.drew ?_|exact BB.out)) hb;clear BB;have BB:Hid (Below w2.heap.size w2 w4):=BB2;clear BB2;have BU2:Below U.heap.size U w4:=bstep (by repeat (first|refine Below.setCell ?_ (by simp;try omega) _|refine Below.alloc ?_ (by have:=BU.out.size;simp;try omega) _|refine Below.drew ?_|exact BU.out)) hb;clear BU;have BU:Hid (Below U.heap.size U w4):=BU2;clear BU2;clear hb)
              | (go_at_call 56;refine (HIk.out _ _ (HW2.out _ (by repeat (first|refine Below.setCell ?_ (by simp;try omega) _|refine Below.alloc ?_ (by have:=BB.out.size;simp;try omega) _|refine Below.drew ?_|exact BB.out)))).mono ?_;rintro e w5 ⟨rfl,hb⟩;have mmd:=kp2 (n:=wm.heap.size) hb;(try clear mmB mm0 mm1 mmf mmL mmN);obtain ⟨mmB,mm0,mm1,mmf,mmL,mmN⟩:=mmd;have BB2:Below w2.heap.size w2 w5:=bstep (by repeat (first|refine Below.setCell ?_ (by simp;try omega) _|refine Below.alloc ?_ (by have:=BB.out.size;simp;try omega) _|refine Below.drew ?_|exact BB.out)) hb;clear BB;have BB:Hid (Below w2.heap.size w2 w5):=BB2;clear BB2;have BU2:Below U.heap.size U w5:=bstep (by repeat (first|refine Below.setCell ?_ (by simp;try omega) _|refine Below.alloc ?_ (by have:=BU.out.size;simp;try omega) _|refine Below.drew ?_|exact BU.out)) hb;clear BU;have BU:Hid (Below U.heap.size U w5):=BU2;clear BU2;have y5:=(BU.out.cell (p:=⟨w3.heap.size,5,none⟩) xL).trans xU5;have c0:=(BU.out.cell (p:=⟨gm,i * 6,none⟩) gL).trans cU0;have c2:=(BU.out.cell (p:=⟨gm,i * 6+2,none⟩) gL).trans cU2;clear hb))
            go_loopw [12] (fun kv wr=>∃ (r:Nat),kv=.int .i64 r∧r≤N∧Hid (Below w2.heap.size w2 wr)∧Hid (wr.heap[wm.heap.size]?=some (.cells #[.int .i64 (k:Int),.int .i64 (i:Int)] 24 (0,0)))∧Hid (Below U.heap.size U wr)) (fun kv _=>N - (intOf kv).toNat)
            case atStart=>exact ⟨0,rfl,Nat.zero_le _,BB,mmB,BU⟩
            case round =>
              clear BB mmB mm0 mm1 mmf mmL mmN BU y5 c0 c2
              obtain ⟨r,rfl,hr,BB,mmB,BU⟩:=hrel
              obtain ⟨mm0,mm1,mmf,mmL⟩:=rw2 mmB.out
              have mmN:¬ wm.heap.size=wr.heap.size:=by omega
              by_cases hlr:r<N
              · have hrI:(r:Int)<(N:Int):=by omega
                have hp2:=HP2.out r hlr
                have hp3:=HP3.out r hlr
                generalize hGr:G r=g at *
                obtain ⟨⟨a1,a2⟩,f⟩:=g
                have HSe2:Hid (∀ b w,WAt b ps w→Calls Tryz.prog 53 #[.pointer (some ⟨b,0,none⟩),.int .i64 (r:Int),.agg #[.int .i64 (k:Int),.int .i64 (i:Int)]] w fun e w'=>(e=.returned (.tuple #[.agg #[.int .i64 a1,.int .i64 a2],.int .i64 f]))∧Below w.heap.size w w'):=fun b w hw=>by
                  have:=HSe1.out r b w hw
                  rw [hGr] at this
                  exact this
                clear hGr HSe1
                cases hfi:FI r
                case true =>
                  have hf:(f == 0)=false:=by simpa using hp3 (by simp [hfi])
                  have HI2:Hid (∀ b w,WAt b ps w→Calls Tryz.prog 56 #[.pointer (some ⟨b,0,none⟩),.int .i64 (r:Int)] w fun e w'=>(e=.returned (.bool true))∧Below w.heap.size w w'):=fun b w hw=>by
                    have:=HIf1.out r b w hw
                    rw [hfi] at this
                    exact this
                  clear hp2 hp3 HP2 HP3 hfi HIf1
                  go_wp2_with (first
                    | (go_at_call 28;refine (HLn.out _ _ (HW2.out _ (by repeat (first|refine Below.setCell ?_ (by simp;try omega) _|refine Below.alloc ?_ (by have:=BB.out.size;simp;try omega) _|refine Below.drew ?_|exact BB.out)))).mono ?_;rintro e w9 ⟨rfl,hw9⟩;rw [hw9];clear hw9 w9)
                    | (go_at_call 53;refine (HSe2.out _ _ (HW2.out _ (by repeat (first|refine Below.setCell ?_ (by simp;try omega) _|refine Below.alloc ?_ (by have:=BB.out.size;simp;try omega) _|refine Below.drew ?_|exact BB.out)))).mono ?_;rintro e w6 ⟨rfl,hb⟩;have mmd:=kp2 (n:=wm.heap.size) hb;(try clear mmB mm0 mm1 mmf mmL mmN);obtain ⟨mmB,mm0,mm1,mmf,mmL,mmN⟩:=mmd;have BB2:Below w2.heap.size w2 w6:=bstep (by repeat (first|refine Below.setCell ?_ (by simp;try omega) _|refine Below.alloc ?_ (by have:=BB.out.size;simp;try omega) _|refine Below.drew ?_|exact BB.out)) hb;clear BB;have BB:Hid (Below w2.heap.size w2 w6):=BB2;clear BB2;have BU2:Below U.heap.size U w6:=bstep (by repeat (first|refine Below.setCell ?_ (by simp;try omega) _|refine Below.alloc ?_ (by have:=BU.out.size;simp;try omega) _|refine Below.drew ?_|exact BU.out)) hb;clear BU;have BU:Hid (Below U.heap.size U w6):=BU2;clear BU2;clear hb)
                    | (go_at_call 56;refine (HI2.out _ _ (HW2.out _ (by repeat (first|refine Below.setCell ?_ (by simp;try omega) _|refine Below.alloc ?_ (by have:=BB.out.size;simp;try omega) _|refine Below.drew ?_|exact BB.out)))).mono ?_;rintro e w7 ⟨rfl,hb⟩;have mmd:=kp2 (n:=wm.heap.size) hb;(try clear mmB mm0 mm1 mmf mmL mmN);obtain ⟨mmB,mm0,mm1,mmf,mmL,mmN⟩:=mmd;have aad:=kp2 (n:=w6.heap.size) hb;(try clear aaB aa0 aa1 aaf aaL aaN);obtain ⟨aaB,aa0,aa1,aaf,aaL,aaN⟩:=aad;have BB2:Below w2.heap.size w2 w7:=bstep (by repeat (first|refine Below.setCell ?_ (by simp;try omega) _|refine Below.alloc ?_ (by have:=BB.out.size;simp;try omega) _|refine Below.drew ?_|exact BB.out)) hb;clear BB;have BB:Hid (Below w2.heap.size w2 w7):=BB2;clear BB2;have BU2:Below U.heap.size U w7:=bstep (by repeat (first|refine Below.setCell ?_ (by simp;try omega) _|refine Below.alloc ?_ (by have:=BU.out.size;simp;try omega) _|refine Below.drew ?_|exact BU.out)) hb;clear BU;have BU:Hid (Below U.heap.size U w7):=BU2;clear BU2;clear hb))
                  go_roundw
                  case rel=>exact ⟨r+1,by go_num,by omega,(by repeat (first|refine Below.setCell ?_ (by simp;try omega) _|refine Below.alloc ?_ (by have:=BB.out.size;simp;try omega) _|refine Below.drew ?_|exact BB.out)),(by first|exact mmB|exact hkeep mmB.out),(by repeat (first|refine Below.setCell ?_ (by simp;try omega) _|refine Below.alloc ?_ (by have:=BU.out.size;simp;try omega) _|refine Below.drew ?_|exact BU.out))⟩
                  case measure=>simp [intOf];omega
                case false =>
                  have HI2:Hid (∀ b w,WAt b ps w→Calls Tryz.prog 56 #[.pointer (some ⟨b,0,none⟩),.int .i64 (r:Int)] w fun e w'=>(e=.returned (.bool false))∧Below w.heap.size w w'):=fun b w hw=>by
                    have:=HIf1.out r b w hw
                    rw [hfi] at this
                    exact this
                  cases hex:EX r
                  case false =>
                    have hf:(f == 0)=false:=by simpa using hp3 (by simp [hex])
                    have HX2:Hid (∀ b w,WAt b ps w→Calls Tryz.prog 57 #[.pointer (some ⟨b,0,none⟩),.int .i64 (r:Int),.int .i64 (k:Int)] w fun e w'=>(e=.returned (.bool false))∧Below w.heap.size w w'):=fun b w hw=>by
                      have:=HEx1.out r b w hw
                      rw [hex] at this
                      exact this
                    clear hp2 hp3 HP2 HP3 hfi hex HIf1 HEx1
                    go_wp2_with (first
                      | (go_at_call 28;refine (HLn.out _ _ (HW2.out _ (by repeat (first|refine Below.setCell ?_ (by simp;try omega) _|refine Below.alloc ?_ (by have:=BB.out.size;simp;try omega) _|refine Below.drew ?_|exact BB.out)))).mono ?_;rintro e w9 ⟨rfl,hw9⟩;rw [hw9];clear hw9 w9)
                      | (go_at_call 53;refine (HSe2.out _ _ (HW2.out _ (by repeat (first|refine Below.setCell ?_ (by simp;try omega) _|refine Below.alloc ?_ (by have:=BB.out.size;simp;try omega) _|refine Below.drew ?_|exact BB.out)))).mono ?_;rintro e w6 ⟨rfl,hb⟩;have mmd:=kp2 (n:=wm.heap.size) hb;(try clear mmB mm0 mm1 mmf mmL mmN);obtain ⟨mmB,mm0,mm1,mmf,mmL,mmN⟩:=mmd;have BB2:Below w2.heap.size w2 w6:=bstep (by repeat (first|refine Below.setCell ?_ (by simp;try omega) _|refine Below.alloc ?_ (by have:=BB.out.size;simp;try omega) _|refine Below.drew ?_|exact BB.out)) hb;clear BB;have BB:Hid (Below w2.heap.size w2 w6):=BB2;clear BB2;have BU2:Below U.heap.size U w6:=bstep (by repeat (first|refine Below.setCell ?_ (by simp;try omega) _|refine Below.alloc ?_ (by have:=BU.out.size;simp;try omega) _|refine Below.drew ?_|exact BU.out)) hb;clear BU;have BU:Hid (Below U.heap.size U w6):=BU2;clear BU2;clear hb)
                      | (go_at_call 56;refine (HI2.out _ _ (HW2.out _ (by repeat (first|refine Below.setCell ?_ (by simp;try omega) _|refine Below.alloc ?_ (by have:=BB.out.size;simp;try omega) _|refine Below.drew ?_|exact BB.out)))).mono ?_;rintro e w7 ⟨rfl,hb⟩;have mmd:=kp2 (n:=wm.heap.size) hb;(try clear mmB mm0 mm1 mmf mmL mmN);obtain ⟨mmB,mm0,mm1,mmf,mmL,mmN⟩:=mmd;have aad:=kp2 (n:=w6.heap.size) hb;(try clear aaB aa0 aa1 aaf aaL aaN);obtain ⟨aaB,aa0,aa1,aaf,aaL,aaN⟩:=aad;have BB2:Below w2.heap.size w2 w7:=bstep (by repeat (first|refine Below.setCell ?_ (by simp;try omega) _|refine Below.alloc ?_ (by have:=BB.out.size;simp;try omega) _|refine Below.drew ?_|exact BB.out)) hb;clear BB;have BB:Hid (Below w2.heap.size w2 w7):=BB2;clear BB2;have BU2:Below U.heap.size U w7:=bstep (by repeat (first|refine Below.setCell ?_ (by simp;try omega) _|refine Below.alloc ?_ (by have:=BU.out.size;simp;try omega) _|refine Below.drew ?_|exact BU.out)) hb;clear BU;have BU:Hid (Below U.heap.size U w7):=BU2;clear BU2;clear hb)
                      | (go_at_call 57;refine (HX2.out _ _ (HW2.out _ (by repeat (first|refine Below.setCell ?_ (by simp;try omega) _|refine Below.alloc ?_ (by have:=BB.out.size;simp;try omega) _|refine Below.drew ?_|exact BB.out)))).mono ?_;rintro e w8 ⟨rfl,hb⟩;have mmd:=kp2 (n:=wm.heap.size) hb;(try clear mmB mm0 mm1 mmf mmL mmN);obtain ⟨mmB,mm0,mm1,mmf,mmL,mmN⟩:=mmd;have aad:=kp2 (n:=w6.heap.size) hb;(try clear aaB aa0 aa1 aaf aaL aaN);obtain ⟨aaB,aa0,aa1,aaf,aaL,aaN⟩:=aad;have BB2:Below w2.heap.size w2 w8:=bstep (by repeat (first|refine Below.setCell ?_ (by simp;try omega) _|refine Below.alloc ?_ (by have:=BB.out.size;simp;try omega) _|refine Below.drew ?_|exact BB.out)) hb;clear BB;have BB:Hid (Below w2.heap.size w2 w8):=BB2;clear BB2;have BU2:Below U.heap.size U w8:=bstep (by repeat (first|refine Below.setCell ?_ (by simp;try omega) _|refine Below.alloc ?_ (by have:=BU.out.size;simp;try omega) _|refine Below.drew ?_|exact BU.out)) hb;clear BU;have BU:Hid (Below U.heap.size U w8):=BU2;clear BU2;clear hb))
                    go_roundw
                    case rel=>exact ⟨r+1,by go_num,by omega,(by repeat (first|refine Below.setCell ?_ (by simp;try omega) _|refine Below.alloc ?_ (by have:=BB.out.size;simp;try omega) _|refine Below.drew ?_|exact BB.out)),(by first|exact mmB|exact hkeep mmB.out),(by repeat (first|refine Below.setCell ?_ (by simp;try omega) _|refine Below.alloc ?_ (by have:=BU.out.size;simp;try omega) _|refine Below.drew ?_|exact BU.out))⟩
                    case measure=>simp [intOf];omega
                  case true =>
                    have HX2:Hid (∀ b w,WAt b ps w→Calls Tryz.prog 57 #[.pointer (some ⟨b,0,none⟩),.int .i64 (r:Int),.int .i64 (k:Int)] w fun e w'=>(e=.returned (.bool true))∧Below w.heap.size w w'):=fun b w hw=>by
                      have:=HEx1.out r b w hw
                      rw [hex] at this
                      exact this
                    obtain ⟨hq1,hq2⟩:=hp2 (by simp [hfi,hex])
                    have HF2:Hid (∀ b w,WAt b ps w→Calls Tryz.prog 22 #[.pointer (some ⟨b,0,none⟩),.int .i64 (r:Int),.agg #[.int .i64 (k:Int),.int .i64 (i:Int)]] w fun e w'=>(e=.returned (.tuple #[.agg #[.int .i64 a1,.int .i64 a2],.int .i64 f]))∧Below w.heap.size w w'):=fun b w hw=>by
                      have:=HFi1.out r b w hw
                      rw [← hq1] at this
                      exact this
                    simp only at hq2
                    subst hq2
                    clear hq1 hp2 hp3 HP2 HP3 hfi hex HIf1 HEx1 HFi1
                    go_wp2_with (first
                      | (go_at_call 28;refine (HLn.out _ _ (HW2.out _ (by repeat (first|refine Below.setCell ?_ (by simp;try omega) _|refine Below.alloc ?_ (by have:=BB.out.size;simp;try omega) _|refine Below.drew ?_|exact BB.out)))).mono ?_;rintro e w9 ⟨rfl,hw9⟩;rw [hw9];clear hw9 w9)
                      | (go_at_call 53;refine (HSe2.out _ _ (HW2.out _ (by repeat (first|refine Below.setCell ?_ (by simp;try omega) _|refine Below.alloc ?_ (by have:=BB.out.size;simp;try omega) _|refine Below.drew ?_|exact BB.out)))).mono ?_;rintro e w6 ⟨rfl,hb⟩;have mmd:=kp2 (n:=wm.heap.size) hb;(try clear mmB mm0 mm1 mmf mmL mmN);obtain ⟨mmB,mm0,mm1,mmf,mmL,mmN⟩:=mmd;have BB2:Below w2.heap.size w2 w6:=bstep (by repeat (first|refine Below.setCell ?_ (by simp;try omega) _|refine Below.alloc ?_ (by have:=BB.out.size;simp;try omega) _|refine Below.drew ?_|exact BB.out)) hb;clear BB;have BB:Hid (Below w2.heap.size w2 w6):=BB2;clear BB2;have BU2:Below U.heap.size U w6:=bstep (by repeat (first|refine Below.setCell ?_ (by simp;try omega) _|refine Below.alloc ?_ (by have:=BU.out.size;simp;try omega) _|refine Below.drew ?_|exact BU.out)) hb;clear BU;have BU:Hid (Below U.heap.size U w6):=BU2;clear BU2;clear hb)
                      | (go_at_call 56;refine (HI2.out _ _ (HW2.out _ (by repeat (first|refine Below.setCell ?_ (by simp;try omega) _|refine Below.alloc ?_ (by have:=BB.out.size;simp;try omega) _|refine Below.drew ?_|exact BB.out)))).mono ?_;rintro e w7 ⟨rfl,hb⟩;have mmd:=kp2 (n:=wm.heap.size) hb;(try clear mmB mm0 mm1 mmf mmL mmN);obtain ⟨mmB,mm0,mm1,mmf,mmL,mmN⟩:=mmd;have aad:=kp2 (n:=w6.heap.size) hb;(try clear aaB aa0 aa1 aaf aaL aaN);obtain ⟨aaB,aa0,aa1,aaf,aaL,aaN⟩:=aad;have BB2:Below w2.heap.size w2 w7:=bstep (by repeat (first|refine Below.setCell ?_ (by simp;try omega) _|refine Below.alloc ?_ (by have:=BB.out.size;simp;try omega) _|refine Below.drew ?_|exact BB.out)) hb;clear BB;have BB:Hid (Below w2.heap.size w2 w7):=BB2;clear BB2;have BU2:Below U.heap.size U w7:=bstep (by repeat (first|refine Below.setCell ?_ (by simp;try omega) _|refine Below.alloc ?_ (by have:=BU.out.size;simp;try omega) _|refine Below.drew ?_|exact BU.out)) hb;clear BU;have BU:Hid (Below U.heap.size U w7):=BU2;clear BU2;clear hb)
                      | (go_at_call 57;refine (HX2.out _ _ (HW2.out _ (by repeat (first|refine Below.setCell ?_ (by simp;try omega) _|refine Below.alloc ?_ (by have:=BB.out.size;simp;try omega) _|refine Below.drew ?_|exact BB.out)))).mono ?_;rintro e w8 ⟨rfl,hb⟩;have mmd:=kp2 (n:=wm.heap.size) hb;(try clear mmB mm0 mm1 mmf mmL mmN);obtain ⟨mmB,mm0,mm1,mmf,mmL,mmN⟩:=mmd;have aad:=kp2 (n:=w6.heap.size) hb;(try clear aaB aa0 aa1 aaf aaL aaN);obtain ⟨aaB,aa0,aa1,aaf,aaL,aaN⟩:=aad;have BB2:Below w2.heap.size w2 w8:=bstep (by repeat (first|refine Below.setCell ?_ (by simp;try omega) _|refine Below.alloc ?_ (by have:=BB.out.size;simp;try omega) _|refine Below.drew ?_|exact BB.out)) hb;clear BB;have BB:Hid (Below w2.heap.size w2 w8):=BB2;clear BB2;have BU2:Below U.heap.size U w8:=bstep (by repeat (first|refine Below.setCell ?_ (by simp;try omega) _|refine Below.alloc ?_ (by have:=BU.out.size;simp;try omega) _|refine Below.drew ?_|exact BU.out)) hb;clear BU;have BU:Hid (Below U.heap.size U w8):=BU2;clear BU2;clear hb)
                      | (go_at_call 22;refine (HF2.out _ _ (HW2.out _ (by repeat (first|refine Below.setCell ?_ (by simp;try omega) _|refine Below.alloc ?_ (by have:=BB.out.size;simp;try omega) _|refine Below.drew ?_|exact BB.out)))).mono ?_;rintro e w10 ⟨rfl,hb⟩;have mmd:=kp2 (n:=wm.heap.size) hb;(try clear mmB mm0 mm1 mmf mmL mmN);obtain ⟨mmB,mm0,mm1,mmf,mmL,mmN⟩:=mmd;have aad:=kp2 (n:=w6.heap.size) hb;(try clear aaB aa0 aa1 aaf aaL aaN);obtain ⟨aaB,aa0,aa1,aaf,aaL,aaN⟩:=aad;have BB2:Below w2.heap.size w2 w10:=bstep (by repeat (first|refine Below.setCell ?_ (by simp;try omega) _|refine Below.alloc ?_ (by have:=BB.out.size;simp;try omega) _|refine Below.drew ?_|exact BB.out)) hb;clear BB;have BB:Hid (Below w2.heap.size w2 w10):=BB2;clear BB2;have BU2:Below U.heap.size U w10:=bstep (by repeat (first|refine Below.setCell ?_ (by simp;try omega) _|refine Below.alloc ?_ (by have:=BU.out.size;simp;try omega) _|refine Below.drew ?_|exact BU.out)) hb;clear BU;have BU:Hid (Below U.heap.size U w10):=BU2;clear BU2;clear hb)
                      | (go_at_call 24;refine (SI.out _ _ _).mono ?_;rintro e w11 ⟨rfl,hb⟩;have mmd:=kp2 (n:=wm.heap.size) hb;(try clear mmB mm0 mm1 mmf mmL mmN);obtain ⟨mmB,mm0,mm1,mmf,mmL,mmN⟩:=mmd;have BB2:Below w2.heap.size w2 w11:=bstep (by repeat (first|refine Below.setCell ?_ (by simp;try omega) _|refine Below.alloc ?_ (by have:=BB.out.size;simp;try omega) _|refine Below.drew ?_|exact BB.out)) hb;clear BB;have BB:Hid (Below w2.heap.size w2 w11):=BB2;clear BB2;have BU2:Below U.heap.size U w11:=bstep (by repeat (first|refine Below.setCell ?_ (by simp;try omega) _|refine Below.alloc ?_ (by have:=BU.out.size;simp;try omega) _|refine Below.drew ?_|exact BU.out)) hb;clear BU;have BU:Hid (Below U.heap.size U w11):=BU2;clear BU2;clear hb))
                    go_roundw
                    case rel=>exact ⟨r+1,by go_num,by omega,(by repeat (first|refine Below.setCell ?_ (by simp;try omega) _|refine Below.alloc ?_ (by have:=BB.out.size;simp;try omega) _|refine Below.drew ?_|exact BB.out)),(by first|exact mmB|exact hkeep mmB.out),(by repeat (first|refine Below.setCell ?_ (by simp;try omega) _|refine Below.alloc ?_ (by have:=BU.out.size;simp;try omega) _|refine Below.drew ?_|exact BU.out))⟩
                    case measure=>simp [intOf];omega
              · have e:r=N:=by omega
                subst e
                go_wp2_with (first
                  | (go_at_call 28;refine (HLn.out _ _ (HW2.out _ (by repeat (first|refine Below.setCell ?_ (by simp;try omega) _|refine Below.alloc ?_ (by have:=BB.out.size;simp;try omega) _|refine Below.drew ?_|exact BB.out)))).mono ?_;rintro e w9 ⟨rfl,hw9⟩;rw [hw9];clear hw9 w9))
                go_roundw
                case rel=>exact ⟨i+1,by go_num,by omega,BB,BU⟩
                case measure=>simp [intOf];omega
          · obtain ⟨hs2,hall⟩:=hb2 hv
            have hs2b:(s2 == 0)=false:=by simp [hs2]
            have HP2:Hid (∀ r:Nat,r<N→True):=fun r hr=>trivial
            have HP3:Hid (∀ r:Nat,r<N→True→¬ (G r).2=0):=fun r hr _=>hall r hr
            clear ha hb2 hall hs2
            have hv:fc=true∨(fc=false∧(bits .and .i64 mf 10 == 0)=false)∨(fc=false∧(bits .and .i64 mf 10 == 0)=true∧(mn.toList == [60,105,110,105,116,62])=true):=by
              cases fc
              case true=>exact .inl rfl
              case false =>
                cases h1:(bits .and .i64 mf 10 == 0)
                case false=>exact .inr (.inl ⟨rfl,rfl⟩)
                case true =>
                  cases h2:(mn.toList == [60,105,110,105,116,62])
                  case true=>exact .inr (.inr ⟨rfl,rfl,rfl⟩)
                  case false=>exact absurd ⟨rfl,h1,h2⟩ hv
            rcases hv with rfl|⟨rfl,hv2⟩|⟨rfl,hv2,hv3⟩
            all_goals
              go_wp2_with (first
                | (go_at_call 51;refine (HS1.out _ _ (HW2.out _ (by repeat (first|refine Below.setCell ?_ (by simp;try omega) _|refine Below.alloc ?_ (by have:=BB.out.size;simp;try omega) _|refine Below.drew ?_|exact BB.out)))).mono ?_;rintro e w4 ⟨rfl,hb⟩;have mmd:=kp2 (n:=wm.heap.size) hb;(try clear mmB mm0 mm1 mmf mmL mmN);obtain ⟨mmB,mm0,mm1,mmf,mmL,mmN⟩:=mmd;have BB2:Below w2.heap.size w2 w4:=bstep (by repeat (first|refine Below.setCell ?_ (by simp;try omega) _|refine Below.alloc ?_ (by have:=BB.out.size;simp;try omega) _|refine Below.drew ?_|exact BB.out)) hb;clear BB;have BB:Hid (Below w2.heap.size w2 w4):=BB2;clear BB2;have BU2:Below U.heap.size U w4:=bstep (by repeat (first|refine Below.setCell ?_ (by simp;try omega) _|refine Below.alloc ?_ (by have:=BU.out.size;simp;try omega) _|refine Below.drew ?_|exact BU.out)) hb;clear BU;have BU:Hid (Below U.heap.size U w4):=BU2;clear BU2;clear hb)
                | (go_at_call 56;refine (HIk.out _ _ (HW2.out _ (by repeat (first|refine Below.setCell ?_ (by simp;try omega) _|refine Below.alloc ?_ (by have:=BB.out.size;simp;try omega) _|refine Below.drew ?_|exact BB.out)))).mono ?_;rintro e w5 ⟨rfl,hb⟩;have mmd:=kp2 (n:=wm.heap.size) hb;(try clear mmB mm0 mm1 mmf mmL mmN);obtain ⟨mmB,mm0,mm1,mmf,mmL,mmN⟩:=mmd;have BB2:Below w2.heap.size w2 w5:=bstep (by repeat (first|refine Below.setCell ?_ (by simp;try omega) _|refine Below.alloc ?_ (by have:=BB.out.size;simp;try omega) _|refine Below.drew ?_|exact BB.out)) hb;clear BB;have BB:Hid (Below w2.heap.size w2 w5):=BB2;clear BB2;have BU2:Below U.heap.size U w5:=bstep (by repeat (first|refine Below.setCell ?_ (by simp;try omega) _|refine Below.alloc ?_ (by have:=BU.out.size;simp;try omega) _|refine Below.drew ?_|exact BU.out)) hb;clear BU;have BU:Hid (Below U.heap.size U w5):=BU2;clear BU2;have y5:=(BU.out.cell (p:=⟨w3.heap.size,5,none⟩) xL).trans xU5;have c0:=(BU.out.cell (p:=⟨gm,i * 6,none⟩) gL).trans cU0;have c2:=(BU.out.cell (p:=⟨gm,i * 6+2,none⟩) gL).trans cU2;clear hb))
              go_loopw [12] (fun kv wr=>∃ (r:Nat),kv=.int .i64 r∧r≤N∧Hid (Below w2.heap.size w2 wr)∧Hid (wr.heap[wm.heap.size]?=some (.cells #[.int .i64 (k:Int),.int .i64 (i:Int)] 24 (0,0)))∧Hid (Below U.heap.size U wr)) (fun kv _=>N - (intOf kv).toNat)
              case atStart=>exact ⟨0,rfl,Nat.zero_le _,BB,mmB,BU⟩
              case round =>
                clear BB mmB mm0 mm1 mmf mmL mmN BU y5 c0 c2
                obtain ⟨r,rfl,hr,BB,mmB,BU⟩:=hrel
                obtain ⟨mm0,mm1,mmf,mmL⟩:=rw2 mmB.out
                have mmN:¬ wm.heap.size=wr.heap.size:=by omega
                by_cases hlr:r<N
                · have hrI:(r:Int)<(N:Int):=by omega
                  have hp2:=HP2.out r hlr
                  have hp3:=HP3.out r hlr
                  generalize hGr:G r=g at *
                  obtain ⟨⟨a1,a2⟩,f⟩:=g
                  have HSe2:Hid (∀ b w,WAt b ps w→Calls Tryz.prog 53 #[.pointer (some ⟨b,0,none⟩),.int .i64 (r:Int),.agg #[.int .i64 (k:Int),.int .i64 (i:Int)]] w fun e w'=>(e=.returned (.tuple #[.agg #[.int .i64 a1,.int .i64 a2],.int .i64 f]))∧Below w.heap.size w w'):=fun b w hw=>by
                    have:=HSe1.out r b w hw
                    rw [hGr] at this
                    exact this
                  clear hGr HSe1
                  have hf:(f == 0)=false:=by simpa using hp3 (by simp)
                  clear hp2 hp3 HP2 HP3
                  go_wp2_with (first
                    | (go_at_call 28;refine (HLn.out _ _ (HW2.out _ (by repeat (first|refine Below.setCell ?_ (by simp;try omega) _|refine Below.alloc ?_ (by have:=BB.out.size;simp;try omega) _|refine Below.drew ?_|exact BB.out)))).mono ?_;rintro e w9 ⟨rfl,hw9⟩;rw [hw9];clear hw9 w9)
                    | (go_at_call 53;refine (HSe2.out _ _ (HW2.out _ (by repeat (first|refine Below.setCell ?_ (by simp;try omega) _|refine Below.alloc ?_ (by have:=BB.out.size;simp;try omega) _|refine Below.drew ?_|exact BB.out)))).mono ?_;rintro e w6 ⟨rfl,hb⟩;have mmd:=kp2 (n:=wm.heap.size) hb;(try clear mmB mm0 mm1 mmf mmL mmN);obtain ⟨mmB,mm0,mm1,mmf,mmL,mmN⟩:=mmd;have BB2:Below w2.heap.size w2 w6:=bstep (by repeat (first|refine Below.setCell ?_ (by simp;try omega) _|refine Below.alloc ?_ (by have:=BB.out.size;simp;try omega) _|refine Below.drew ?_|exact BB.out)) hb;clear BB;have BB:Hid (Below w2.heap.size w2 w6):=BB2;clear BB2;have BU2:Below U.heap.size U w6:=bstep (by repeat (first|refine Below.setCell ?_ (by simp;try omega) _|refine Below.alloc ?_ (by have:=BU.out.size;simp;try omega) _|refine Below.drew ?_|exact BU.out)) hb;clear BU;have BU:Hid (Below U.heap.size U w6):=BU2;clear BU2;clear hb))
                  go_roundw
                  case rel=>exact ⟨r+1,by go_num,by omega,(by repeat (first|refine Below.setCell ?_ (by simp;try omega) _|refine Below.alloc ?_ (by have:=BB.out.size;simp;try omega) _|refine Below.drew ?_|exact BB.out)),(by first|exact mmB|exact hkeep mmB.out),(by repeat (first|refine Below.setCell ?_ (by simp;try omega) _|refine Below.alloc ?_ (by have:=BU.out.size;simp;try omega) _|refine Below.drew ?_|exact BU.out))⟩
                  case measure=>simp [intOf];omega
                · have e:r=N:=by omega
                  subst e
                  go_wp2_with (first
                    | (go_at_call 28;refine (HLn.out _ _ (HW2.out _ (by repeat (first|refine Below.setCell ?_ (by simp;try omega) _|refine Below.alloc ?_ (by have:=BB.out.size;simp;try omega) _|refine Below.drew ?_|exact BB.out)))).mono ?_;rintro e w9 ⟨rfl,hw9⟩;rw [hw9];clear hw9 w9))
                  go_roundw
                  case rel=>exact ⟨i+1,by go_num,by omega,BB,BU⟩
                  case measure=>simp [intOf];omega
        · have e:i=K:=by omega
          subst e
          go_wp2
          go_roundw
          case rel=>exact ⟨k+1,by go_num,by omega,BB⟩
          case measure=>simp [intOf];omega
    · have e:k=N:=by omega
      subst e
      go_wp2_with (first
        | (go_at_call 28;refine (HLn.out _ _ (HW2.out _ (by repeat (first|refine Below.setCell ?_ (by simp;try omega) _|refine Below.alloc ?_ (by have:=BB.out.size;simp;try omega) _|refine Below.drew ?_|exact BB.out)))).mono ?_;rintro e w9 ⟨rfl,hw9⟩;rw [hw9];clear hw9 w9))
      all_goals go_ret
      all_goals exact ⟨retB (by simp),B2.out.trans (BB.out.mono B2.out.size)⟩
theorem VtableFirst_any (v:Value) (l:List Cls) (W:World) (h:IsClss W v l):Calls Tryz.prog 11 #[v] W fun e w'=>e=.returned (.bool true)∧Below W.heap.size W w':=by
  have hWI:WI (wld l):=wld_wi l (clss_w h)
  have hU:UnqM (wld l):=unqM_wld l (clss_w h)
  have hS:SndM (wld l):=sndM_wld l (clss_w h)
  have HB:∀ w:World,Below W.heap.size W w→Calls Tryz.prog 45 #[v] w fun e w'=>(∃ b,e=.returned (.pointer (some ⟨b,0,none⟩))∧WAt b (wld l) w')∧Below w.heap.size w w':=fun w hb=>(built13_n v l w (clss_keep h hb)).mono fun e w' zz=>by
    obtain ⟨⟨b,e1,mb,vp,pv,hw⟩,hb2⟩:=zz
    exact ⟨⟨b,e1,hw.wat⟩,hb2⟩
  generalize wld l=ps at *
  refine vfirst_w ps W v _ rfl (Nat.le_trans hWI.hi (by decide)) HB (fun b w hw=>len_c hw) (fun k q hq b w hw=>?_) (fun k q hq=>?_) (fun k i b w hw=>slo_c hw hWI hU _ _) (fun k b w hw=>isIface_c hw _) (fun k i r b w hw=>sel_c hw hWI hU _ _ _) (fun k r b w hw=>extends_c hw hWI _ _) (fun k i r b w hw=>first_c hw hWI _ _ _) (fun k i q m hq hm fc hfc=>?_)
  · have:=class_c hw hWI.pb (k:Int)
    rw [plcI_nat,hq] at this
    exact this
  · exact (hWI.pb q (List.mem_of_getElem? hq)).ms
  · subst hfc
    have hM:=methI_at hq hm
    have hvr:(ifcI ps (k:Int)=false∧(bits .and .i64 m.fl 10 == 0)=true∧(m.nm.toList == [60,105,110,105,116,62])=false)↔(sloR ps (k:Int) (i:Int)).2=0:=by
      constructor
      · rintro ⟨h1,h2,h3⟩
        have:vrtB m.nm m.fl=true:=by rw [vrtB,h2,h3];rfl
        rw [slo_of hM h1 this]
      · intro hs
        obtain ⟨m2,hm2,h1,h2,_⟩:=slo_vrt hs
        rw [hM] at hm2
        cases hm2
        rw [vrtB,Bool.and_eq_true] at h2
        exact ⟨h1,h2.1,by simpa using h2.2⟩
    refine ⟨fun hv=>⟨hvr.1 hv,fun r hr=>⟨fun hx=>?_,fun hx=>?_⟩⟩,fun hv=>⟨fun hs=>hv (hvr.2 hs),fun r hr=>?_⟩⟩
    · exact sel_yes hWI hU hS (hvr.1 hv) (vck_yes hr hx.1) hx.2
    · exact sel_no hM fun hh=>hx ⟨vck_ifc hh.2.1,hh.2.2⟩
    · exact sel_no hM fun hh=>hv (hvr.2 hh.1)
end Go.Proofs.YtjlfnelihbdhjaaGreat
