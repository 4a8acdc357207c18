import Derived.Test.YthfifobokpfpkaaGreatItE
import Derived.Test.YthfifobokpfpkaaGreatOvE
import Derived.Test.YthfifobokpfpkaaGreatAcE
set_option maxRecDepth 100000
namespace Go.Proofs.YthfifobokpfpkaaGreat
open Go.RowKit Go.Maps
theorem blk4 {w:World} {n:Nat} {t:TypeId} {a0 a1 a2 a3:Value} (h:w.heap[n]?=some (.cells #[a0,a1,a2,a3] t (0,0))) (v:Value):(w.setCell ⟨n,0,none⟩ v).heap[n]?=some (.cells #[v,a1,a2,a3] t (0,0))∧(w.setCell ⟨n,1,none⟩ v).heap[n]?=some (.cells #[a0,v,a2,a3] t (0,0))∧(w.setCell ⟨n,2,none⟩ v).heap[n]?=some (.cells #[a0,a1,v,a3] t (0,0))∧(w.setCell ⟨n,3,none⟩ v).heap[n]?=some (.cells #[a0,a1,a2,v] t (0,0)) :=
  ⟨(Go.Joins.block_setCell (i:=0) h v).trans (by simp),(Go.Joins.block_setCell (i:=1) h v).trans (by simp),(Go.Joins.block_setCell (i:=2) h v).trans (by simp),(Go.Joins.block_setCell (i:=3) h v).trans (by simp)⟩
set_option maxHeartbeats 8000000 in
theorem marks_w (W:World) (b:Nat) (x:Int) (R:List (Int×Int)) (n:Nat) (HR:Hid (R.length=n)) (hn:n≤301000000) (F:Int×Int→(Int×Int)×Int)
    (HRT:Hid (Calls Tryz.prog 65 #[.pointer (some ⟨b,0,none⟩),.int .i64 x] W fun e w'=>(∃ v,e=.returned (.tuple #[v,.int .i64 0])∧w'.ownsRow W.heap.size 24 2 v n (flatD R))∧Below W.heap.size W w'))
    (HE:Hid (∀ (y:Int×Int) w,Below W.heap.size W w→Calls Tryz.prog 132 #[.pointer (some ⟨b,0,none⟩),.int .i64 x,.agg #[.int .i64 y.1,.int .i64 y.2]] w fun e w'=>e=.returned (.tuple #[.agg #[.int .i64 (F y).1.1,.int .i64 (F y).1.2],.int .i64 (F y).2])∧Below w.heap.size w w'))
    (HF:Hid (∀ y∈R,(F y).2=0∨(F y).2=24∨(F y).2=23∨(F y).2=22)) :
    Calls Tryz.prog 71 #[.pointer (some ⟨b,0,none⟩),.int .i64 x] W fun e w'=>(∃ a b c d:Nat,e=.returned (.tuple #[.int .i64 (a:Int),.int .i64 (b:Int),.int .i64 (c:Int),.int .i64 (d:Int),.int .i64 0])∧a+b+c+d=n)∧Below W.heap.size W w':=by
  go_enter Tryz.func71,Tryz.ntmps71
  go_wp2_with (first
    | (go_at_call 65;refine HRT.out.mono ?_;rintro e w1 ⟨⟨v,rfl,ho⟩,hb⟩;obtain ⟨ra,rc,rfl⟩:=ownv ho;have O1:Hid (w1.ownsRow W.heap.size 24 2 (.slice ra n rc) n (flatD R)):=ho;have B1:Hid (Below W.heap.size W w1):=hb;clear ho hb HRT))
  go_loopw [27] (fun kv wr=>∃ (i a b4 c d:Nat),kv=.int .i64 i∧i≤n∧a+b4+c+d=i∧Hid (Below w1.heap.size w1 wr)∧Hid (wr.heap[w1.heap.size]?=some (.cells #[.int .i64 (a:Int),.int .i64 (b4:Int),.int .i64 (c:Int),.int .i64 (d:Int)] 164 (0,0)))) (fun kv _=>n - (intOf kv).toNat)
  case atStart=>exact ⟨0,0,0,0,0,rfl,Nat.zero_le _,rfl,(Below.refl _ _).alloc (Nat.le_refl _) _,halloc1 _ _⟩
  case round =>
    obtain ⟨i,a,b4,c,d,rfl,hi,hsum,hB,ccB⟩:=hrel
    obtain ⟨cc0,cc1,cc2,cc3,ccf,ccL⟩:=rw4 ccB.out
    have ccN:¬ w1.heap.size=wr.heap.size:=by omega
    by_cases hlt:i<n
    · have hiI:(i:Int)<(n:Int):=by omega
      obtain ⟨y,hy⟩:∃ y,R[i]?=some y:=⟨_,List.getElem?_eq_getElem (by rw [HR.out];exact hlt)⟩
      obtain ⟨g,c2,hform,_,hgl,hcs⟩:=own_at8 O1.out (by omega)
      injection hform with hca _ hcc
      subst hca hcc
      obtain ⟨f0,f1⟩:=flatD_at R i y hy
      have t0:=(hB.out.cell (p:=⟨g,i * 2,none⟩) hgl).trans (hcs _ _ f0)
      have t1:=(hB.out.cell (p:=⟨g,i * 2+1,none⟩) hgl).trans (hcs _ _ f1)
      have hF:=HF.out y (List.mem_of_getElem? hy)
      have HEy:=HE.out y
      obtain ⟨y1,y2⟩:=y
      simp only at t0 t1 HEy
      generalize F (y1,y2)=ff at *
      obtain ⟨⟨m1,m2⟩,er⟩:=ff
      simp only at hF HEy
      have HEH:Hid (∀ w,Below W.heap.size W w→Calls Tryz.prog 132 #[.pointer (some ⟨b,0,none⟩),.int .i64 x,.agg #[.int .i64 y1,.int .i64 y2]] w fun e w'=>e=.returned (.tuple #[.agg #[.int .i64 m1,.int .i64 m2],.int .i64 er])∧Below w.heap.size w w'):=HEy
      clear hy f0 f1 hcs HEy HE HR HF
      rcases hF with rfl|rfl|rfl|rfl
      · go_wp2_with (go_at_call 132;refine (HEH.out _ (bstep B1.out (hB.out.alloc hB.out.size _))).mono ?_;rintro e w3 ⟨rfl,hb⟩;have ccd:=kp4 (n:=w1.heap.size) hb (by first|omega|(simp;try omega)) (hkeep ccB.out);(try clear ccB cc0 cc1 cc2 cc3 ccf ccL ccN);obtain ⟨ccB,cc0,cc1,cc2,cc3,ccf,ccL,ccN⟩:=ccd;have B3:Hid (Below w1.heap.size w1 w3):=bstep (hB.out.alloc hB.out.size _) hb;clear hb HEH)
        go_roundw
        case rel=>exact ⟨i+1,a+1,b4,c,d,by go_num,by omega,by omega,(by repeat (first|refine Below.setCell ?_ (by first|exact Nat.le_refl _|(simp;done)) _|refine Below.alloc ?_ (by first|exact B3.out.size|(simp;exact B3.out.size)) _|exact B3.out)),hkeep ((blk4 ccB.out _).1)⟩
        case measure=>simp [intOf];omega
      · go_wp2_with (go_at_call 132;refine (HEH.out _ (bstep B1.out (hB.out.alloc hB.out.size _))).mono ?_;rintro e w3 ⟨rfl,hb⟩;have ccd:=kp4 (n:=w1.heap.size) hb (by first|omega|(simp;try omega)) (hkeep ccB.out);(try clear ccB cc0 cc1 cc2 cc3 ccf ccL ccN);obtain ⟨ccB,cc0,cc1,cc2,cc3,ccf,ccL,ccN⟩:=ccd;have B3:Hid (Below w1.heap.size w1 w3):=bstep (hB.out.alloc hB.out.size _) hb;clear hb HEH)
        go_roundw
        case rel=>exact ⟨i+1,a,b4+1,c,d,by go_num,by omega,by omega,(by repeat (first|refine Below.setCell ?_ (by first|exact Nat.le_refl _|(simp;done)) _|refine Below.alloc ?_ (by first|exact B3.out.size|(simp;exact B3.out.size)) _|exact B3.out)),hkeep ((blk4 ccB.out _).2.1)⟩
        case measure=>simp [intOf];omega
      · go_wp2_with (go_at_call 132;refine (HEH.out _ (bstep B1.out (hB.out.alloc hB.out.size _))).mono ?_;rintro e w3 ⟨rfl,hb⟩;have ccd:=kp4 (n:=w1.heap.size) hb (by first|omega|(simp;try omega)) (hkeep ccB.out);(try clear ccB cc0 cc1 cc2 cc3 ccf ccL ccN);obtain ⟨ccB,cc0,cc1,cc2,cc3,ccf,ccL,ccN⟩:=ccd;have B3:Hid (Below w1.heap.size w1 w3):=bstep (hB.out.alloc hB.out.size _) hb;clear hb HEH)
        go_roundw
        case rel=>exact ⟨i+1,a,b4,c+1,d,by go_num,by omega,by omega,(by repeat (first|refine Below.setCell ?_ (by first|exact Nat.le_refl _|(simp;done)) _|refine Below.alloc ?_ (by first|exact B3.out.size|(simp;exact B3.out.size)) _|exact B3.out)),hkeep ((blk4 ccB.out _).2.2.1)⟩
        case measure=>simp [intOf];omega
      · go_wp2_with (go_at_call 132;refine (HEH.out _ (bstep B1.out (hB.out.alloc hB.out.size _))).mono ?_;rintro e w3 ⟨rfl,hb⟩;have ccd:=kp4 (n:=w1.heap.size) hb (by first|omega|(simp;try omega)) (hkeep ccB.out);(try clear ccB cc0 cc1 cc2 cc3 ccf ccL ccN);obtain ⟨ccB,cc0,cc1,cc2,cc3,ccf,ccL,ccN⟩:=ccd;have B3:Hid (Below w1.heap.size w1 w3):=bstep (hB.out.alloc hB.out.size _) hb;clear hb HEH)
        go_roundw
        case rel=>exact ⟨i+1,a,b4,c,d+1,by go_num,by omega,by omega,(by repeat (first|refine Below.setCell ?_ (by first|exact Nat.le_refl _|(simp;done)) _|refine Below.alloc ?_ (by first|exact B3.out.size|(simp;exact B3.out.size)) _|exact B3.out)),hkeep ((blk4 ccB.out _).2.2.2)⟩
        case measure=>simp [intOf];omega
    · have e:i=n:=by omega
      subst e
      go_wp2
      go_region
      go_wp2
      exact bodyPost_ret (v:=.tuple #[.int .i64 (a:Int),.int .i64 (b4:Int),.int .i64 (c:Int),.int .i64 (d:Int),.int .i64 0]) (by simp [results,Tryz.results71,go_sem, *]) rfl ⟨⟨a,b4,c,d,rfl,hsum⟩,B1.out.trans ((hB.out.drew).mono B1.out.size)⟩
theorem marks_no {b:Nat} {ps:List Plc} {W:World} (h:WAt b ps W) (hW:WI ps) (x:Int) (hx:¬ itE ps x=0):Calls Tryz.prog 71 #[.pointer (some ⟨b,0,none⟩),.int .i64 x] W fun e w'=>e=.returned (.tuple #[.int .i64 0,.int .i64 0,.int .i64 0,.int .i64 0,.int .i64 (itE ps x)])∧Below W.heap.size W w':=by
  have HCO:Hid (Calls Tryz.prog 65 #[.pointer (some ⟨b,0,none⟩),.int .i64 x] W fun e w'=>e=.returned (.tuple #[.slice none 0 0,.int .i64 (itE ps x)])∧Below W.heap.size W w'):=roots_no h hW x hx
  generalize itE ps x=E at *
  have hE:(E == 0)=false:=by simp [hx]
  clear h hW
  go_enter Tryz.func71,Tryz.ntmps71
  go_wp2_with (go_at_call 65;refine HCO.out.mono ?_;rintro e w1 ⟨rfl,hb⟩;have B1:Hid (Below W.heap.size W w1):=hb;clear hb HCO)
  exact bodyPost_ret (v:=.tuple #[.int .i64 0,.int .i64 0,.int .i64 0,.int .i64 0,.int .i64 E]) (by simp [results,Tryz.results71,go_sem, *]) rfl ⟨rfl,B1.out⟩
theorem marks_yes {b:Nat} {ps:List Plc} {W:World} (h:WAt b ps W) (hW:WI ps) (k:Nat) (q:Plc) (hq:ps[k]?=some q) (hf:ifcI ps (k:Int)=false):Calls Tryz.prog 71 #[.pointer (some ⟨b,0,none⟩),.int .i64 (k:Int)] W fun e w'=>(∃ a b c d:Nat,e=.returned (.tuple #[.int .i64 (a:Int),.int .i64 (b:Int),.int .i64 (c:Int),.int .i64 (d:Int),.int .i64 0])∧a+b+c+d=(rtsP ps q).length)∧Below W.heap.size W w' :=
  marks_w W b (k:Int) (rtsP ps q) _ rfl (rts_len hW hq) (itfI ps (k:Int)) (roots_yes h hW k q hq hf) (fun y w hb=>seI_c (h.below hb) hW (k:Int) y.1 y.2) (fun y hy=>by
    obtain ⟨m,hm⟩:=rts_meth hy
    exact itf_errs hq hf hm)
set_option maxHeartbeats 4000000 in
theorem idxMI_any (N:Nat) (R:List (Int×Int)) (K:Nat) (HK:Hid (R.length=K)) (v:Value) (m1 m2:Int) (W:World) (h:W.ownsRow N 24 2 v K (flatD R)) (hn:K≤1000000000):Calls Tryz.prog 180 #[v,.agg #[.int .i64 m1,.int .i64 m2]] W fun e w'=>(∃ j:Int,e=.returned (.int .i64 j)∧(0≤j↔(m1,m2)∈R))∧Below W.heap.size W w':=by
  obtain ⟨ao,cap,rfl⟩:=ownv h
  have HA:Hid (W.ownsRow N 24 2 (.slice ao K cap) K (flatD R)):=h
  have hB0:Below W.heap.size W (W.alloc (.cells #[.int .i64 m1,.int .i64 m2] 24)):=(Below.refl _ W).alloc (Nat.le_refl _) _
  have hA0:(W.alloc (.cells #[.int .i64 m1,.int .i64 m2] 24)).heap[W.heap.size]?=some (.cells #[.int .i64 m1,.int .i64 m2] 24 (0,0)):=halloc1 _ _
  clear h
  go_enter Tryz.func180,Tryz.ntmps180
  go_wp2
  generalize W.alloc (.cells #[.int .i64 m1,.int .i64 m2] 24)=U at *
  obtain ⟨u0,u1,uf,uL⟩:=rw2 hA0
  have HBU:Hid (Below W.heap.size W U):=hB0
  clear hB0 hA0
  go_loopw [8] (fun iv wr=>∃ i:Nat,iv=.int .i64 i∧i≤K∧Hid (Below U.heap.size U wr)∧Hid ((m1,m2) ∉ R.take i)) (fun iv _=>K - (intOf iv).toNat)
  case atStart=>exact ⟨0,rfl,Nat.zero_le _,Below.refl _ _,by simp [Hid]⟩
  case round =>
    obtain ⟨i,rfl,hi,hb,hs⟩:=hrel
    by_cases hlt:i<K
    · have hiI:(i:Int)<(K:Int):=by omega
      obtain ⟨x,hx⟩:∃ x,R[i]?=some x:=⟨_,List.getElem?_eq_getElem (by rw [HK.out];exact hlt)⟩
      obtain ⟨g,c2,hform,_,hgl,hcs⟩:=own_at8 HA.out (by omega)
      injection hform with hca _ hcc
      subst hca hcc
      obtain ⟨f0,f1⟩:=flatD_at R i x hx
      have t0:=(hb.out.cell (p:=⟨g,i * 2,none⟩) (Nat.lt_trans hgl uL)).trans ((HBU.out.cell (p:=⟨g,i * 2,none⟩) hgl).trans (hcs _ _ f0))
      have t1:=(hb.out.cell (p:=⟨g,i * 2+1,none⟩) (Nat.lt_trans hgl uL)).trans ((HBU.out.cell (p:=⟨g,i * 2+1,none⟩) hgl).trans (hcs _ _ f1))
      have z0:=(hb.out.cell (p:=⟨W.heap.size,0,none⟩) uL).trans u0
      have z1:=(hb.out.cell (p:=⟨W.heap.size,1,none⟩) uL).trans u1
      obtain ⟨x1,x2⟩:=x
      simp only at t0 t1
      have HX:Hid (R[i]?=some (x1,x2)):=hx
      clear hcs f0 f1 hx
      by_cases he:(m1,m2)=(x1,x2)
      · have HM:Hid ((m1,m2)∈R):=by rw [Hid,he];exact List.mem_of_getElem? HX.out
        injection he with e1 e2
        subst e1 e2
        go_wp2
        go_region
        go_wp2
        go_ret
        exact ⟨⟨_,rfl,⟨fun _=>HM.out,fun _=>by omega⟩⟩,HBU.out.trans ((hb.out.drew).mono HBU.out.size)⟩
      · have hne:¬ m1=x1∨(m1=x1∧¬ m2=x2):=by
          by_cases e:m1=x1
          · exact .inr ⟨e,fun e2=>he (Prod.ext e e2)⟩
          · exact .inl e
        have HN:Hid ((m1,m2) ∉ R.take (i+1)):=by
          rw [Hid,List.take_add_one,HX.out,Option.toList_some,List.mem_append,List.mem_singleton]
          rintro (h|h)
          · exact hs.out h
          · exact he h
        clear he
        rcases hne with hne|⟨rfl,hne⟩
        · go_wp2
          go_region
          go_wp2
          go_roundw
          case rel=>exact ⟨i+1,by go_num,by omega,hb.out.drew,HN⟩
          case measure=>simp [intOf];omega
        · go_wp2
          go_region
          go_wp2
          go_roundw
          case rel=>exact ⟨i+1,by go_num,by omega,hb.out.drew,HN⟩
          case measure=>simp [intOf];omega
    · have e:i=K:=by omega
      subst e
      have HN:Hid ((m1,m2) ∉ R):=by
        have:=hs.out
        rwa [← HK.out,List.take_length] at this
      go_wp2
      go_ret
      exact ⟨⟨_,rfl,⟨fun h=>absurd h (by decide),fun h=>absurd h HN.out⟩⟩,HBU.out.trans (hb.out.mono HBU.out.size)⟩
set_option maxHeartbeats 2000000 in
theorem contMI_c (N:Nat) (R:List (Int×Int)) (K:Nat) (HK:Hid (R.length=K)) (v:Value) (m1 m2:Int) (W:World) (h:W.ownsRow N 24 2 v K (flatD R)) (hn:K≤1000000000):Calls Tryz.prog 134 #[v,.agg #[.int .i64 m1,.int .i64 m2]] W fun e w'=>e=.returned (.bool (decide ((m1,m2)∈R)))∧Below W.heap.size W w':=by
  have HI:Hid (∀ w,Below W.heap.size W w→Calls Tryz.prog 180 #[v,.agg #[.int .i64 m1,.int .i64 m2]] w fun e w'=>(∃ j:Int,e=.returned (.int .i64 j)∧(0≤j↔(m1,m2)∈R))∧Below w.heap.size w w'):=fun w hb=>idxMI_any N R K HK v m1 m2 w (rowBelow h hb) hn
  clear h
  go_enter Tryz.func134,Tryz.ntmps134
  go_wp2_with (go_at_call 180;refine (HI.out _ (by repeat (first|exact Below.refl _ _|refine Below.setCell ?_ (by simp;try omega) _|refine Below.alloc ?_ (by simp;try omega) _|refine Below.drew ?_))).mono ?_;rintro e w1 ⟨⟨j,rfl,hj⟩,hb⟩;have HJ:Hid (0≤j↔(m1,m2)∈R):=hj;have B1:Hid (Below W.heap.size W w1):=bstep (by repeat (first|exact Below.refl _ _|refine Below.setCell ?_ (by simp;try omega) _|refine Below.alloc ?_ (by simp;try omega) _|refine Below.drew ?_)) hb;clear hb hj HI)
  all_goals go_ret
  all_goals refine ⟨retB ?_,B1.out⟩
  all_goals rw [decide_eq_decide.2 HJ.out]
def zeE:Ent:=⟨(0,0),(0,0),0,(0,0),0⟩
def lokR (ps:List Plc) (r:Int) (m:Int×Int):Ent×Int:=match methI ps m.1 m.2 with
  | none=>(zeE,3)
  | some _=>if itE ps r=0 then (if m∈rtsR ps r then (entP ps r m,0) else (zeE,6)) else (zeE,itE ps r)
set_option maxHeartbeats 1000000 in
theorem chkI_c {b:Nat} {ps:List Plc} {W:World} (h:WAt b ps W) (hW:WI ps) (m1 m2:Int):Calls Tryz.prog 133 #[.pointer (some ⟨b,0,none⟩),.agg #[.int .i64 m1,.int .i64 m2]] W fun e w'=>e=.returned (.int .i64 (if (methI ps m1 m2).isSome then 0 else 3))∧Below W.heap.size W w':=by
  have HM:Hid (∀ w,Below W.heap.size W w→Calls Tryz.prog 17 #[.pointer (some ⟨b,0,none⟩),.agg #[.int .i64 m1,.int .i64 m2]] w fun e w'=>(∃ y:Value,e=.returned (.tuple #[y,.int .i64 (if (methI ps m1 m2).isSome then 0 else 3)])∧∃ z0 z1 z2 z3 z4 a n s,y=.agg #[.string z0,.string z1,.int .i64 z2,.int .i64 z3,.int .i64 z4,.slice a n s])∧Below w.heap.size w w'):=fun w hb=>by
    have:=mth_e (h.below hb) hW.pb m1 m2
    cases hm:methI ps m1 m2 with
    | none =>
      rw [hm] at this
      exact this.mono fun e w' zz=>⟨⟨_,zz.1,_,_,_,_,_,_,_,_,rfl⟩,zz.2⟩
    | some x =>
      rw [hm] at this
      exact this.mono fun e w' zz=>by
        obtain ⟨⟨sa,sk,so,e1⟩,e2⟩:=zz
        exact ⟨⟨_,e1,_,_,_,_,_,_,_,_,rfl⟩,e2⟩
  generalize (if (methI ps m1 m2).isSome then (0:Int) else 3)=E at *
  clear h hW
  go_enter Tryz.func133,Tryz.ntmps133
  go_wp2_with (go_at_call 17;refine (HM.out _ (by repeat (first|exact Below.refl _ _|refine Below.setCell ?_ (by simp;try omega) _|refine Below.alloc ?_ (by simp;try omega) _|refine Below.drew ?_))).mono ?_;rintro e w1 ⟨⟨y,rfl,z0,z1,z2,z3,z4,a,n,s,rfl⟩,hb⟩;have B1:Hid (Below W.heap.size W w1):=bstep (by repeat (first|exact Below.refl _ _|refine Below.setCell ?_ (by simp;try omega) _|refine Below.alloc ?_ (by simp;try omega) _|refine Below.drew ?_)) hb;clear hb HM)
  exact bodyPost_ret (results_tmp rfl _ _ _) rfl ⟨rfl,(by repeat (first|refine Below.setCell ?_ (by simp;try omega) _|refine Below.alloc ?_ (by have:=B1.out.size;simp;try omega) _|refine Below.drew ?_|exact B1.out))⟩
set_option maxHeartbeats 8000000 in
theorem lok_1 (W:World) (b:Nat) (r m1 m2:Int) (ce:Int) (hce:(ce == 0)=false) (HC:Hid (∀ w,Below W.heap.size W w→Calls Tryz.prog 133 #[.pointer (some ⟨b,0,none⟩),.agg #[.int .i64 m1,.int .i64 m2]] w fun e w'=>(e=.returned (.int .i64 ce))∧Below w.heap.size w w')):Calls Tryz.prog 73 #[.pointer (some ⟨b,0,none⟩),.int .i64 r,.agg #[.int .i64 m1,.int .i64 m2]] W fun e w'=>e=.returned (.tuple #[.agg #[.int .i64 0,.int .i64 0,.int .i64 0,.int .i64 0,.int .i64 0,.int .i64 0,.int .i64 0,.int .i64 0],.int .i64 ce])∧Below W.heap.size W w':=by
  have BB:Hid (Below W.heap.size W W):=Below.refl _ _
  go_enter Tryz.func73,Tryz.ntmps73
  go_wp2_with (first
    | (go_at_call 133;refine (HC.out _ (by repeat (first|refine Below.setCell ?_ (by simp;try omega) _|refine Below.alloc ?_ (by have:=BB.out.size;simp;try omega) _|refine Below.drew ?_|exact BB.out))).mono ?_;rintro e w1 ⟨rfl,hb⟩;have mmd:=kp2 (n:=W.heap.size) hb;(try clear mmB mm0 mm1 mmf mmL mmN);obtain ⟨mmB,mm0,mm1,mmf,mmL,mmN⟩:=mmd;have rrd:=kp8 (n:=W.heap.size+1) hb (by first|omega|(simp;try omega)) (halloc2 _ _ (by simp));(try clear rrB rr0 rr1 rr2 rr3 rr4 rr5 rr6 rr7 rrf rrL rrN);obtain ⟨rrB,rr0,rr1,rr2,rr3,rr4,rr5,rr6,rr7,rrf,rrL,rrN⟩:=rrd;have BB2:Below W.heap.size W w1:=bstep (by repeat (first|refine Below.setCell ?_ (by simp;try omega) _|refine Below.alloc ?_ (by have:=BB.out.size;simp;try omega) _|refine Below.drew ?_|exact BB.out)) hb;clear BB;have BB:Hid (Below W.heap.size W w1):=BB2;clear BB2;clear hb))
  exact bodyPost_ret (v:=.tuple #[.agg #[.int .i64 0,.int .i64 0,.int .i64 0,.int .i64 0,.int .i64 0,.int .i64 0,.int .i64 0,.int .i64 0],.int .i64 ce]) (by simp [results,Tryz.results73,go_sem, *]) rfl ⟨rfl,(by repeat (first|refine Below.setCell ?_ (by simp;try omega) _|refine Below.alloc ?_ (by have:=BB.out.size;simp;try omega) _|refine Below.drew ?_|exact BB.out))⟩
set_option maxHeartbeats 8000000 in
theorem lok_2 (W:World) (b:Nat) (r m1 m2:Int) (E:Int) (hE:(E == 0)=false) (HC:Hid (∀ w,Below W.heap.size W w→Calls Tryz.prog 133 #[.pointer (some ⟨b,0,none⟩),.agg #[.int .i64 m1,.int .i64 m2]] w fun e w'=>(e=.returned (.int .i64 0))∧Below w.heap.size w w')) (HR:Hid (∀ w,Below W.heap.size W w→Calls Tryz.prog 65 #[.pointer (some ⟨b,0,none⟩),.int .i64 r] w fun e w'=>(e=.returned (.tuple #[.slice none 0 0,.int .i64 E]))∧Below w.heap.size w w')):Calls Tryz.prog 73 #[.pointer (some ⟨b,0,none⟩),.int .i64 r,.agg #[.int .i64 m1,.int .i64 m2]] W fun e w'=>e=.returned (.tuple #[.agg #[.int .i64 0,.int .i64 0,.int .i64 0,.int .i64 0,.int .i64 0,.int .i64 0,.int .i64 0,.int .i64 0],.int .i64 E])∧Below W.heap.size W w':=by
  have BB:Hid (Below W.heap.size W W):=Below.refl _ _
  go_enter Tryz.func73,Tryz.ntmps73
  go_wp2_with (first
    | (go_at_call 133;refine (HC.out _ (by repeat (first|refine Below.setCell ?_ (by simp;try omega) _|refine Below.alloc ?_ (by have:=BB.out.size;simp;try omega) _|refine Below.drew ?_|exact BB.out))).mono ?_;rintro e w1 ⟨rfl,hb⟩;have mmd:=kp2 (n:=W.heap.size) hb;(try clear mmB mm0 mm1 mmf mmL mmN);obtain ⟨mmB,mm0,mm1,mmf,mmL,mmN⟩:=mmd;have rrd:=kp8 (n:=W.heap.size+1) hb (by first|omega|(simp;try omega)) (halloc2 _ _ (by simp));(try clear rrB rr0 rr1 rr2 rr3 rr4 rr5 rr6 rr7 rrf rrL rrN);obtain ⟨rrB,rr0,rr1,rr2,rr3,rr4,rr5,rr6,rr7,rrf,rrL,rrN⟩:=rrd;have BB2:Below W.heap.size W w1:=bstep (by repeat (first|refine Below.setCell ?_ (by simp;try omega) _|refine Below.alloc ?_ (by have:=BB.out.size;simp;try omega) _|refine Below.drew ?_|exact BB.out)) hb;clear BB;have BB:Hid (Below W.heap.size W w1):=BB2;clear BB2;clear hb)
    | (go_at_call 65;refine (HR.out _ (by repeat (first|refine Below.setCell ?_ (by simp;try omega) _|refine Below.alloc ?_ (by have:=BB.out.size;simp;try omega) _|refine Below.drew ?_|exact BB.out))).mono ?_;rintro e w2 ⟨rfl,hb⟩;have mmd:=kp2 (n:=W.heap.size) hb;(try clear mmB mm0 mm1 mmf mmL mmN);obtain ⟨mmB,mm0,mm1,mmf,mmL,mmN⟩:=mmd;have rrd:=kp8 (n:=W.heap.size+1) hb (by first|omega|(simp;try omega)) (rrB.out);(try clear rrB rr0 rr1 rr2 rr3 rr4 rr5 rr6 rr7 rrf rrL rrN);obtain ⟨rrB,rr0,rr1,rr2,rr3,rr4,rr5,rr6,rr7,rrf,rrL,rrN⟩:=rrd;have BB2:Below W.heap.size W w2:=bstep (by repeat (first|refine Below.setCell ?_ (by simp;try omega) _|refine Below.alloc ?_ (by have:=BB.out.size;simp;try omega) _|refine Below.drew ?_|exact BB.out)) hb;clear BB;have BB:Hid (Below W.heap.size W w2):=BB2;clear BB2;clear hb))
  exact bodyPost_ret (v:=.tuple #[.agg #[.int .i64 0,.int .i64 0,.int .i64 0,.int .i64 0,.int .i64 0,.int .i64 0,.int .i64 0,.int .i64 0],.int .i64 E]) (by simp [results,Tryz.results73,go_sem, *]) rfl ⟨rfl,(by repeat (first|refine Below.setCell ?_ (by simp;try omega) _|refine Below.alloc ?_ (by have:=BB.out.size;simp;try omega) _|refine Below.drew ?_|exact BB.out))⟩
set_option maxHeartbeats 8000000 in
theorem lok_3 (W:World) (b:Nat) (r m1 m2:Int) (HC:Hid (∀ w,Below W.heap.size W w→Calls Tryz.prog 133 #[.pointer (some ⟨b,0,none⟩),.agg #[.int .i64 m1,.int .i64 m2]] w fun e w'=>(e=.returned (.int .i64 0))∧Below w.heap.size w w')) (R:List (Int×Int)) (n:Nat) (HR:Hid (∀ w,Below W.heap.size W w→Calls Tryz.prog 65 #[.pointer (some ⟨b,0,none⟩),.int .i64 r] w fun e w'=>(∃ v,e=.returned (.tuple #[v,.int .i64 0])∧w'.ownsRow w.heap.size 24 2 v n (flatD R))∧Below w.heap.size w w')) (HT:Hid (∀ N v w,w.ownsRow N 24 2 v n (flatD R)→Calls Tryz.prog 134 #[v,.agg #[.int .i64 m1,.int .i64 m2]] w fun e w'=>e=.returned (.bool false)∧Below w.heap.size w w')):Calls Tryz.prog 73 #[.pointer (some ⟨b,0,none⟩),.int .i64 r,.agg #[.int .i64 m1,.int .i64 m2]] W fun e w'=>e=.returned (.tuple #[.agg #[.int .i64 0,.int .i64 0,.int .i64 0,.int .i64 0,.int .i64 0,.int .i64 0,.int .i64 0,.int .i64 0],.int .i64 6])∧Below W.heap.size W w':=by
  have BB:Hid (Below W.heap.size W W):=Below.refl _ _
  go_enter Tryz.func73,Tryz.ntmps73
  go_wp2_with (first
    | (go_at_call 133;refine (HC.out _ (by repeat (first|refine Below.setCell ?_ (by simp;try omega) _|refine Below.alloc ?_ (by have:=BB.out.size;simp;try omega) _|refine Below.drew ?_|exact BB.out))).mono ?_;rintro e w1 ⟨rfl,hb⟩;have mmd:=kp2 (n:=W.heap.size) hb;(try clear mmB mm0 mm1 mmf mmL mmN);obtain ⟨mmB,mm0,mm1,mmf,mmL,mmN⟩:=mmd;have rrd:=kp8 (n:=W.heap.size+1) hb (by first|omega|(simp;try omega)) (halloc2 _ _ (by simp));(try clear rrB rr0 rr1 rr2 rr3 rr4 rr5 rr6 rr7 rrf rrL rrN);obtain ⟨rrB,rr0,rr1,rr2,rr3,rr4,rr5,rr6,rr7,rrf,rrL,rrN⟩:=rrd;have BB2:Below W.heap.size W w1:=bstep (by repeat (first|refine Below.setCell ?_ (by simp;try omega) _|refine Below.alloc ?_ (by have:=BB.out.size;simp;try omega) _|refine Below.drew ?_|exact BB.out)) hb;clear BB;have BB:Hid (Below W.heap.size W w1):=BB2;clear BB2;clear hb)
    | (go_at_call 65;refine (HR.out _ (by repeat (first|refine Below.setCell ?_ (by simp;try omega) _|refine Below.alloc ?_ (by have:=BB.out.size;simp;try omega) _|refine Below.drew ?_|exact BB.out))).mono ?_;rintro e w2 ⟨⟨vr,rfl,ho⟩,hb⟩;have O2:Hid (w2.ownsRow w1.heap.size 24 2 vr n (flatD R)):=ho;clear ho;have mmd:=kp2 (n:=W.heap.size) hb;(try clear mmB mm0 mm1 mmf mmL mmN);obtain ⟨mmB,mm0,mm1,mmf,mmL,mmN⟩:=mmd;have rrd:=kp8 (n:=W.heap.size+1) hb (by first|omega|(simp;try omega)) (rrB.out);(try clear rrB rr0 rr1 rr2 rr3 rr4 rr5 rr6 rr7 rrf rrL rrN);obtain ⟨rrB,rr0,rr1,rr2,rr3,rr4,rr5,rr6,rr7,rrf,rrL,rrN⟩:=rrd;have BB2:Below W.heap.size W w2:=bstep (by repeat (first|refine Below.setCell ?_ (by simp;try omega) _|refine Below.alloc ?_ (by have:=BB.out.size;simp;try omega) _|refine Below.drew ?_|exact BB.out)) hb;clear BB;have BB:Hid (Below W.heap.size W w2):=BB2;clear BB2;clear hb)
    | (go_at_call 134;refine (HT.out _ _ _ O2.out).mono ?_;rintro e w3 ⟨rfl,hb⟩;have mmd:=kp2 (n:=W.heap.size) hb;(try clear mmB mm0 mm1 mmf mmL mmN);obtain ⟨mmB,mm0,mm1,mmf,mmL,mmN⟩:=mmd;have rrd:=kp8 (n:=W.heap.size+1) hb (by first|omega|(simp;try omega)) (rrB.out);(try clear rrB rr0 rr1 rr2 rr3 rr4 rr5 rr6 rr7 rrf rrL rrN);obtain ⟨rrB,rr0,rr1,rr2,rr3,rr4,rr5,rr6,rr7,rrf,rrL,rrN⟩:=rrd;have BB2:Below W.heap.size W w3:=bstep (by repeat (first|refine Below.setCell ?_ (by simp;try omega) _|refine Below.alloc ?_ (by have:=BB.out.size;simp;try omega) _|refine Below.drew ?_|exact BB.out)) hb;clear BB;have BB:Hid (Below W.heap.size W w3):=BB2;clear BB2;clear hb))
  exact bodyPost_ret (v:=.tuple #[.agg #[.int .i64 0,.int .i64 0,.int .i64 0,.int .i64 0,.int .i64 0,.int .i64 0,.int .i64 0,.int .i64 0],.int .i64 6]) (by simp [results,Tryz.results73,go_sem, *]) rfl ⟨rfl,(by repeat (first|refine Below.setCell ?_ (by simp;try omega) _|refine Below.alloc ?_ (by have:=BB.out.size;simp;try omega) _|refine Below.drew ?_|exact BB.out))⟩
set_option maxHeartbeats 8000000 in
theorem lok_4 (W:World) (b:Nat) (r m1 m2:Int) (r1 r2 k1 k2 ee v1 v2 ff:Int) (HC:Hid (∀ w,Below W.heap.size W w→Calls Tryz.prog 133 #[.pointer (some ⟨b,0,none⟩),.agg #[.int .i64 m1,.int .i64 m2]] w fun e w'=>(e=.returned (.int .i64 0))∧Below w.heap.size w w')) (R:List (Int×Int)) (n:Nat) (HR:Hid (∀ w,Below W.heap.size W w→Calls Tryz.prog 65 #[.pointer (some ⟨b,0,none⟩),.int .i64 r] w fun e w'=>(∃ v,e=.returned (.tuple #[v,.int .i64 0])∧w'.ownsRow w.heap.size 24 2 v n (flatD R))∧Below w.heap.size w w')) (HT:Hid (∀ N v w,w.ownsRow N 24 2 v n (flatD R)→Calls Tryz.prog 134 #[v,.agg #[.int .i64 m1,.int .i64 m2]] w fun e w'=>e=.returned (.bool true)∧Below w.heap.size w w')) (HE:Hid (∀ w,Below W.heap.size W w→Calls Tryz.prog 129 #[.pointer (some ⟨b,0,none⟩),.int .i64 r,.agg #[.int .i64 m1,.int .i64 m2]] w fun e w'=>(e=.returned (.agg #[.int .i64 r1,.int .i64 r2,.int .i64 k1,.int .i64 k2,.int .i64 ee,.int .i64 v1,.int .i64 v2,.int .i64 ff]))∧Below w.heap.size w w')):Calls Tryz.prog 73 #[.pointer (some ⟨b,0,none⟩),.int .i64 r,.agg #[.int .i64 m1,.int .i64 m2]] W fun e w'=>e=.returned (.tuple #[.agg #[.int .i64 r1,.int .i64 r2,.int .i64 k1,.int .i64 k2,.int .i64 ee,.int .i64 v1,.int .i64 v2,.int .i64 ff],.int .i64 0])∧Below W.heap.size W w':=by
  have BB:Hid (Below W.heap.size W W):=Below.refl _ _
  go_enter Tryz.func73,Tryz.ntmps73
  go_wp2_with (first
    | (go_at_call 133;refine (HC.out _ (by repeat (first|refine Below.setCell ?_ (by simp;try omega) _|refine Below.alloc ?_ (by have:=BB.out.size;simp;try omega) _|refine Below.drew ?_|exact BB.out))).mono ?_;rintro e w1 ⟨rfl,hb⟩;have mmd:=kp2 (n:=W.heap.size) hb;(try clear mmB mm0 mm1 mmf mmL mmN);obtain ⟨mmB,mm0,mm1,mmf,mmL,mmN⟩:=mmd;have rrd:=kp8 (n:=W.heap.size+1) hb (by first|omega|(simp;try omega)) (halloc2 _ _ (by simp));(try clear rrB rr0 rr1 rr2 rr3 rr4 rr5 rr6 rr7 rrf rrL rrN);obtain ⟨rrB,rr0,rr1,rr2,rr3,rr4,rr5,rr6,rr7,rrf,rrL,rrN⟩:=rrd;have BB2:Below W.heap.size W w1:=bstep (by repeat (first|refine Below.setCell ?_ (by simp;try omega) _|refine Below.alloc ?_ (by have:=BB.out.size;simp;try omega) _|refine Below.drew ?_|exact BB.out)) hb;clear BB;have BB:Hid (Below W.heap.size W w1):=BB2;clear BB2;clear hb)
    | (go_at_call 65;refine (HR.out _ (by repeat (first|refine Below.setCell ?_ (by simp;try omega) _|refine Below.alloc ?_ (by have:=BB.out.size;simp;try omega) _|refine Below.drew ?_|exact BB.out))).mono ?_;rintro e w2 ⟨⟨vr,rfl,ho⟩,hb⟩;have O2:Hid (w2.ownsRow w1.heap.size 24 2 vr n (flatD R)):=ho;clear ho;have mmd:=kp2 (n:=W.heap.size) hb;(try clear mmB mm0 mm1 mmf mmL mmN);obtain ⟨mmB,mm0,mm1,mmf,mmL,mmN⟩:=mmd;have rrd:=kp8 (n:=W.heap.size+1) hb (by first|omega|(simp;try omega)) (rrB.out);(try clear rrB rr0 rr1 rr2 rr3 rr4 rr5 rr6 rr7 rrf rrL rrN);obtain ⟨rrB,rr0,rr1,rr2,rr3,rr4,rr5,rr6,rr7,rrf,rrL,rrN⟩:=rrd;have BB2:Below W.heap.size W w2:=bstep (by repeat (first|refine Below.setCell ?_ (by simp;try omega) _|refine Below.alloc ?_ (by have:=BB.out.size;simp;try omega) _|refine Below.drew ?_|exact BB.out)) hb;clear BB;have BB:Hid (Below W.heap.size W w2):=BB2;clear BB2;clear hb)
    | (go_at_call 134;refine (HT.out _ _ _ O2.out).mono ?_;rintro e w3 ⟨rfl,hb⟩;have mmd:=kp2 (n:=W.heap.size) hb;(try clear mmB mm0 mm1 mmf mmL mmN);obtain ⟨mmB,mm0,mm1,mmf,mmL,mmN⟩:=mmd;have rrd:=kp8 (n:=W.heap.size+1) hb (by first|omega|(simp;try omega)) (rrB.out);(try clear rrB rr0 rr1 rr2 rr3 rr4 rr5 rr6 rr7 rrf rrL rrN);obtain ⟨rrB,rr0,rr1,rr2,rr3,rr4,rr5,rr6,rr7,rrf,rrL,rrN⟩:=rrd;have BB2:Below W.heap.size W w3:=bstep (by repeat (first|refine Below.setCell ?_ (by simp;try omega) _|refine Below.alloc ?_ (by have:=BB.out.size;simp;try omega) _|refine Below.drew ?_|exact BB.out)) hb;clear BB;have BB:Hid (Below W.heap.size W w3):=BB2;clear BB2;clear hb)
    | (go_at_call 129;refine (HE.out _ (by repeat (first|refine Below.setCell ?_ (by simp;try omega) _|refine Below.alloc ?_ (by have:=BB.out.size;simp;try omega) _|refine Below.drew ?_|exact BB.out))).mono ?_;rintro e w4 ⟨rfl,hb⟩;have rrd:=kp8 (n:=W.heap.size+1) hb (by first|omega|(simp;try omega)) (rrB.out);(try clear rrB rr0 rr1 rr2 rr3 rr4 rr5 rr6 rr7 rrf rrL rrN);obtain ⟨rrB,rr0,rr1,rr2,rr3,rr4,rr5,rr6,rr7,rrf,rrL,rrN⟩:=rrd;have BB2:Below W.heap.size W w4:=bstep (by repeat (first|refine Below.setCell ?_ (by simp;try omega) _|refine Below.alloc ?_ (by have:=BB.out.size;simp;try omega) _|refine Below.drew ?_|exact BB.out)) hb;clear BB;have BB:Hid (Below W.heap.size W w4):=BB2;clear BB2;clear hb))
  exact bodyPost_ret (v:=.tuple #[.agg #[.int .i64 r1,.int .i64 r2,.int .i64 k1,.int .i64 k2,.int .i64 ee,.int .i64 v1,.int .i64 v2,.int .i64 ff],.int .i64 0]) (by simp [results,Tryz.results73,go_sem, *]) rfl ⟨rfl,(by repeat (first|refine Below.setCell ?_ (by simp;try omega) _|refine Below.alloc ?_ (by have:=BB.out.size;simp;try omega) _|refine Below.drew ?_|exact BB.out))⟩
theorem lok_c {b:Nat} {ps:List Plc} {W:World} (h:WAt b ps W) (hW:WI ps) (r m1 m2:Int):Calls Tryz.prog 73 #[.pointer (some ⟨b,0,none⟩),.int .i64 r,.agg #[.int .i64 m1,.int .i64 m2]] W fun e w'=>e=.returned (.tuple #[(lokR ps r (m1,m2)).1.agg,.int .i64 (lokR ps r (m1,m2)).2])∧Below W.heap.size W w':=by
  have HC:∀ w,Below W.heap.size W w→Calls Tryz.prog 133 #[.pointer (some ⟨b,0,none⟩),.agg #[.int .i64 m1,.int .i64 m2]] w fun e w'=>e=.returned (.int .i64 (if (methI ps m1 m2).isSome then 0 else 3))∧Below w.heap.size w w':=fun w hb=>chkI_c (h.below hb) hW m1 m2
  unfold lokR
  cases hm:methI ps m1 m2 with
  | none =>
    rw [hm] at HC
    exact lok_1 W b r m1 m2 3 (by decide) HC
  | some x =>
    rw [hm] at HC
    simp only
    by_cases h0:itE ps r=0
    · rw [if_pos h0]
      have HR:∀ w,Below W.heap.size W w→Calls Tryz.prog 65 #[.pointer (some ⟨b,0,none⟩),.int .i64 r] w fun e w'=>(∃ v,e=.returned (.tuple #[v,.int .i64 0])∧w'.ownsRow w.heap.size 24 2 v (rtsR ps r).length (flatD (rtsR ps r)))∧Below w.heap.size w w':=fun w hb=>by
        have:=roots_c (h.below hb) hW r
        rw [h0] at this
        exact this
      have hlen:(rtsR ps r).length≤1000000000:=by
        rcases it_cases ps r with ⟨_,k,q,rfl,hq,_,hr⟩|⟨hr,_⟩
        · rw [hr];exact Nat.le_trans (rts_len hW hq) (by decide)
        · rw [hr];exact Nat.zero_le _
      have HT:∀ N v w,w.ownsRow N 24 2 v (rtsR ps r).length (flatD (rtsR ps r))→Calls Tryz.prog 134 #[v,.agg #[.int .i64 m1,.int .i64 m2]] w fun e w'=>e=.returned (.bool (decide ((m1,m2)∈rtsR ps r)))∧Below w.heap.size w w':=fun N v w ho=>contMI_c N _ _ rfl v m1 m2 w ho hlen
      by_cases hin:(m1,m2)∈rtsR ps r
      · rw [if_pos hin]
        rw [decide_eq_true hin] at HT
        exact lok_4 W b r m1 m2 _ _ _ _ _ _ _ _ HC (rtsR ps r) _ HR HT (fun w hb=>entryOf_c (h.below hb) hW r m1 m2)
      · rw [if_neg hin]
        rw [decide_eq_false hin] at HT
        exact lok_3 W b r m1 m2 HC (rtsR ps r) _ HR HT
    · rw [if_neg h0]
      exact lok_2 W b r m1 m2 _ (by simp [h0]) HC (fun w hb=>roots_no (h.below hb) hW r h0)
theorem clss_keep {w w':World} {v:Value} {l:List Cls} (h:IsClss w v l) (hb:Below w.heap.size w w'):IsClss w' v l:=by
  obtain ⟨ao,cap,rfl,h1,h2,h3⟩:=h
  refine ⟨ao,cap,rfl,h1,h2,fun hne=>?_⟩
  obtain ⟨bk,o,e,hlt,hc⟩:=h3 hne
  refine ⟨bk,o,e,Nat.lt_of_lt_of_le hlt hb.size,fun k c hk=>?_⟩
  obtain ⟨vi,vm,h4,h5⟩:=hc k c hk
  exact ⟨vi,vm,fun j u hj=>(hb.cell hlt).trans (h4 j u hj),h5.keep hb⟩
theorem rts3:rtsR P3 0=[(0,1)]:=by kernel_rfl
theorem itE3:itE P3 0=0:=by kernel_rfl
theorem awake14_n (W:World) (HN:Hid (∀ w:World,Calls Tryz.prog 27 #[] w fun e w'=>∃ b,e=.returned (.pointer (some ⟨b,0,none⟩))∧WAt b P3 w'∧Below w.heap.size w w')) (HM:Hid (∀ (w:World) (b:Nat),WAt b P3 w→Calls Tryz.prog 65 #[.pointer (some ⟨b,0,none⟩),.int .i64 0] w fun e w'=>(∃ v,e=.returned (.tuple #[v,.int .i64 0])∧w'.ownsRow w.heap.size 24 2 v 1 (flatD [(0,1)]))∧Below w.heap.size w w')):Calls Tryz.prog 63 #[] W fun e w'=>e=.returned (.bool true)∧Below W.heap.size W w':=by
  go_enter Tryz.func63,Tryz.ntmps63
  go_wp2_with (first
    | (go_at_call 27;refine (HN.out _).mono ?_;rintro e w1 ⟨b,rfl,hw,hb⟩;have H1:Hid (WAt b P3 w1):=hw;have B1:Hid (Below W.heap.size W w1):=hb;clear hw hb HN)
    | (go_at_call 65;refine (HM.out _ _ H1.out).mono ?_;rintro e w2 ⟨⟨v,rfl,ho⟩,hb⟩;obtain ⟨g,cap,rfl,_,hgl,hcs⟩:=own_at8 ho (by decide);have t0:=hcs 0 _ rfl;have t1:=hcs 1 _ rfl;have B2:Hid (Below W.heap.size W w2):=bstep B1.out hb;clear hb ho hcs HM))
  all_goals go_ret
  all_goals exact ⟨retB (by simp),B2.out⟩
theorem awake14_c (W:World):Calls Tryz.prog 63 #[] W fun e w'=>e=.returned (.bool true)∧Below W.heap.size W w' :=
  awake14_n W (fun w=>(new_any w).mono fun e w' zz=>⟨_,zz.1,by obtain ⟨vp,pv,hw⟩:=zz.2.1;exact hw.wat,zz.2.2⟩) (fun w b h=>by
    have:=roots_c h wi3 0
    rw [rts3,itE3] at this
    exact this)
set_option maxHeartbeats 4000000 in
theorem built14_n (v:Value) (l:List Cls) (W:World) (h:IsClss W v l):Calls Tryz.prog 64 #[v] W fun e w'=>(∃ b,e=.returned (.pointer (some ⟨b,0,none⟩))∧∃ mb vp pv,HW w' W.heap.size b mb (wld l) vp pv)∧Below W.heap.size W w':=by
  have hCW:=clss_w h
  obtain ⟨ao,cap,rfl,h1,h2,h3⟩:=h
  unfold maxLen at h2
  obtain ⟨L,hL⟩:∃ L,l.length=L:=⟨_,rfl⟩
  have HL:Hid (l.length=L):=hL
  have HI:Hid _:=h3
  have HCW:Hid (∀ c∈l,ClsW c):=hCW
  rw [hL] at h1 ⊢
  clear hL h3 hCW
  have HN:Hid (∀ w:World,Calls Tryz.prog 27 #[] w fun e w'=>e=.returned (.pointer (some ⟨w.heap.size+1,0,none⟩))∧(∃ vp pv,HW w' w.heap.size (w.heap.size+1) w.heap.size P3 vp pv)∧Below w.heap.size w w'):=new_any
  go_enter Tryz.func64,Tryz.ntmps64
  go_wp2_with (first
    | (go_at_call 27;refine (HN.out _).mono ?_;rintro e w2 ⟨rfl,hw,hb⟩;have H2:Hid (∃ vp pv,HW w2 W.heap.size (W.heap.size+1) W.heap.size P3 vp pv):=hw;have B2:Hid (Below W.heap.size W w2):=hb;clear hb hw HN))
  go_loopw [4] (fun iv wr=>∃ (i:Nat),iv=.int .i64 i∧i≤L∧Hid (∃ vp pv,HW wr W.heap.size (W.heap.size+1) W.heap.size (wld (l.take i)) vp pv)∧Hid (Below W.heap.size W wr)) (fun iv _=>L - (intOf iv).toNat)
  case atStart=>exact ⟨0,rfl,Nat.zero_le _,H2,B2⟩
  case round =>
    clear H2 B2
    obtain ⟨i,rfl,hi,hHW,hB⟩:=hrel
    by_cases hlt:i<L
    · obtain ⟨c,hc⟩:∃ c,l[i]?=some c:=⟨_,List.getElem?_eq_getElem (by rw [HL.out];exact hlt)⟩
      obtain ⟨bk,o,rfl,hbk,hcl⟩:=HI.out (fun e=>by rw [e] at hc;simp at hc)
      obtain ⟨vi,vm,hcell,hin⟩:=hcl i c hc
      have bel:Below W.heap.size W wr:=hB.out
      have p0:wr.cell? ⟨bk,o+i * 6,none⟩=some (.string c.nm):=(bel.cell (p:=⟨bk,o+i * 6,none⟩) hbk).trans (hcell 0 _ rfl)
      have p1:wr.cell? ⟨bk,o+i * 6+1,none⟩=some (.string c.su):=(bel.cell (p:=⟨bk,o+i * 6+1,none⟩) hbk).trans (hcell 1 _ rfl)
      have p2:wr.cell? ⟨bk,o+i * 6+2,none⟩=some vi:=(bel.cell (p:=⟨bk,o+i * 6+2,none⟩) hbk).trans (hcell 2 _ rfl)
      have p3:wr.cell? ⟨bk,o+i * 6+3,none⟩=some (.int .i64 c.fl):=(bel.cell (p:=⟨bk,o+i * 6+3,none⟩) hbk).trans (hcell 3 _ rfl)
      have p4:wr.cell? ⟨bk,o+i * 6+4,none⟩=some (.int .i64 c.ld):=(bel.cell (p:=⟨bk,o+i * 6+4,none⟩) hbk).trans (hcell 4 _ rfl)
      have p5:wr.cell? ⟨bk,o+i * 6+5,none⟩=some vm:=(bel.cell (p:=⟨bk,o+i * 6+5,none⟩) hbk).trans (hcell 5 _ rfl)
      have hWI:WI (wld (l.take i)):=wld_wi _ (fun c hc=>HCW.out c (List.mem_of_mem_take hc))
      have HD:Hid (Calls Tryz.prog 28 #[.pointer (some ⟨W.heap.size+1,0,none⟩),.agg #[.string c.nm,.string c.su,vi,.int .i64 c.fl,.int .i64 c.ld,vm]] wr fun e w'=>(∃ u,e=.returned u)∧Hid (∃ vp pv,HW w' W.heap.size (W.heap.size+1) W.heap.size (wld (l.take (i+1))) vp pv)∧Hid (Below W.heap.size W w')):=by
        obtain ⟨vp,pv,hw⟩:=hHW.out
        refine (define_any W.heap.size (W.heap.size+1) W.heap.size _ vp pv c vi vm wr hw hB.out.size (hin.keep bel) hWI.nm).mono ?_
        rintro e w' ⟨rfl,hw',hb',_⟩
        rw [wld_at hc]
        exact ⟨⟨_,rfl⟩,hw',hB.out.trans hb'⟩
      clear hcl hcell hin hc bel hWI hHW hB HI
      go_wp2_with (go_at_call 28;refine HD.out.mono ?_;rintro e w3 ⟨⟨u3,rfl⟩,hw3,hb3⟩;clear HD)
      go_roundw
      case rel=>exact ⟨i+1,by go_num,by omega,hw3,hb3⟩
      case measure=>simp [intOf];omega
    · have e:i=L:=by omega
      subst e
      have HF:Hid (∃ mb vp pv,HW wr W.heap.size (W.heap.size+1) mb (wld l) vp pv):=by
        obtain ⟨vp,pv,hw⟩:=hHW.out
        rw [List.take_of_length_le (by rw [HL.out];exact Nat.le_refl _)] at hw
        exact ⟨_,_,_,hw⟩
      clear hHW HI
      go_wp2
      exact bodyPost_ret (results_tmp rfl _ _ _) rfl ⟨⟨_,rfl,HF.out⟩,hB.out⟩
end Go.Proofs.YthfifobokpfpkaaGreat
