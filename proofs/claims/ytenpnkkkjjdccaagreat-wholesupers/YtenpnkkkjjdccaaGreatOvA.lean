import Derived.Test.YtenpnkkkjjdccaaGreatMxF
import Derived.Test.YtenpnkkkjjdccaaGreatHrX
import Derived.Test.YtenpnkkkjjdccaaGreatAcE
set_option maxRecDepth 100000
namespace Go.Proofs.YtenpnkkkjjdccaaGreat
open Go.RowKit Go.Maps
theorem callMz (vs:Array Value) (w:World):(callFunc 265 vs).run Tryz.prog w=.ok (.enter 265 vs) w:=by simp [go_sem]
set_option maxHeartbeats 1000000 in
theorem oneIn_c {b:Nat} {ps:List Plc} {W:World} (h:WAt b ps W) (hi:WI ps) (bw:Nat) (m:Int×Int) (hw:W.cell? ⟨bw,0,none⟩=some (.pointer (some ⟨b,0,none⟩))):Calls Tryz.prog 265 (#[.agg #[.int .i64 m.1,.int .i64 m.2]]++#[.pointer (some ⟨bw,0,none⟩)]) W fun e w'=>e=.returned (.bool (hasS ps m.1 m.2 1024))∧Below W.heap.size W w':=by
  show Calls Tryz.prog 265 #[.agg #[.int .i64 m.1,.int .i64 m.2],.pointer (some ⟨bw,0,none⟩)] W _
  have hlw:bw<W.heap.size:=World.block_lt_of_cell? W _ hw
  have n2:¬ bw=W.heap.size:=by omega
  have HS:Hid (∀ w,Below W.heap.size W w→Calls Tryz.prog 266 #[.pointer (some ⟨b,0,none⟩),.agg #[.int .i64 m.1,.int .i64 m.2],.int .i64 1024] w fun e w'=>e=.returned (.bool (hasS ps m.1 m.2 1024))∧Below W.heap.size W w'):=fun w hb=>(hasS_c (h.below hb) hi.pb m.1 m.2 1024).mono fun e w' zz=>⟨zz.1,bstep hb zz.2⟩
  generalize hasS ps m.1 m.2 1024=R at *
  obtain ⟨m1,m2⟩:=m
  simp only at HS
  clear h hi
  go_enter Tryz.func265,Tryz.ntmps265
  go_wp2_with (go_at_call 266;refine (HS.out _ (by repeat (first|exact Below.refl _ _|refine Below.setCell ?_ (by simp;try omega) _|refine Below.alloc ?_ (by simp;try omega) _|refine Below.drew ?_))).mono ?_;rintro e w1 ⟨rfl,hb⟩;have B1:Hid (Below W.heap.size W w1):=hb;clear hb HS)
  exact bodyPost_ret (results_tmp rfl _ _ _) rfl ⟨rfl,B1.out⟩
theorem halloc2 (w:World) {n:Nat} (o:Obj) (hn:w.heap.size=n):(w.alloc o).heap[n]?=some o:=by subst hn;exact halloc1 w o
def idE (x:(Int×Int)×Int):Value:=.tuple #[.agg #[.int .i64 x.1.1,.int .i64 x.1.2],.int .i64 x.2]
set_option maxHeartbeats 1000000 in
theorem one_yes {b:Nat} {ps:List Plc} {W:World} (h:WAt b ps W) (hi:WI ps) (k:Nat) (q:Plc) (hq:ps[k]?=some q) (nm ds:ByteArray):Calls Tryz.prog 226 #[.pointer (some ⟨b,0,none⟩),.int .i64 (k:Int),.string nm,.string ds] W fun e w'=>e=.returned (idE (oneV ps (candL ps nm ds q.cl)))∧Below W.heap.size W w':=by
  have hKb:(candL ps nm ds q.cl).length≤1000000:=by
    obtain ⟨N,mb,vp,pv,h⟩:=h
    have hwf:=h.wf q (List.mem_of_getElem? hq)
    have:=nodup_lt_len _ _ hwf.2 hwf.1
    have:=candL_len ps nm ds q.cl
    have:=hi.hi
    omega
  have HC:Hid (∀ w,Below W.heap.size W w→Calls Tryz.prog 263 #[.pointer (some ⟨b,0,none⟩),.int .i64 (k:Int),.string nm,.string ds] w fun e w'=>(∃ v,e=.returned (.tuple #[v,.int .i64 0])∧w'.ownsRow w.heap.size 45 2 v (maxL ps (candL ps nm ds q.cl)).length (flatD (maxL ps (candL ps nm ds q.cl))))∧Below w.heap.size w w'):=fun w hb=>max_yes (h.below hb) hi k q hq nm ds
  have HW0:Hid (WAt b ps W):=h
  have HWI:Hid (WI ps):=hi
  obtain ⟨l,hl⟩:∃ l,candL ps nm ds q.cl=l:=⟨_,rfl⟩
  rw [hl] at hKb HC ⊢
  have HMb:Hid ((maxL ps l).length≤1000000):=Nat.le_trans (List.length_filter_le _ _) hKb
  have HOL:Hid ((maxL ps l).filter (fun m=>!hasS ps m.1 m.2 1024)=oneL ps l):=rfl
  obtain ⟨R,hR⟩:∃ R,oneV ps l=R:=⟨_,rfl⟩
  have HR:Hid ((match oneL ps l with | []=>((0,0),24) | [m]=>(m,0)|_=>((0,0),23))=R):=hR
  rw [hR]
  generalize oneL ps l=ol at *
  generalize maxL ps l=ml at *
  clear h hi hq hl hR
  have hpred:Hid (∀ (w1 w:World),Below (W.heap.size+2) w1 w→Below W.heap.size W w1→w1.cell? ⟨W.heap.size,0,none⟩=some (.pointer (some ⟨b,0,none⟩))→∀ m:Int×Int,Calls Tryz.prog 265 (#[.agg #[.int .i64 m.1,.int .i64 m.2]]++#[.pointer (some ⟨W.heap.size,0,none⟩)]) w fun e w'=>e=.returned (.bool (hasS ps m.1 m.2 1024))∧Below w.heap.size w w'):=fun w1 w hb hb1 hc m=>oneIn_c (HW0.out.below (hb1.trans (hb.mono (by omega)))) HWI.out W.heap.size m ((hb.cell (p:=⟨W.heap.size,0,none⟩) (show W.heap.size<W.heap.size+2 by omega)).trans hc)
  match ol with
  | [] =>
    have eR:R=((0,0),24):=HR.out.symm
    subst eR
    clear HR
    go_enter Tryz.func226,Tryz.ntmps226
    go_wp2_with (first
      | (go_at_call 263;refine (HC.out _ (by repeat (first|exact Below.refl _ _|refine Below.setCell ?_ (by simp;try omega) _|refine Below.alloc ?_ (by simp;try omega) _|refine Below.drew ?_))).mono ?_;rintro e w1 ⟨⟨v,rfl,ho⟩,hb⟩;obtain ⟨va,vn,rfl⟩:=ownv ho;have O1:Hid (w1.ownsRow (W.heap.size+2) 45 2 (.slice va ml.length vn) ml.length (flatD ml)):=Go.Joins.ownsRow_le ho (by simp);have c0:w1.cell? ⟨W.heap.size,0,none⟩=some (.pointer (some ⟨b,0,none⟩)):=(hb.cell (p:=⟨W.heap.size,0,none⟩) (by simp;try omega)).trans (by simp [go_sem]);have d0:w1.heap[W.heap.size+1]?=some (.cells #[.int .i64 0,.int .i64 0] 45 (0,0)):=(hb.block (W.heap.size+1) (by simp)).trans (halloc2 _ _ (by simp));have B1:Hid (Below W.heap.size W w1):=bstep (by repeat (first|exact Below.refl _ _|refine Below.setCell ?_ (by simp;try omega) _|refine Below.alloc ?_ (by simp;try omega) _|refine Below.drew ?_)) hb;have L1:Hid (W.heap.size+2≤w1.heap.size):=Nat.le_trans (by simp) hb.size;clear hb HC ho)
      | (go_at_call 264;refine (delD_any 265 callMz #[.pointer (some ⟨W.heap.size,0,none⟩)] (fun m=>hasS ps m.1 m.2 1024) (W.heap.size+2) ml _ w1 O1.out L1.out HMb.out (fun m _ w hb=>hpred.out w1 w hb B1.out c0 m)).mono ?_;rintro e w3 ⟨v3,rfl,ho,hb⟩;rw [HOL.out] at ho;obtain ⟨va3,vn3,rfl⟩:=ownv ho;have d1:=(hb.block (W.heap.size+1) (by omega)).trans d0;have z0:w3.cell? ⟨W.heap.size+1,0,none⟩=some (.int .i64 0):=(cell_of_row w3 (W.heap.size+1) 0 _ _ _ d1).trans rfl;have z1:w3.cell? ⟨W.heap.size+1,1,none⟩=some (.int .i64 0):=(cell_of_row w3 (W.heap.size+1) 1 _ _ _ d1).trans rfl;have f0:=frozen_of_row w3 (W.heap.size+1) 0 _ _ d1;have f1:=frozen_of_row w3 (W.heap.size+1) 1 _ _ d1;have B3:Hid (Below W.heap.size W w3):=B1.out.trans (hb.mono (by omega));clear hb ho d0 d1 c0))
    exact bodyPost_ret (v:=idE ((0,0),24)) (by simp [results,Tryz.results226,go_sem,idE, *]) rfl ⟨rfl,(B3.out.setCell (by simp) _).setCell (by simp) _⟩
  | [m] =>
    have eR:R=(m,0):=HR.out.symm
    subst eR
    clear HR
    have hlen:(List.length [m])=1:=rfl
    go_enter Tryz.func226,Tryz.ntmps226
    go_wp2_with (first
      | (go_at_call 263;refine (HC.out _ (by repeat (first|exact Below.refl _ _|refine Below.setCell ?_ (by simp;try omega) _|refine Below.alloc ?_ (by simp;try omega) _|refine Below.drew ?_))).mono ?_;rintro e w1 ⟨⟨v,rfl,ho⟩,hb⟩;obtain ⟨va,vn,rfl⟩:=ownv ho;have O1:Hid (w1.ownsRow (W.heap.size+2) 45 2 (.slice va ml.length vn) ml.length (flatD ml)):=Go.Joins.ownsRow_le ho (by simp);have c0:w1.cell? ⟨W.heap.size,0,none⟩=some (.pointer (some ⟨b,0,none⟩)):=(hb.cell (p:=⟨W.heap.size,0,none⟩) (by simp;try omega)).trans (by simp [go_sem]);have d0:w1.heap[W.heap.size+1]?=some (.cells #[.int .i64 0,.int .i64 0] 45 (0,0)):=(hb.block (W.heap.size+1) (by simp)).trans (halloc2 _ _ (by simp));have B1:Hid (Below W.heap.size W w1):=bstep (by repeat (first|exact Below.refl _ _|refine Below.setCell ?_ (by simp;try omega) _|refine Below.alloc ?_ (by simp;try omega) _|refine Below.drew ?_)) hb;have L1:Hid (W.heap.size+2≤w1.heap.size):=Nat.le_trans (by simp) hb.size;clear hb HC ho)
      | (go_at_call 264;refine (delD_any 265 callMz #[.pointer (some ⟨W.heap.size,0,none⟩)] (fun m=>hasS ps m.1 m.2 1024) (W.heap.size+2) ml _ w1 O1.out L1.out HMb.out (fun m _ w hb=>hpred.out w1 w hb B1.out c0 m)).mono ?_;rintro e w3 ⟨v3,rfl,ho,hb⟩;rw [HOL.out] at ho;obtain ⟨g3,vn3,rfl⟩:=Go.Joins.ownsRow_form ho (by simp);obtain ⟨r0,r1,_⟩:=rowD_cells (l:=[m]) ho (i:=0) rfl;simp only [Nat.zero_mul,Nat.zero_add] at r0 r1;have hg3:¬ g3=W.heap.size+1:=(by have:=(ho.lt g3 rfl).1;omega);have d1:=(hb.block (W.heap.size+1) (by omega)).trans d0;have z0:w3.cell? ⟨W.heap.size+1,0,none⟩=some (.int .i64 0):=(cell_of_row w3 (W.heap.size+1) 0 _ _ _ d1).trans rfl;have z1:w3.cell? ⟨W.heap.size+1,1,none⟩=some (.int .i64 0):=(cell_of_row w3 (W.heap.size+1) 1 _ _ _ d1).trans rfl;have f0:=frozen_of_row w3 (W.heap.size+1) 0 _ _ d1;have f1:=frozen_of_row w3 (W.heap.size+1) 1 _ _ d1;have B3:Hid (Below W.heap.size W w3):=B1.out.trans (hb.mono (by omega));clear hb ho d0 d1 c0))
    exact bodyPost_ret (v:=idE (m,0)) (by simp [results,Tryz.results226,go_sem,idE, *]) rfl ⟨rfl,(B3.out.setCell (by simp) _).setCell (by simp) _⟩
  | m::m'::r =>
    have eR:R=((0,0),23):=HR.out.symm
    subst eR
    clear HR
    have hl2:(m::m'::r).length=r.length+2:=rfl
    generalize (m::m'::r)=ol at *
    have n1:¬ (ol.length:Int)=0:=by omega
    have n2:¬ (ol.length:Int)=1:=by omega
    clear hl2
    go_enter Tryz.func226,Tryz.ntmps226
    go_wp2_with (first
      | (go_at_call 263;refine (HC.out _ (by repeat (first|exact Below.refl _ _|refine Below.setCell ?_ (by simp;try omega) _|refine Below.alloc ?_ (by simp;try omega) _|refine Below.drew ?_))).mono ?_;rintro e w1 ⟨⟨v,rfl,ho⟩,hb⟩;obtain ⟨va,vn,rfl⟩:=ownv ho;have O1:Hid (w1.ownsRow (W.heap.size+2) 45 2 (.slice va ml.length vn) ml.length (flatD ml)):=Go.Joins.ownsRow_le ho (by simp);have c0:w1.cell? ⟨W.heap.size,0,none⟩=some (.pointer (some ⟨b,0,none⟩)):=(hb.cell (p:=⟨W.heap.size,0,none⟩) (by simp;try omega)).trans (by simp [go_sem]);have d0:w1.heap[W.heap.size+1]?=some (.cells #[.int .i64 0,.int .i64 0] 45 (0,0)):=(hb.block (W.heap.size+1) (by simp)).trans (halloc2 _ _ (by simp));have B1:Hid (Below W.heap.size W w1):=bstep (by repeat (first|exact Below.refl _ _|refine Below.setCell ?_ (by simp;try omega) _|refine Below.alloc ?_ (by simp;try omega) _|refine Below.drew ?_)) hb;have L1:Hid (W.heap.size+2≤w1.heap.size):=Nat.le_trans (by simp) hb.size;clear hb HC ho)
      | (go_at_call 264;refine (delD_any 265 callMz #[.pointer (some ⟨W.heap.size,0,none⟩)] (fun m=>hasS ps m.1 m.2 1024) (W.heap.size+2) ml _ w1 O1.out L1.out HMb.out (fun m _ w hb=>hpred.out w1 w hb B1.out c0 m)).mono ?_;rintro e w3 ⟨v3,rfl,ho,hb⟩;rw [HOL.out] at ho;obtain ⟨va3,vn3,rfl⟩:=ownv ho;have d1:=(hb.block (W.heap.size+1) (by omega)).trans d0;have z0:w3.cell? ⟨W.heap.size+1,0,none⟩=some (.int .i64 0):=(cell_of_row w3 (W.heap.size+1) 0 _ _ _ d1).trans rfl;have z1:w3.cell? ⟨W.heap.size+1,1,none⟩=some (.int .i64 0):=(cell_of_row w3 (W.heap.size+1) 1 _ _ _ d1).trans rfl;have f0:=frozen_of_row w3 (W.heap.size+1) 0 _ _ d1;have f1:=frozen_of_row w3 (W.heap.size+1) 1 _ _ d1;have B3:Hid (Below W.heap.size W w3):=B1.out.trans (hb.mono (by omega));clear hb ho d0 d1 c0))
    exact bodyPost_ret (v:=idE ((0,0),23)) (by simp [results,Tryz.results226,go_sem,idE, *]) rfl ⟨rfl,(B3.out.setCell (by simp) _).setCell (by simp) _⟩
theorem one_no {b:Nat} {ps:List Plc} {W:World} (h:WAt b ps W) (c:Int) (hc:plcI ps c=none) (nm ds:ByteArray):Calls Tryz.prog 226 #[.pointer (some ⟨b,0,none⟩),.int .i64 c,.string nm,.string ds] W fun e w'=>e=.returned (idE ((0,0),3))∧Below W.heap.size W w':=by
  have HC:Hid (∀ w,Below W.heap.size W w→Calls Tryz.prog 263 #[.pointer (some ⟨b,0,none⟩),.int .i64 c,.string nm,.string ds] w fun e w'=>e=.returned (.tuple #[.slice none 0 0,.int .i64 3])∧Below w.heap.size w w'):=fun w hb=>max_no (h.below hb) c hc nm ds
  clear h hc
  go_enter Tryz.func226,Tryz.ntmps226
  go_wp2_with (go_at_call 263;refine (HC.out _ (by repeat (first|exact Below.refl _ _|refine Below.setCell ?_ (by simp;try omega) _|refine Below.alloc ?_ (by simp;try omega) _|refine Below.drew ?_))).mono ?_;rintro e w3 ⟨rfl,hb⟩;have d1:w3.heap[W.heap.size+1]?=some (.cells #[.int .i64 0,.int .i64 0] 45 (0,0)):=(hb.block (W.heap.size+1) (by simp)).trans (halloc2 _ _ (by simp));have z0:w3.cell? ⟨W.heap.size+1,0,none⟩=some (.int .i64 0):=(cell_of_row w3 (W.heap.size+1) 0 _ _ _ d1).trans rfl;have z1:w3.cell? ⟨W.heap.size+1,1,none⟩=some (.int .i64 0):=(cell_of_row w3 (W.heap.size+1) 1 _ _ _ d1).trans rfl;have f0:=frozen_of_row w3 (W.heap.size+1) 0 _ _ d1;have f1:=frozen_of_row w3 (W.heap.size+1) 1 _ _ d1;have B3:Hid (Below W.heap.size W w3):=bstep (by repeat (first|exact Below.refl _ _|refine Below.setCell ?_ (by simp;try omega) _|refine Below.alloc ?_ (by simp;try omega) _|refine Below.drew ?_)) hb;clear hb d1 HC)
  exact bodyPost_ret (v:=idE ((0,0),3)) (by simp [results,Tryz.results226,go_sem,idE, *]) rfl ⟨rfl,(B3.out.setCell (by simp) _).setCell (by simp) _⟩
def someV:List (Int×Int)→(Int×Int)×Int
  | []=>((0,0),6)
  | m::_=>(m,0)
set_option maxHeartbeats 1000000 in
theorem some_yes {b:Nat} {ps:List Plc} {W:World} (h:WAt b ps W) (hi:WI ps) (k:Nat) (q:Plc) (hq:ps[k]?=some q) (nm ds:ByteArray):Calls Tryz.prog 254 #[.pointer (some ⟨b,0,none⟩),.int .i64 (k:Int),.string nm,.string ds] W fun e w'=>e=.returned (idE (someV (candL ps nm ds q.cl)))∧Below W.heap.size W w':=by
  have HC:Hid (∀ w,Below W.heap.size W w→Calls Tryz.prog 296 #[.pointer (some ⟨b,0,none⟩),.int .i64 (k:Int),.string nm,.string ds] w fun e w'=>(∃ v,e=.returned (.tuple #[v,.int .i64 0])∧w'.ownsRow w.heap.size 45 2 v (candL ps nm ds q.cl).length (flatD (candL ps nm ds q.cl)))∧Below w.heap.size w w'):=fun w hb=>cand_yes (h.below hb) hi.pb hi.hi k q hq nm ds
  generalize candL ps nm ds q.cl=l at *
  clear h hi hq
  match l with
  | [] =>
    rw [someV]
    go_enter Tryz.func254,Tryz.ntmps254
    go_wp2_with (go_at_call 296;refine (HC.out _ (by repeat (first|exact Below.refl _ _|refine Below.setCell ?_ (by simp;try omega) _|refine Below.alloc ?_ (by simp;try omega) _|refine Below.drew ?_))).mono ?_;rintro e w3 ⟨⟨v,rfl,ho⟩,hb⟩;obtain ⟨va3,vn3,rfl⟩:=ownv ho;have d1:w3.heap[W.heap.size]?=some (.cells #[.int .i64 0,.int .i64 0] 45 (0,0)):=(hb.block W.heap.size (by simp)).trans (halloc2 _ _ rfl);have z0:w3.cell? ⟨W.heap.size,0,none⟩=some (.int .i64 0):=(cell_of_row w3 W.heap.size 0 _ _ _ d1).trans rfl;have z1:w3.cell? ⟨W.heap.size,1,none⟩=some (.int .i64 0):=(cell_of_row w3 W.heap.size 1 _ _ _ d1).trans rfl;have f0:=frozen_of_row w3 W.heap.size 0 _ _ d1;have f1:=frozen_of_row w3 W.heap.size 1 _ _ d1;have B3:Hid (Below W.heap.size W w3):=bstep (by repeat (first|exact Below.refl _ _|refine Below.setCell ?_ (by simp;try omega) _|refine Below.alloc ?_ (by simp;try omega) _|refine Below.drew ?_)) hb;clear hb d1 HC ho)
    exact bodyPost_ret (v:=idE ((0,0),6)) (by simp [results,Tryz.results254,go_sem,idE, *]) rfl ⟨rfl,(B3.out.setCell (by simp) _).setCell (by simp) _⟩
  | m::r =>
    rw [someV]
    have hl2:(m::r).length=r.length+1:=rfl
    have hat:Hid ((m::r)[0]?=some m):=rfl
    generalize (m::r)=l at *
    have n1:¬ (l.length:Int)=0:=by omega
    have n2:(0:Int)<(l.length:Int):=by omega
    have n3:Hid (0<l.length):=by rw [Hid,hl2];omega
    clear hl2
    go_enter Tryz.func254,Tryz.ntmps254
    go_wp2_with (go_at_call 296;refine (HC.out _ (by repeat (first|exact Below.refl _ _|refine Below.setCell ?_ (by simp;try omega) _|refine Below.alloc ?_ (by simp;try omega) _|refine Below.drew ?_))).mono ?_;rintro e w3 ⟨⟨v,rfl,ho⟩,hb⟩;obtain ⟨g3,vn3,rfl⟩:=Go.Joins.ownsRow_form ho n3.out;obtain ⟨r0,r1,_⟩:=rowD_cells ho hat.out;simp only [Nat.zero_mul,Nat.zero_add] at r0 r1;have hg3:¬ g3=W.heap.size:=(by have:=(ho.lt g3 rfl).1;simp at this;omega);have d1:w3.heap[W.heap.size]?=some (.cells #[.int .i64 0,.int .i64 0] 45 (0,0)):=(hb.block W.heap.size (by simp)).trans (halloc2 _ _ rfl);have z0:w3.cell? ⟨W.heap.size,0,none⟩=some (.int .i64 0):=(cell_of_row w3 W.heap.size 0 _ _ _ d1).trans rfl;have z1:w3.cell? ⟨W.heap.size,1,none⟩=some (.int .i64 0):=(cell_of_row w3 W.heap.size 1 _ _ _ d1).trans rfl;have f0:=frozen_of_row w3 W.heap.size 0 _ _ d1;have f1:=frozen_of_row w3 W.heap.size 1 _ _ d1;have B3:Hid (Below W.heap.size W w3):=bstep (by repeat (first|exact Below.refl _ _|refine Below.setCell ?_ (by simp;try omega) _|refine Below.alloc ?_ (by simp;try omega) _|refine Below.drew ?_)) hb;clear hb d1 HC ho)
    exact bodyPost_ret (v:=idE (m,0)) (by simp [results,Tryz.results254,go_sem,idE, *]) rfl ⟨rfl,(B3.out.setCell (by simp) _).setCell (by simp) _⟩
def rckI (ps:List Plc) (i:Int):Int:=if (plcI ps i).isSome then 0 else 3
theorem rck_c {b:Nat} {ps:List Plc} {W:World} (h:WAt b ps W) (i:Int):Calls Tryz.prog 178 #[.pointer (some ⟨b,0,none⟩),.int .i64 i] W fun e w'=>e=.returned (.int .i64 (rckI ps i))∧w'=W:=by
  have HL:Hid (Calls Tryz.prog 21 #[.pointer (some ⟨b,0,none⟩)] W fun e w'=>e=.returned (.int .i64 (ps.length:Int))∧w'=W):=len_c h
  rcases plcI_cases ps i with ⟨h1,h2⟩|⟨k,q,rfl,h2,h1⟩
  · have e:rckI ps i=3:=by rw [rckI,h1];rfl
    rw [e]
    clear h h1 e
    by_cases h0:i<0
    · go_enter Tryz.func178,Tryz.ntmps178
      go_wp2
      exact bodyPost_ret (results_tmp rfl _ _ _) rfl ⟨rfl,rfl⟩
    · have h3:(ps.length:Int)≤i:=by omega
      generalize (ps.length:Int)=n at *
      clear h2
      go_enter Tryz.func178,Tryz.ntmps178
      go_wp2_with (go_at_call 21;refine HL.out.mono ?_;rintro e w9 ⟨rfl,hw9⟩;rw [hw9];clear hw9 w9)
      exact bodyPost_ret (results_tmp rfl _ _ _) rfl ⟨rfl,rfl⟩
  · have e:rckI ps k=0:=by rw [rckI,h1];rfl
    rw [e]
    have h3:(k:Int)<(ps.length:Int):=by have:=(List.getElem?_eq_some_iff.1 h2).1;omega
    have h0:¬ (k:Int)<0:=by omega
    generalize (ps.length:Int)=n at *
    have h4:¬ n≤(k:Int):=by omega
    clear h h1 e h2
    go_enter Tryz.func178,Tryz.ntmps178
    go_wp2_with (go_at_call 21;refine HL.out.mono ?_;rintro e w9 ⟨rfl,hw9⟩;rw [hw9];clear hw9 w9)
    exact bodyPost_ret (results_tmp rfl _ _ _) rfl ⟨rfl,rfl⟩
def shuI (o:Bool) (e:Int):Int:=if e=0 then (if o then 0 else 22) else e
theorem shut_c (o:Bool) (x:Int) (W:World):Calls Tryz.prog 181 #[.bool o,.int .i64 x] W fun e w'=>e=.returned (.int .i64 (shuI o x))∧w'=W:=by
  by_cases hx:x=0
  · subst hx
    cases o with
    | true =>
      have e:shuI true 0=0:=rfl
      rw [e];clear e
      go_enter Tryz.func181,Tryz.ntmps181
      go_wp2
      exact bodyPost_ret (results_tmp rfl _ _ _) rfl ⟨rfl,rfl⟩
    | false =>
      have e:shuI false 0=22:=rfl
      rw [e];clear e
      go_enter Tryz.func181,Tryz.ntmps181
      go_wp2
      exact bodyPost_ret (results_tmp rfl _ _ _) rfl ⟨rfl,rfl⟩
  · have e:shuI o x=x:=by rw [shuI,if_neg hx]
    rw [e];clear e
    go_enter Tryz.func181,Tryz.ntmps181
    go_wp2
    exact bodyPost_ret (results_tmp rfl _ _ _) rfl ⟨rfl,rfl⟩
def ownR (ps:List Plc) (nm ds:ByteArray) (c:Int):(Int×Int)×Int:=if (fndI ps c nm ds).2=0 then ((c,(fndI ps c nm ds).1),0) else ((0,0),(fndI ps c nm ds).2)
theorem hkeep {w:World} {n:Nat} {x o:Obj} (h:w.heap[n]?=some x):(w.alloc o).heap[n]?=some x:=by
  have hb:Below w.heap.size w (w.alloc o):=(Below.refl _ w).alloc (Nat.le_refl _) _
  exact (hb.block n (Array.getElem?_eq_some_iff.1 h).1).trans h
theorem own_c {b:Nat} {ps:List Plc} {W:World} (h:WAt b ps W) (hB:∀ q∈ps,PlcB q) (c:Int) (nm ds:ByteArray):Calls Tryz.prog 252 #[.pointer (some ⟨b,0,none⟩),.int .i64 c,.string nm,.string ds] W fun e w'=>e=.returned (idE (ownR ps nm ds c))∧Below W.heap.size W w':=by
  have HF:Hid (∀ w,Below W.heap.size W w→Calls Tryz.prog 295 #[.pointer (some ⟨b,0,none⟩),.int .i64 c,.string nm,.string ds] w fun e w'=>e=.returned (.tuple #[.int .i64 (fndI ps c nm ds).1,.int .i64 (fndI ps c nm ds).2])∧Below w.heap.size w w'):=fun w hb=>find_c (h.below hb) hB c nm ds
  unfold ownR
  generalize fndI ps c nm ds=F at *
  obtain ⟨F1,F2⟩:=F
  simp only at HF ⊢
  clear h hB
  by_cases h0:F2=0
  · subst h0
    rw [if_pos rfl]
    go_enter Tryz.func252,Tryz.ntmps252
    go_wp2_with (go_at_call 295;refine (HF.out _ (by repeat (first|exact Below.refl _ _|refine Below.setCell ?_ (by simp;try omega) _|refine Below.alloc ?_ (by simp;try omega) _|refine Below.drew ?_))).mono ?_;rintro e w1 ⟨rfl,hb⟩;have d1:w1.heap[W.heap.size]?=some (.cells #[.int .i64 0,.int .i64 0] 45 (0,0)):=(hb.block W.heap.size (by first|omega|(simp;try omega))).trans (by first|exact halloc2 _ _ rfl|exact heap_alloc2_old W _ _|exact RB.out|exact hkeep RB.out|exact hkeep (hkeep RB.out)|exact hkeep (heap_alloc2_old W _ _));(try clear RB z0 z1 f0 f1 hL9 hN9);have RB:Hid (w1.heap[W.heap.size]?=some (.cells #[.int .i64 0,.int .i64 0] 45 (0,0))):=d1;have z0:w1.cell? ⟨W.heap.size,0,none⟩=some (.int .i64 0):=(cell_of_row w1 W.heap.size 0 _ _ _ d1).trans rfl;have z1:w1.cell? ⟨W.heap.size,1,none⟩=some (.int .i64 0):=(cell_of_row w1 W.heap.size 1 _ _ _ d1).trans rfl;have f0:=frozen_of_row w1 W.heap.size 0 _ _ d1;have f1:=frozen_of_row w1 W.heap.size 1 _ _ d1;have hL9:W.heap.size<w1.heap.size:=(Array.getElem?_eq_some_iff.1 d1).1;have hN9:¬ W.heap.size=w1.heap.size:=(by omega);clear d1;have B1:Hid (Below W.heap.size W w1):=bstep (by repeat (first|exact Below.refl _ _|refine Below.setCell ?_ (by simp;try omega) _|refine Below.alloc ?_ (by simp;try omega) _|refine Below.drew ?_)) hb;clear hb HF)
    exact bodyPost_ret (v:=idE ((c,F1),0)) (by simp [results,Tryz.results252,go_sem,idE, *]) rfl ⟨rfl,(B1.out.setCell (by simp) _).setCell (by simp) _⟩
  · rw [if_neg h0]
    go_enter Tryz.func252,Tryz.ntmps252
    go_wp2_with (go_at_call 295;refine (HF.out _ (by repeat (first|exact Below.refl _ _|refine Below.setCell ?_ (by simp;try omega) _|refine Below.alloc ?_ (by simp;try omega) _|refine Below.drew ?_))).mono ?_;rintro e w1 ⟨rfl,hb⟩;have d1:w1.heap[W.heap.size]?=some (.cells #[.int .i64 0,.int .i64 0] 45 (0,0)):=(hb.block W.heap.size (by first|omega|(simp;try omega))).trans (by first|exact halloc2 _ _ rfl|exact heap_alloc2_old W _ _|exact RB.out|exact hkeep RB.out|exact hkeep (hkeep RB.out)|exact hkeep (heap_alloc2_old W _ _));(try clear RB z0 z1 f0 f1 hL9 hN9);have RB:Hid (w1.heap[W.heap.size]?=some (.cells #[.int .i64 0,.int .i64 0] 45 (0,0))):=d1;have z0:w1.cell? ⟨W.heap.size,0,none⟩=some (.int .i64 0):=(cell_of_row w1 W.heap.size 0 _ _ _ d1).trans rfl;have z1:w1.cell? ⟨W.heap.size,1,none⟩=some (.int .i64 0):=(cell_of_row w1 W.heap.size 1 _ _ _ d1).trans rfl;have f0:=frozen_of_row w1 W.heap.size 0 _ _ d1;have f1:=frozen_of_row w1 W.heap.size 1 _ _ d1;have hL9:W.heap.size<w1.heap.size:=(Array.getElem?_eq_some_iff.1 d1).1;have hN9:¬ W.heap.size=w1.heap.size:=(by omega);clear d1;have B1:Hid (Below W.heap.size W w1):=bstep (by repeat (first|exact Below.refl _ _|refine Below.setCell ?_ (by simp;try omega) _|refine Below.alloc ?_ (by simp;try omega) _|refine Below.drew ?_)) hb;clear hb HF)
    exact bodyPost_ret (v:=idE ((0,0),F2)) (by simp [results,Tryz.results252,go_sem,idE, *]) rfl ⟨rfl,(B1.out.setCell (by simp) _).setCell (by simp) _⟩
def topR (ps:List Plc) (nm ds:ByteArray):(Int×Int)×Int:=if (ownR ps nm ds 0).2=0 then (match methI ps (ownR ps nm ds 0).1.1 (ownR ps nm ds 0).1.2 with
    | some m=>if bits .and .i64 m.fl 9=1 then ownR ps nm ds 0 else ((0,0),6)
    | none=>((0,0),3)) else ((0,0),(ownR ps nm ds 0).2)
set_option maxHeartbeats 1000000 in
theorem top_c {b:Nat} {ps:List Plc} {W:World} (h:WAt b ps W) (hB:∀ q∈ps,PlcB q) (c:Int) (nm ds:ByteArray):Calls Tryz.prog 253 #[.pointer (some ⟨b,0,none⟩),.int .i64 c,.string nm,.string ds] W fun e w'=>e=.returned (idE (topR ps nm ds))∧Below W.heap.size W w':=by
  have HF:Hid (∀ w,Below W.heap.size W w→Calls Tryz.prog 252 #[.pointer (some ⟨b,0,none⟩),.int .i64 0,.string nm,.string ds] w fun e w'=>e=.returned (idE (ownR ps nm ds 0))∧Below w.heap.size w w'):=fun w hb=>own_c (h.below hb) hB 0 nm ds
  have HM:Hid (∀ c i w,Below W.heap.size W w→Calls Tryz.prog 142 #[.pointer (some ⟨b,0,none⟩),.agg #[.int .i64 c,.int .i64 i]] w fun e w'=>MthR w.heap.size (methI ps c i) e w'∧Below w.heap.size w w'):=fun c i w hb=>method_c (h.below hb) hB c i
  unfold topR
  generalize ownR ps nm ds 0=F at *
  obtain ⟨⟨F1,F2⟩,F3⟩:=F
  simp only [idE] at HF ⊢
  by_cases h0:F3=0
  · subst h0
    rw [if_pos rfl]
    replace HM:Hid (∀ w,Below W.heap.size W w→Calls Tryz.prog 142 #[.pointer (some ⟨b,0,none⟩),.agg #[.int .i64 F1,.int .i64 F2]] w fun e w'=>MthR w.heap.size (methI ps F1 F2) e w'∧Below w.heap.size w w'):=HM.out F1 F2
    clear h hB
    cases hm:methI ps F1 F2 with
    | none =>
      rw [hm] at HM
      clear hm
      simp only
      go_enter Tryz.func253,Tryz.ntmps253
      go_wp2_with (first
        | (go_at_call 252;refine (HF.out _ (by repeat (first|exact Below.refl _ _|refine Below.setCell ?_ (by simp;try omega) _|refine Below.alloc ?_ (by simp;try omega) _|refine Below.drew ?_))).mono ?_;rintro e w1 ⟨rfl,hb⟩;have d1:w1.heap[W.heap.size]?=some (.cells #[.int .i64 0,.int .i64 0] 45 (0,0)):=(hb.block W.heap.size (by first|omega|(simp;try omega))).trans (by first|exact halloc2 _ _ rfl|exact heap_alloc2_old W _ _|exact RB.out|exact hkeep RB.out|exact hkeep (hkeep RB.out)|exact hkeep (heap_alloc2_old W _ _));(try clear RB z0 z1 f0 f1 hL9 hN9);have RB:Hid (w1.heap[W.heap.size]?=some (.cells #[.int .i64 0,.int .i64 0] 45 (0,0))):=d1;have z0:w1.cell? ⟨W.heap.size,0,none⟩=some (.int .i64 0):=(cell_of_row w1 W.heap.size 0 _ _ _ d1).trans rfl;have z1:w1.cell? ⟨W.heap.size,1,none⟩=some (.int .i64 0):=(cell_of_row w1 W.heap.size 1 _ _ _ d1).trans rfl;have f0:=frozen_of_row w1 W.heap.size 0 _ _ d1;have f1:=frozen_of_row w1 W.heap.size 1 _ _ d1;have hL9:W.heap.size<w1.heap.size:=(Array.getElem?_eq_some_iff.1 d1).1;have hN9:¬ W.heap.size=w1.heap.size:=(by omega);clear d1;have B1:Hid (Below W.heap.size W w1):=bstep (by repeat (first|exact Below.refl _ _|refine Below.setCell ?_ (by simp;try omega) _|refine Below.alloc ?_ (by simp;try omega) _|refine Below.drew ?_)) hb;clear hb HF)
        | (go_at_call 142;refine (HM.out _ (B1.out.alloc B1.out.size _)).mono ?_;rintro e w2 ⟨hr,hb⟩;simp only [MthR,noM] at hr;subst hr;have d1:w2.heap[W.heap.size]?=some (.cells #[.int .i64 0,.int .i64 0] 45 (0,0)):=(hb.block W.heap.size (by first|omega|(simp;try omega))).trans (by first|exact halloc2 _ _ rfl|exact heap_alloc2_old W _ _|exact RB.out|exact hkeep RB.out|exact hkeep (hkeep RB.out)|exact hkeep (heap_alloc2_old W _ _));(try clear RB z0 z1 f0 f1 hL9 hN9);have RB:Hid (w2.heap[W.heap.size]?=some (.cells #[.int .i64 0,.int .i64 0] 45 (0,0))):=d1;have z0:w2.cell? ⟨W.heap.size,0,none⟩=some (.int .i64 0):=(cell_of_row w2 W.heap.size 0 _ _ _ d1).trans rfl;have z1:w2.cell? ⟨W.heap.size,1,none⟩=some (.int .i64 0):=(cell_of_row w2 W.heap.size 1 _ _ _ d1).trans rfl;have f0:=frozen_of_row w2 W.heap.size 0 _ _ d1;have f1:=frozen_of_row w2 W.heap.size 1 _ _ d1;have hL9:W.heap.size<w2.heap.size:=(Array.getElem?_eq_some_iff.1 d1).1;have hN9:¬ W.heap.size=w2.heap.size:=(by omega);clear d1;have B2:Hid (Below W.heap.size W w2):=bstep (B1.out.alloc B1.out.size _) hb;clear hb HM))
      exact bodyPost_ret (v:=idE ((0,0),3)) (by simp [results,Tryz.results253,go_sem,idE, *]) rfl ⟨rfl,(by repeat (first|exact B2.out|refine Below.setCell ?_ (by simp;try omega) _|refine Below.alloc ?_ (by have:=B2.out.size;simp;try omega) _|refine Below.drew ?_))⟩
    | some m =>
      rw [hm] at HM
      clear hm
      simp only
      by_cases h9:bits .and .i64 m.fl 9=1
      · rw [if_pos h9]
        go_enter Tryz.func253,Tryz.ntmps253
        go_wp2_with (first
          | (go_at_call 252;refine (HF.out _ (by repeat (first|exact Below.refl _ _|refine Below.setCell ?_ (by simp;try omega) _|refine Below.alloc ?_ (by simp;try omega) _|refine Below.drew ?_))).mono ?_;rintro e w1 ⟨rfl,hb⟩;have d1:w1.heap[W.heap.size]?=some (.cells #[.int .i64 0,.int .i64 0] 45 (0,0)):=(hb.block W.heap.size (by first|omega|(simp;try omega))).trans (by first|exact halloc2 _ _ rfl|exact heap_alloc2_old W _ _|exact RB.out|exact hkeep RB.out|exact hkeep (hkeep RB.out)|exact hkeep (heap_alloc2_old W _ _));(try clear RB z0 z1 f0 f1 hL9 hN9);have RB:Hid (w1.heap[W.heap.size]?=some (.cells #[.int .i64 0,.int .i64 0] 45 (0,0))):=d1;have z0:w1.cell? ⟨W.heap.size,0,none⟩=some (.int .i64 0):=(cell_of_row w1 W.heap.size 0 _ _ _ d1).trans rfl;have z1:w1.cell? ⟨W.heap.size,1,none⟩=some (.int .i64 0):=(cell_of_row w1 W.heap.size 1 _ _ _ d1).trans rfl;have f0:=frozen_of_row w1 W.heap.size 0 _ _ d1;have f1:=frozen_of_row w1 W.heap.size 1 _ _ d1;have hL9:W.heap.size<w1.heap.size:=(Array.getElem?_eq_some_iff.1 d1).1;have hN9:¬ W.heap.size=w1.heap.size:=(by omega);clear d1;have B1:Hid (Below W.heap.size W w1):=bstep (by repeat (first|exact Below.refl _ _|refine Below.setCell ?_ (by simp;try omega) _|refine Below.alloc ?_ (by simp;try omega) _|refine Below.drew ?_)) hb;clear hb HF)
          | (go_at_call 142;refine (HM.out _ (B1.out.alloc B1.out.size _)).mono ?_;rintro e w2 ⟨hr,hb⟩;obtain ⟨vv,rfl,hown⟩:=hr;obtain ⟨a1,c1,rfl⟩:=ownv hown;have d1:w2.heap[W.heap.size]?=some (.cells #[.int .i64 0,.int .i64 0] 45 (0,0)):=(hb.block W.heap.size (by first|omega|(simp;try omega))).trans (by first|exact halloc2 _ _ rfl|exact heap_alloc2_old W _ _|exact RB.out|exact hkeep RB.out|exact hkeep (hkeep RB.out)|exact hkeep (heap_alloc2_old W _ _));(try clear RB z0 z1 f0 f1 hL9 hN9);have RB:Hid (w2.heap[W.heap.size]?=some (.cells #[.int .i64 0,.int .i64 0] 45 (0,0))):=d1;have z0:w2.cell? ⟨W.heap.size,0,none⟩=some (.int .i64 0):=(cell_of_row w2 W.heap.size 0 _ _ _ d1).trans rfl;have z1:w2.cell? ⟨W.heap.size,1,none⟩=some (.int .i64 0):=(cell_of_row w2 W.heap.size 1 _ _ _ d1).trans rfl;have f0:=frozen_of_row w2 W.heap.size 0 _ _ d1;have f1:=frozen_of_row w2 W.heap.size 1 _ _ d1;have hL9:W.heap.size<w2.heap.size:=(Array.getElem?_eq_some_iff.1 d1).1;have hN9:¬ W.heap.size=w2.heap.size:=(by omega);clear d1;have g0:w2.cell? ⟨w1.heap.size,0,none⟩=some (.int .i64 F1):=(hb.cell (p:=⟨w1.heap.size,0,none⟩) (by simp)).trans (by simp [go_sem]);have g1:w2.cell? ⟨w1.heap.size,1,none⟩=some (.int .i64 F2):=(hb.cell (p:=⟨w1.heap.size,1,none⟩) (by simp)).trans (by simp [go_sem]);have B2:Hid (Below W.heap.size W w2):=bstep (B1.out.alloc B1.out.size _) hb;have hl2:w1.heap.size<w2.heap.size:=(by have:=hb.size;simp at this;omega);have hn2:¬ w1.heap.size=w2.heap.size:=(by omega);clear hb HM hown))
        exact bodyPost_ret (v:=idE ((F1,F2),0)) (by simp [results,Tryz.results253,go_sem,idE, *]) rfl ⟨rfl,(by repeat (first|exact B2.out|refine Below.setCell ?_ (by simp;try omega) _|refine Below.alloc ?_ (by have:=B2.out.size;simp;try omega) _|refine Below.drew ?_))⟩
      · rw [if_neg h9]
        go_enter Tryz.func253,Tryz.ntmps253
        go_wp2_with (first
          | (go_at_call 252;refine (HF.out _ (by repeat (first|exact Below.refl _ _|refine Below.setCell ?_ (by simp;try omega) _|refine Below.alloc ?_ (by simp;try omega) _|refine Below.drew ?_))).mono ?_;rintro e w1 ⟨rfl,hb⟩;have d1:w1.heap[W.heap.size]?=some (.cells #[.int .i64 0,.int .i64 0] 45 (0,0)):=(hb.block W.heap.size (by first|omega|(simp;try omega))).trans (by first|exact halloc2 _ _ rfl|exact heap_alloc2_old W _ _|exact RB.out|exact hkeep RB.out|exact hkeep (hkeep RB.out)|exact hkeep (heap_alloc2_old W _ _));(try clear RB z0 z1 f0 f1 hL9 hN9);have RB:Hid (w1.heap[W.heap.size]?=some (.cells #[.int .i64 0,.int .i64 0] 45 (0,0))):=d1;have z0:w1.cell? ⟨W.heap.size,0,none⟩=some (.int .i64 0):=(cell_of_row w1 W.heap.size 0 _ _ _ d1).trans rfl;have z1:w1.cell? ⟨W.heap.size,1,none⟩=some (.int .i64 0):=(cell_of_row w1 W.heap.size 1 _ _ _ d1).trans rfl;have f0:=frozen_of_row w1 W.heap.size 0 _ _ d1;have f1:=frozen_of_row w1 W.heap.size 1 _ _ d1;have hL9:W.heap.size<w1.heap.size:=(Array.getElem?_eq_some_iff.1 d1).1;have hN9:¬ W.heap.size=w1.heap.size:=(by omega);clear d1;have B1:Hid (Below W.heap.size W w1):=bstep (by repeat (first|exact Below.refl _ _|refine Below.setCell ?_ (by simp;try omega) _|refine Below.alloc ?_ (by simp;try omega) _|refine Below.drew ?_)) hb;clear hb HF)
          | (go_at_call 142;refine (HM.out _ (B1.out.alloc B1.out.size _)).mono ?_;rintro e w2 ⟨hr,hb⟩;obtain ⟨vv,rfl,hown⟩:=hr;obtain ⟨a1,c1,rfl⟩:=ownv hown;have d1:w2.heap[W.heap.size]?=some (.cells #[.int .i64 0,.int .i64 0] 45 (0,0)):=(hb.block W.heap.size (by first|omega|(simp;try omega))).trans (by first|exact halloc2 _ _ rfl|exact heap_alloc2_old W _ _|exact RB.out|exact hkeep RB.out|exact hkeep (hkeep RB.out)|exact hkeep (heap_alloc2_old W _ _));(try clear RB z0 z1 f0 f1 hL9 hN9);have RB:Hid (w2.heap[W.heap.size]?=some (.cells #[.int .i64 0,.int .i64 0] 45 (0,0))):=d1;have z0:w2.cell? ⟨W.heap.size,0,none⟩=some (.int .i64 0):=(cell_of_row w2 W.heap.size 0 _ _ _ d1).trans rfl;have z1:w2.cell? ⟨W.heap.size,1,none⟩=some (.int .i64 0):=(cell_of_row w2 W.heap.size 1 _ _ _ d1).trans rfl;have f0:=frozen_of_row w2 W.heap.size 0 _ _ d1;have f1:=frozen_of_row w2 W.heap.size 1 _ _ d1;have hL9:W.heap.size<w2.heap.size:=(Array.getElem?_eq_some_iff.1 d1).1;have hN9:¬ W.heap.size=w2.heap.size:=(by omega);clear d1;have B2:Hid (Below W.heap.size W w2):=bstep (B1.out.alloc B1.out.size _) hb;clear hb HM hown))
        exact bodyPost_ret (v:=idE ((0,0),6)) (by simp [results,Tryz.results253,go_sem,idE, *]) rfl ⟨rfl,(by repeat (first|exact B2.out|refine Below.setCell ?_ (by simp;try omega) _|refine Below.alloc ?_ (by have:=B2.out.size;simp;try omega) _|refine Below.drew ?_))⟩
  · rw [if_neg h0]
    clear h hB HM
    go_enter Tryz.func253,Tryz.ntmps253
    go_wp2_with (first
      | (go_at_call 252;refine (HF.out _ (by repeat (first|exact Below.refl _ _|refine Below.setCell ?_ (by simp;try omega) _|refine Below.alloc ?_ (by simp;try omega) _|refine Below.drew ?_))).mono ?_;rintro e w2 ⟨rfl,hb⟩;have d1:w2.heap[W.heap.size]?=some (.cells #[.int .i64 0,.int .i64 0] 45 (0,0)):=(hb.block W.heap.size (by first|omega|(simp;try omega))).trans (by first|exact halloc2 _ _ rfl|exact heap_alloc2_old W _ _|exact RB.out|exact hkeep RB.out|exact hkeep (hkeep RB.out)|exact hkeep (heap_alloc2_old W _ _));(try clear RB z0 z1 f0 f1 hL9 hN9);have RB:Hid (w2.heap[W.heap.size]?=some (.cells #[.int .i64 0,.int .i64 0] 45 (0,0))):=d1;have z0:w2.cell? ⟨W.heap.size,0,none⟩=some (.int .i64 0):=(cell_of_row w2 W.heap.size 0 _ _ _ d1).trans rfl;have z1:w2.cell? ⟨W.heap.size,1,none⟩=some (.int .i64 0):=(cell_of_row w2 W.heap.size 1 _ _ _ d1).trans rfl;have f0:=frozen_of_row w2 W.heap.size 0 _ _ d1;have f1:=frozen_of_row w2 W.heap.size 1 _ _ d1;have hL9:W.heap.size<w2.heap.size:=(Array.getElem?_eq_some_iff.1 d1).1;have hN9:¬ W.heap.size=w2.heap.size:=(by omega);clear d1;have B2:Hid (Below W.heap.size W w2):=bstep (by repeat (first|exact Below.refl _ _|refine Below.setCell ?_ (by simp;try omega) _|refine Below.alloc ?_ (by simp;try omega) _|refine Below.drew ?_)) hb;clear hb HF))
    exact bodyPost_ret (v:=idE ((0,0),F3)) (by simp [results,Tryz.results253,go_sem,idE, *]) rfl ⟨rfl,(by repeat (first|exact B2.out|refine Below.setCell ?_ (by simp;try omega) _|refine Below.alloc ?_ (by have:=B2.out.size;simp;try omega) _|refine Below.drew ?_))⟩
theorem rw2 {w:World} {n:Nat} {t:TypeId} {a0 a1:Value} (h:w.heap[n]?=some (.cells #[a0,a1] t (0,0))):w.cell? ⟨n,0,none⟩=some a0∧w.cell? ⟨n,1,none⟩=some a1∧(∀ k,w.frozen? ⟨n,k,none⟩=false)∧n<w.heap.size :=
  ⟨(cell_of_row w n 0 _ _ _ h).trans rfl,(cell_of_row w n 1 _ _ _ h).trans rfl,fun k=>frozen_of_row w n k _ _ h,(Array.getElem?_eq_some_iff.1 h).1⟩
theorem rw4 {w:World} {n:Nat} {t:TypeId} {a0 a1 a2 a3:Value} (h:w.heap[n]?=some (.cells #[a0,a1,a2,a3] t (0,0))):w.cell? ⟨n,0,none⟩=some a0∧w.cell? ⟨n,1,none⟩=some a1∧w.cell? ⟨n,2,none⟩=some a2∧w.cell? ⟨n,3,none⟩=some a3∧(∀ k,w.frozen? ⟨n,k,none⟩=false)∧n<w.heap.size :=
  ⟨(cell_of_row w n 0 _ _ _ h).trans rfl,(cell_of_row w n 1 _ _ _ h).trans rfl,(cell_of_row w n 2 _ _ _ h).trans rfl,(cell_of_row w n 3 _ _ _ h).trans rfl,fun k=>frozen_of_row w n k _ _ h,(Array.getElem?_eq_some_iff.1 h).1⟩
theorem rw6 {w:World} {n:Nat} {t:TypeId} {a0 a1 a2 a3 a4 a5:Value} (h:w.heap[n]?=some (.cells #[a0,a1,a2,a3,a4,a5] t (0,0))):w.cell? ⟨n,0,none⟩=some a0∧w.cell? ⟨n,1,none⟩=some a1∧w.cell? ⟨n,2,none⟩=some a2∧w.cell? ⟨n,3,none⟩=some a3∧w.cell? ⟨n,4,none⟩=some a4∧w.cell? ⟨n,5,none⟩=some a5∧(∀ k,w.frozen? ⟨n,k,none⟩=false)∧n<w.heap.size :=
  ⟨(cell_of_row w n 0 _ _ _ h).trans rfl,(cell_of_row w n 1 _ _ _ h).trans rfl,(cell_of_row w n 2 _ _ _ h).trans rfl,(cell_of_row w n 3 _ _ _ h).trans rfl,(cell_of_row w n 4 _ _ _ h).trans rfl,(cell_of_row w n 5 _ _ _ h).trans rfl,fun k=>frozen_of_row w n k _ _ h,(Array.getElem?_eq_some_iff.1 h).1⟩
theorem kp2 {V w:World} {N n:Nat} {t:TypeId} {a0 a1:Value} (hb:Below N V w) (hn:n<N:=by first|omega|(simp;try omega)) (h:V.heap[n]?=some (.cells #[a0,a1] t (0,0)):=by first|exact Hid.out (by assumption)|exact hkeep (Hid.out (by assumption))|exact hkeep (hkeep (Hid.out (by assumption)))|exact halloc2 _ _ rfl|exact hkeep (halloc2 _ _ rfl)|exact hkeep (hkeep (halloc2 _ _ rfl))|exact halloc2 _ _ (by simp;done)):Hid (w.heap[n]?=some (.cells #[a0,a1] t (0,0)))∧w.cell? ⟨n,0,none⟩=some a0∧w.cell? ⟨n,1,none⟩=some a1∧(∀ k,w.frozen? ⟨n,k,none⟩=false)∧n<w.heap.size∧¬ n=w.heap.size:=by
  have h2:=(hb.block n hn).trans h
  obtain ⟨c0,c1,f,l⟩:=rw2 h2
  exact ⟨h2,c0,c1,f,l,by omega⟩
theorem kp4 {V w:World} {N n:Nat} {t:TypeId} {a0 a1 a2 a3:Value} (hb:Below N V w) (hn:n<N:=by first|omega|(simp;try omega)) (h:V.heap[n]?=some (.cells #[a0,a1,a2,a3] t (0,0)):=by first|exact Hid.out (by assumption)|exact hkeep (Hid.out (by assumption))|exact hkeep (hkeep (Hid.out (by assumption)))|exact halloc2 _ _ rfl|exact hkeep (halloc2 _ _ rfl)|exact hkeep (hkeep (halloc2 _ _ rfl))|exact halloc2 _ _ (by simp;done)):Hid (w.heap[n]?=some (.cells #[a0,a1,a2,a3] t (0,0)))∧w.cell? ⟨n,0,none⟩=some a0∧w.cell? ⟨n,1,none⟩=some a1∧w.cell? ⟨n,2,none⟩=some a2∧w.cell? ⟨n,3,none⟩=some a3∧(∀ k,w.frozen? ⟨n,k,none⟩=false)∧n<w.heap.size∧¬ n=w.heap.size:=by
  have h2:=(hb.block n hn).trans h
  obtain ⟨c0,c1,c2,c3,f,l⟩:=rw4 h2
  exact ⟨h2,c0,c1,c2,c3,f,l,by omega⟩
theorem kp6 {V w:World} {N n:Nat} {t:TypeId} {a0 a1 a2 a3 a4 a5:Value} (hb:Below N V w) (hn:n<N:=by first|omega|(simp;try omega)) (h:V.heap[n]?=some (.cells #[a0,a1,a2,a3,a4,a5] t (0,0)):=by first|exact Hid.out (by assumption)|exact hkeep (Hid.out (by assumption))|exact hkeep (hkeep (Hid.out (by assumption)))|exact halloc2 _ _ rfl|exact hkeep (halloc2 _ _ rfl)|exact hkeep (hkeep (halloc2 _ _ rfl))|exact halloc2 _ _ (by simp;done)):Hid (w.heap[n]?=some (.cells #[a0,a1,a2,a3,a4,a5] t (0,0)))∧w.cell? ⟨n,0,none⟩=some a0∧w.cell? ⟨n,1,none⟩=some a1∧w.cell? ⟨n,2,none⟩=some a2∧w.cell? ⟨n,3,none⟩=some a3∧w.cell? ⟨n,4,none⟩=some a4∧w.cell? ⟨n,5,none⟩=some a5∧(∀ k,w.frozen? ⟨n,k,none⟩=false)∧n<w.heap.size∧¬ n=w.heap.size:=by
  have h2:=(hb.block n hn).trans h
  obtain ⟨c0,c1,c2,c3,c4,c5,f,l⟩:=rw6 h2
  exact ⟨h2,c0,c1,c2,c3,c4,c5,f,l,by omega⟩
def stB (f:Int):Bool:=bits .and .i64 f 8 != 0
end Go.Proofs.YtenpnkkkjjdccaaGreat
