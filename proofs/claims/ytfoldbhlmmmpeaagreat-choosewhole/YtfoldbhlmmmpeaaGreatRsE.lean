import Derived.Test.YtfoldbhlmmmpeaaGreatRsC
import Derived.Test.YtfoldbhlmmmpeaaGreatFOwnA
import Derived.Test.YtfoldbhlmmmpeaaGreatTyC
import Derived.Test.YtfoldbhlmmmpeaaGreatSoE
import Derived.Test.YtfoldbhlmmmpeaaGreatOwnL
import Derived.Deep.RegionHeld3
import Derived.Deep.LoopGhost
set_option maxRecDepth 100000
namespace Go.Proofs.YtfoldbhlmmmpeaaGreat
open Go.RowKit Go.Maps
def idV (i:Int):Value:=.int .i64 i
def inNs (n:Nat) (l:List Int):Bool:=l.all fun i=>decide (0≤i)&&decide (i<(n:Int))
set_option maxHeartbeats 1000000 in
theorem checkA_any (N b mb:Nat) (ps:List Plc) (vp:Value) (pv:List PV) (v:Value) (ids:List Int) (W:World) (h:HW W N b mb ps vp pv) (hv:Rds W v ids.length 1 (ids.map idV)) (hk9:ids.length≤1000000):Calls Tryz.prog 146 #[.pointer (some ⟨b,0,none⟩),v] W fun e w'=>e=.returned (.int .i64 (if inNs ps.length ids then 0 else 3))∧Below W.heap.size W w':=by
  obtain ⟨L,hL⟩:∃ L,ids.length=L:=⟨_,rfl⟩
  have HL:Hid (ids.length=L):=hL
  obtain ⟨av,cv,rfl⟩:=hv.slice
  have HV:Hid (Rds W (.slice av ids.length cv) ids.length 1 (ids.map idV)):=hv
  have HLen:Hid (∀ w:World,Below W.heap.size W w→Calls Tryz.prog 68 #[.pointer (some ⟨b,0,none⟩)] w fun e w'=>e=.returned (.int .i64 (ps.length:Int))∧w'=w):=fun w hb=>len_any N b mb ps vp pv w (h.below hb)
  rw [hL]
  rw [hL] at hk9
  clear hv h hL
  obtain ⟨R,hR⟩:∃ R,R=(if inNs ps.length ids then (0:Int) else 3):=⟨_,rfl⟩
  rw [← hR]
  have HR:Hid (R=(if inNs ps.length ids then (0:Int) else 3)):=hR
  clear hR
  go_enter Tryz.func146,Tryz.ntmps146
  go_wp2
  go_loopw [11] (fun kv wr=>∃ k:Nat,kv=.int .i64 k∧k≤L∧wr=W∧Hid (inNs ps.length (ids.take k)=true)) (fun kv _=>L - (intOf kv).toNat)
  case atStart=>exact ⟨0,rfl,Nat.zero_le _,rfl,rfl⟩
  case round =>
    obtain ⟨k,rfl,hk,rfl,hin⟩:=hrel
    by_cases hlt:k<L
    · obtain ⟨id,hid⟩:∃ p,ids[k]?=some p:=⟨_,List.getElem?_eq_getElem (by rw [HL.out];exact hlt)⟩
      obtain ⟨bk,o,rfl,hbk,hcell⟩:∃ bk o,av=some ⟨bk,o,none⟩∧bk<wr.heap.size∧wr.cell? ⟨bk,o+k,none⟩=some (.int .i64 id):=by
        rcases HV.out.val with ⟨_,e2⟩|⟨bk,o,c,e,_,_,h3,h4⟩
        · rw [HL.out] at e2;omega
        · simp only [Value.slice.injEq] at e
          exact ⟨bk,o,e.1,h3,h4 k _ (by rw [List.getElem?_map,hid];rfl)⟩
      have hT:ids.take (k+1)=ids.take k++[id]:=by rw [List.take_add_one,hid];rfl
      have HNX:Hid (inNs ps.length (ids.take (k+1))=(decide (0≤id)&&decide (id<(ps.length:Int)))):=by
        rw [Hid,hT,inNs,List.all_append]
        have:=hin.out
        rw [inNs] at this
        rw [this];simp
      have HNO:Hid ((decide (0≤id)&&decide (id<(ps.length:Int)))=false→R=3):=fun hf=>by
        rw [HR.out,if_neg]
        intro hall
        rw [inNs,List.all_eq_true] at hall
        have:=hall id (List.mem_of_getElem? hid)
        rw [hf] at this;cases this
      clear hT hid
      by_cases h0:id<0
      · go_wp2
        exact bodyPost_ret (results_tmp rfl _ _ _) rfl ⟨by have e:=HNO.out (by rw [decide_eq_false (by omega)];rfl);subst e;rfl,Below.refl _ _⟩
      · by_cases h1:(ps.length:Int)≤id
        · go_wp2_with (go_at_call 68;refine (HLen.out _ (Below.refl _ _)).mono ?_;rintro e w9 ⟨rfl,hw9⟩;rw [hw9];clear hw9 w9)
          exact bodyPost_ret (results_tmp rfl _ _ _) rfl ⟨by have e:=HNO.out (by rw [decide_eq_false (p:=id<_) (by omega),Bool.and_false]);subst e;rfl,Below.refl _ _⟩
        · go_wp2_with (go_at_call 68;refine (HLen.out _ (Below.refl _ _)).mono ?_;rintro e w9 ⟨rfl,hw9⟩;rw [hw9];clear hw9 w9)
          go_roundw
          case rel=>exact ⟨k+1,by go_num,by omega,trivial,by rw [Hid,HNX.out,decide_eq_true (by omega),decide_eq_true (by omega)];rfl⟩
          case measure=>simp [intOf];omega
    · have e:k=L:=by omega
      subst e
      have hall:R=0:=by
        rw [HR.out]
        have:=hin.out
        rw [List.take_of_length_le (by rw [HL.out];exact Nat.le_refl _)] at this
        rw [if_pos this]
      go_wp2
      exact bodyPost_ret (results_tmp rfl _ _ _) rfl ⟨by subst hall;rfl,Below.refl _ _⟩
theorem check_c {b:Nat} {ps:List Plc} {W:World} (h:WAt b ps W) (v:Value) (ids:List Int) (hv:Rds W v ids.length 1 (ids.map idV)) (hk9:ids.length≤1000000):Calls Tryz.prog 146 #[.pointer (some ⟨b,0,none⟩),v] W fun e w'=>e=.returned (.int .i64 (if inNs ps.length ids then 0 else 3))∧Below W.heap.size W w':=by
  obtain ⟨N,mb,vp,pv,h⟩:=h
  exact checkA_any N b mb ps vp pv v ids W h hv hk9
theorem open_c (f:Int) (W:World):Calls Tryz.prog 128 #[.int .i64 f] W fun e w'=>e=.returned (.int .i64 (openI f))∧w'=W:=by
  have HR:Hid (openI f=if hasI f 1 then 1 else if hasI f 4 then 4 else bits .and .i64 f 2):=Fl.own_open f
  have HH:Hid (∀ (x:Int) (y:Bool) (w:World),hasI f x=y→Calls Tryz.prog 196 #[.int .i64 f,.int .i64 x] w fun e w'=>e=.returned (.bool y)∧w'=w):=fun x y w hy=>by rw [← hy];exact Fl.hasAny_any f x w
  generalize openI f=r at *
  generalize hasI f=hz at *
  obtain ⟨b1,h1⟩:∃ b,hz 1=b:=⟨_,rfl⟩
  obtain ⟨b4,h4⟩:∃ b,hz 4=b:=⟨_,rfl⟩
  rw [h1,h4] at HR
  have H1:Hid _:=h1
  have H4:Hid _:=h4
  clear h1 h4
  cases b1 <;> cases b4
  all_goals
    go_enter Tryz.func128,Tryz.ntmps128
    go_wp2_with (go_at_call 196;refine (HH.out _ _ _ (by first|exact H1.out|exact H4.out)).mono ?_;rintro e w9 ⟨rfl,hw9⟩;rw [hw9];clear hw9 w9)
    exact bodyPost_ret (results_tmp rfl _ _ _) rfl ⟨by rw [HR.out];rfl,rfl⟩
def pkB (nm:ByteArray):ByteArray:=⟨(pkgL nm.data.toList).toArray⟩
theorem aPkg_c {b:Nat} {ps:List Plc} {W:World} (h:WAt b ps W) (k:Nat) (q:Plc) (hq:ps[k]?=some q) (hB:PlcB q):Calls Tryz.prog 248 #[.pointer (some ⟨b,0,none⟩),.int .i64 (k:Int)] W fun e w'=>e=.returned (.agg #[.int .i64 q.c.ld,.string (pkB q.c.nm)])∧Below W.heap.size W w':=by
  have HC:Hid (∀ w,Below W.heap.size W w→Calls Tryz.prog 167 #[.pointer (some ⟨b,0,none⟩),.int .i64 (k:Int)] w fun e w'=>∃ vi vm qm,e=.returned (.tuple #[.agg #[.string q.c.nm,.string q.c.su,vi,.int .i64 q.c.fl,.int .i64 q.c.ld,vm],.int .i64 0])∧OwnC w' w.heap.size vi q.c.ni q.c.xi vm qm∧qm.map Prod.fst=q.c.ms∧Below w.heap.size w w'):=fun w hb=>by
    obtain ⟨N,mb,vp,pv,h⟩:=h.below hb
    exact class_yes N b mb ps vp pv k q w h hq hB
  have HP:Hid (∀ w:World,Calls Tryz.prog 254 #[.string q.c.nm] w fun e w'=>e=.returned (.string (pkB q.c.nm))∧w'=w):=fun w=>package_any q.c.nm hB.nm w
  generalize pkB q.c.nm=pk at *
  clear h hq hB
  go_enter Tryz.func248,Tryz.ntmps248
  go_wp2_with (first
    | (go_at_call 167;refine (HC.out _ (by repeat (first|exact Below.refl _ _|refine Below.setCell ?_ (by simp;try omega) _|refine Below.alloc ?_ (by simp;try omega) _|refine Below.drew ?_))).mono ?_;rintro e w1 ⟨vi,vm,qm,rfl,hown,_,hb⟩;obtain ⟨a1,c1,rfl⟩:=ownv hown.ifs;obtain ⟨a2,c2,rfl⟩:=ownv hown.ms;have B1:Hid (Below W.heap.size W w1):=bstep (by repeat (first|exact Below.refl _ _|refine Below.setCell ?_ (by simp;try omega) _|refine Below.alloc ?_ (by simp;try omega) _|refine Below.drew ?_)) hb;have h0:=(hb.block W.heap.size (by simp)).trans (halloc1 W _);have hl0:W.heap.size<w1.heap.size:=(Array.getElem?_eq_some_iff.1 h0).1;have r0:=cell_of_row w1 W.heap.size 0 _ _ _ h0;have y0:=frozen_of_row w1 W.heap.size 0 _ _ h0;have r1:=cell_of_row w1 W.heap.size 1 _ _ _ h0;have y1:=frozen_of_row w1 W.heap.size 1 _ _ h0;simp only [List.getElem?_toArray,List.getElem?_cons_zero,List.getElem?_cons_succ] at r0 r1;have hn0:¬ W.heap.size=w1.heap.size:=(by omega);have H0:Hid (w1.heap[W.heap.size]?=some (.cells #[.int .i64 0,.string ⟨#[]⟩] 247 (0,0))):=h0;clear hown hb HC h0 r0 r1 y0 y1))
  obtain ⟨Wm,hWm⟩:∃ x,x=w1.alloc (.cells #[.string q.c.nm,.string q.c.su,.slice a1 q.c.ni c1,.int .i64 q.c.fl,.int .i64 q.c.ld,.slice a2 qm.length c2] 74):=⟨_,rfl⟩
  have BM:Hid (Below W.heap.size W Wm):=by rw [hWm];exact B1.out.alloc B1.out.size _
  have m0:Wm.cell? ⟨w1.heap.size,0,none⟩=some (.string q.c.nm):=by rw [hWm];simp [go_sem]
  have m4:Wm.cell? ⟨w1.heap.size,4,none⟩=some (.int .i64 q.c.ld):=by rw [hWm];simp [go_sem]
  have h0:Wm.heap[W.heap.size]?=some (.cells #[.int .i64 0,.string ⟨#[]⟩] 247 (0,0)):=by rw [hWm];exact (Below.heap_alloc w1 _ _ hl0).trans H0.out
  have hs0:W.heap.size<Wm.heap.size:=(Array.getElem?_eq_some_iff.1 h0).1
  have hs1:w1.heap.size<Wm.heap.size:=by rw [hWm];simp
  have r0:=cell_of_row Wm W.heap.size 0 _ _ _ h0
  have y0:=frozen_of_row Wm W.heap.size 0 _ _ h0
  have r1:=cell_of_row Wm W.heap.size 1 _ _ _ h0
  have y1:=frozen_of_row Wm W.heap.size 1 _ _ h0
  simp only [List.getElem?_toArray,List.getElem?_cons_zero,List.getElem?_cons_succ] at r0 r1
  have hn1:¬ w1.heap.size=W.heap.size:=by omega
  rw [← hWm]
  clear hWm h0 H0 B1
  go_region_held3 (fun w'=>w'.cell? ⟨w1.heap.size,0,none⟩=some (.string q.c.nm)∧w'.cell? ⟨w1.heap.size,4,none⟩=some (.int .i64 q.c.ld)) (go_keep) (first|(go_at_call 254;refine (HP.out _).mono ?_;rintro e w9 ⟨rfl,hw9⟩;rw [hw9];clear hw9 w9))
  go_wp2
  refine bodyPost_ret (v:=.agg #[.int .i64 q.c.ld,.string pk]) (by simp [results,Tryz.results248,go_sem, *]) rfl ⟨rfl,?_⟩
  refine Below.drew ?_
  repeat (refine Below.setCell ?_ (by simp) _)
  exact BM.out
theorem eqPkA (a b:Int) (s t:ByteArray) (w:World):(Op.equal 247 (.agg #[.int .i64 a,.string s]) (.agg #[.int .i64 b,.string t])).run Tryz.prog w=.ok ((a == b)&&(s == t)) w:=by
  have h:(Op.equalIn (9997+1+1+1) 247 (.agg #[.int .i64 a,.string s]) (.agg #[.int .i64 b,.string t])).run Tryz.prog w=.ok ((a == b)&&(s == t)) w:=by
    rw [Op.equalIn]
    simp [run_underlying Tryz.underlying247,go_sem,part,eqS,eqN]
    generalize (s == t)=y
    by_cases h1:a=b <;> cases y <;> simp [h1]
  exact h
set_option maxHeartbeats 1000000 in
theorem aSame_c {b:Nat} {ps:List Plc} {W:World} (h:WAt b ps W) (hB:∀ q∈ps,PlcB q) (x y:Nat) (p q:Plc) (hx:ps[x]?=some p) (hy:ps[y]?=some q):Calls Tryz.prog 209 #[.pointer (some ⟨b,0,none⟩),.int .i64 (x:Int),.int .i64 (y:Int)] W fun e w'=>e=.returned (.bool (samePk p q))∧Below W.heap.size W w':=by
  have HX:Hid (∀ i w,Below W.heap.size W w→i=(x:Int)→Calls Tryz.prog 248 #[.pointer (some ⟨b,0,none⟩),.int .i64 i] w fun e w''=>e=.returned (.agg #[.int .i64 p.c.ld,.string (pkB p.c.nm)])∧Below W.heap.size W w''):=fun i w hb hi=>by
    rw [hi];exact (aPkg_c (h.below hb) x p hx (hB p (List.mem_of_getElem? hx))).mono fun e w'' zz=>⟨zz.1,bstep hb zz.2⟩
  have HY:Hid (∀ i w,Below W.heap.size W w→i=(y:Int)→Calls Tryz.prog 248 #[.pointer (some ⟨b,0,none⟩),.int .i64 i] w fun e w''=>e=.returned (.agg #[.int .i64 q.c.ld,.string (pkB q.c.nm)])∧Below W.heap.size W w''):=fun i w hb hi=>by
    rw [hi];exact (aPkg_c (h.below hb) y q hy (hB q (List.mem_of_getElem? hy))).mono fun e w'' zz=>⟨zz.1,bstep hb zz.2⟩
  have HR2:Hid ((p.c.ld == q.c.ld&&pkB p.c.nm == pkB q.c.nm)=samePk p q):=by rw [Hid,pkB,pkB,beqB];rfl
  generalize samePk p q=R at *
  generalize pkB p.c.nm=s1 at *
  generalize pkB q.c.nm=s2 at *
  have EQ:∀ w,(Op.equal 247 (.agg #[.int .i64 p.c.ld,.string s1]) (.agg #[.int .i64 q.c.ld,.string s2])).run Tryz.prog w=.ok R w:=fun w=>by rw [eqPkA,HR2.out]
  have G1:∀ w,(eqGuard .eql 247 (.tmp 9) (.tmp 12) (.agg #[.int .i64 p.c.ld,.string s1]) (.agg #[.int .i64 q.c.ld,.string s2])).run Tryz.prog w=.ok () w:=fun w=>by
    simp [eqGuard,go_sem]
  have G2:∀ w,(binOp .eql 247 (.agg #[.int .i64 p.c.ld,.string s1]) (.agg #[.int .i64 q.c.ld,.string s2])).run Tryz.prog w=.ok (.bool R) w:=fun w=>by
    simp [binOp,EQ,go_sem]
  clear HR2 EQ h hB hx hy
  go_enter Tryz.func209,Tryz.ntmps209
  go_wp2_with (first
    | (go_at_call 248;refine (HX.out _ _ (Below.refl _ _) (by rfl)).mono ?_;rintro e w1 ⟨rfl,hb⟩;have B1:Hid (Below W.heap.size W w1):=hb;clear hb HX)
    | (go_at_call 248;refine (HY.out _ _ B1.out (by rfl)).mono ?_;rintro e w2 ⟨rfl,hb⟩;have B2:Hid (Below W.heap.size W w2):=hb;clear hb HY))
  exact bodyPost_ret (results_tmp rfl _ _ _) rfl ⟨rfl,B2.out⟩
def clsO (q p:Plc):Bool:=(openI q.c.fl == 1)||samePk q p
set_option maxHeartbeats 1000000 in
theorem aCls_c {b:Nat} {ps:List Plc} {W:World} (h:WAt b ps W) (hB:∀ q∈ps,PlcB q) (d c:Nat) (p q:Plc) (hd:ps[d]?=some p) (hc:ps[c]?=some q):Calls Tryz.prog 235 #[.pointer (some ⟨b,0,none⟩),.int .i64 (d:Int),.int .i64 (c:Int)] W fun e w'=>e=.returned (.bool (clsO q p))∧Below W.heap.size W w':=by
  have HC:Hid (∀ w,Below W.heap.size W w→Calls Tryz.prog 167 #[.pointer (some ⟨b,0,none⟩),.int .i64 (c:Int)] w fun e w'=>∃ vi vm qm,e=.returned (.tuple #[.agg #[.string q.c.nm,.string q.c.su,vi,.int .i64 q.c.fl,.int .i64 q.c.ld,vm],.int .i64 0])∧OwnC w' w.heap.size vi q.c.ni q.c.xi vm qm∧qm.map Prod.fst=q.c.ms∧Below w.heap.size w w'):=fun w hb=>by
    obtain ⟨N,mb,vp,pv,h⟩:=h.below hb
    exact class_yes N b mb ps vp pv c q w h hc (hB q (List.mem_of_getElem? hc))
  have HO:Hid (∀ w:World,Calls Tryz.prog 128 #[.int .i64 q.c.fl] w fun e w'=>e=.returned (.int .i64 (openI q.c.fl))∧w'=w):=fun w=>open_c q.c.fl w
  have HS:Hid (∀ w,Below W.heap.size W w→Calls Tryz.prog 209 #[.pointer (some ⟨b,0,none⟩),.int .i64 (c:Int),.int .i64 (d:Int)] w fun e w'=>e=.returned (.bool (samePk q p))∧Below W.heap.size W w'):=fun w hb=>(aSame_c (h.below hb) hB c d q p hc hd).mono fun e w' zz=>⟨zz.1,bstep hb zz.2⟩
  have HR:Hid (clsO q p=((openI q.c.fl == 1)||samePk q p)):=rfl
  generalize clsO q p=R at *
  generalize samePk q p=sp at *
  generalize openI q.c.fl=op at *
  clear h hB hd hc
  by_cases h1:op=1
  · have HR:Hid (R=true):=by rw [Hid,HR.out,h1];rfl
    subst h1
    go_enter Tryz.func235,Tryz.ntmps235
    go_wp2_with (first
      | (go_at_call 167;refine (HC.out _ (by repeat (first|exact Below.refl _ _|refine Below.setCell ?_ (by simp;try omega) _|refine Below.alloc ?_ (by simp;try omega) _|refine Below.drew ?_))).mono ?_;rintro e w1 ⟨vi,vm,qm,rfl,hown,_,hb⟩;obtain ⟨a1,c1,rfl⟩:=ownv hown.ifs;obtain ⟨a2,c2,rfl⟩:=ownv hown.ms;have B1:Hid (Below W.heap.size W w1):=bstep (by repeat (first|exact Below.refl _ _|refine Below.setCell ?_ (by simp;try omega) _|refine Below.alloc ?_ (by simp;try omega) _|refine Below.drew ?_)) hb;clear hown hb HC)
      | (go_at_call 128;refine (HO.out _).mono ?_;rintro e w9 ⟨rfl,hw9⟩;rw [hw9];clear hw9 w9))
    exact bodyPost_ret (results_tmp rfl _ _ _) rfl ⟨by rw [HR.out];rfl,B1.out.alloc B1.out.size _⟩
  · have HR:Hid (R=sp):=by rw [Hid,HR.out];simp [h1]
    cases sp
    all_goals
      go_enter Tryz.func235,Tryz.ntmps235
      go_wp2_with (first
        | (go_at_call 167;refine (HC.out _ (by repeat (first|exact Below.refl _ _|refine Below.setCell ?_ (by simp;try omega) _|refine Below.alloc ?_ (by simp;try omega) _|refine Below.drew ?_))).mono ?_;rintro e w1 ⟨vi,vm,qm,rfl,hown,_,hb⟩;obtain ⟨a1,c1,rfl⟩:=ownv hown.ifs;obtain ⟨a2,c2,rfl⟩:=ownv hown.ms;have B1:Hid (Below W.heap.size W w1):=bstep (by repeat (first|exact Below.refl _ _|refine Below.setCell ?_ (by simp;try omega) _|refine Below.alloc ?_ (by simp;try omega) _|refine Below.drew ?_)) hb;clear hown hb HC)
        | (go_at_call 128;refine (HO.out _).mono ?_;rintro e w9 ⟨rfl,hw9⟩;rw [hw9];clear hw9 w9)
        | (go_at_call 209;refine (HS.out _ (B1.out.alloc B1.out.size _)).mono ?_;rintro e w2 ⟨rfl,hb⟩;have B2:Hid (Below W.heap.size W w2):=hb;clear hb HS))
      exact bodyPost_ret (results_tmp rfl _ _ _) rfl ⟨by rw [HR.out];rfl,B2.out⟩
theorem inNs_iff (ps:List Plc) (l:List Int):inNs ps.length l=l.all fun i=>(plcI ps i).isSome:=by
  rw [inNs]
  congr 1
  funext i
  rcases plcI_cases ps i with ⟨h1,h2⟩|⟨k,q,rfl,h2,h1⟩
  · rw [h1]
    by_cases h0:0≤i
    · have:¬ i<(ps.length:Int):=fun h=>h2 ⟨h0,h⟩
      simp [this]
    · simp [h0]
  · rw [h1]
    have:=(List.getElem?_eq_some_iff.1 h2).1
    simp;omega
theorem retB {a b:Bool} (h:a=b):Ending.returned (.bool a)=Ending.returned (.bool b):=by rw [h]
set_option maxHeartbeats 1000000 in
theorem aBelow_c {b:Nat} {ps:List Plc} {W:World} (h:WAt b ps W) (hi:WI ps) (d c n:Int) (st:Bool):Calls Tryz.prog 210 #[.pointer (some ⟨b,0,none⟩),.int .i64 d,.int .i64 c,.int .i64 n,.bool st] W fun e w'=>e=.returned (.bool (extI ps d c&&!ifcI ps c&&(st||extI ps n d||extI ps d n)))∧Below W.heap.size W w':=by
  have HE:Hid (∀ i j w,Below W.heap.size W w→Calls Tryz.prog 29 #[.pointer (some ⟨b,0,none⟩),.int .i64 i,.int .i64 j] w fun e w'=>e=.returned (.bool (extI ps i j))∧Below W.heap.size W w'):=fun i j w hb=>(extends_c (h.below hb) hi i j).mono fun e w' zz=>⟨zz.1,bstep hb zz.2⟩
  have HI:Hid (∀ i w,Below W.heap.size W w→Calls Tryz.prog 44 #[.pointer (some ⟨b,0,none⟩),.int .i64 i] w fun e w'=>e=.returned (.bool (ifcI ps i))∧Below W.heap.size W w'):=fun i w hb=>(isIface_c (h.below hb) i).mono fun e w' zz=>⟨zz.1,bstep hb zz.2⟩
  have HR:Hid ((extI ps d c&&!ifcI ps c&&(st||extI ps n d||extI ps d n))=(extI ps d c&&!ifcI ps c&&(st||extI ps n d||extI ps d n))):=rfl
  generalize hRR:(extI ps d c&&!ifcI ps c&&(st||extI ps n d||extI ps d n))=R
  have HRR:Hid (R=(extI ps d c&&!ifcI ps c&&(st||extI ps n d||extI ps d n))):=hRR.symm
  clear hRR HR
  generalize extI ps=E at *
  generalize ifcI ps=F at *
  clear h hi
  have BB:Hid (Below W.heap.size W W):=Below.refl _ _
  go_enter Tryz.func210,Tryz.ntmps210
  go_wp2_with (first
    | (go_at_call 29;refine (HE.out _ _ _ BB.out).mono ?_;rintro e w1 ⟨rfl,hb⟩;clear BB;have BB:Hid (Below W.heap.size W w1):=hb;clear hb)
    | (go_at_call 44;refine (HI.out _ _ BB.out).mono ?_;rintro e w1 ⟨rfl,hb⟩;clear BB;have BB:Hid (Below W.heap.size W w1):=hb;clear hb))
  all_goals go_ret
  all_goals exact ⟨retB (by rw [HRR.out];simp [*]),BB.out⟩
def mOpen (ps:List Plc) (d c n f:Int) (sp:Bool):Bool :=
  if openI f=1 then true else if openI f=2 then c == d else if sp then true else if openI f=4 then extI ps d c&&!ifcI ps c&&(hasI f 8||extI ps n d||extI ps d n) else false
theorem open_cases (f:Int):openI f=1∨openI f=2∨openI f=4∨openI f=0:=by
  unfold openI
  split
  · exact .inl rfl
  · split
    · exact .inr (.inr (.inl rfl))
    · split
      · exact .inr (.inl rfl)
      · exact .inr (.inr (.inr rfl))
set_option maxHeartbeats 1000000 in
theorem aMth_c {b:Nat} {ps:List Plc} {W:World} (h:WAt b ps W) (hi:WI ps) (d c:Nat) (n f:Int) (p q:Plc) (hd:ps[d]?=some p) (hc:ps[c]?=some q):Calls Tryz.prog 147 #[.pointer (some ⟨b,0,none⟩),.int .i64 (d:Int),.int .i64 (c:Int),.int .i64 n,.int .i64 f] W fun e w'=>e=.returned (.bool (mOpen ps d c n f (samePk q p)))∧Below W.heap.size W w':=by
  have HO:Hid (∀ w:World,Calls Tryz.prog 128 #[.int .i64 f] w fun e w'=>e=.returned (.int .i64 (openI f))∧w'=w):=fun w=>open_c f w
  have HS:Hid (∀ w,Below W.heap.size W w→Calls Tryz.prog 209 #[.pointer (some ⟨b,0,none⟩),.int .i64 (c:Int),.int .i64 (d:Int)] w fun e w'=>e=.returned (.bool (samePk q p))∧Below W.heap.size W w'):=fun w hb=>(aSame_c (h.below hb) hi.pb c d q p hc hd).mono fun e w' zz=>⟨zz.1,bstep hb zz.2⟩
  have HL:Hid (∀ st w,Below W.heap.size W w→Calls Tryz.prog 210 #[.pointer (some ⟨b,0,none⟩),.int .i64 (d:Int),.int .i64 (c:Int),.int .i64 n,.bool st] w fun e w'=>e=.returned (.bool (extI ps d c&&!ifcI ps c&&(st||extI ps n d||extI ps d n)))∧Below W.heap.size W w'):=fun st w hb=>(aBelow_c (h.below hb) hi d c n st).mono fun e w' zz=>⟨zz.1,bstep hb zz.2⟩
  have HR:Hid (mOpen ps d c n f (samePk q p)=(if openI f=1 then true else if openI f=2 then (c:Int) == (d:Int) else if samePk q p then true else if openI f=4 then extI ps d c&&!ifcI ps c&&(hasI f 8||extI ps n d||extI ps d n) else false)):=rfl
  generalize mOpen ps d c n f (samePk q p)=R at *
  generalize samePk q p=sp at *
  have h8:hasI f 8=(bits .and .i64 f 8 != 0):=rfl
  rw [h8] at HR
  clear h8
  have hop:=open_cases f
  generalize openI f=op at *
  generalize extI ps (d:Int) (c:Int)=e1 at *
  generalize ifcI ps (c:Int)=i1 at *
  generalize extI ps n (d:Int)=e2 at *
  generalize extI ps (d:Int) n=e3 at *
  clear h hi hd hc
  have BB:Hid (Below W.heap.size W W):=Below.refl _ _
  rcases hop with rfl|rfl|rfl|rfl
  all_goals cases sp
  all_goals
    go_enter Tryz.func147,Tryz.ntmps147
    go_wp2_with (first
      | (go_at_call 128;refine (HO.out _).mono ?_;rintro e w9 ⟨rfl,hw9⟩;rw [hw9];clear hw9 w9)
      | (go_at_call 209;refine (HS.out _ BB.out).mono ?_;rintro e w1 ⟨rfl,hb⟩;clear BB;have BB:Hid (Below W.heap.size W w1):=hb;clear hb)
      | (go_at_call 210;refine (HL.out _ _ BB.out).mono ?_;rintro e w2 ⟨rfl,hb⟩;clear BB;have BB:Hid (Below W.heap.size W w2):=hb;clear hb))
    all_goals go_ret
    all_goals exact ⟨retB (by rw [HR.out];simp [bne]),BB.out⟩
def moI (ps:List Plc) (d c i n:Int):Value:=match plcI ps d,plcI ps n,plcI ps c,methI ps c i with
  | some p,some _,some q,some m=>.tuple #[.bool (mOpen ps d c n m.fl (samePk q p)),.int .i64 0]
  | _,_,_,_=>.tuple #[.bool false,.int .i64 3]
theorem meth_plc {ps:List Plc} {c i:Int} {m:HM} (h:methI ps c i=some m):∃ (k:Nat) (q:Plc),c=(k:Int)∧ps[k]?=some q∧plcI ps c=some q∧methP q i=some m:=by
  rcases plcI_cases ps c with ⟨h1,_⟩|⟨k,q,rfl,h2,h1⟩
  · rw [methI,h1] at h;cases h
  · rw [methI,h1] at h
    exact ⟨k,q,rfl,h2,h1,h⟩
set_option maxHeartbeats 1000000 in
theorem methodOpen_c {b:Nat} {ps:List Plc} {W:World} (h:WAt b ps W) (hi:WI ps) (d c i n:Int):Calls Tryz.prog 76 #[.pointer (some ⟨b,0,none⟩),.int .i64 d,.agg #[.int .i64 c,.int .i64 i],.int .i64 n] W fun e w'=>e=.returned (moI ps d c i n)∧Below W.heap.size W w':=by
  have HC:Hid (∀ (w:World) (v:Value),Below W.heap.size W w→Rds w v 2 1 [.int .i64 d,.int .i64 n]→Calls Tryz.prog 146 #[.pointer (some ⟨b,0,none⟩),v] w fun e w'=>e=.returned (.int .i64 (if (plcI ps d).isSome&&(plcI ps n).isSome then 0 else 3))∧Below w.heap.size w w'):=fun w v hb hv=>(check_c (h.below hb) v [d,n] hv (by simp)).mono fun e w' zz=>⟨by rw [zz.1,inNs_iff];simp,zz.2⟩
  have HM:Hid (∀ w,Below W.heap.size W w→Calls Tryz.prog 28 #[.pointer (some ⟨b,0,none⟩),.agg #[.int .i64 c,.int .i64 i]] w fun e w'=>MthR w.heap.size (methI ps c i) e w'∧Below w.heap.size w w'):=fun w hb=>method_c (h.below hb) hi.pb c i
  cases hdn:(plcI ps d).isSome&&(plcI ps n).isSome with
  | false =>
    have e:moI ps d c i n=.tuple #[.bool false,.int .i64 3]:=by
      unfold moI
      cases h1:plcI ps d with
      | none=>rfl
      | some p=>cases h2:plcI ps n with
        | none=>rfl
        | some q=>rw [h1,h2] at hdn;cases hdn
    rw [e]
    rw [hdn] at HC
    simp only [Bool.false_eq_true,if_false] at HC
    clear h e hdn HM
    go_enter Tryz.func76,Tryz.ntmps76
    go_wp2_with (first
      | (go_at_call 146;refine (HC.out _ _ (by repeat (first|exact Below.refl _ _|refine Below.setCell ?_ (by simp;try omega) _|refine Below.alloc ?_ (by simp;try omega) _|refine Below.drew ?_)) (rds_at _ _ (by simp) _ 3 2 1 rfl (by decide))).mono ?_;rintro e w1 ⟨rfl,hb⟩;have B1:Hid (Below W.heap.size W w1):=bstep (by repeat (first|exact Below.refl _ _|refine Below.setCell ?_ (by simp;try omega) _|refine Below.alloc ?_ (by simp;try omega) _|refine Below.drew ?_)) hb;clear hb HC))
    exact bodyPost_ret (results_tmp2 rfl _ _ _) rfl ⟨rfl,B1.out⟩
  | true =>
    rw [hdn] at HC
    simp only [if_true] at HC
    cases hm:methI ps c i with
    | none =>
      have e:moI ps d c i n=.tuple #[.bool false,.int .i64 3]:=by
        unfold moI;rw [hm]
        cases plcI ps d <;> cases plcI ps n <;> cases plcI ps c <;> rfl
      rw [e]
      rw [hm] at HM
      clear h e hdn hm
      go_enter Tryz.func76,Tryz.ntmps76
      go_wp2_with (first
        | (go_at_call 146;refine (HC.out _ _ (by repeat (first|exact Below.refl _ _|refine Below.setCell ?_ (by simp;try omega) _|refine Below.alloc ?_ (by simp;try omega) _|refine Below.drew ?_)) (rds_at _ _ (by simp) _ 3 2 1 rfl (by decide))).mono ?_;rintro e w1 ⟨rfl,hb⟩;have h0:=(hb.block W.heap.size (by simp;omega)).trans (heap_alloc2_old W _ _);have r0:=cell_of_row w1 W.heap.size 0 _ _ _ h0;have r1:=cell_of_row w1 W.heap.size 1 _ _ _ h0;simp only [List.getElem?_toArray,List.getElem?_cons_zero,List.getElem?_cons_succ] at r0 r1;have B1:Hid (Below W.heap.size W w1):=bstep (by repeat (first|exact Below.refl _ _|refine Below.setCell ?_ (by simp;try omega) _|refine Below.alloc ?_ (by simp;try omega) _|refine Below.drew ?_)) hb;clear hb HC h0)
        | (go_at_call 28;refine (HM.out _ B1.out).mono ?_;rintro e w2 ⟨hr,hb⟩;simp only [MthR,noM] at hr;subst hr;have B2:Hid (Below W.heap.size W w2):=bstep B1.out hb;clear hb HM))
      exact bodyPost_ret (results_tmp2 rfl _ _ _) rfl ⟨rfl,B2.out.alloc B2.out.size _⟩
    | some m =>
      obtain ⟨k,q,rfl,hq,hqI,hmp⟩:=meth_plc hm
      obtain ⟨j,p,rfl,hp,hpI⟩:∃ (j:Nat) (p:Plc),d=(j:Int)∧ps[j]?=some p∧plcI ps d=some p:=by
        rcases plcI_cases ps d with ⟨h1,_⟩|⟨j,p,rfl,h2,h1⟩
        · rw [h1] at hdn;cases hdn
        · exact ⟨j,p,rfl,h2,h1⟩
      have e:moI ps j k i n=.tuple #[.bool (mOpen ps j k n m.fl (samePk q p)),.int .i64 0]:=by
        unfold moI
        rw [hm,hpI,hqI]
        cases h2:plcI ps n with
        | none=>rw [h2,Bool.and_comm] at hdn;cases hdn
        | some _=>rfl
      rw [e]
      rw [hm] at HM
      have HI:Hid (∀ w,Below W.heap.size W w→Calls Tryz.prog 147 #[.pointer (some ⟨b,0,none⟩),.int .i64 (j:Int),.int .i64 (k:Int),.int .i64 n,.int .i64 m.fl] w fun e w'=>e=.returned (.bool (mOpen ps j k n m.fl (samePk q p)))∧Below W.heap.size W w'):=fun w hb=>(aMth_c (h.below hb) hi j k n m.fl p q hp hq).mono fun e w' zz=>⟨zz.1,bstep hb zz.2⟩
      generalize mOpen ps j k n m.fl (samePk q p)=R at *
      clear h e hdn hm hq hqI hmp hp hpI
      go_enter Tryz.func76,Tryz.ntmps76
      go_wp2_with (first
        | (go_at_call 146;refine (HC.out _ _ (by repeat (first|exact Below.refl _ _|refine Below.setCell ?_ (by simp;try omega) _|refine Below.alloc ?_ (by simp;try omega) _|refine Below.drew ?_)) (rds_at _ _ (by simp) _ 3 2 1 rfl (by decide))).mono ?_;rintro e w1 ⟨rfl,hb⟩;have h0:=(hb.block W.heap.size (by simp;omega)).trans (heap_alloc2_old W _ _);have r0:=cell_of_row w1 W.heap.size 0 _ _ _ h0;have r1:=cell_of_row w1 W.heap.size 1 _ _ _ h0;simp only [List.getElem?_toArray,List.getElem?_cons_zero,List.getElem?_cons_succ] at r0 r1;have hl0:W.heap.size<w1.heap.size:=(Array.getElem?_eq_some_iff.1 h0).1;have B1:Hid (Below W.heap.size W w1):=bstep (by repeat (first|exact Below.refl _ _|refine Below.setCell ?_ (by simp;try omega) _|refine Below.alloc ?_ (by simp;try omega) _|refine Below.drew ?_)) hb;clear hb HC h0)
        | (go_at_call 28;refine (HM.out _ B1.out).mono ?_;rintro e w2 ⟨hr,hb⟩;obtain ⟨vv,rfl,hown⟩:=hr;obtain ⟨a1,c1,rfl⟩:=ownv hown;replace r0:=(hb.cell (p:=⟨W.heap.size,0,none⟩) hl0).trans r0;replace r1:=(hb.cell (p:=⟨W.heap.size,1,none⟩) hl0).trans r1;have hl2:W.heap.size<w2.heap.size:=Nat.lt_of_lt_of_le hl0 hb.size;have hn2:¬ W.heap.size=w2.heap.size:=(by omega);have B2:Hid (Below W.heap.size W w2):=bstep B1.out hb;clear hb HM hown)
        | (go_at_call 147;refine (HI.out _ (B2.out.alloc B2.out.size _)).mono ?_;rintro e w3 ⟨rfl,hb⟩;have B3:Hid (Below W.heap.size W w3):=hb;clear hb HI))
      exact bodyPost_ret (results_tmp2 rfl _ _ _) rfl ⟨rfl,B3.out⟩
theorem isOverInt_c (d:Int) (s:ByteArray) (W:World):Calls Tryz.prog 183 #[.agg #[.int .i64 d,.string s]] W fun e w'=>e=.returned (.bool s.toList.isEmpty)∧Below W.heap.size W w':=by
  cases he:s.toList.isEmpty
  all_goals
    go_enter Tryz.func183,Tryz.ntmps183
    go_wp2
    go_ret
    exact ⟨by first|rfl|simp_all,(by repeat (first|exact Below.refl _ _|refine Below.setCell ?_ (by simp;try omega) _|refine Below.alloc ?_ (by simp;try omega) _|refine Below.drew ?_))⟩
def ldI (ps:List Plc) (d:Int) (s:ByteArray):Int:=if sndB d s.data.toList then (if s.toList.isEmpty then 0 else match lookL ps s.data.toList with
  | some _=>0
  | none=>20) else 1
theorem loaded_c {b:Nat} {ps:List Plc} {W:World} (h:WAt b ps W) (d:Int) (s:ByteArray) (hs:s.size≤maxLen):Calls Tryz.prog 115 #[.pointer (some ⟨b,0,none⟩),.agg #[.int .i64 d,.string s]] W fun e w'=>e=.returned (.int .i64 (ldI ps d s))∧Below W.heap.size W w':=by
  have HC:Hid (∀ w:World,Calls Tryz.prog 182 #[.agg #[.int .i64 d,.string s]] w fun e w'=>e=.returned (.int .i64 (chkI (sndB d s.data.toList)))∧Below w.heap.size w w'):=tyCheck_any d s hs
  have HO:Hid (∀ w:World,Calls Tryz.prog 183 #[.agg #[.int .i64 d,.string s]] w fun e w'=>e=.returned (.bool s.toList.isEmpty)∧Below w.heap.size w w'):=isOverInt_c d s
  have HN:Hid (∀ w:World,Below W.heap.size W w→Calls Tryz.prog 117 #[.pointer (some ⟨b,0,none⟩),.string s] w fun e w'=>e=.returned (bnV (lookL ps s.data.toList))∧Below w.heap.size w w'):=fun w hb=>byName_c (h.below hb) s hs
  obtain ⟨R,hR⟩:∃ R,ldI ps d s=R:=⟨_,rfl⟩
  rw [hR]
  have HR:Hid (ldI ps d s=R):=hR
  clear hR h
  unfold ldI at HR
  generalize sndB d s.data.toList=sn at *
  generalize s.toList.isEmpty=em at *
  generalize lookL ps s.data.toList=lk at *
  cases sn with
  | false =>
    have e:chkI false=1:=rfl
    rw [e] at HC
    have HS:Hid (R=1):=HR.out.symm
    clear HR
    go_enter Tryz.func115,Tryz.ntmps115
    go_wp2_with (go_at_call 182;refine (HC.out _).mono ?_;rintro e w1 ⟨rfl,hb⟩;have B1:Hid (Below W.heap.size W w1):=bstep (by repeat (first|exact Below.refl _ _|refine Below.setCell ?_ (by simp;try omega) _|refine Below.alloc ?_ (by simp;try omega) _|refine Below.drew ?_)) hb;clear hb HC)
    exact bodyPost_ret (results_tmp rfl _ _ _) rfl ⟨by rw [HS.out];rfl,B1.out⟩
  | true =>
    have e:chkI true=0:=rfl
    rw [e] at HC
    cases em with
    | true =>
      have HS:Hid (R=0):=HR.out.symm
      clear HR
      go_enter Tryz.func115,Tryz.ntmps115
      go_wp2_with (first
        | (go_at_call 182;refine (HC.out _).mono ?_;rintro e w1 ⟨rfl,hb⟩;have h0:=(hb.block W.heap.size (by simp)).trans (halloc1 W _);have r0:=cell_of_row w1 W.heap.size 0 _ _ _ h0;have r1:=cell_of_row w1 W.heap.size 1 _ _ _ h0;simp only [List.getElem?_toArray,List.getElem?_cons_zero,List.getElem?_cons_succ] at r0 r1;have B1:Hid (Below W.heap.size W w1):=bstep (by repeat (first|exact Below.refl _ _|refine Below.setCell ?_ (by simp;try omega) _|refine Below.alloc ?_ (by simp;try omega) _|refine Below.drew ?_)) hb;clear hb HC h0)
        | (go_at_call 183;refine (HO.out _).mono ?_;rintro e w2 ⟨rfl,hb⟩;have B2:Hid (Below W.heap.size W w2):=bstep B1.out hb;clear hb HO))
      exact bodyPost_ret (results_tmp rfl _ _ _) rfl ⟨by rw [HS.out];rfl,B2.out⟩
    | false =>
      cases lk
      all_goals
        first|have HS:Hid (R=20):=HR.out.symm|have HS:Hid (R=0):=HR.out.symm
        clear HR
        simp only [bnV] at HN
        go_enter Tryz.func115,Tryz.ntmps115
        go_wp2_with (first
          | (go_at_call 182;refine (HC.out _).mono ?_;rintro e w1 ⟨rfl,hb⟩;have h0:=(hb.block W.heap.size (by simp)).trans (halloc1 W _);have r0:=cell_of_row w1 W.heap.size 0 _ _ _ h0;have r1:=cell_of_row w1 W.heap.size 1 _ _ _ h0;simp only [List.getElem?_toArray,List.getElem?_cons_zero,List.getElem?_cons_succ] at r0 r1;have hl:W.heap.size<w1.heap.size:=(Array.getElem?_eq_some_iff.1 h0).1;have B1:Hid (Below W.heap.size W w1):=bstep (by repeat (first|exact Below.refl _ _|refine Below.setCell ?_ (by simp;try omega) _|refine Below.alloc ?_ (by simp;try omega) _|refine Below.drew ?_)) hb;clear hb HC h0)
          | (go_at_call 183;refine (HO.out _).mono ?_;rintro e w2 ⟨rfl,hb⟩;have B2:Hid (Below W.heap.size W w2):=bstep B1.out hb;replace r0:=(hb.cell (p:=⟨W.heap.size,0,none⟩) hl).trans r0;replace r1:=(hb.cell (p:=⟨W.heap.size,1,none⟩) hl).trans r1;clear hb HO)
          | (go_at_call 117;refine (HN.out _ B2.out).mono ?_;rintro e w3 ⟨rfl,hb⟩;have B3:Hid (Below W.heap.size W w3):=bstep B2.out hb;clear hb HN))
        exact bodyPost_ret (results_tmp rfl _ _ _) rfl ⟨by rw [HS.out];rfl,B3.out⟩
def tyO (ps:List Plc) (p:Plc) (s:ByteArray):Bool:=if s.toList.isEmpty then true else match lookL ps s.data.toList with
  | some k=>(match ps[k]? with|some q=>clsO q p|none=>false)
  | none=>false
theorem aTy_c {b:Nat} {ps:List Plc} {W:World} (h:WAt b ps W) (hB:∀ q∈ps,PlcB q) (d:Nat) (p:Plc) (hd:ps[d]?=some p) (x:Int) (s:ByteArray) (hs:s.size≤maxLen) (hl:ldI ps x s=0):Calls Tryz.prog 187 #[.pointer (some ⟨b,0,none⟩),.int .i64 (d:Int),.agg #[.int .i64 x,.string s]] W fun e w'=>e=.returned (.bool (tyO ps p s))∧Below W.heap.size W w':=by
  cases he:s.toList.isEmpty with
  | true =>
    have e:tyO ps p s=true:=by rw [tyO,he];rfl
    rw [e]
    clear h e hl
    go_enter Tryz.func187,Tryz.ntmps187
    go_wp2
    exact bodyPost_ret (results_tmp rfl _ _ _) rfl ⟨rfl,(by repeat (first|exact Below.refl _ _|refine Below.setCell ?_ (by simp;try omega) _|refine Below.alloc ?_ (by simp;try omega) _|refine Below.drew ?_))⟩
  | false =>
    obtain ⟨k,hk⟩:∃ k,lookL ps s.data.toList=some k:=by
      unfold ldI at hl
      rw [he] at hl
      cases hl2:lookL ps s.data.toList with
      | some k=>exact ⟨k,rfl⟩
      | none=>rw [hl2] at hl;exfalso;revert hl;cases sndB x s.data.toList <;> simp
    obtain ⟨q,hq,_⟩:=look_place hk
    have e:tyO ps p s=clsO q p:=by rw [tyO,he,hk];simp only [hq];rfl
    rw [e]
    have HN:Hid (∀ w:World,Below W.heap.size W w→Calls Tryz.prog 117 #[.pointer (some ⟨b,0,none⟩),.string s] w fun e w'=>e=.returned (.tuple #[.int .i64 (k:Int),.int .i64 0])∧Below W.heap.size W w'):=fun w hb=>(byName_c (h.below hb) s hs).mono fun e w' zz=>⟨by rw [zz.1,hk];rfl,bstep hb zz.2⟩
    have HI:Hid (∀ w,Below W.heap.size W w→Calls Tryz.prog 235 #[.pointer (some ⟨b,0,none⟩),.int .i64 (d:Int),.int .i64 (k:Int)] w fun e w'=>e=.returned (.bool (clsO q p))∧Below W.heap.size W w'):=fun w hb=>(aCls_c (h.below hb) hB d k p q hd hq).mono fun e w' zz=>⟨zz.1,bstep hb zz.2⟩
    generalize clsO q p=R at *
    clear h hB hd hl hk hq e hs
    go_enter Tryz.func187,Tryz.ntmps187
    go_wp2_with (first
      | (go_at_call 117;refine (HN.out _ (by repeat (first|exact Below.refl _ _|refine Below.setCell ?_ (by simp;try omega) _|refine Below.alloc ?_ (by simp;try omega) _|refine Below.drew ?_))).mono ?_;rintro e w1 ⟨rfl,hb⟩;have B1:Hid (Below W.heap.size W w1):=hb;clear hb HN)
      | (go_at_call 235;refine (HI.out _ B1.out).mono ?_;rintro e w2 ⟨rfl,hb⟩;have B2:Hid (Below W.heap.size W w2):=hb;clear hb HI))
    exact bodyPost_ret (results_tmp rfl _ _ _) rfl ⟨rfl,B2.out⟩
def toI (ps:List Plc) (d x:Int) (s:ByteArray):Value:=match plcI ps d with
  | some p=>if ldI ps x s=0 then .tuple #[.bool (tyO ps p s),.int .i64 0] else .tuple #[.bool false,.int .i64 (ldI ps x s)]
  | none=>.tuple #[.bool false,.int .i64 3]
theorem typeOpen_c {b:Nat} {ps:List Plc} {W:World} (h:WAt b ps W) (hB:∀ q∈ps,PlcB q) (d x:Int) (s:ByteArray) (hs:s.size≤maxLen):Calls Tryz.prog 119 #[.pointer (some ⟨b,0,none⟩),.int .i64 d,.agg #[.int .i64 x,.string s]] W fun e w'=>e=.returned (toI ps d x s)∧Below W.heap.size W w':=by
  have HC:Hid (∀ (w:World) (v:Value),Below W.heap.size W w→Rds w v 1 1 [.int .i64 d]→Calls Tryz.prog 146 #[.pointer (some ⟨b,0,none⟩),v] w fun e w'=>e=.returned (.int .i64 (if (plcI ps d).isSome then 0 else 3))∧Below w.heap.size w w'):=fun w v hb hv=>(check_c (h.below hb) v [d] hv (by simp)).mono fun e w' zz=>⟨by rw [zz.1,inNs_iff];simp,zz.2⟩
  have HL:Hid (∀ w,Below W.heap.size W w→Calls Tryz.prog 115 #[.pointer (some ⟨b,0,none⟩),.agg #[.int .i64 x,.string s]] w fun e w'=>e=.returned (.int .i64 (ldI ps x s))∧Below w.heap.size w w'):=fun w hb=>loaded_c (h.below hb) x s hs
  rcases plcI_cases ps d with ⟨d1,_⟩|⟨d,p,rfl,d2,d1⟩
  · have e:toI ps d x s=.tuple #[.bool false,.int .i64 3]:=by rw [toI,d1]
    rw [e]
    rw [d1] at HC
    simp only [Option.isSome_none,Bool.false_eq_true,if_false] at HC
    clear h d1 e HL
    go_enter Tryz.func119,Tryz.ntmps119
    go_wp2_with (first
      | (go_at_call 146;refine (HC.out _ _ (by repeat (first|exact Below.refl _ _|refine Below.setCell ?_ (by simp;try omega) _|refine Below.alloc ?_ (by simp;try omega) _|refine Below.drew ?_)) (rds_at _ _ (by simp) _ 3 1 1 rfl (by decide))).mono ?_;rintro e w1 ⟨rfl,hb⟩;have B1:Hid (Below W.heap.size W w1):=bstep (by repeat (first|exact Below.refl _ _|refine Below.setCell ?_ (by simp;try omega) _|refine Below.alloc ?_ (by simp;try omega) _|refine Below.drew ?_)) hb;clear hb HC))
    exact bodyPost_ret (results_tmp2 rfl _ _ _) rfl ⟨rfl,B1.out⟩
  · rw [d1] at HC
    simp only [Option.isSome_some,if_true] at HC
    by_cases hl:ldI ps x s=0
    · have e:toI ps d x s=.tuple #[.bool (tyO ps p s),.int .i64 0]:=by rw [toI,d1];simp only [if_pos hl]
      rw [e]
      have HT:Hid (∀ w,Below W.heap.size W w→Calls Tryz.prog 187 #[.pointer (some ⟨b,0,none⟩),.int .i64 (d:Int),.agg #[.int .i64 x,.string s]] w fun e w'=>e=.returned (.bool (tyO ps p s))∧Below w.heap.size w w'):=fun w hb=>aTy_c (h.below hb) hB d p d2 x s hs hl
      rw [hl] at HL
      generalize tyO ps p s=R at *
      clear h d1 e d2 hl hB hs
      go_enter Tryz.func119,Tryz.ntmps119
      go_wp2_with (first
        | (go_at_call 146;refine (HC.out _ _ (by repeat (first|exact Below.refl _ _|refine Below.setCell ?_ (by simp;try omega) _|refine Below.alloc ?_ (by simp;try omega) _|refine Below.drew ?_)) (rds_at _ _ (by simp) _ 3 1 1 rfl (by decide))).mono ?_;rintro e w1 ⟨rfl,hb⟩;have h0:=(hb.block W.heap.size (by simp;omega)).trans (heap_alloc2_old W _ _);have r0:=cell_of_row w1 W.heap.size 0 _ _ _ h0;have r1:=cell_of_row w1 W.heap.size 1 _ _ _ h0;simp only [List.getElem?_toArray,List.getElem?_cons_zero,List.getElem?_cons_succ] at r0 r1;have hl0:W.heap.size<w1.heap.size:=(Array.getElem?_eq_some_iff.1 h0).1;have B1:Hid (Below W.heap.size W w1):=bstep (by repeat (first|exact Below.refl _ _|refine Below.setCell ?_ (by simp;try omega) _|refine Below.alloc ?_ (by simp;try omega) _|refine Below.drew ?_)) hb;clear hb HC h0)
        | (go_at_call 115;refine (HL.out _ B1.out).mono ?_;rintro e w2 ⟨rfl,hb⟩;replace r0:=(hb.cell (p:=⟨W.heap.size,0,none⟩) hl0).trans r0;replace r1:=(hb.cell (p:=⟨W.heap.size,1,none⟩) hl0).trans r1;have B2:Hid (Below W.heap.size W w2):=bstep B1.out hb;clear hb HL)
        | (go_at_call 187;refine (HT.out _ B2.out).mono ?_;rintro e w3 ⟨rfl,hb⟩;have B3:Hid (Below W.heap.size W w3):=bstep B2.out hb;clear hb HT))
      exact bodyPost_ret (results_tmp2 rfl _ _ _) rfl ⟨rfl,B3.out⟩
    · have e:toI ps d x s=.tuple #[.bool false,.int .i64 (ldI ps x s)]:=by rw [toI,d1];simp only [if_neg hl]
      rw [e]
      generalize ldI ps x s=R at *
      clear h d1 e d2 hB hs
      go_enter Tryz.func119,Tryz.ntmps119
      go_wp2_with (first
        | (go_at_call 146;refine (HC.out _ _ (by repeat (first|exact Below.refl _ _|refine Below.setCell ?_ (by simp;try omega) _|refine Below.alloc ?_ (by simp;try omega) _|refine Below.drew ?_)) (rds_at _ _ (by simp) _ 3 1 1 rfl (by decide))).mono ?_;rintro e w1 ⟨rfl,hb⟩;have h0:=(hb.block W.heap.size (by simp;omega)).trans (heap_alloc2_old W _ _);have r0:=cell_of_row w1 W.heap.size 0 _ _ _ h0;have r1:=cell_of_row w1 W.heap.size 1 _ _ _ h0;simp only [List.getElem?_toArray,List.getElem?_cons_zero,List.getElem?_cons_succ] at r0 r1;have hl0:W.heap.size<w1.heap.size:=(Array.getElem?_eq_some_iff.1 h0).1;have B1:Hid (Below W.heap.size W w1):=bstep (by repeat (first|exact Below.refl _ _|refine Below.setCell ?_ (by simp;try omega) _|refine Below.alloc ?_ (by simp;try omega) _|refine Below.drew ?_)) hb;clear hb HC h0)
        | (go_at_call 115;refine (HL.out _ B1.out).mono ?_;rintro e w2 ⟨rfl,hb⟩;have B2:Hid (Below W.heap.size W w2):=bstep B1.out hb;clear hb HL))
      exact bodyPost_ret (results_tmp2 rfl _ _ _) rfl ⟨rfl,B2.out⟩
def intB (d:Int) (s:ByteArray):Bool:=(d == 0)&&s.toList.isEmpty
theorem isInt_c (d:Int) (s:ByteArray) (W:World):Calls Tryz.prog 116 #[.agg #[.int .i64 d,.string s]] W fun e w'=>e=.returned (.bool (intB d s))∧Below W.heap.size W w':=by
  obtain ⟨R,hR⟩:∃ R,intB d s=R:=⟨_,rfl⟩
  have HR:Hid (((d == 0)&&s.toList.isEmpty)=R):=hR
  rw [hR]
  clear hR
  go_enter Tryz.func116,Tryz.ntmps116
  go_wp2
  all_goals go_ret
  all_goals exact ⟨retB (by rw [← HR.out];simp [*]),(by repeat (first|exact Below.refl _ _|refine Below.setCell ?_ (by simp;try omega) _|refine Below.alloc ?_ (by simp;try omega) _|refine Below.drew ?_))⟩
def sObj:List UInt8:=[79,98,106,101,99,116]
def sClo:List UInt8:=[67,108,111,110,101,97,98,108,101]
def sSer:List UInt8:=[83,101,114,105,97,108,105,122,97,98,108,101]
def abv3:List (List UInt8):=[sObj,sClo,sSer]
theorem above3_c (W:World):Calls Tryz.prog 189 #[] W fun e w'=>(∃ v,e=.returned v∧IsStrs w' v abv3)∧Below W.heap.size W w':=by
  go_enter Tryz.func189,Tryz.ntmps189
  go_wp2
  refine bodyPost_ret (results_tmp rfl _ _ _) rfl ⟨⟨_,rfl,_,_,rfl,by decide,by decide,fun _=>⟨W.heap.size,0,rfl,by simp,fun k p hk=>?_⟩⟩,(by repeat (first|exact Below.refl _ _|refine Below.setCell ?_ (by simp;try omega) _|refine Below.alloc ?_ (by simp;try omega) _|refine Below.drew ?_))⟩
  match k,hk with
  | 0,hk=>cases hk;simp [go_sem,sObj]
  | 1,hk=>cases hk;simp [go_sem,sClo]
  | 2,hk=>cases hk;simp [go_sem,sSer]
  | (k+3),hk=>simp [abv3] at hk
theorem aExt_c {b:Nat} {ps:List Plc} {W:World} (h:WAt b ps W) (hi:WI ps) (s t:ByteArray) (hs:s.size≤maxLen) (ht:t.size≤maxLen) (x y:Nat) (hx:lookL ps s.data.toList=some x) (hy:lookL ps t.data.toList=some y):Calls Tryz.prog 190 #[.pointer (some ⟨b,0,none⟩),.string s,.string t] W fun e w'=>e=.returned (.bool (extB (ps.map nd) x y))∧Below W.heap.size W w':=by
  obtain ⟨p,hp,_⟩:=look_place hx
  obtain ⟨q,hq,_⟩:=look_place hy
  have he:extI ps x y=extB (ps.map nd) x y:=by rw [extI,plcI_nat,plcI_nat,hp,hq];rfl
  have HX:Hid (∀ u w,Below W.heap.size W w→u=s→Calls Tryz.prog 117 #[.pointer (some ⟨b,0,none⟩),.string u] w fun e w'=>e=.returned (.tuple #[.int .i64 (x:Int),.int .i64 0])∧Below W.heap.size W w'):=fun u w hb hu=>(byName_c (h.below hb) u (by rw [hu];exact hs)).mono fun e w' zz=>⟨by rw [zz.1,hu,hx];rfl,bstep hb zz.2⟩
  have HY:Hid (∀ u w,Below W.heap.size W w→u=t→Calls Tryz.prog 117 #[.pointer (some ⟨b,0,none⟩),.string u] w fun e w'=>e=.returned (.tuple #[.int .i64 (y:Int),.int .i64 0])∧Below W.heap.size W w'):=fun u w hb hu=>(byName_c (h.below hb) u (by rw [hu];exact ht)).mono fun e w' zz=>⟨by rw [zz.1,hu,hy];rfl,bstep hb zz.2⟩
  have HE:Hid (∀ w,Below W.heap.size W w→Calls Tryz.prog 29 #[.pointer (some ⟨b,0,none⟩),.int .i64 (x:Int),.int .i64 (y:Int)] w fun e w'=>e=.returned (.bool (extB (ps.map nd) x y))∧Below W.heap.size W w'):=fun w hb=>(extends_c (h.below hb) hi x y).mono fun e w' zz=>⟨by rw [zz.1,he],bstep hb zz.2⟩
  generalize extB (ps.map nd) x y=R at *
  clear h hi hs ht hx hy hp hq he
  go_enter Tryz.func190,Tryz.ntmps190
  go_wp2_with (first
    | (go_at_call 117;refine (HX.out _ _ (Below.refl _ _) (by rfl)).mono ?_;rintro e w1 ⟨rfl,hb⟩;have B1:Hid (Below W.heap.size W w1):=hb;clear hb HX)
    | (go_at_call 117;refine (HY.out _ _ B1.out (by rfl)).mono ?_;rintro e w2 ⟨rfl,hb⟩;have B2:Hid (Below W.heap.size W w2):=hb;clear hb HY)
    | (go_at_call 29;refine (HE.out _ B2.out).mono ?_;rintro e w3 ⟨rfl,hb⟩;have B3:Hid (Below W.heap.size W w3):=hb;clear hb HE))
  exact bodyPost_ret (results_tmp rfl _ _ _) rfl ⟨rfl,B3.out⟩
theorem lby_c {b:Nat} {ps:List Plc} {W:World} (h:WAt b ps W) (hi:WI ps) (c:Int) (y:Bool) (cn nm ds:ByteArray):Calls Tryz.prog 74 #[.pointer (some ⟨b,0,none⟩),.int .i64 c,.agg #[.bool y,.string cn,.string nm,.string ds]] W fun e w'=>e=.returned (idE (lbyR ps y nm ds c))∧Below W.heap.size W w':=by
  have HL:Hid (∀ w,Below W.heap.size W w→Calls Tryz.prog 145 #[.pointer (some ⟨b,0,none⟩),.int .i64 c,.string nm,.string ds] w fun e w'=>e=.returned (idE (lookR ps nm ds c))∧Below w.heap.size w w'):=fun w hb=>look_c (h.below hb) hi c nm ds
  have HF:Hid (∀ w,Below W.heap.size W w→Calls Tryz.prog 144 #[.pointer (some ⟨b,0,none⟩),.int .i64 c,.string nm,.string ds] w fun e w'=>e=.returned (idE (lifR ps nm ds c))∧Below w.heap.size w w'):=fun w hb=>lif_c (h.below hb) hi c nm ds
  unfold lbyR
  generalize lookR ps nm ds c=R at *
  generalize lifR ps nm ds c=S at *
  obtain ⟨⟨R1,R2⟩,R3⟩:=R
  obtain ⟨⟨S1,S2⟩,S3⟩:=S
  simp only [idE] at HL HF
  clear h hi
  cases y with
  | true =>
    rw [if_pos rfl]
    go_enter Tryz.func74,Tryz.ntmps74
    go_wp2_with (first
      | (go_at_call 144;refine (HF.out _ (by repeat (first|exact Below.refl _ _|refine Below.setCell ?_ (by simp;try omega) _|refine Below.alloc ?_ (by simp;try omega) _|refine Below.drew ?_))).mono ?_;rintro e w2 ⟨rfl,hb⟩;have zd:w2.heap[W.heap.size+1]?=some (.cells #[.int .i64 0,.int .i64 0] 24 (0,0)):=(hb.block (W.heap.size+1) (by first|omega|(simp;try omega))).trans (by first|exact zB.out|exact hkeep zB.out|exact hkeep (hkeep zB.out)|exact halloc2 _ _ rfl|exact heap_alloc2_old _ _ _|exact heap_alloc2_new _ _ _|exact hkeep (halloc2 _ _ rfl)|exact hkeep (hkeep (halloc2 _ _ rfl))|exact halloc2 _ _ (by simp;done));(try clear zB zL zN z0 z1 zf0 zf1);have zB:Hid (w2.heap[W.heap.size+1]?=some (.cells #[.int .i64 0,.int .i64 0] 24 (0,0))):=zd;have z0:w2.cell? ⟨W.heap.size+1,0,none⟩=some (.int .i64 0):=(cell_of_row w2 (W.heap.size+1) 0 _ _ _ zd).trans rfl;have zf0:=frozen_of_row w2 (W.heap.size+1) 0 _ _ zd;have z1:w2.cell? ⟨W.heap.size+1,1,none⟩=some (.int .i64 0):=(cell_of_row w2 (W.heap.size+1) 1 _ _ _ zd).trans rfl;have zf1:=frozen_of_row w2 (W.heap.size+1) 1 _ _ zd;have zL:W.heap.size+1<w2.heap.size:=(Array.getElem?_eq_some_iff.1 zd).1;have zN:¬ W.heap.size+1=w2.heap.size:=(by omega);clear zd;have B2:Hid (Below W.heap.size W w2):=bstep (by repeat (first|exact Below.refl _ _|refine Below.setCell ?_ (by simp;try omega) _|refine Below.alloc ?_ (by simp;try omega) _|refine Below.drew ?_)) hb;clear hb HF))
    exact bodyPost_ret (v:=idE ((S1,S2),S3)) (by simp [results,Tryz.results74,go_sem,idE, *]) rfl ⟨rfl,(by repeat (first|exact B2.out|refine Below.setCell ?_ (by simp;try omega) _|refine Below.alloc ?_ (by have:=B2.out.size;simp;try omega) _|refine Below.drew ?_))⟩
  | false =>
    rw [if_neg (by simp)]
    go_enter Tryz.func74,Tryz.ntmps74
    go_wp2_with (first
      | (go_at_call 145;refine (HL.out _ (by repeat (first|exact Below.refl _ _|refine Below.setCell ?_ (by simp;try omega) _|refine Below.alloc ?_ (by simp;try omega) _|refine Below.drew ?_))).mono ?_;rintro e w2 ⟨rfl,hb⟩;have zd:w2.heap[W.heap.size+1]?=some (.cells #[.int .i64 0,.int .i64 0] 24 (0,0)):=(hb.block (W.heap.size+1) (by first|omega|(simp;try omega))).trans (by first|exact zB.out|exact hkeep zB.out|exact hkeep (hkeep zB.out)|exact halloc2 _ _ rfl|exact heap_alloc2_old _ _ _|exact heap_alloc2_new _ _ _|exact hkeep (halloc2 _ _ rfl)|exact hkeep (hkeep (halloc2 _ _ rfl))|exact halloc2 _ _ (by simp;done));(try clear zB zL zN z0 z1 zf0 zf1);have zB:Hid (w2.heap[W.heap.size+1]?=some (.cells #[.int .i64 0,.int .i64 0] 24 (0,0))):=zd;have z0:w2.cell? ⟨W.heap.size+1,0,none⟩=some (.int .i64 0):=(cell_of_row w2 (W.heap.size+1) 0 _ _ _ zd).trans rfl;have zf0:=frozen_of_row w2 (W.heap.size+1) 0 _ _ zd;have z1:w2.cell? ⟨W.heap.size+1,1,none⟩=some (.int .i64 0):=(cell_of_row w2 (W.heap.size+1) 1 _ _ _ zd).trans rfl;have zf1:=frozen_of_row w2 (W.heap.size+1) 1 _ _ zd;have zL:W.heap.size+1<w2.heap.size:=(Array.getElem?_eq_some_iff.1 zd).1;have zN:¬ W.heap.size+1=w2.heap.size:=(by omega);clear zd;have B2:Hid (Below W.heap.size W w2):=bstep (by repeat (first|exact Below.refl _ _|refine Below.setCell ?_ (by simp;try omega) _|refine Below.alloc ?_ (by simp;try omega) _|refine Below.drew ?_)) hb;clear hb HL))
    exact bodyPost_ret (v:=idE ((R1,R2),R3)) (by simp [results,Tryz.results74,go_sem,idE, *]) rfl ⟨rfl,(by repeat (first|exact B2.out|refine Below.setCell ?_ (by simp;try omega) _|refine Below.alloc ?_ (by have:=B2.out.size;simp;try omega) _|refine Below.drew ?_))⟩
def toP (ps:List Plc) (d x:Int) (s:ByteArray):Bool×Int:=match plcI ps d with
  | some p=>if ldI ps x s=0 then (tyO ps p s,0) else (false,ldI ps x s)
  | none=>(false,3)
theorem toI_eq (ps:List Plc) (d x:Int) (s:ByteArray):toI ps d x s=.tuple #[.bool (toP ps d x s).1,.int .i64 (toP ps d x s).2]:=by
  unfold toI toP
  cases plcI ps d with
  | none=>rfl
  | some p=>by_cases h:ldI ps x s=0 <;> simp [h]
def tyE (x:(Int×ByteArray)×Int):Value:=.tuple #[.agg #[.int .i64 x.1.1,.string x.1.2],.int .i64 x.2]
def tyS (l:List UInt8):ByteArray:=⟨(prfT l).2.toArray⟩
def tyX (ps:List Plc) (d:Int) (l:List UInt8):Int:=shuI (toP ps d (prfT l).1 (tyS l)).1 (toP ps d (prfT l).1 (tyS l)).2
def clsR (ps:List Plc) (d:Int) (l:List UInt8):(Int×ByteArray)×Int :=
  if rckI ps d=0 then (if prfE l=0 then (if tyX ps d l=0 then ((((prfT l).1:Int),tyS l),0) else ((0,⟨#[]⟩),tyX ps d l)) else ((0,⟨#[]⟩),4)) else ((0,⟨#[]⟩),rckI ps d)
theorem prf_len2 (l:List UInt8) (h:prfE l=0):(prfT l).2.length≤2000∧(prfT l).1≤2000:=by
  unfold prfE at h
  unfold prfT
  by_cases h1:2000<l.length
  · rw [if_pos h1] at h;exact absurd h (by decide)
  · rw [if_neg h1] at h
    rw [if_neg h1]
    by_cases h2:l.head?=some 91
    · rw [if_pos h2] at h
      rw [if_pos h2]
      unfold parT
      rw [if_pos h]
      split
      · rename_i t r e
        have hw:=(write_read e).1
        have hl:=congrArg List.length hw
        rw [List.length_append,writeT_length] at hl
        split at hl
        · rename_i e0;rw [e0];simp;omega
        · omega
      all_goals simp
    · rw [if_neg h2] at h
      rw [if_neg h2]
      split
      · simp;omega
      · simp
set_option maxHeartbeats 1000000 in
theorem cls_c {b:Nat} {ps:List Plc} {W:World} (h:WAt b ps W) (hi:WI ps) (d:Int) (s:ByteArray) (hs:s.size≤maxLen):Calls Tryz.prog 49 #[.pointer (some ⟨b,0,none⟩),.int .i64 d,.string s] W fun e w'=>e=.returned (tyE (clsR ps d s.data.toList))∧Below W.heap.size W w':=by
  have HC:Hid (∀ w,Below W.heap.size W w→Calls Tryz.prog 72 #[.pointer (some ⟨b,0,none⟩),.int .i64 d] w fun e w'=>e=.returned (.int .i64 (rckI ps d))∧Below w.heap.size w w'):=fun w hb=>(rck_c (h.below hb) d).mono fun e w' zz=>⟨zz.1,by rw [zz.2];exact Below.refl _ _⟩
  have HP:Hid (∀ w:World,Calls Tryz.prog 118 #[.string s] w fun e w'=>e=.returned (.tuple #[.agg #[.int .i64 ((prfT s.data.toList).1:Int),.string (tyS s.data.toList)],.int .i64 (prfE s.data.toList)])∧Below w.heap.size w w'):=parseRef_any s hs
  have HS:Hid (∀ o x (w:World),Calls Tryz.prog 75 #[.bool o,.int .i64 x] w fun e w'=>e=.returned (.int .i64 (shuI o x))∧w'=w):=shut_c
  have HT:Hid (prfE s.data.toList=0→∀ w,Below W.heap.size W w→Calls Tryz.prog 119 #[.pointer (some ⟨b,0,none⟩),.int .i64 d,.agg #[.int .i64 ((prfT s.data.toList).1:Int),.string (tyS s.data.toList)]] w fun e w'=>e=.returned (.tuple #[.bool (toP ps d (prfT s.data.toList).1 (tyS s.data.toList)).1,.int .i64 (toP ps d (prfT s.data.toList).1 (tyS s.data.toList)).2])∧Below w.heap.size w w'):=fun h0 w hb=>by
    have hl:=(prf_len2 _ h0).1
    refine (typeOpen_c (h.below hb) hi.pb d _ _ ?_).mono fun e w' zz=>⟨by rw [zz.1,toI_eq],zz.2⟩
    have:(tyS s.data.toList).size=(prfT s.data.toList).2.length:=by simp [tyS,ByteArray.size]
    rw [this];unfold maxLen;omega
  unfold clsR tyX
  generalize ((prfT s.data.toList).1:Int)=x at *
  generalize tyS s.data.toList=t at *
  generalize toP ps d x t=P at *
  obtain ⟨P1,P2⟩:=P
  simp only at HT ⊢
  generalize prfE s.data.toList=pe at *
  generalize rckI ps d=ck at *
  replace HS:Hid (∀ (w:World),Calls Tryz.prog 75 #[.bool P1,.int .i64 P2] w fun e w'=>e=.returned (.int .i64 (shuI P1 P2))∧w'=w):=HS.out P1 P2
  generalize shuI P1 P2=sh at *
  clear h hi hs
  by_cases h0:ck=0
  · subst h0
    rw [if_pos rfl]
    by_cases h1:pe=0
    · subst h1
      rw [if_pos rfl]
      replace HT:Hid (∀ w,Below W.heap.size W w→Calls Tryz.prog 119 #[.pointer (some ⟨b,0,none⟩),.int .i64 d,.agg #[.int .i64 x,.string t]] w fun e w'=>e=.returned (.tuple #[.bool P1,.int .i64 P2])∧Below w.heap.size w w'):=HT.out rfl
      by_cases h2:sh=0
      · subst h2
        rw [if_pos rfl]
        go_enter Tryz.func49,Tryz.ntmps49
        go_wp2_with (first
          | (go_at_call 72;refine (HC.out _ (by repeat (first|exact Below.refl _ _|refine Below.setCell ?_ (by simp;try omega) _|refine Below.alloc ?_ (by simp;try omega) _|refine Below.drew ?_))).mono ?_;rintro e w1 ⟨rfl,hb⟩;have zd:w1.heap[W.heap.size]?=some (.cells #[.int .i64 0,.string ⟨#[]⟩] 58 (0,0)):=(hb.block (W.heap.size) (by first|omega|(simp;try omega))).trans (by first|exact zB.out|exact hkeep zB.out|exact hkeep (hkeep zB.out)|exact halloc2 _ _ rfl|exact heap_alloc2_old _ _ _|exact heap_alloc2_new _ _ _|exact hkeep (halloc2 _ _ rfl)|exact hkeep (hkeep (halloc2 _ _ rfl))|exact halloc2 _ _ (by simp;done));(try clear zB zL zN z0 z1 zf0 zf1);have zB:Hid (w1.heap[W.heap.size]?=some (.cells #[.int .i64 0,.string ⟨#[]⟩] 58 (0,0))):=zd;have z0:w1.cell? ⟨W.heap.size,0,none⟩=some (.int .i64 0):=(cell_of_row w1 (W.heap.size) 0 _ _ _ zd).trans rfl;have zf0:=frozen_of_row w1 (W.heap.size) 0 _ _ zd;have z1:w1.cell? ⟨W.heap.size,1,none⟩=some (.string ⟨#[]⟩):=(cell_of_row w1 (W.heap.size) 1 _ _ _ zd).trans rfl;have zf1:=frozen_of_row w1 (W.heap.size) 1 _ _ zd;have zL:W.heap.size<w1.heap.size:=(Array.getElem?_eq_some_iff.1 zd).1;have zN:¬ W.heap.size=w1.heap.size:=(by omega);clear zd;have B1:Hid (Below W.heap.size W w1):=bstep (by repeat (first|exact Below.refl _ _|refine Below.setCell ?_ (by simp;try omega) _|refine Below.alloc ?_ (by simp;try omega) _|refine Below.drew ?_)) hb;clear hb HC)
          | (go_at_call 118;refine (HP.out _).mono ?_;rintro e w2 ⟨rfl,hb⟩;have zd:w2.heap[W.heap.size]?=some (.cells #[.int .i64 0,.string ⟨#[]⟩] 58 (0,0)):=(hb.block (W.heap.size) (by first|omega|(simp;try omega))).trans (by first|exact zB.out|exact hkeep zB.out|exact hkeep (hkeep zB.out)|exact halloc2 _ _ rfl|exact heap_alloc2_old _ _ _|exact heap_alloc2_new _ _ _|exact hkeep (halloc2 _ _ rfl)|exact hkeep (hkeep (halloc2 _ _ rfl))|exact halloc2 _ _ (by simp;done));(try clear zB zL zN z0 z1 zf0 zf1);have zB:Hid (w2.heap[W.heap.size]?=some (.cells #[.int .i64 0,.string ⟨#[]⟩] 58 (0,0))):=zd;have z0:w2.cell? ⟨W.heap.size,0,none⟩=some (.int .i64 0):=(cell_of_row w2 (W.heap.size) 0 _ _ _ zd).trans rfl;have zf0:=frozen_of_row w2 (W.heap.size) 0 _ _ zd;have z1:w2.cell? ⟨W.heap.size,1,none⟩=some (.string ⟨#[]⟩):=(cell_of_row w2 (W.heap.size) 1 _ _ _ zd).trans rfl;have zf1:=frozen_of_row w2 (W.heap.size) 1 _ _ zd;have zL:W.heap.size<w2.heap.size:=(Array.getElem?_eq_some_iff.1 zd).1;have zN:¬ W.heap.size=w2.heap.size:=(by omega);clear zd;have B2:Hid (Below W.heap.size W w2):=bstep B1.out hb;clear hb HP)
          | (go_at_call 119;refine (HT.out _ (B2.out.alloc B2.out.size _)).mono ?_;rintro e w3 ⟨rfl,hb⟩;have hn3:¬ w2.heap.size=W.heap.size:=(by omega);have hm3:¬ W.heap.size=w2.heap.size:=(by omega);have zd:w3.heap[W.heap.size]?=some (.cells #[.int .i64 0,.string ⟨#[]⟩] 58 (0,0)):=(hb.block (W.heap.size) (by first|omega|(simp;try omega))).trans (by first|exact zB.out|exact hkeep zB.out|exact hkeep (hkeep zB.out)|exact halloc2 _ _ rfl|exact heap_alloc2_old _ _ _|exact heap_alloc2_new _ _ _|exact hkeep (halloc2 _ _ rfl)|exact hkeep (hkeep (halloc2 _ _ rfl))|exact halloc2 _ _ (by simp;done));(try clear zB zL zN z0 z1 zf0 zf1);have zB:Hid (w3.heap[W.heap.size]?=some (.cells #[.int .i64 0,.string ⟨#[]⟩] 58 (0,0))):=zd;have z0:w3.cell? ⟨W.heap.size,0,none⟩=some (.int .i64 0):=(cell_of_row w3 (W.heap.size) 0 _ _ _ zd).trans rfl;have zf0:=frozen_of_row w3 (W.heap.size) 0 _ _ zd;have z1:w3.cell? ⟨W.heap.size,1,none⟩=some (.string ⟨#[]⟩):=(cell_of_row w3 (W.heap.size) 1 _ _ _ zd).trans rfl;have zf1:=frozen_of_row w3 (W.heap.size) 1 _ _ zd;have zL:W.heap.size<w3.heap.size:=(Array.getElem?_eq_some_iff.1 zd).1;have zN:¬ W.heap.size=w3.heap.size:=(by omega);clear zd;have gd:w3.heap[w2.heap.size]?=some (.cells #[.int .i64 x,.string t] 58 (0,0)):=(hb.block (w2.heap.size) (by first|omega|(simp;try omega))).trans (by first|exact gB.out|exact hkeep gB.out|exact hkeep (hkeep gB.out)|exact halloc2 _ _ rfl|exact heap_alloc2_old _ _ _|exact heap_alloc2_new _ _ _|exact hkeep (halloc2 _ _ rfl)|exact hkeep (hkeep (halloc2 _ _ rfl))|exact halloc2 _ _ (by simp;done));(try clear gB gL gN g0 g1 gf0 gf1);have gB:Hid (w3.heap[w2.heap.size]?=some (.cells #[.int .i64 x,.string t] 58 (0,0))):=gd;have g0:w3.cell? ⟨w2.heap.size,0,none⟩=some (.int .i64 x):=(cell_of_row w3 (w2.heap.size) 0 _ _ _ gd).trans rfl;have gf0:=frozen_of_row w3 (w2.heap.size) 0 _ _ gd;have g1:w3.cell? ⟨w2.heap.size,1,none⟩=some (.string t):=(cell_of_row w3 (w2.heap.size) 1 _ _ _ gd).trans rfl;have gf1:=frozen_of_row w3 (w2.heap.size) 1 _ _ gd;have gL:w2.heap.size<w3.heap.size:=(Array.getElem?_eq_some_iff.1 gd).1;have gN:¬ w2.heap.size=w3.heap.size:=(by omega);clear gd;have B3:Hid (Below W.heap.size W w3):=bstep (B2.out.alloc B2.out.size _) hb;clear hb HT)
          | (go_at_call 75;refine (HS.out _).mono ?_;rintro e w9 ⟨rfl,hw9⟩;rw [hw9];clear hw9 w9))
        exact bodyPost_ret (v:=tyE ((x,t),0)) (by simp [results,Tryz.results49,go_sem,tyE, *]) rfl ⟨rfl,(by repeat (first|exact B3.out|refine Below.setCell ?_ (by simp;try omega) _|refine Below.alloc ?_ (by have:=B3.out.size;simp;try omega) _|refine Below.drew ?_))⟩
      · rw [if_neg h2]
        go_enter Tryz.func49,Tryz.ntmps49
        go_wp2_with (first
          | (go_at_call 72;refine (HC.out _ (by repeat (first|exact Below.refl _ _|refine Below.setCell ?_ (by simp;try omega) _|refine Below.alloc ?_ (by simp;try omega) _|refine Below.drew ?_))).mono ?_;rintro e w1 ⟨rfl,hb⟩;have zd:w1.heap[W.heap.size]?=some (.cells #[.int .i64 0,.string ⟨#[]⟩] 58 (0,0)):=(hb.block (W.heap.size) (by first|omega|(simp;try omega))).trans (by first|exact zB.out|exact hkeep zB.out|exact hkeep (hkeep zB.out)|exact halloc2 _ _ rfl|exact heap_alloc2_old _ _ _|exact heap_alloc2_new _ _ _|exact hkeep (halloc2 _ _ rfl)|exact hkeep (hkeep (halloc2 _ _ rfl))|exact halloc2 _ _ (by simp;done));(try clear zB zL zN z0 z1 zf0 zf1);have zB:Hid (w1.heap[W.heap.size]?=some (.cells #[.int .i64 0,.string ⟨#[]⟩] 58 (0,0))):=zd;have z0:w1.cell? ⟨W.heap.size,0,none⟩=some (.int .i64 0):=(cell_of_row w1 (W.heap.size) 0 _ _ _ zd).trans rfl;have zf0:=frozen_of_row w1 (W.heap.size) 0 _ _ zd;have z1:w1.cell? ⟨W.heap.size,1,none⟩=some (.string ⟨#[]⟩):=(cell_of_row w1 (W.heap.size) 1 _ _ _ zd).trans rfl;have zf1:=frozen_of_row w1 (W.heap.size) 1 _ _ zd;have zL:W.heap.size<w1.heap.size:=(Array.getElem?_eq_some_iff.1 zd).1;have zN:¬ W.heap.size=w1.heap.size:=(by omega);clear zd;have B1:Hid (Below W.heap.size W w1):=bstep (by repeat (first|exact Below.refl _ _|refine Below.setCell ?_ (by simp;try omega) _|refine Below.alloc ?_ (by simp;try omega) _|refine Below.drew ?_)) hb;clear hb HC)
          | (go_at_call 118;refine (HP.out _).mono ?_;rintro e w2 ⟨rfl,hb⟩;have zd:w2.heap[W.heap.size]?=some (.cells #[.int .i64 0,.string ⟨#[]⟩] 58 (0,0)):=(hb.block (W.heap.size) (by first|omega|(simp;try omega))).trans (by first|exact zB.out|exact hkeep zB.out|exact hkeep (hkeep zB.out)|exact halloc2 _ _ rfl|exact heap_alloc2_old _ _ _|exact heap_alloc2_new _ _ _|exact hkeep (halloc2 _ _ rfl)|exact hkeep (hkeep (halloc2 _ _ rfl))|exact halloc2 _ _ (by simp;done));(try clear zB zL zN z0 z1 zf0 zf1);have zB:Hid (w2.heap[W.heap.size]?=some (.cells #[.int .i64 0,.string ⟨#[]⟩] 58 (0,0))):=zd;have z0:w2.cell? ⟨W.heap.size,0,none⟩=some (.int .i64 0):=(cell_of_row w2 (W.heap.size) 0 _ _ _ zd).trans rfl;have zf0:=frozen_of_row w2 (W.heap.size) 0 _ _ zd;have z1:w2.cell? ⟨W.heap.size,1,none⟩=some (.string ⟨#[]⟩):=(cell_of_row w2 (W.heap.size) 1 _ _ _ zd).trans rfl;have zf1:=frozen_of_row w2 (W.heap.size) 1 _ _ zd;have zL:W.heap.size<w2.heap.size:=(Array.getElem?_eq_some_iff.1 zd).1;have zN:¬ W.heap.size=w2.heap.size:=(by omega);clear zd;have B2:Hid (Below W.heap.size W w2):=bstep B1.out hb;clear hb HP)
          | (go_at_call 119;refine (HT.out _ (B2.out.alloc B2.out.size _)).mono ?_;rintro e w3 ⟨rfl,hb⟩;have zd:w3.heap[W.heap.size]?=some (.cells #[.int .i64 0,.string ⟨#[]⟩] 58 (0,0)):=(hb.block (W.heap.size) (by first|omega|(simp;try omega))).trans (by first|exact zB.out|exact hkeep zB.out|exact hkeep (hkeep zB.out)|exact halloc2 _ _ rfl|exact heap_alloc2_old _ _ _|exact heap_alloc2_new _ _ _|exact hkeep (halloc2 _ _ rfl)|exact hkeep (hkeep (halloc2 _ _ rfl))|exact halloc2 _ _ (by simp;done));(try clear zB zL zN z0 z1 zf0 zf1);have zB:Hid (w3.heap[W.heap.size]?=some (.cells #[.int .i64 0,.string ⟨#[]⟩] 58 (0,0))):=zd;have z0:w3.cell? ⟨W.heap.size,0,none⟩=some (.int .i64 0):=(cell_of_row w3 (W.heap.size) 0 _ _ _ zd).trans rfl;have zf0:=frozen_of_row w3 (W.heap.size) 0 _ _ zd;have z1:w3.cell? ⟨W.heap.size,1,none⟩=some (.string ⟨#[]⟩):=(cell_of_row w3 (W.heap.size) 1 _ _ _ zd).trans rfl;have zf1:=frozen_of_row w3 (W.heap.size) 1 _ _ zd;have zL:W.heap.size<w3.heap.size:=(Array.getElem?_eq_some_iff.1 zd).1;have zN:¬ W.heap.size=w3.heap.size:=(by omega);clear zd;have B3:Hid (Below W.heap.size W w3):=bstep (B2.out.alloc B2.out.size _) hb;clear hb HT)
          | (go_at_call 75;refine (HS.out _).mono ?_;rintro e w9 ⟨rfl,hw9⟩;rw [hw9];clear hw9 w9))
        exact bodyPost_ret (v:=tyE ((0,⟨#[]⟩),sh)) (by simp [results,Tryz.results49,go_sem,tyE, *]) rfl ⟨rfl,(by repeat (first|exact B3.out|refine Below.setCell ?_ (by simp;try omega) _|refine Below.alloc ?_ (by have:=B3.out.size;simp;try omega) _|refine Below.drew ?_))⟩
    · rw [if_neg h1]
      go_enter Tryz.func49,Tryz.ntmps49
      go_wp2_with (first
        | (go_at_call 72;refine (HC.out _ (by repeat (first|exact Below.refl _ _|refine Below.setCell ?_ (by simp;try omega) _|refine Below.alloc ?_ (by simp;try omega) _|refine Below.drew ?_))).mono ?_;rintro e w1 ⟨rfl,hb⟩;have zd:w1.heap[W.heap.size]?=some (.cells #[.int .i64 0,.string ⟨#[]⟩] 58 (0,0)):=(hb.block (W.heap.size) (by first|omega|(simp;try omega))).trans (by first|exact zB.out|exact hkeep zB.out|exact hkeep (hkeep zB.out)|exact halloc2 _ _ rfl|exact heap_alloc2_old _ _ _|exact heap_alloc2_new _ _ _|exact hkeep (halloc2 _ _ rfl)|exact hkeep (hkeep (halloc2 _ _ rfl))|exact halloc2 _ _ (by simp;done));(try clear zB zL zN z0 z1 zf0 zf1);have zB:Hid (w1.heap[W.heap.size]?=some (.cells #[.int .i64 0,.string ⟨#[]⟩] 58 (0,0))):=zd;have z0:w1.cell? ⟨W.heap.size,0,none⟩=some (.int .i64 0):=(cell_of_row w1 (W.heap.size) 0 _ _ _ zd).trans rfl;have zf0:=frozen_of_row w1 (W.heap.size) 0 _ _ zd;have z1:w1.cell? ⟨W.heap.size,1,none⟩=some (.string ⟨#[]⟩):=(cell_of_row w1 (W.heap.size) 1 _ _ _ zd).trans rfl;have zf1:=frozen_of_row w1 (W.heap.size) 1 _ _ zd;have zL:W.heap.size<w1.heap.size:=(Array.getElem?_eq_some_iff.1 zd).1;have zN:¬ W.heap.size=w1.heap.size:=(by omega);clear zd;have B1:Hid (Below W.heap.size W w1):=bstep (by repeat (first|exact Below.refl _ _|refine Below.setCell ?_ (by simp;try omega) _|refine Below.alloc ?_ (by simp;try omega) _|refine Below.drew ?_)) hb;clear hb HC)
        | (go_at_call 118;refine (HP.out _).mono ?_;rintro e w2 ⟨rfl,hb⟩;have zd:w2.heap[W.heap.size]?=some (.cells #[.int .i64 0,.string ⟨#[]⟩] 58 (0,0)):=(hb.block (W.heap.size) (by first|omega|(simp;try omega))).trans (by first|exact zB.out|exact hkeep zB.out|exact hkeep (hkeep zB.out)|exact halloc2 _ _ rfl|exact heap_alloc2_old _ _ _|exact heap_alloc2_new _ _ _|exact hkeep (halloc2 _ _ rfl)|exact hkeep (hkeep (halloc2 _ _ rfl))|exact halloc2 _ _ (by simp;done));(try clear zB zL zN z0 z1 zf0 zf1);have zB:Hid (w2.heap[W.heap.size]?=some (.cells #[.int .i64 0,.string ⟨#[]⟩] 58 (0,0))):=zd;have z0:w2.cell? ⟨W.heap.size,0,none⟩=some (.int .i64 0):=(cell_of_row w2 (W.heap.size) 0 _ _ _ zd).trans rfl;have zf0:=frozen_of_row w2 (W.heap.size) 0 _ _ zd;have z1:w2.cell? ⟨W.heap.size,1,none⟩=some (.string ⟨#[]⟩):=(cell_of_row w2 (W.heap.size) 1 _ _ _ zd).trans rfl;have zf1:=frozen_of_row w2 (W.heap.size) 1 _ _ zd;have zL:W.heap.size<w2.heap.size:=(Array.getElem?_eq_some_iff.1 zd).1;have zN:¬ W.heap.size=w2.heap.size:=(by omega);clear zd;have B2:Hid (Below W.heap.size W w2):=bstep B1.out hb;clear hb HP))
      exact bodyPost_ret (v:=tyE ((0,⟨#[]⟩),4)) (by simp [results,Tryz.results49,go_sem,tyE, *]) rfl ⟨rfl,(by repeat (first|exact B2.out|refine Below.setCell ?_ (by simp;try omega) _|refine Below.alloc ?_ (by have:=B2.out.size;simp;try omega) _|refine Below.drew ?_))⟩
  · rw [if_neg h0]
    go_enter Tryz.func49,Tryz.ntmps49
    go_wp2_with (first
      | (go_at_call 72;refine (HC.out _ (by repeat (first|exact Below.refl _ _|refine Below.setCell ?_ (by simp;try omega) _|refine Below.alloc ?_ (by simp;try omega) _|refine Below.drew ?_))).mono ?_;rintro e w2 ⟨rfl,hb⟩;have zd:w2.heap[W.heap.size]?=some (.cells #[.int .i64 0,.string ⟨#[]⟩] 58 (0,0)):=(hb.block (W.heap.size) (by first|omega|(simp;try omega))).trans (by first|exact zB.out|exact hkeep zB.out|exact hkeep (hkeep zB.out)|exact halloc2 _ _ rfl|exact heap_alloc2_old _ _ _|exact heap_alloc2_new _ _ _|exact hkeep (halloc2 _ _ rfl)|exact hkeep (hkeep (halloc2 _ _ rfl))|exact halloc2 _ _ (by simp;done));(try clear zB zL zN z0 z1 zf0 zf1);have zB:Hid (w2.heap[W.heap.size]?=some (.cells #[.int .i64 0,.string ⟨#[]⟩] 58 (0,0))):=zd;have z0:w2.cell? ⟨W.heap.size,0,none⟩=some (.int .i64 0):=(cell_of_row w2 (W.heap.size) 0 _ _ _ zd).trans rfl;have zf0:=frozen_of_row w2 (W.heap.size) 0 _ _ zd;have z1:w2.cell? ⟨W.heap.size,1,none⟩=some (.string ⟨#[]⟩):=(cell_of_row w2 (W.heap.size) 1 _ _ _ zd).trans rfl;have zf1:=frozen_of_row w2 (W.heap.size) 1 _ _ zd;have zL:W.heap.size<w2.heap.size:=(Array.getElem?_eq_some_iff.1 zd).1;have zN:¬ W.heap.size=w2.heap.size:=(by omega);clear zd;have B2:Hid (Below W.heap.size W w2):=bstep (by repeat (first|exact Below.refl _ _|refine Below.setCell ?_ (by simp;try omega) _|refine Below.alloc ?_ (by simp;try omega) _|refine Below.drew ?_)) hb;clear hb HC))
    exact bodyPost_ret (v:=tyE ((0,⟨#[]⟩),ck)) (by simp [results,Tryz.results49,go_sem,tyE, *]) rfl ⟨rfl,(by repeat (first|exact B2.out|refine Below.setCell ?_ (by simp;try omega) _|refine Below.alloc ?_ (by have:=B2.out.size;simp;try omega) _|refine Below.drew ?_))⟩
def hldR (ps:List Plc) (x:Int) (s:ByteArray):Int×Int:=if ldI ps x s=0 then (if intB x s then (0,2) else if 0<x then (0,0) else match lookL ps s.data.toList with
  | some k=>((k:Int),0)
  | none=>(0,6)) else (0,ldI ps x s)
set_option maxHeartbeats 1000000 in
theorem hld_c {b:Nat} {ps:List Plc} {W:World} (h:WAt b ps W) (x:Int) (s:ByteArray) (hs:s.size≤maxLen):Calls Tryz.prog 48 #[.pointer (some ⟨b,0,none⟩),.agg #[.int .i64 x,.string s]] W fun e w'=>e=.returned (.tuple #[.int .i64 (hldR ps x s).1,.int .i64 (hldR ps x s).2])∧Below W.heap.size W w':=by
  have HL:Hid (∀ w,Below W.heap.size W w→Calls Tryz.prog 115 #[.pointer (some ⟨b,0,none⟩),.agg #[.int .i64 x,.string s]] w fun e w'=>e=.returned (.int .i64 (ldI ps x s))∧Below w.heap.size w w'):=fun w hb=>loaded_c (h.below hb) x s hs
  have HI:Hid (∀ w:World,Calls Tryz.prog 116 #[.agg #[.int .i64 x,.string s]] w fun e w'=>e=.returned (.bool (intB x s))∧Below w.heap.size w w'):=isInt_c x s
  have HN:Hid (∀ w:World,Below W.heap.size W w→Calls Tryz.prog 117 #[.pointer (some ⟨b,0,none⟩),.string s] w fun e w'=>e=.returned (bnV (lookL ps s.data.toList))∧Below w.heap.size w w'):=fun w hb=>byName_c (h.below hb) s hs
  unfold hldR
  generalize ldI ps x s=ld at *
  generalize intB x s=iB at *
  generalize lookL ps s.data.toList=lk at *
  clear h hs
  by_cases h0:ld=0
  · subst h0
    rw [if_pos rfl]
    cases iB with
    | true =>
      rw [if_pos rfl]
      go_enter Tryz.func48,Tryz.ntmps48
      go_wp2_with (first
        | (go_at_call 115;refine (HL.out _ (by repeat (first|exact Below.refl _ _|refine Below.setCell ?_ (by simp;try omega) _|refine Below.alloc ?_ (by simp;try omega) _|refine Below.drew ?_))).mono ?_;rintro e w1 ⟨rfl,hb⟩;have gd:w1.heap[W.heap.size]?=some (.cells #[.int .i64 x,.string s] 58 (0,0)):=(hb.block (W.heap.size) (by first|omega|(simp;try omega))).trans (by first|exact gB.out|exact hkeep gB.out|exact hkeep (hkeep gB.out)|exact halloc2 _ _ rfl|exact heap_alloc2_old _ _ _|exact heap_alloc2_new _ _ _|exact hkeep (halloc2 _ _ rfl)|exact hkeep (hkeep (halloc2 _ _ rfl))|exact halloc2 _ _ (by simp;done));(try clear gB gL gN g0 g1 gf0 gf1);have gB:Hid (w1.heap[W.heap.size]?=some (.cells #[.int .i64 x,.string s] 58 (0,0))):=gd;have g0:w1.cell? ⟨W.heap.size,0,none⟩=some (.int .i64 x):=(cell_of_row w1 (W.heap.size) 0 _ _ _ gd).trans rfl;have gf0:=frozen_of_row w1 (W.heap.size) 0 _ _ gd;have g1:w1.cell? ⟨W.heap.size,1,none⟩=some (.string s):=(cell_of_row w1 (W.heap.size) 1 _ _ _ gd).trans rfl;have gf1:=frozen_of_row w1 (W.heap.size) 1 _ _ gd;have gL:W.heap.size<w1.heap.size:=(Array.getElem?_eq_some_iff.1 gd).1;have gN:¬ W.heap.size=w1.heap.size:=(by omega);clear gd;have B1:Hid (Below W.heap.size W w1):=bstep (by repeat (first|exact Below.refl _ _|refine Below.setCell ?_ (by simp;try omega) _|refine Below.alloc ?_ (by simp;try omega) _|refine Below.drew ?_)) hb;clear hb HL)
        | (go_at_call 116;refine (HI.out _).mono ?_;rintro e w2 ⟨rfl,hb⟩;have B2:Hid (Below W.heap.size W w2):=bstep B1.out hb;clear hb HI))
      exact bodyPost_ret (results_tmp2 rfl _ _ _) rfl ⟨rfl,B2.out⟩
    | false =>
      rw [if_neg (by simp)]
      by_cases hx:0<x
      · rw [if_pos hx]
        go_enter Tryz.func48,Tryz.ntmps48
        go_wp2_with (first
          | (go_at_call 115;refine (HL.out _ (by repeat (first|exact Below.refl _ _|refine Below.setCell ?_ (by simp;try omega) _|refine Below.alloc ?_ (by simp;try omega) _|refine Below.drew ?_))).mono ?_;rintro e w1 ⟨rfl,hb⟩;have gd:w1.heap[W.heap.size]?=some (.cells #[.int .i64 x,.string s] 58 (0,0)):=(hb.block (W.heap.size) (by first|omega|(simp;try omega))).trans (by first|exact gB.out|exact hkeep gB.out|exact hkeep (hkeep gB.out)|exact halloc2 _ _ rfl|exact heap_alloc2_old _ _ _|exact heap_alloc2_new _ _ _|exact hkeep (halloc2 _ _ rfl)|exact hkeep (hkeep (halloc2 _ _ rfl))|exact halloc2 _ _ (by simp;done));(try clear gB gL gN g0 g1 gf0 gf1);have gB:Hid (w1.heap[W.heap.size]?=some (.cells #[.int .i64 x,.string s] 58 (0,0))):=gd;have g0:w1.cell? ⟨W.heap.size,0,none⟩=some (.int .i64 x):=(cell_of_row w1 (W.heap.size) 0 _ _ _ gd).trans rfl;have gf0:=frozen_of_row w1 (W.heap.size) 0 _ _ gd;have g1:w1.cell? ⟨W.heap.size,1,none⟩=some (.string s):=(cell_of_row w1 (W.heap.size) 1 _ _ _ gd).trans rfl;have gf1:=frozen_of_row w1 (W.heap.size) 1 _ _ gd;have gL:W.heap.size<w1.heap.size:=(Array.getElem?_eq_some_iff.1 gd).1;have gN:¬ W.heap.size=w1.heap.size:=(by omega);clear gd;have B1:Hid (Below W.heap.size W w1):=bstep (by repeat (first|exact Below.refl _ _|refine Below.setCell ?_ (by simp;try omega) _|refine Below.alloc ?_ (by simp;try omega) _|refine Below.drew ?_)) hb;clear hb HL)
          | (go_at_call 116;refine (HI.out _).mono ?_;rintro e w2 ⟨rfl,hb⟩;have gd:w2.heap[W.heap.size]?=some (.cells #[.int .i64 x,.string s] 58 (0,0)):=(hb.block (W.heap.size) (by first|omega|(simp;try omega))).trans (by first|exact gB.out|exact hkeep gB.out|exact hkeep (hkeep gB.out)|exact halloc2 _ _ rfl|exact heap_alloc2_old _ _ _|exact heap_alloc2_new _ _ _|exact hkeep (halloc2 _ _ rfl)|exact hkeep (hkeep (halloc2 _ _ rfl))|exact halloc2 _ _ (by simp;done));(try clear gB gL gN g0 g1 gf0 gf1);have gB:Hid (w2.heap[W.heap.size]?=some (.cells #[.int .i64 x,.string s] 58 (0,0))):=gd;have g0:w2.cell? ⟨W.heap.size,0,none⟩=some (.int .i64 x):=(cell_of_row w2 (W.heap.size) 0 _ _ _ gd).trans rfl;have gf0:=frozen_of_row w2 (W.heap.size) 0 _ _ gd;have g1:w2.cell? ⟨W.heap.size,1,none⟩=some (.string s):=(cell_of_row w2 (W.heap.size) 1 _ _ _ gd).trans rfl;have gf1:=frozen_of_row w2 (W.heap.size) 1 _ _ gd;have gL:W.heap.size<w2.heap.size:=(Array.getElem?_eq_some_iff.1 gd).1;have gN:¬ W.heap.size=w2.heap.size:=(by omega);clear gd;have B2:Hid (Below W.heap.size W w2):=bstep B1.out hb;clear hb HI))
        exact bodyPost_ret (results_tmp2 rfl _ _ _) rfl ⟨rfl,B2.out⟩
      · rw [if_neg hx]
        cases lk with
        | none =>
          simp only [bnV] at HN
          go_enter Tryz.func48,Tryz.ntmps48
          go_wp2_with (first
            | (go_at_call 115;refine (HL.out _ (by repeat (first|exact Below.refl _ _|refine Below.setCell ?_ (by simp;try omega) _|refine Below.alloc ?_ (by simp;try omega) _|refine Below.drew ?_))).mono ?_;rintro e w1 ⟨rfl,hb⟩;have gd:w1.heap[W.heap.size]?=some (.cells #[.int .i64 x,.string s] 58 (0,0)):=(hb.block (W.heap.size) (by first|omega|(simp;try omega))).trans (by first|exact gB.out|exact hkeep gB.out|exact hkeep (hkeep gB.out)|exact halloc2 _ _ rfl|exact heap_alloc2_old _ _ _|exact heap_alloc2_new _ _ _|exact hkeep (halloc2 _ _ rfl)|exact hkeep (hkeep (halloc2 _ _ rfl))|exact halloc2 _ _ (by simp;done));(try clear gB gL gN g0 g1 gf0 gf1);have gB:Hid (w1.heap[W.heap.size]?=some (.cells #[.int .i64 x,.string s] 58 (0,0))):=gd;have g0:w1.cell? ⟨W.heap.size,0,none⟩=some (.int .i64 x):=(cell_of_row w1 (W.heap.size) 0 _ _ _ gd).trans rfl;have gf0:=frozen_of_row w1 (W.heap.size) 0 _ _ gd;have g1:w1.cell? ⟨W.heap.size,1,none⟩=some (.string s):=(cell_of_row w1 (W.heap.size) 1 _ _ _ gd).trans rfl;have gf1:=frozen_of_row w1 (W.heap.size) 1 _ _ gd;have gL:W.heap.size<w1.heap.size:=(Array.getElem?_eq_some_iff.1 gd).1;have gN:¬ W.heap.size=w1.heap.size:=(by omega);clear gd;have B1:Hid (Below W.heap.size W w1):=bstep (by repeat (first|exact Below.refl _ _|refine Below.setCell ?_ (by simp;try omega) _|refine Below.alloc ?_ (by simp;try omega) _|refine Below.drew ?_)) hb;clear hb HL)
            | (go_at_call 116;refine (HI.out _).mono ?_;rintro e w2 ⟨rfl,hb⟩;have gd:w2.heap[W.heap.size]?=some (.cells #[.int .i64 x,.string s] 58 (0,0)):=(hb.block (W.heap.size) (by first|omega|(simp;try omega))).trans (by first|exact gB.out|exact hkeep gB.out|exact hkeep (hkeep gB.out)|exact halloc2 _ _ rfl|exact heap_alloc2_old _ _ _|exact heap_alloc2_new _ _ _|exact hkeep (halloc2 _ _ rfl)|exact hkeep (hkeep (halloc2 _ _ rfl))|exact halloc2 _ _ (by simp;done));(try clear gB gL gN g0 g1 gf0 gf1);have gB:Hid (w2.heap[W.heap.size]?=some (.cells #[.int .i64 x,.string s] 58 (0,0))):=gd;have g0:w2.cell? ⟨W.heap.size,0,none⟩=some (.int .i64 x):=(cell_of_row w2 (W.heap.size) 0 _ _ _ gd).trans rfl;have gf0:=frozen_of_row w2 (W.heap.size) 0 _ _ gd;have g1:w2.cell? ⟨W.heap.size,1,none⟩=some (.string s):=(cell_of_row w2 (W.heap.size) 1 _ _ _ gd).trans rfl;have gf1:=frozen_of_row w2 (W.heap.size) 1 _ _ gd;have gL:W.heap.size<w2.heap.size:=(Array.getElem?_eq_some_iff.1 gd).1;have gN:¬ W.heap.size=w2.heap.size:=(by omega);clear gd;have B2:Hid (Below W.heap.size W w2):=bstep B1.out hb;clear hb HI)
            | (go_at_call 117;refine (HN.out _ B2.out).mono ?_;rintro e w3 ⟨rfl,hb⟩;have B3:Hid (Below W.heap.size W w3):=bstep B2.out hb;clear hb HN))
          exact bodyPost_ret (results_tmp2 rfl _ _ _) rfl ⟨rfl,B3.out⟩
        | some k =>
          simp only [bnV] at HN
          go_enter Tryz.func48,Tryz.ntmps48
          go_wp2_with (first
            | (go_at_call 115;refine (HL.out _ (by repeat (first|exact Below.refl _ _|refine Below.setCell ?_ (by simp;try omega) _|refine Below.alloc ?_ (by simp;try omega) _|refine Below.drew ?_))).mono ?_;rintro e w1 ⟨rfl,hb⟩;have gd:w1.heap[W.heap.size]?=some (.cells #[.int .i64 x,.string s] 58 (0,0)):=(hb.block (W.heap.size) (by first|omega|(simp;try omega))).trans (by first|exact gB.out|exact hkeep gB.out|exact hkeep (hkeep gB.out)|exact halloc2 _ _ rfl|exact heap_alloc2_old _ _ _|exact heap_alloc2_new _ _ _|exact hkeep (halloc2 _ _ rfl)|exact hkeep (hkeep (halloc2 _ _ rfl))|exact halloc2 _ _ (by simp;done));(try clear gB gL gN g0 g1 gf0 gf1);have gB:Hid (w1.heap[W.heap.size]?=some (.cells #[.int .i64 x,.string s] 58 (0,0))):=gd;have g0:w1.cell? ⟨W.heap.size,0,none⟩=some (.int .i64 x):=(cell_of_row w1 (W.heap.size) 0 _ _ _ gd).trans rfl;have gf0:=frozen_of_row w1 (W.heap.size) 0 _ _ gd;have g1:w1.cell? ⟨W.heap.size,1,none⟩=some (.string s):=(cell_of_row w1 (W.heap.size) 1 _ _ _ gd).trans rfl;have gf1:=frozen_of_row w1 (W.heap.size) 1 _ _ gd;have gL:W.heap.size<w1.heap.size:=(Array.getElem?_eq_some_iff.1 gd).1;have gN:¬ W.heap.size=w1.heap.size:=(by omega);clear gd;have B1:Hid (Below W.heap.size W w1):=bstep (by repeat (first|exact Below.refl _ _|refine Below.setCell ?_ (by simp;try omega) _|refine Below.alloc ?_ (by simp;try omega) _|refine Below.drew ?_)) hb;clear hb HL)
            | (go_at_call 116;refine (HI.out _).mono ?_;rintro e w2 ⟨rfl,hb⟩;have gd:w2.heap[W.heap.size]?=some (.cells #[.int .i64 x,.string s] 58 (0,0)):=(hb.block (W.heap.size) (by first|omega|(simp;try omega))).trans (by first|exact gB.out|exact hkeep gB.out|exact hkeep (hkeep gB.out)|exact halloc2 _ _ rfl|exact heap_alloc2_old _ _ _|exact heap_alloc2_new _ _ _|exact hkeep (halloc2 _ _ rfl)|exact hkeep (hkeep (halloc2 _ _ rfl))|exact halloc2 _ _ (by simp;done));(try clear gB gL gN g0 g1 gf0 gf1);have gB:Hid (w2.heap[W.heap.size]?=some (.cells #[.int .i64 x,.string s] 58 (0,0))):=gd;have g0:w2.cell? ⟨W.heap.size,0,none⟩=some (.int .i64 x):=(cell_of_row w2 (W.heap.size) 0 _ _ _ gd).trans rfl;have gf0:=frozen_of_row w2 (W.heap.size) 0 _ _ gd;have g1:w2.cell? ⟨W.heap.size,1,none⟩=some (.string s):=(cell_of_row w2 (W.heap.size) 1 _ _ _ gd).trans rfl;have gf1:=frozen_of_row w2 (W.heap.size) 1 _ _ gd;have gL:W.heap.size<w2.heap.size:=(Array.getElem?_eq_some_iff.1 gd).1;have gN:¬ W.heap.size=w2.heap.size:=(by omega);clear gd;have B2:Hid (Below W.heap.size W w2):=bstep B1.out hb;clear hb HI)
            | (go_at_call 117;refine (HN.out _ B2.out).mono ?_;rintro e w3 ⟨rfl,hb⟩;have B3:Hid (Below W.heap.size W w3):=bstep B2.out hb;clear hb HN))
          exact bodyPost_ret (results_tmp2 rfl _ _ _) rfl ⟨rfl,B3.out⟩
  · rw [if_neg h0]
    go_enter Tryz.func48,Tryz.ntmps48
    go_wp2_with (first
      | (go_at_call 115;refine (HL.out _ (by repeat (first|exact Below.refl _ _|refine Below.setCell ?_ (by simp;try omega) _|refine Below.alloc ?_ (by simp;try omega) _|refine Below.drew ?_))).mono ?_;rintro e w1 ⟨rfl,hb⟩;have gd:w1.heap[W.heap.size]?=some (.cells #[.int .i64 x,.string s] 58 (0,0)):=(hb.block (W.heap.size) (by first|omega|(simp;try omega))).trans (by first|exact gB.out|exact hkeep gB.out|exact hkeep (hkeep gB.out)|exact halloc2 _ _ rfl|exact heap_alloc2_old _ _ _|exact heap_alloc2_new _ _ _|exact hkeep (halloc2 _ _ rfl)|exact hkeep (hkeep (halloc2 _ _ rfl))|exact halloc2 _ _ (by simp;done));(try clear gB gL gN g0 g1 gf0 gf1);have gB:Hid (w1.heap[W.heap.size]?=some (.cells #[.int .i64 x,.string s] 58 (0,0))):=gd;have g0:w1.cell? ⟨W.heap.size,0,none⟩=some (.int .i64 x):=(cell_of_row w1 (W.heap.size) 0 _ _ _ gd).trans rfl;have gf0:=frozen_of_row w1 (W.heap.size) 0 _ _ gd;have g1:w1.cell? ⟨W.heap.size,1,none⟩=some (.string s):=(cell_of_row w1 (W.heap.size) 1 _ _ _ gd).trans rfl;have gf1:=frozen_of_row w1 (W.heap.size) 1 _ _ gd;have gL:W.heap.size<w1.heap.size:=(Array.getElem?_eq_some_iff.1 gd).1;have gN:¬ W.heap.size=w1.heap.size:=(by omega);clear gd;have B1:Hid (Below W.heap.size W w1):=bstep (by repeat (first|exact Below.refl _ _|refine Below.setCell ?_ (by simp;try omega) _|refine Below.alloc ?_ (by simp;try omega) _|refine Below.drew ?_)) hb;clear hb HL))
    exact bodyPost_ret (results_tmp2 rfl _ _ _) rfl ⟨rfl,B1.out⟩
end Go.Proofs.YtfoldbhlmmmpeaaGreat
