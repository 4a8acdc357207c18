import Derived.Test.YtenpnkkkjjdccaaGreatWdB
import Derived.Test.YtenpnkkkjjdccaaGreatOrdB
import Derived.Test.YtenpnkkkjjdccaaGreatFOwnA
import Derived.Deep.RegionHeld3
set_option maxRecDepth 100000
namespace Go.Proofs.YtenpnkkkjjdccaaGreat
open Go.RowKit Go.Maps
def wld (l:List Cls):List Plc:=l.foldl (fun ps c=>dfP ps (defN ps c)) P3
theorem wld_snoc (l:List Cls) (c:Cls):wld (l++[c])=dfP (wld l) (defN (wld l) c):=by
  rw [wld,List.foldl_append];rfl
theorem wld_at {l:List Cls} {i:Nat} {c:Cls} (h:l[i]?=some c):wld (l.take (i+1))=dfP (wld (l.take i)) (defN (wld (l.take i)) c):=by
  rw [List.take_add_one,h];exact wld_snoc _ _
theorem wld_ind {P:List Plc→Prop} (h3:P P3) (hd:∀ ps c,P ps→ClsW c→P (dfP ps (defN ps c))):∀ l:List Cls,(∀ c∈l,ClsW c)→P (wld l):=by
  have key:∀ (l:List Cls) (ps:List Plc),(∀ c∈l,ClsW c)→P ps→P (l.foldl (fun ps c=>dfP ps (defN ps c)) ps):=by
    intro l
    induction l with
    | nil=>exact fun ps _ h=>h
    | cons c l ih=>exact fun ps hl h=>ih _ (fun x hx=>hl x (List.mem_cons_of_mem _ hx)) (hd ps c h (hl c (by simp)))
  exact fun l hl=>key l P3 hl h3
theorem wld_wi (l:List Cls) (hl:∀ c∈l,ClsW c):WI (wld l):=wld_ind wi3 (fun _ c h hc=>h.define c hc) l hl
theorem clss_w {w:World} {v:Value} {l:List Cls} (h:IsClss w v l):∀ c∈l,ClsW c:=by
  obtain ⟨ao,cap,e,h1,h2,h3⟩:=h
  intro c hc
  obtain ⟨bk,o,_,_,h4⟩:=h3 (fun e=>by rw [e] at hc;simp at hc)
  obtain ⟨i,hi⟩:=List.mem_iff_getElem?.1 hc
  obtain ⟨vi,vm,_,hin⟩:=h4 i c hi
  exact hin.ok
def extI (ps:List Plc) (a b:Int):Bool:=(plcI ps a).isSome&&(plcI ps b).isSome&&extB (ps.map nd) a.toNat b.toNat
theorem extends_no {b:Nat} {ps:List Plc} {W:World} (h:WAt b ps W) (x y:Int) (hxy:plcI ps x=none∨plcI ps y=none):Calls Tryz.prog 9 #[.pointer (some ⟨b,0,none⟩),.int .i64 x,.int .i64 y] W fun e w'=>e=.returned (.bool false)∧Below W.heap.size W w':=by
  have HX:Hid (∀ i z w,Below W.heap.size W w→plcI ps i=z→Calls Tryz.prog 24 #[.pointer (some ⟨b,0,none⟩),.int .i64 i] w fun e w'=>e=.returned (.bool z.isSome)∧w'=w):=fun i z w hb hi=>by
    have:=has_c (h.below hb) i
    rw [hi] at this;exact this
  clear h
  generalize hpx:plcI ps x=px at *
  generalize hpy:plcI ps y=py at *
  have HPX:Hid _:=hpx
  have HPY:Hid _:=hpy
  clear hpx hpy
  cases px with
  | none =>
    go_enter Tryz.func9,Tryz.ntmps9
    go_wp2_with (go_at_call 24;refine (HX.out _ _ _ (by repeat (first|exact Below.refl _ _|refine Below.setCell ?_ (by simp;try omega) _|refine Below.alloc ?_ (by simp;try omega) _|refine Below.drew ?_)) HPX.out).mono ?_;rintro e w9 ⟨rfl,hw9⟩;rw [hw9];clear hw9 w9)
    refine bodyPost_ret (v:=.bool false) (by simp [results,Tryz.results9,go_sem]) rfl ⟨rfl,(by repeat (first|exact Below.refl _ _|refine Below.setCell ?_ (by simp;try omega) _|refine Below.alloc ?_ (by simp;try omega) _|refine Below.drew ?_))⟩
  | some p =>
    obtain rfl:py=none:=hxy.resolve_left (by simp)
    clear hxy
    have HX1:Hid (∀ i w,Below W.heap.size W w→i=x→Calls Tryz.prog 24 #[.pointer (some ⟨b,0,none⟩),.int .i64 i] w fun e w'=>e=.returned (.bool true)∧w'=w):=fun i w hb hi=>by rw [hi];exact HX.out x _ w hb HPX.out
    have HY1:Hid (∀ i w,Below W.heap.size W w→i=y→Calls Tryz.prog 24 #[.pointer (some ⟨b,0,none⟩),.int .i64 i] w fun e w'=>e=.returned (.bool false)∧w'=w):=fun i w hb hi=>by rw [hi];exact HX.out y _ w hb HPY.out
    go_enter Tryz.func9,Tryz.ntmps9
    go_wp2_with (first
      | (go_at_call 24;refine (HX1.out _ _ (by repeat (first|exact Below.refl _ _|refine Below.setCell ?_ (by simp;try omega) _|refine Below.alloc ?_ (by simp;try omega) _|refine Below.drew ?_)) (by rfl)).mono ?_;rintro e w9 ⟨rfl,hw9⟩;rw [hw9];clear hw9 w9)
      | (go_at_call 24;refine (HY1.out _ _ (by repeat (first|exact Below.refl _ _|refine Below.setCell ?_ (by simp;try omega) _|refine Below.alloc ?_ (by simp;try omega) _|refine Below.drew ?_)) (by rfl)).mono ?_;rintro e w9 ⟨rfl,hw9⟩;rw [hw9];clear hw9 w9))
    refine bodyPost_ret (v:=.bool false) (by simp [results,Tryz.results9,go_sem]) rfl ⟨rfl,(by repeat (first|exact Below.refl _ _|refine Below.setCell ?_ (by simp;try omega) _|refine Below.alloc ?_ (by simp;try omega) _|refine Below.drew ?_))⟩
theorem extends_c {b:Nat} {ps:List Plc} {W:World} (h:WAt b ps W) (hi:WI ps) (x y:Int):Calls Tryz.prog 9 #[.pointer (some ⟨b,0,none⟩),.int .i64 x,.int .i64 y] W fun e w'=>e=.returned (.bool (extI ps x y))∧Below W.heap.size W w':=by
  rcases plcI_cases ps x with ⟨h1,_⟩|⟨k,p,rfl,h2,h1⟩
  · have e:extI ps x y=false:=by rw [extI,h1];rfl
    rw [e];exact extends_no h x y (.inl h1)
  · rcases plcI_cases ps y with ⟨g1,_⟩|⟨j,q,rfl,g2,g1⟩
    · have e:extI ps k y=false:=by rw [extI,h1,g1];rfl
      rw [e];exact extends_no h k y (.inr g1)
    · have e:extI ps k j=extB (ps.map nd) k j:=by rw [extI,h1,g1];rfl
      obtain ⟨N,mb,vp,pv,h⟩:=h
      rw [e];exact extends_yes N b mb ps vp pv k j (List.getElem?_eq_some_iff.1 h2).1 (List.getElem?_eq_some_iff.1 g2).1 hi.wo hi.hi W h
def ifcI (ps:List Plc) (i:Int):Bool:=match plcI ps i with
  | some q=>ifB q.c.fl
  | none=>false
theorem isIface_c {b:Nat} {ps:List Plc} {W:World} (h:WAt b ps W) (x:Int):Calls Tryz.prog 8 #[.pointer (some ⟨b,0,none⟩),.int .i64 x] W fun e w'=>e=.returned (.bool (ifcI ps x))∧Below W.heap.size W w':=by
  obtain ⟨N,mb,vp,pv,h⟩:=h
  rcases plcI_cases ps x with ⟨h1,h2⟩|⟨k,p,rfl,h2,h1⟩
  · have e:ifcI ps x=false:=by rw [ifcI,h1]
    rw [e];exact isIfaceW_no N b mb ps vp pv x W h h2
  · have e:ifcI ps k=ifB p.c.fl:=by rw [ifcI,h1]
    rw [e];exact isIfaceW_yes N b mb ps vp pv k p W h h2
theorem len_c {b:Nat} {ps:List Plc} {W:World} (h:WAt b ps W):Calls Tryz.prog 21 #[.pointer (some ⟨b,0,none⟩)] W fun e w'=>e=.returned (.int .i64 (ps.length:Int))∧w'=W:=by
  obtain ⟨N,mb,vp,pv,h⟩:=h
  exact len_any N b mb ps vp pv W h
def ClsR (n:Nat):Option Plc→Ending→World→Prop
  | none,e,_=>e=.returned (.tuple #[.agg #[.string ⟨#[]⟩,.string ⟨#[]⟩,.slice none 0 0,.int .i64 0,.int .i64 0,.slice none 0 0],.int .i64 3])
  | some q,e,w'=>∃ vi vm qm,e=.returned (.tuple #[.agg #[.string q.c.nm,.string q.c.su,vi,.int .i64 q.c.fl,.int .i64 q.c.ld,vm],.int .i64 0])∧OwnC w' n vi q.c.ni q.c.xi vm qm∧qm.map Prod.fst=q.c.ms
theorem class_c {b:Nat} {ps:List Plc} {W:World} (h:WAt b ps W) (hB:∀ q∈ps,PlcB q) (x:Int):Calls Tryz.prog 7 #[.pointer (some ⟨b,0,none⟩),.int .i64 x] W fun e w'=>ClsR W.heap.size (plcI ps x) e w'∧Below W.heap.size W w':=by
  obtain ⟨N,mb,vp,pv,h⟩:=h
  rcases plcI_cases ps x with ⟨h1,h2⟩|⟨k,p,rfl,h2,h1⟩
  · rw [h1];exact class_no N b mb ps vp pv x W h h2
  · rw [h1]
    refine (class_yes N b mb ps vp pv k p W h h2 (hB p (List.mem_of_getElem? h2))).mono ?_
    rintro e w' ⟨vi,vm,qm,h1,h2,h3,h4⟩
    exact ⟨⟨vi,vm,qm,h1,h2,h3⟩,h4⟩
def bnV:Option Nat→Value
  | some j=>.tuple #[.int .i64 (j:Int),.int .i64 0]
  | none=>.tuple #[.int .i64 0,.int .i64 6]
theorem byName_c {b:Nat} {ps:List Plc} {W:World} (h:WAt b ps W) (nm:ByteArray) (hnz:nm.size≤maxLen):Calls Tryz.prog 148 #[.pointer (some ⟨b,0,none⟩),.string nm] W fun e w'=>e=.returned (bnV (lookL ps nm.data.toList))∧Below W.heap.size W w':=by
  obtain ⟨N,mb,vp,pv,h⟩:=h
  refine (byName_look N b mb ps vp pv nm hnz W h).mono ?_
  rintro e w' ⟨rfl,hb⟩
  exact ⟨by cases lookL ps nm.data.toList <;> rfl,hb⟩
def idV (i:Int):Value:=.int .i64 i
def inNs (n:Nat) (l:List Int):Bool:=l.all fun i=>decide (0≤i)&&decide (i<(n:Int))
set_option maxHeartbeats 1000000 in
theorem checkA_any (N b mb:Nat) (ps:List Plc) (vp:Value) (pv:List PV) (v:Value) (ids:List Int) (W:World) (h:HW W N b mb ps vp pv) (hv:Rds W v ids.length 1 (ids.map idV)) (hk9:ids.length≤1000000):Calls Tryz.prog 219 #[.pointer (some ⟨b,0,none⟩),v] W fun e w'=>e=.returned (.int .i64 (if inNs ps.length ids then 0 else 3))∧Below W.heap.size W w':=by
  obtain ⟨L,hL⟩:∃ L,ids.length=L:=⟨_,rfl⟩
  have HL:Hid (ids.length=L):=hL
  obtain ⟨av,cv,rfl⟩:=hv.slice
  have HV:Hid (Rds W (.slice av ids.length cv) ids.length 1 (ids.map idV)):=hv
  have HLen:Hid (∀ w:World,Below W.heap.size W w→Calls Tryz.prog 21 #[.pointer (some ⟨b,0,none⟩)] w fun e w'=>e=.returned (.int .i64 (ps.length:Int))∧w'=w):=fun w hb=>len_any N b mb ps vp pv w (h.below hb)
  rw [hL]
  rw [hL] at hk9
  clear hv h hL
  obtain ⟨R,hR⟩:∃ R,R=(if inNs ps.length ids then (0:Int) else 3):=⟨_,rfl⟩
  rw [← hR]
  have HR:Hid (R=(if inNs ps.length ids then (0:Int) else 3)):=hR
  clear hR
  go_enter Tryz.func219,Tryz.ntmps219
  go_wp2
  go_loopw [11] (fun kv wr=>∃ k:Nat,kv=.int .i64 k∧k≤L∧wr=W∧Hid (inNs ps.length (ids.take k)=true)) (fun kv _=>L - (intOf kv).toNat)
  case atStart=>exact ⟨0,rfl,Nat.zero_le _,rfl,rfl⟩
  case round =>
    obtain ⟨k,rfl,hk,rfl,hin⟩:=hrel
    by_cases hlt:k<L
    · obtain ⟨id,hid⟩:∃ p,ids[k]?=some p:=⟨_,List.getElem?_eq_getElem (by rw [HL.out];exact hlt)⟩
      obtain ⟨bk,o,rfl,hbk,hcell⟩:∃ bk o,av=some ⟨bk,o,none⟩∧bk<wr.heap.size∧wr.cell? ⟨bk,o+k,none⟩=some (.int .i64 id):=by
        rcases HV.out.val with ⟨_,e2⟩|⟨bk,o,c,e,_,_,h3,h4⟩
        · rw [HL.out] at e2;omega
        · simp only [Value.slice.injEq] at e
          exact ⟨bk,o,e.1,h3,h4 k _ (by rw [List.getElem?_map,hid];rfl)⟩
      have hT:ids.take (k+1)=ids.take k++[id]:=by rw [List.take_add_one,hid];rfl
      have HNX:Hid (inNs ps.length (ids.take (k+1))=(decide (0≤id)&&decide (id<(ps.length:Int)))):=by
        rw [Hid,hT,inNs,List.all_append]
        have:=hin.out
        rw [inNs] at this
        rw [this];simp
      have HNO:Hid ((decide (0≤id)&&decide (id<(ps.length:Int)))=false→R=3):=fun hf=>by
        rw [HR.out,if_neg]
        intro hall
        rw [inNs,List.all_eq_true] at hall
        have:=hall id (List.mem_of_getElem? hid)
        rw [hf] at this;cases this
      clear hT hid
      by_cases h0:id<0
      · go_wp2
        exact bodyPost_ret (results_tmp rfl _ _ _) rfl ⟨by have e:=HNO.out (by rw [decide_eq_false (by omega)];rfl);subst e;rfl,Below.refl _ _⟩
      · by_cases h1:(ps.length:Int)≤id
        · go_wp2_with (go_at_call 21;refine (HLen.out _ (Below.refl _ _)).mono ?_;rintro e w9 ⟨rfl,hw9⟩;rw [hw9];clear hw9 w9)
          exact bodyPost_ret (results_tmp rfl _ _ _) rfl ⟨by have e:=HNO.out (by rw [decide_eq_false (p:=id<_) (by omega),Bool.and_false]);subst e;rfl,Below.refl _ _⟩
        · go_wp2_with (go_at_call 21;refine (HLen.out _ (Below.refl _ _)).mono ?_;rintro e w9 ⟨rfl,hw9⟩;rw [hw9];clear hw9 w9)
          go_roundw
          case rel=>exact ⟨k+1,by go_num,by omega,trivial,by rw [Hid,HNX.out,decide_eq_true (by omega),decide_eq_true (by omega)];rfl⟩
          case measure=>simp [intOf];omega
    · have e:k=L:=by omega
      subst e
      have hall:R=0:=by
        rw [HR.out]
        have:=hin.out
        rw [List.take_of_length_le (by rw [HL.out];exact Nat.le_refl _)] at this
        rw [if_pos this]
      go_wp2
      exact bodyPost_ret (results_tmp rfl _ _ _) rfl ⟨by subst hall;rfl,Below.refl _ _⟩
theorem check_c {b:Nat} {ps:List Plc} {W:World} (h:WAt b ps W) (v:Value) (ids:List Int) (hv:Rds W v ids.length 1 (ids.map idV)) (hk9:ids.length≤1000000):Calls Tryz.prog 219 #[.pointer (some ⟨b,0,none⟩),v] W fun e w'=>e=.returned (.int .i64 (if inNs ps.length ids then 0 else 3))∧Below W.heap.size W w':=by
  obtain ⟨N,mb,vp,pv,h⟩:=h
  exact checkA_any N b mb ps vp pv v ids W h hv hk9
theorem open_c (f:Int) (W:World):Calls Tryz.prog 256 #[.int .i64 f] W fun e w'=>e=.returned (.int .i64 (openI f))∧w'=W:=by
  have HR:Hid (openI f=if hasI f 1 then 1 else if hasI f 4 then 4 else bits .and .i64 f 2):=Fl.own_open f
  have HH:Hid (∀ (x:Int) (y:Bool) (w:World),hasI f x=y→Calls Tryz.prog 164 #[.int .i64 f,.int .i64 x] w fun e w'=>e=.returned (.bool y)∧w'=w):=fun x y w hy=>by rw [← hy];exact Fl.hasAny_any f x w
  generalize openI f=r at *
  generalize hasI f=hz at *
  obtain ⟨b1,h1⟩:∃ b,hz 1=b:=⟨_,rfl⟩
  obtain ⟨b4,h4⟩:∃ b,hz 4=b:=⟨_,rfl⟩
  rw [h1,h4] at HR
  have H1:Hid _:=h1
  have H4:Hid _:=h4
  clear h1 h4
  cases b1 <;> cases b4
  all_goals
    go_enter Tryz.func256,Tryz.ntmps256
    go_wp2_with (go_at_call 164;refine (HH.out _ _ _ (by first|exact H1.out|exact H4.out)).mono ?_;rintro e w9 ⟨rfl,hw9⟩;rw [hw9];clear hw9 w9)
    exact bodyPost_ret (results_tmp rfl _ _ _) rfl ⟨by rw [HR.out];rfl,rfl⟩
def pkB (nm:ByteArray):ByteArray:=⟨(pkgL nm.data.toList).toArray⟩
theorem aPkg_c {b:Nat} {ps:List Plc} {W:World} (h:WAt b ps W) (k:Nat) (q:Plc) (hq:ps[k]?=some q) (hB:PlcB q):Calls Tryz.prog 297 #[.pointer (some ⟨b,0,none⟩),.int .i64 (k:Int)] W fun e w'=>e=.returned (.agg #[.int .i64 q.c.ld,.string (pkB q.c.nm)])∧Below W.heap.size W w':=by
  have HC:Hid (∀ w,Below W.heap.size W w→Calls Tryz.prog 7 #[.pointer (some ⟨b,0,none⟩),.int .i64 (k:Int)] w fun e w'=>∃ vi vm qm,e=.returned (.tuple #[.agg #[.string q.c.nm,.string q.c.su,vi,.int .i64 q.c.fl,.int .i64 q.c.ld,vm],.int .i64 0])∧OwnC w' w.heap.size vi q.c.ni q.c.xi vm qm∧qm.map Prod.fst=q.c.ms∧Below w.heap.size w w'):=fun w hb=>by
    obtain ⟨N,mb,vp,pv,h⟩:=h.below hb
    exact class_yes N b mb ps vp pv k q w h hq hB
  have HP:Hid (∀ w:World,Calls Tryz.prog 169 #[.string q.c.nm] w fun e w'=>e=.returned (.string (pkB q.c.nm))∧w'=w):=fun w=>package_any q.c.nm hB.nm w
  generalize pkB q.c.nm=pk at *
  clear h hq hB
  go_enter Tryz.func297,Tryz.ntmps297
  go_wp2_with (first
    | (go_at_call 7;refine (HC.out _ (by repeat (first|exact Below.refl _ _|refine Below.setCell ?_ (by simp;try omega) _|refine Below.alloc ?_ (by simp;try omega) _|refine Below.drew ?_))).mono ?_;rintro e w1 ⟨vi,vm,qm,rfl,hown,_,hb⟩;obtain ⟨a1,c1,rfl⟩:=ownv hown.ifs;obtain ⟨a2,c2,rfl⟩:=ownv hown.ms;have B1:Hid (Below W.heap.size W w1):=bstep (by repeat (first|exact Below.refl _ _|refine Below.setCell ?_ (by simp;try omega) _|refine Below.alloc ?_ (by simp;try omega) _|refine Below.drew ?_)) hb;have h0:=(hb.block W.heap.size (by simp)).trans (halloc1 W _);have hl0:W.heap.size<w1.heap.size:=(Array.getElem?_eq_some_iff.1 h0).1;have r0:=cell_of_row w1 W.heap.size 0 _ _ _ h0;have y0:=frozen_of_row w1 W.heap.size 0 _ _ h0;have r1:=cell_of_row w1 W.heap.size 1 _ _ _ h0;have y1:=frozen_of_row w1 W.heap.size 1 _ _ h0;simp only [List.getElem?_toArray,List.getElem?_cons_zero,List.getElem?_cons_succ] at r0 r1;have hn0:¬ W.heap.size=w1.heap.size:=(by omega);have H0:Hid (w1.heap[W.heap.size]?=some (.cells #[.int .i64 0,.string ⟨#[]⟩] 390 (0,0))):=h0;clear hown hb HC h0 r0 r1 y0 y1))
  obtain ⟨Wm,hWm⟩:∃ x,x=w1.alloc (.cells #[.string q.c.nm,.string q.c.su,.slice a1 q.c.ni c1,.int .i64 q.c.fl,.int .i64 q.c.ld,.slice a2 qm.length c2] 29):=⟨_,rfl⟩
  have BM:Hid (Below W.heap.size W Wm):=by rw [hWm];exact B1.out.alloc B1.out.size _
  have m0:Wm.cell? ⟨w1.heap.size,0,none⟩=some (.string q.c.nm):=by rw [hWm];simp [go_sem]
  have m4:Wm.cell? ⟨w1.heap.size,4,none⟩=some (.int .i64 q.c.ld):=by rw [hWm];simp [go_sem]
  have h0:Wm.heap[W.heap.size]?=some (.cells #[.int .i64 0,.string ⟨#[]⟩] 390 (0,0)):=by rw [hWm];exact (Below.heap_alloc w1 _ _ hl0).trans H0.out
  have hs0:W.heap.size<Wm.heap.size:=(Array.getElem?_eq_some_iff.1 h0).1
  have hs1:w1.heap.size<Wm.heap.size:=by rw [hWm];simp
  have r0:=cell_of_row Wm W.heap.size 0 _ _ _ h0
  have y0:=frozen_of_row Wm W.heap.size 0 _ _ h0
  have r1:=cell_of_row Wm W.heap.size 1 _ _ _ h0
  have y1:=frozen_of_row Wm W.heap.size 1 _ _ h0
  simp only [List.getElem?_toArray,List.getElem?_cons_zero,List.getElem?_cons_succ] at r0 r1
  have hn1:¬ w1.heap.size=W.heap.size:=by omega
  rw [← hWm]
  clear hWm h0 H0 B1
  go_region_held3 (fun w'=>w'.cell? ⟨w1.heap.size,0,none⟩=some (.string q.c.nm)∧w'.cell? ⟨w1.heap.size,4,none⟩=some (.int .i64 q.c.ld)) (go_keep) (first|(go_at_call 169;refine (HP.out _).mono ?_;rintro e w9 ⟨rfl,hw9⟩;rw [hw9];clear hw9 w9))
  go_wp2
  refine bodyPost_ret (v:=.agg #[.int .i64 q.c.ld,.string pk]) (by simp [results,Tryz.results297,go_sem, *]) rfl ⟨rfl,?_⟩
  refine Below.drew ?_
  repeat (refine Below.setCell ?_ (by simp) _)
  exact BM.out
theorem eqPkA (a b:Int) (s t:ByteArray) (w:World):(Op.equal 390 (.agg #[.int .i64 a,.string s]) (.agg #[.int .i64 b,.string t])).run Tryz.prog w=.ok ((a == b)&&(s == t)) w:=by
  have h:(Op.equalIn (9997+1+1+1) 390 (.agg #[.int .i64 a,.string s]) (.agg #[.int .i64 b,.string t])).run Tryz.prog w=.ok ((a == b)&&(s == t)) w:=by
    rw [Op.equalIn]
    simp [run_underlying Tryz.underlying390,go_sem,part,eqS,eqN]
    generalize (s == t)=y
    by_cases h1:a=b <;> cases y <;> simp [h1]
  exact h
set_option maxHeartbeats 1000000 in
theorem aSame_c {b:Nat} {ps:List Plc} {W:World} (h:WAt b ps W) (hB:∀ q∈ps,PlcB q) (x y:Nat) (p q:Plc) (hx:ps[x]?=some p) (hy:ps[y]?=some q):Calls Tryz.prog 257 #[.pointer (some ⟨b,0,none⟩),.int .i64 (x:Int),.int .i64 (y:Int)] W fun e w'=>e=.returned (.bool (samePk p q))∧Below W.heap.size W w':=by
  have HX:Hid (∀ i w,Below W.heap.size W w→i=(x:Int)→Calls Tryz.prog 297 #[.pointer (some ⟨b,0,none⟩),.int .i64 i] w fun e w''=>e=.returned (.agg #[.int .i64 p.c.ld,.string (pkB p.c.nm)])∧Below W.heap.size W w''):=fun i w hb hi=>by
    rw [hi];exact (aPkg_c (h.below hb) x p hx (hB p (List.mem_of_getElem? hx))).mono fun e w'' zz=>⟨zz.1,bstep hb zz.2⟩
  have HY:Hid (∀ i w,Below W.heap.size W w→i=(y:Int)→Calls Tryz.prog 297 #[.pointer (some ⟨b,0,none⟩),.int .i64 i] w fun e w''=>e=.returned (.agg #[.int .i64 q.c.ld,.string (pkB q.c.nm)])∧Below W.heap.size W w''):=fun i w hb hi=>by
    rw [hi];exact (aPkg_c (h.below hb) y q hy (hB q (List.mem_of_getElem? hy))).mono fun e w'' zz=>⟨zz.1,bstep hb zz.2⟩
  have HR2:Hid ((p.c.ld == q.c.ld&&pkB p.c.nm == pkB q.c.nm)=samePk p q):=by rw [Hid,pkB,pkB,beqB];rfl
  generalize samePk p q=R at *
  generalize pkB p.c.nm=s1 at *
  generalize pkB q.c.nm=s2 at *
  have EQ:∀ w,(Op.equal 390 (.agg #[.int .i64 p.c.ld,.string s1]) (.agg #[.int .i64 q.c.ld,.string s2])).run Tryz.prog w=.ok R w:=fun w=>by rw [eqPkA,HR2.out]
  have G1:∀ w,(eqGuard .eql 390 (.tmp 9) (.tmp 12) (.agg #[.int .i64 p.c.ld,.string s1]) (.agg #[.int .i64 q.c.ld,.string s2])).run Tryz.prog w=.ok () w:=fun w=>by
    simp [eqGuard,go_sem]
  have G2:∀ w,(binOp .eql 390 (.agg #[.int .i64 p.c.ld,.string s1]) (.agg #[.int .i64 q.c.ld,.string s2])).run Tryz.prog w=.ok (.bool R) w:=fun w=>by
    simp [binOp,EQ,go_sem]
  clear HR2 EQ h hB hx hy
  go_enter Tryz.func257,Tryz.ntmps257
  go_wp2_with (first
    | (go_at_call 297;refine (HX.out _ _ (Below.refl _ _) (by rfl)).mono ?_;rintro e w1 ⟨rfl,hb⟩;have B1:Hid (Below W.heap.size W w1):=hb;clear hb HX)
    | (go_at_call 297;refine (HY.out _ _ B1.out (by rfl)).mono ?_;rintro e w2 ⟨rfl,hb⟩;have B2:Hid (Below W.heap.size W w2):=hb;clear hb HY))
  exact bodyPost_ret (results_tmp rfl _ _ _) rfl ⟨rfl,B2.out⟩
def clsO (q p:Plc):Bool:=(openI q.c.fl == 1)||samePk q p
set_option maxHeartbeats 1000000 in
theorem aCls_c {b:Nat} {ps:List Plc} {W:World} (h:WAt b ps W) (hB:∀ q∈ps,PlcB q) (d c:Nat) (p q:Plc) (hd:ps[d]?=some p) (hc:ps[c]?=some q):Calls Tryz.prog 294 #[.pointer (some ⟨b,0,none⟩),.int .i64 (d:Int),.int .i64 (c:Int)] W fun e w'=>e=.returned (.bool (clsO q p))∧Below W.heap.size W w':=by
  have HC:Hid (∀ w,Below W.heap.size W w→Calls Tryz.prog 7 #[.pointer (some ⟨b,0,none⟩),.int .i64 (c:Int)] w fun e w'=>∃ vi vm qm,e=.returned (.tuple #[.agg #[.string q.c.nm,.string q.c.su,vi,.int .i64 q.c.fl,.int .i64 q.c.ld,vm],.int .i64 0])∧OwnC w' w.heap.size vi q.c.ni q.c.xi vm qm∧qm.map Prod.fst=q.c.ms∧Below w.heap.size w w'):=fun w hb=>by
    obtain ⟨N,mb,vp,pv,h⟩:=h.below hb
    exact class_yes N b mb ps vp pv c q w h hc (hB q (List.mem_of_getElem? hc))
  have HO:Hid (∀ w:World,Calls Tryz.prog 256 #[.int .i64 q.c.fl] w fun e w'=>e=.returned (.int .i64 (openI q.c.fl))∧w'=w):=fun w=>open_c q.c.fl w
  have HS:Hid (∀ w,Below W.heap.size W w→Calls Tryz.prog 257 #[.pointer (some ⟨b,0,none⟩),.int .i64 (c:Int),.int .i64 (d:Int)] w fun e w'=>e=.returned (.bool (samePk q p))∧Below W.heap.size W w'):=fun w hb=>(aSame_c (h.below hb) hB c d q p hc hd).mono fun e w' zz=>⟨zz.1,bstep hb zz.2⟩
  have HR:Hid (clsO q p=((openI q.c.fl == 1)||samePk q p)):=rfl
  generalize clsO q p=R at *
  generalize samePk q p=sp at *
  generalize openI q.c.fl=op at *
  clear h hB hd hc
  by_cases h1:op=1
  · have HR:Hid (R=true):=by rw [Hid,HR.out,h1];rfl
    subst h1
    go_enter Tryz.func294,Tryz.ntmps294
    go_wp2_with (first
      | (go_at_call 7;refine (HC.out _ (by repeat (first|exact Below.refl _ _|refine Below.setCell ?_ (by simp;try omega) _|refine Below.alloc ?_ (by simp;try omega) _|refine Below.drew ?_))).mono ?_;rintro e w1 ⟨vi,vm,qm,rfl,hown,_,hb⟩;obtain ⟨a1,c1,rfl⟩:=ownv hown.ifs;obtain ⟨a2,c2,rfl⟩:=ownv hown.ms;have B1:Hid (Below W.heap.size W w1):=bstep (by repeat (first|exact Below.refl _ _|refine Below.setCell ?_ (by simp;try omega) _|refine Below.alloc ?_ (by simp;try omega) _|refine Below.drew ?_)) hb;clear hown hb HC)
      | (go_at_call 256;refine (HO.out _).mono ?_;rintro e w9 ⟨rfl,hw9⟩;rw [hw9];clear hw9 w9))
    exact bodyPost_ret (results_tmp rfl _ _ _) rfl ⟨by rw [HR.out];rfl,B1.out.alloc B1.out.size _⟩
  · have HR:Hid (R=sp):=by rw [Hid,HR.out];simp [h1]
    cases sp
    all_goals
      go_enter Tryz.func294,Tryz.ntmps294
      go_wp2_with (first
        | (go_at_call 7;refine (HC.out _ (by repeat (first|exact Below.refl _ _|refine Below.setCell ?_ (by simp;try omega) _|refine Below.alloc ?_ (by simp;try omega) _|refine Below.drew ?_))).mono ?_;rintro e w1 ⟨vi,vm,qm,rfl,hown,_,hb⟩;obtain ⟨a1,c1,rfl⟩:=ownv hown.ifs;obtain ⟨a2,c2,rfl⟩:=ownv hown.ms;have B1:Hid (Below W.heap.size W w1):=bstep (by repeat (first|exact Below.refl _ _|refine Below.setCell ?_ (by simp;try omega) _|refine Below.alloc ?_ (by simp;try omega) _|refine Below.drew ?_)) hb;clear hown hb HC)
        | (go_at_call 256;refine (HO.out _).mono ?_;rintro e w9 ⟨rfl,hw9⟩;rw [hw9];clear hw9 w9)
        | (go_at_call 257;refine (HS.out _ (B1.out.alloc B1.out.size _)).mono ?_;rintro e w2 ⟨rfl,hb⟩;have B2:Hid (Below W.heap.size W w2):=hb;clear hb HS))
      exact bodyPost_ret (results_tmp rfl _ _ _) rfl ⟨by rw [HR.out];rfl,B2.out⟩
theorem inNs_iff (ps:List Plc) (l:List Int):inNs ps.length l=l.all fun i=>(plcI ps i).isSome:=by
  rw [inNs]
  congr 1
  funext i
  rcases plcI_cases ps i with ⟨h1,h2⟩|⟨k,q,rfl,h2,h1⟩
  · rw [h1]
    by_cases h0:0≤i
    · have:¬ i<(ps.length:Int):=fun h=>h2 ⟨h0,h⟩
      simp [this]
    · simp [h0]
  · rw [h1]
    have:=(List.getElem?_eq_some_iff.1 h2).1
    simp;omega
theorem retB {a b:Bool} (h:a=b):Ending.returned (.bool a)=Ending.returned (.bool b):=by rw [h]
set_option maxHeartbeats 1000000 in
theorem aBelow_c {b:Nat} {ps:List Plc} {W:World} (h:WAt b ps W) (hi:WI ps) (d c n:Int) (st:Bool):Calls Tryz.prog 258 #[.pointer (some ⟨b,0,none⟩),.int .i64 d,.int .i64 c,.int .i64 n,.bool st] W fun e w'=>e=.returned (.bool (extI ps d c&&!ifcI ps c&&(st||extI ps n d||extI ps d n)))∧Below W.heap.size W w':=by
  have HE:Hid (∀ i j w,Below W.heap.size W w→Calls Tryz.prog 9 #[.pointer (some ⟨b,0,none⟩),.int .i64 i,.int .i64 j] w fun e w'=>e=.returned (.bool (extI ps i j))∧Below W.heap.size W w'):=fun i j w hb=>(extends_c (h.below hb) hi i j).mono fun e w' zz=>⟨zz.1,bstep hb zz.2⟩
  have HI:Hid (∀ i w,Below W.heap.size W w→Calls Tryz.prog 8 #[.pointer (some ⟨b,0,none⟩),.int .i64 i] w fun e w'=>e=.returned (.bool (ifcI ps i))∧Below W.heap.size W w'):=fun i w hb=>(isIface_c (h.below hb) i).mono fun e w' zz=>⟨zz.1,bstep hb zz.2⟩
  have HR:Hid ((extI ps d c&&!ifcI ps c&&(st||extI ps n d||extI ps d n))=(extI ps d c&&!ifcI ps c&&(st||extI ps n d||extI ps d n))):=rfl
  generalize hRR:(extI ps d c&&!ifcI ps c&&(st||extI ps n d||extI ps d n))=R
  have HRR:Hid (R=(extI ps d c&&!ifcI ps c&&(st||extI ps n d||extI ps d n))):=hRR.symm
  clear hRR HR
  generalize extI ps=E at *
  generalize ifcI ps=F at *
  clear h hi
  have BB:Hid (Below W.heap.size W W):=Below.refl _ _
  go_enter Tryz.func258,Tryz.ntmps258
  go_wp2_with (first
    | (go_at_call 9;refine (HE.out _ _ _ BB.out).mono ?_;rintro e w1 ⟨rfl,hb⟩;clear BB;have BB:Hid (Below W.heap.size W w1):=hb;clear hb)
    | (go_at_call 8;refine (HI.out _ _ BB.out).mono ?_;rintro e w1 ⟨rfl,hb⟩;clear BB;have BB:Hid (Below W.heap.size W w1):=hb;clear hb))
  all_goals go_ret
  all_goals exact ⟨retB (by rw [HRR.out];simp [*]),BB.out⟩
def mOpen (ps:List Plc) (d c n f:Int) (sp:Bool):Bool :=
  if openI f=1 then true else if openI f=2 then c == d else if sp then true else if openI f=4 then extI ps d c&&!ifcI ps c&&(hasI f 8||extI ps n d||extI ps d n) else false
theorem open_cases (f:Int):openI f=1∨openI f=2∨openI f=4∨openI f=0:=by
  unfold openI
  split
  · exact .inl rfl
  · split
    · exact .inr (.inr (.inl rfl))
    · split
      · exact .inr (.inl rfl)
      · exact .inr (.inr (.inr rfl))
set_option maxHeartbeats 1000000 in
theorem aMth_c {b:Nat} {ps:List Plc} {W:World} (h:WAt b ps W) (hi:WI ps) (d c:Nat) (n f:Int) (p q:Plc) (hd:ps[d]?=some p) (hc:ps[c]?=some q):Calls Tryz.prog 220 #[.pointer (some ⟨b,0,none⟩),.int .i64 (d:Int),.int .i64 (c:Int),.int .i64 n,.int .i64 f] W fun e w'=>e=.returned (.bool (mOpen ps d c n f (samePk q p)))∧Below W.heap.size W w':=by
  have HO:Hid (∀ w:World,Calls Tryz.prog 256 #[.int .i64 f] w fun e w'=>e=.returned (.int .i64 (openI f))∧w'=w):=fun w=>open_c f w
  have HS:Hid (∀ w,Below W.heap.size W w→Calls Tryz.prog 257 #[.pointer (some ⟨b,0,none⟩),.int .i64 (c:Int),.int .i64 (d:Int)] w fun e w'=>e=.returned (.bool (samePk q p))∧Below W.heap.size W w'):=fun w hb=>(aSame_c (h.below hb) hi.pb c d q p hc hd).mono fun e w' zz=>⟨zz.1,bstep hb zz.2⟩
  have HL:Hid (∀ st w,Below W.heap.size W w→Calls Tryz.prog 258 #[.pointer (some ⟨b,0,none⟩),.int .i64 (d:Int),.int .i64 (c:Int),.int .i64 n,.bool st] w fun e w'=>e=.returned (.bool (extI ps d c&&!ifcI ps c&&(st||extI ps n d||extI ps d n)))∧Below W.heap.size W w'):=fun st w hb=>(aBelow_c (h.below hb) hi d c n st).mono fun e w' zz=>⟨zz.1,bstep hb zz.2⟩
  have HR:Hid (mOpen ps d c n f (samePk q p)=(if openI f=1 then true else if openI f=2 then (c:Int) == (d:Int) else if samePk q p then true else if openI f=4 then extI ps d c&&!ifcI ps c&&(hasI f 8||extI ps n d||extI ps d n) else false)):=rfl
  generalize mOpen ps d c n f (samePk q p)=R at *
  generalize samePk q p=sp at *
  have h8:hasI f 8=(bits .and .i64 f 8 != 0):=rfl
  rw [h8] at HR
  clear h8
  have hop:=open_cases f
  generalize openI f=op at *
  generalize extI ps (d:Int) (c:Int)=e1 at *
  generalize ifcI ps (c:Int)=i1 at *
  generalize extI ps n (d:Int)=e2 at *
  generalize extI ps (d:Int) n=e3 at *
  clear h hi hd hc
  have BB:Hid (Below W.heap.size W W):=Below.refl _ _
  rcases hop with rfl|rfl|rfl|rfl
  all_goals cases sp
  all_goals
    go_enter Tryz.func220,Tryz.ntmps220
    go_wp2_with (first
      | (go_at_call 256;refine (HO.out _).mono ?_;rintro e w9 ⟨rfl,hw9⟩;rw [hw9];clear hw9 w9)
      | (go_at_call 257;refine (HS.out _ BB.out).mono ?_;rintro e w1 ⟨rfl,hb⟩;clear BB;have BB:Hid (Below W.heap.size W w1):=hb;clear hb)
      | (go_at_call 258;refine (HL.out _ _ BB.out).mono ?_;rintro e w2 ⟨rfl,hb⟩;clear BB;have BB:Hid (Below W.heap.size W w2):=hb;clear hb))
    all_goals go_ret
    all_goals exact ⟨retB (by rw [HR.out];simp [bne]),BB.out⟩
def moI (ps:List Plc) (d c i n:Int):Value:=match plcI ps d,plcI ps n,plcI ps c,methI ps c i with
  | some p,some _,some q,some m=>.tuple #[.bool (mOpen ps d c n m.fl (samePk q p)),.int .i64 0]
  | _,_,_,_=>.tuple #[.bool false,.int .i64 3]
theorem meth_plc {ps:List Plc} {c i:Int} {m:HM} (h:methI ps c i=some m):∃ (k:Nat) (q:Plc),c=(k:Int)∧ps[k]?=some q∧plcI ps c=some q∧methP q i=some m:=by
  rcases plcI_cases ps c with ⟨h1,_⟩|⟨k,q,rfl,h2,h1⟩
  · rw [methI,h1] at h;cases h
  · rw [methI,h1] at h
    exact ⟨k,q,rfl,h2,h1,h⟩
set_option maxHeartbeats 1000000 in
theorem methodOpen_c {b:Nat} {ps:List Plc} {W:World} (h:WAt b ps W) (hi:WI ps) (d c i n:Int):Calls Tryz.prog 182 #[.pointer (some ⟨b,0,none⟩),.int .i64 d,.agg #[.int .i64 c,.int .i64 i],.int .i64 n] W fun e w'=>e=.returned (moI ps d c i n)∧Below W.heap.size W w':=by
  have HC:Hid (∀ (w:World) (v:Value),Below W.heap.size W w→Rds w v 2 1 [.int .i64 d,.int .i64 n]→Calls Tryz.prog 219 #[.pointer (some ⟨b,0,none⟩),v] w fun e w'=>e=.returned (.int .i64 (if (plcI ps d).isSome&&(plcI ps n).isSome then 0 else 3))∧Below w.heap.size w w'):=fun w v hb hv=>(check_c (h.below hb) v [d,n] hv (by simp)).mono fun e w' zz=>⟨by rw [zz.1,inNs_iff];simp,zz.2⟩
  have HM:Hid (∀ w,Below W.heap.size W w→Calls Tryz.prog 142 #[.pointer (some ⟨b,0,none⟩),.agg #[.int .i64 c,.int .i64 i]] w fun e w'=>MthR w.heap.size (methI ps c i) e w'∧Below w.heap.size w w'):=fun w hb=>method_c (h.below hb) hi.pb c i
  cases hdn:(plcI ps d).isSome&&(plcI ps n).isSome with
  | false =>
    have e:moI ps d c i n=.tuple #[.bool false,.int .i64 3]:=by
      unfold moI
      cases h1:plcI ps d with
      | none=>rfl
      | some p=>cases h2:plcI ps n with
        | none=>rfl
        | some q=>rw [h1,h2] at hdn;cases hdn
    rw [e]
    rw [hdn] at HC
    simp only [Bool.false_eq_true,if_false] at HC
    clear h e hdn HM
    go_enter Tryz.func182,Tryz.ntmps182
    go_wp2_with (first
      | (go_at_call 219;refine (HC.out _ _ (by repeat (first|exact Below.refl _ _|refine Below.setCell ?_ (by simp;try omega) _|refine Below.alloc ?_ (by simp;try omega) _|refine Below.drew ?_)) (rds_at _ _ (by simp) _ 3 2 1 rfl (by decide))).mono ?_;rintro e w1 ⟨rfl,hb⟩;have B1:Hid (Below W.heap.size W w1):=bstep (by repeat (first|exact Below.refl _ _|refine Below.setCell ?_ (by simp;try omega) _|refine Below.alloc ?_ (by simp;try omega) _|refine Below.drew ?_)) hb;clear hb HC))
    exact bodyPost_ret (results_tmp2 rfl _ _ _) rfl ⟨rfl,B1.out⟩
  | true =>
    rw [hdn] at HC
    simp only [if_true] at HC
    cases hm:methI ps c i with
    | none =>
      have e:moI ps d c i n=.tuple #[.bool false,.int .i64 3]:=by
        unfold moI;rw [hm]
        cases plcI ps d <;> cases plcI ps n <;> cases plcI ps c <;> rfl
      rw [e]
      rw [hm] at HM
      clear h e hdn hm
      go_enter Tryz.func182,Tryz.ntmps182
      go_wp2_with (first
        | (go_at_call 219;refine (HC.out _ _ (by repeat (first|exact Below.refl _ _|refine Below.setCell ?_ (by simp;try omega) _|refine Below.alloc ?_ (by simp;try omega) _|refine Below.drew ?_)) (rds_at _ _ (by simp) _ 3 2 1 rfl (by decide))).mono ?_;rintro e w1 ⟨rfl,hb⟩;have h0:=(hb.block W.heap.size (by simp;omega)).trans (heap_alloc2_old W _ _);have r0:=cell_of_row w1 W.heap.size 0 _ _ _ h0;have r1:=cell_of_row w1 W.heap.size 1 _ _ _ h0;simp only [List.getElem?_toArray,List.getElem?_cons_zero,List.getElem?_cons_succ] at r0 r1;have B1:Hid (Below W.heap.size W w1):=bstep (by repeat (first|exact Below.refl _ _|refine Below.setCell ?_ (by simp;try omega) _|refine Below.alloc ?_ (by simp;try omega) _|refine Below.drew ?_)) hb;clear hb HC h0)
        | (go_at_call 142;refine (HM.out _ B1.out).mono ?_;rintro e w2 ⟨hr,hb⟩;simp only [MthR,noM] at hr;subst hr;have B2:Hid (Below W.heap.size W w2):=bstep B1.out hb;clear hb HM))
      exact bodyPost_ret (results_tmp2 rfl _ _ _) rfl ⟨rfl,B2.out.alloc B2.out.size _⟩
    | some m =>
      obtain ⟨k,q,rfl,hq,hqI,hmp⟩:=meth_plc hm
      obtain ⟨j,p,rfl,hp,hpI⟩:∃ (j:Nat) (p:Plc),d=(j:Int)∧ps[j]?=some p∧plcI ps d=some p:=by
        rcases plcI_cases ps d with ⟨h1,_⟩|⟨j,p,rfl,h2,h1⟩
        · rw [h1] at hdn;cases hdn
        · exact ⟨j,p,rfl,h2,h1⟩
      have e:moI ps j k i n=.tuple #[.bool (mOpen ps j k n m.fl (samePk q p)),.int .i64 0]:=by
        unfold moI
        rw [hm,hpI,hqI]
        cases h2:plcI ps n with
        | none=>rw [h2,Bool.and_comm] at hdn;cases hdn
        | some _=>rfl
      rw [e]
      rw [hm] at HM
      have HI:Hid (∀ w,Below W.heap.size W w→Calls Tryz.prog 220 #[.pointer (some ⟨b,0,none⟩),.int .i64 (j:Int),.int .i64 (k:Int),.int .i64 n,.int .i64 m.fl] w fun e w'=>e=.returned (.bool (mOpen ps j k n m.fl (samePk q p)))∧Below W.heap.size W w'):=fun w hb=>(aMth_c (h.below hb) hi j k n m.fl p q hp hq).mono fun e w' zz=>⟨zz.1,bstep hb zz.2⟩
      generalize mOpen ps j k n m.fl (samePk q p)=R at *
      clear h e hdn hm hq hqI hmp hp hpI
      go_enter Tryz.func182,Tryz.ntmps182
      go_wp2_with (first
        | (go_at_call 219;refine (HC.out _ _ (by repeat (first|exact Below.refl _ _|refine Below.setCell ?_ (by simp;try omega) _|refine Below.alloc ?_ (by simp;try omega) _|refine Below.drew ?_)) (rds_at _ _ (by simp) _ 3 2 1 rfl (by decide))).mono ?_;rintro e w1 ⟨rfl,hb⟩;have h0:=(hb.block W.heap.size (by simp;omega)).trans (heap_alloc2_old W _ _);have r0:=cell_of_row w1 W.heap.size 0 _ _ _ h0;have r1:=cell_of_row w1 W.heap.size 1 _ _ _ h0;simp only [List.getElem?_toArray,List.getElem?_cons_zero,List.getElem?_cons_succ] at r0 r1;have hl0:W.heap.size<w1.heap.size:=(Array.getElem?_eq_some_iff.1 h0).1;have B1:Hid (Below W.heap.size W w1):=bstep (by repeat (first|exact Below.refl _ _|refine Below.setCell ?_ (by simp;try omega) _|refine Below.alloc ?_ (by simp;try omega) _|refine Below.drew ?_)) hb;clear hb HC h0)
        | (go_at_call 142;refine (HM.out _ B1.out).mono ?_;rintro e w2 ⟨hr,hb⟩;obtain ⟨vv,rfl,hown⟩:=hr;obtain ⟨a1,c1,rfl⟩:=ownv hown;replace r0:=(hb.cell (p:=⟨W.heap.size,0,none⟩) hl0).trans r0;replace r1:=(hb.cell (p:=⟨W.heap.size,1,none⟩) hl0).trans r1;have hl2:W.heap.size<w2.heap.size:=Nat.lt_of_lt_of_le hl0 hb.size;have hn2:¬ W.heap.size=w2.heap.size:=(by omega);have B2:Hid (Below W.heap.size W w2):=bstep B1.out hb;clear hb HM hown)
        | (go_at_call 220;refine (HI.out _ (B2.out.alloc B2.out.size _)).mono ?_;rintro e w3 ⟨rfl,hb⟩;have B3:Hid (Below W.heap.size W w3):=hb;clear hb HI))
      exact bodyPost_ret (results_tmp2 rfl _ _ _) rfl ⟨rfl,B3.out⟩
end Go.Proofs.YtenpnkkkjjdccaaGreat
