import Derived.Test.YtkoogmegdfpopaaGreatHrC
import Derived.Deep.OwnRows
set_option maxRecDepth 100000
namespace Go.Proofs.YtkoogmegdfpopaaGreat
open Go.RowKit
structure PV where
 nm:ByteArray
 su:ByteArray
 vi:Value
 fl:Int
 ld:Int
 vm:Value
 sp:Nat
 vc:Value
def pvC (p:PV):List Value:=[.string p.nm,.string p.su,p.vi,.int .i64 p.fl,.int .i64 p.ld,p.vm,.int .i64 (p.sp:Int),p.vc]
def Xv (l:List PV):List Value:=l.flatMap pvC
theorem Zaa (l:List PV) (k:Nat) (p:PV) (h:l[k]?=some p) (j:Nat) (hj:j<8):(Xv l)[k * 8+j]?=(pvC p)[j]?:=by
 induction l generalizing k with
 | nil=>simp at h
 | cons u ts ih =>
   have e:Xv (u::ts)=pvC u++Xv ts:=by simp [Xv]
   rw [e]
   cases k with
   | zero=>simp at h;subst h;rw [List.getElem?_append_left (by simp [pvC];omega)];simp
   | succ k =>
     simp at h
     rw [List.getElem?_append_right (by simp [pvC];omega)]
     have:=ih k h
     rw [← this]
     congr 1
     simp [pvC];omega
def gathF (cls:List (List Nat)) (c:List Nat) (i:Nat):List Nat:=Zg (Zg c (cls.getD i [])) [i]
def Zz (cls:List (List Nat)) (sup:Nat) (ifs:List Nat):List Nat:=ifs.foldl (gathF cls) (Zg [] (cls.getD sup []))
theorem Tryz.hinfo4:(Tryz.prog.info? 4).map (fun i=>(i.zero,i.size,i.bytes))=some (some (.bool false),1,1):=by kernel_rfl
def Clos (w:World) (pv:List PV) (cls:List (List Nat)):Prop:=cls.length=pv.length∧∀ (k:Nat) (p:PV) (cl:List Nat),pv[k]?=some p→cls[k]?=some cl→w.ownsRow 0 3 1 p.vc cl.length (cl.map numV)∧(∀ i∈cl,i<pv.length)∧cl.length≤pv.length
theorem Zbu (b n:Nat) (ap:Option Addr) (cp:Nat) (mv:Value) (i:Int) (W:World) (hb:W.heap[b]?=some (.cells #[.slice ap n cp,mv] 70 (0,0))):Calls Tryz.prog 36 #[.pointer (some ⟨b,0,none⟩),.int .i64 i] W fun e w'=>e=.returned (.bool (decide (0≤i)&&decide (i<n)))∧w'=W:=by
 have b0:=cell_of_row W b 0 _ _ _ hb
 simp only [List.getElem?_toArray,List.getElem?_cons_zero] at b0
 clear hb
 by_cases h0:0≤i
 ·by_cases h1:i<n
  ·go_enter Tryz.func36,Tryz.ntmps36
   go_wp2
   exact bodyPost_ret (results_tmp rfl _ _ _) rfl ⟨by simp [h0,h1],rfl⟩
  ·go_enter Tryz.func36,Tryz.ntmps36
   go_wp2
   exact bodyPost_ret (results_tmp rfl _ _ _) rfl ⟨by simp [h1],rfl⟩
 ·go_enter Tryz.func36,Tryz.ntmps36
  go_wp2
  exact bodyPost_ret (results_tmp rfl _ _ _) rfl ⟨by rw [decide_eq_false (by omega)];rfl,rfl⟩
theorem Zie (n:Nat):madeCells #[.bool false] n=(Jz n []).toArray:=by
 apply Array.ext'
 rw [madeCells,Jz]
 simp
 intro a _
 rw [Nat.mod_one]
 rfl
theorem GSt.alloc {w:World} {N bs bc gs n:Nat} {vc:Value} {cl:List Nat} (h:GSt w N bs bc gs n vc cl) (o:Obj):GSt (w.alloc o) N bs bc gs n vc cl :=
 have lt:∀ {b:Nat} {x:Obj},w.heap[b]?=some x→b<w.heap.size:=fun hb=>(Array.getElem?_eq_some_iff.1 hb).1
 ⟨(heap_alloc_old _ _ (lt h.hs)).trans h.hs,(heap_alloc_old _ _ (lt h.hg)).trans h.hg,(heap_alloc_old _ _ (lt h.hc)).trans h.hc,h.own.alloc o,h.ls,h.lc,h.lg⟩
theorem own_kind {w:World} {N e s:Nat} {v:Value} {n:Nat} {xs:List Value} (h:w.ownsRow N e s v n xs) {bk o cap m:Nat} (hv:v=.slice (some ⟨bk,o,none⟩) m cap):∃ cs,w.heap[bk]?=some (.cells cs e (0,0)):=by
 rcases h.2 with ⟨e2,_⟩|⟨g,c,cur,e2,_,hg,_⟩
 ·rw [hv] at e2;simp at e2
 ·rw [hv] at e2
  simp only [Value.slice.injEq,Option.some.injEq,Addr.mk.injEq] at e2
  obtain ⟨⟨rfl,_,_⟩,_,_⟩:=e2
  exact ⟨cur,hg⟩
theorem Zaf {W:World} {bs bc gs n:Nat} {pv:List PV} {cls:List (List Nat)} (hcl:Clos W pv cls) (hn:pv.length=n) (hn3:n≤300) (w:World) (ve:Value) (ce:List Nat) (k:Nat) (p:PV) (ck:List Nat) (hp:pv[k]?=some p) (hc:cls[k]?=some ck) (hB:Bw W w) (hG:GSt w W.heap.size bs bc gs n ve ce) (hl:ce.length≤900000) :
 Calls Tryz.prog 69 #[p.vc,.pointer (some ⟨bs,0,none⟩),.pointer (some ⟨bc,0,none⟩)] w fun e w'=>e=.returned (.tuple #[])∧(∃ ve',GSt w' W.heap.size bs bc gs n ve' (Zg ce ck))∧Below W.heap.size w w':=by
 obtain ⟨h1,h2,h3⟩:=hcl.2 k p ck hp hc
 have h4:=Zi h1 hB
 refine Ze9 bs bc gs n W.heap.size ve ce p.vc ck w hG (Zw h4) (fun bk o cap e=>?_) (fun i hi=>by rw [← hn];exact h2 i hi) (by omega) (by omega)
 refine ⟨own_kind h4 e,fun e2=>?_⟩
 have h5:=(hG.own.lt bk e2).1
 have h6:p.vc.ownBlock=some bk:=by
  rcases h1.2 with ⟨e3,_⟩|⟨g,c,cur,e3,_⟩
  ·rw [e] at e3;simp at e3
  ·rw [e] at e3
   simp only [Value.slice.injEq,Option.some.injEq,Addr.mk.injEq] at e3
   rw [e,e3.1.1]
   simp [Value.ownBlock]
 have:=(h1.lt bk h6).2
 omega
theorem Zc2 {W:World} {bs bc gs n:Nat} (hn3:n≤300) (w:World) (ve:Value) (ce:List Nat) (i:Nat) (hi:i<n) (hG:GSt w W.heap.size bs bc gs n ve ce) (hl:ce.length≤900000) :
 Calls Tryz.prog 69 #[.slice (some ⟨w.heap.size,0,none⟩) 1 1,.pointer (some ⟨bs,0,none⟩),.pointer (some ⟨bc,0,none⟩)] (w.alloc (.cells #[.int .i64 (i:Int)] 3)) fun e w'=>e=.returned (.tuple #[])∧(∃ ve',GSt w' W.heap.size bs bc gs n ve' (Zg ce [i]))∧Below W.heap.size w w':=by
 have hNw:W.heap.size≤w.heap.size:=Nat.le_trans hG.ls (Nat.le_of_lt (Array.getElem?_eq_some_iff.1 hG.hs).1)
 refine (Ze9 bs bc gs n W.heap.size ve ce _ [i] (w.alloc (.cells #[.int .i64 (i:Int)] 3)) (hG.alloc _) ⟨rfl,.inr ⟨w.heap.size,0,1,rfl,Nat.le_refl _,by decide,by simp,fun j u hj=>?_⟩⟩ (fun bk o cap e=>?_) (fun j hj=>by simp at hj;subst hj;exact hi) (by omega) (by simp;omega)).mono ?_
 ·cases j with
  | zero=>simp [numV] at hj;subst hj;exact (cell_of_row _ w.heap.size 0 _ _ _ (heap_alloc_new w _)).trans rfl
  | succ j=>simp at hj
 ·simp only [Value.slice.injEq,Option.some.injEq,Addr.mk.injEq] at e
  obtain ⟨⟨rfl,_,_⟩,_,_⟩:=e
  refine ⟨⟨_,heap_alloc_new w _⟩,fun e2=>?_⟩
  have:=(hG.own.lt _ e2).2
  omega
 ·rintro e w' ⟨h1,h2,h3⟩
  exact ⟨h1,h2,((Below.refl _ _).alloc hNw _).trans h3⟩
set_option maxHeartbeats 2000000 in
theorem Zg2 (b:Nat) (vp mv:Value) (pv:List PV) (cls:List (List Nat)) (sup:Nat) (vif:Value) (ifs:List Nat) (W:World)
 (hb:W.heap[b]?=some (.cells #[vp,mv] 70 (0,0))) (hp:Rds W vp pv.length 8 (Xv pv)) (hcl:Clos W pv cls) (hif:Rds W vif ifs.length 1 (ifs.map numV)) (hil:∀ i∈ifs,i<pv.length) (hn:pv.length≤300) (hni:ifs.length≤1000) (hsup:sup≤300) :
 Calls Tryz.prog 48 #[.pointer (some ⟨b,0,none⟩),.int .i64 (sup:Int),vif] W fun e w'=>∃ v',e=.returned v'∧w'.ownsRow W.heap.size 3 1 v' (Zz cls sup ifs).length ((Zz cls sup ifs).map numV)∧Bw W w':=by
 obtain ⟨n,hnn⟩:∃ n,pv.length=n:=⟨_,rfl⟩
 have HN:Hid (pv.length=n):=hnn
 have HP:Hid (Rds W vp pv.length 8 (Xv pv)):=hp
 have HI:Hid (Rds W vif ifs.length 1 (ifs.map numV)):=hif
 have HB:Hid (W.heap[b]?=some (.cells #[vp,mv] 70 (0,0))):=hb
 have HCL:Hid (Clos W pv cls):=hcl
 have HIL:Hid (∀ i∈ifs,i<pv.length):=hil
 obtain ⟨ap,cp,rfl⟩:∃ a c,vp=.slice a n c:=by
  rcases hp.val with ⟨e,e2⟩|⟨_,_,c,e,_⟩
  ·rw [← hnn,e2];exact ⟨_,_,e⟩
  ·rw [← hnn];exact ⟨_,_,e⟩
 rw [hnn] at hn
 have hblt:b<W.heap.size:=(Array.getElem?_eq_some_iff.1 hb).1
 have b0:=cell_of_row W b 0 _ _ _ hb
 simp only [List.getElem?_toArray,List.getElem?_cons_zero] at b0
 clear hnn hp hif hb hcl hil
 have hmk:=run_make_row' (P:=Tryz.prog) 110 4 (.bool false) 1 Tryz.underlying110 Tryz.hinfo4 rfl .i64 .i64 n (by omega) (by omega)
 obtain ⟨Wg,hWg⟩:∃ x,x=((W.alloc (.cells #[.slice none 0 0] 57)).alloc (.cells (madeCells #[.bool false] n) 4)).alloc (.cells #[.slice (some ⟨W.heap.size+1,0,none⟩) n n] 110):=⟨_,rfl⟩
 have hBg:Bw W Wg:=by rw [hWg];exact (((Below.refl _ _).alloc (Nat.le_refl _) _).alloc (by simp) _).alloc (by simp;omega) _
 have HWE:Hid (Wg=((W.alloc (.cells #[.slice none 0 0] 57)).alloc (.cells (madeCells #[.bool false] n) 4)).alloc (.cells #[.slice (some ⟨W.heap.size+1,0,none⟩) n n] 110)):=hWg
 have HG0:Hid (GSt Wg W.heap.size (W.heap.size+1+1) W.heap.size (W.heap.size+1) n (.slice none 0 0) []):=by
  have e1:Wg.heap[W.heap.size]?=some (.cells #[.slice none 0 0] 57 (0,0)):=by rw [hWg,heap_alloc_old _ _ (by simp;omega)];exact heap_alloc2_old W _ _
  have e2:Wg.heap[W.heap.size+1]?=some (.cells (madeCells #[.bool false] n) 4 (0,0)):=by rw [hWg,heap_alloc_old _ _ (by simp)];exact heap_alloc2_new W _ _
  have e3:Wg.heap[W.heap.size+2]?=some (.cells #[.slice (some ⟨W.heap.size+1,0,none⟩) n n] 110 (0,0)):=by
   have:=heap_alloc_new ((W.alloc (.cells #[.slice none 0 0] 57)).alloc (.cells (madeCells #[.bool false] n) 4)) (.cells #[.slice (some ⟨W.heap.size+1,0,none⟩) n n] 110)
   rw [← hWg] at this
   simpa using this
  refine ⟨e3,?_,e1,World.ownsRow_nil _ _ _ _,by omega,Nat.le_refl _,by omega⟩
  rw [e2,Zie]
 have HBg:Hid (Bw W Wg):=hBg
 have hbg:Wg.heap[b]?=some (.cells #[.slice ap n cp,mv] 70 (0,0)):=(hBg.block b hblt).trans HB.out
 have HH:Hid (∀ i:Int,Calls Tryz.prog 36 #[.pointer (some ⟨b,0,none⟩),.int .i64 i] Wg fun e w'=>e=.returned (.bool (decide (0≤i)&&decide (i<n)))∧w'=Wg):=fun i=>Zbu b n ap cp mv i Wg hbg
 have g0:=cell_of_row Wg b 0 _ _ _ hbg
 simp only [List.getElem?_toArray,List.getElem?_cons_zero] at g0
 have hs0:(0:Int)≤(sup:Int):=by omega
 clear hWg hbg hBg
 go_enter Tryz.func48,Tryz.ntmps48
 by_cases hsn:sup<n
 ·have hsn2:(sup:Int)<(n:Int):=by omega
  obtain ⟨pk,hpk⟩:∃ p,pv[sup]?=some p:=⟨_,List.getElem?_eq_getElem (by rw [HN.out];exact hsn)⟩
  obtain ⟨ck,hck⟩:∃ c,cls[sup]?=some c:=⟨_,List.getElem?_eq_getElem (by rw [HCL.out.1,HN.out];exact hsn)⟩
  obtain ⟨bk,o,rfl,hbk,hcell⟩:∃ bk o,ap=some ⟨bk,o,none⟩∧bk<W.heap.size∧W.cell? ⟨bk,o+(sup * 8+7),none⟩=some pk.vc:=by
   rcases HP.out.val with ⟨_,e2⟩|⟨bk,o,c,e,_,_,h3,h4⟩
   ·rw [HN.out] at e2;omega
   ·simp only [Value.slice.injEq] at e
    exact ⟨bk,o,e.1,h3,h4 (sup * 8+7) _ (Zaa pv sup pk hpk 7 (by omega))⟩
  have hcg:Wg.cell? ⟨bk,o+sup * 8+7,none⟩=some pk.vc:=by rw [Nat.add_assoc];exact (HBg.out.cell (p:=⟨bk,o+(sup * 8+7),none⟩) hbk).trans hcell
  have HI0:Hid ((Zg [] (cls.getD sup [])).length≤300):=by
   rcases Nat.lt_or_ge sup pv.length with h|h
   ·obtain ⟨c,hc⟩:∃ c,cls[sup]?=some c:=⟨_,List.getElem?_eq_getElem (by rw [HCL.out.1];exact h)⟩
    obtain ⟨p,hp⟩:∃ p,pv[sup]?=some p:=⟨_,List.getElem?_eq_getElem h⟩
    have h1:=(HCL.out.2 sup p c hp hc).2.2
    have h2:=Yu [] c
    rw [Hid,List.getD_eq_getElem?_getD,hc]
    have h3:=HN.out
    simp at h2 ⊢
    omega
   ·rw [Hid,List.getD_eq_getElem?_getD,List.getElem?_eq_none (by rw [HCL.out.1];exact h)]
    simp [Zg]
  obtain ⟨K,hK⟩:∃ K,ifs.length=K:=⟨_,rfl⟩
  have HK:Hid (ifs.length=K):=hK
  obtain ⟨aif,cif,rfl⟩:∃ a c,vif=.slice a K c:=by
   rcases HI.out.val with ⟨e,e2⟩|⟨_,_,c,e,_⟩
   ·rw [← hK,e2];exact ⟨_,_,e⟩
   ·rw [← hK];exact ⟨_,_,e⟩
  rw [hK] at hni
  clear hK
  have HT:Hid (Calls Tryz.prog 69 #[pk.vc,.pointer (some ⟨W.heap.size+1+1,0,none⟩),.pointer (some ⟨W.heap.size,0,none⟩)] Wg fun e w'=>e=.returned (.tuple #[])∧(∃ ve',GSt w' W.heap.size (W.heap.size+1+1) W.heap.size (W.heap.size+1) n ve' (Zg [] ck))∧Below W.heap.size Wg w'):=Zaf HCL.out HN.out hn Wg _ _ sup pk ck hpk hck HBg.out HG0.out (by decide)
  have HCK:Hid (cls.getD sup []=ck):=by rw [Hid,List.getD_eq_getElem?_getD,hck];rfl
  rw [← HCK.out] at HT
  clear hpk hck HCK hcell
  go_wp2_with (first
   | (go_at_call 36;rw [← HWE.out];refine (HH.out _).mono ?_;rintro e w9 ⟨rfl,hw9⟩;rw [hw9];clear hw9 w9 HH HWE)
   | (go_at_call 69;refine HT.out.mono ?_;rintro e w1 ⟨rfl,⟨ve1,hg1⟩,hb1⟩;have GS:Hid (GSt w1 W.heap.size (W.heap.size+1+1) W.heap.size (W.heap.size+1) n ve1 (Zg [] (cls.getD sup []))):=hg1;have HBS:Hid (Bw W w1):=HBg.out.trans hb1;clear hg1 hb1 HT hcg g0 HBg HG0))
  go_loopw [34] (fun kv wr=>∃ (k:Nat) (ve:Value),kv=.int .i64 k∧k≤K∧Hid (GSt wr W.heap.size (W.heap.size+1+1) W.heap.size (W.heap.size+1) n ve ((ifs.take k).foldl (gathF cls) (Zg [] (cls.getD sup []))))∧Hid (((ifs.take k).foldl (gathF cls) (Zg [] (cls.getD sup []))).length≤300+k * 301)∧Hid (Bw W wr)) (fun kv _=>K - (intOf kv).toNat)
  case atStart=>exact ⟨0,_,rfl,Nat.zero_le _,GS,HI0,HBS⟩
  case round =>
   obtain ⟨k,ve,rfl,hk,hG,hLn,hB⟩:=hrel
   clear GS HI0 HBS
   have hcw:=cell_of_row wr W.heap.size 0 _ _ _ hG.out.hc
   simp only [List.getElem?_toArray,List.getElem?_cons_zero] at hcw
   have hbw:=(hB.out.cell (p:=⟨b,0,none⟩) hblt).trans b0
   by_cases hlt:k<K
   ·obtain ⟨id,hid⟩:∃ p,ifs[k]?=some p:=⟨_,List.getElem?_eq_getElem (by rw [HK.out];exact hlt)⟩
    have hidn:id<n:=by have:=HIL.out id (List.mem_of_getElem? hid);rw [HN.out] at this;exact this
    obtain ⟨ik,io,rfl,hik,hicell⟩:∃ bk o,aif=some ⟨bk,o,none⟩∧bk<W.heap.size∧W.cell? ⟨bk,o+k,none⟩=some (.int .i64 (id:Int)):=by
     rcases HI.out.val with ⟨_,e2⟩|⟨bk,o,c,e,_,_,h3,h4⟩
     ·rw [HK.out] at e2;omega
     ·simp only [Value.slice.injEq] at e
      exact ⟨bk,o,e.1,h3,h4 k _ (by rw [List.getElem?_map,hid];rfl)⟩
    obtain ⟨pj,hpj⟩:∃ p,pv[id]?=some p:=⟨_,List.getElem?_eq_getElem (by rw [HN.out];exact hidn)⟩
    obtain ⟨cj,hcj⟩:∃ c,cls[id]?=some c:=⟨_,List.getElem?_eq_getElem (by rw [HCL.out.1,HN.out];exact hidn)⟩
    have hpcell:W.cell? ⟨bk,o+(id * 8+7),none⟩=some pj.vc:=by
     rcases HP.out.val with ⟨_,e2⟩|⟨bk',o',c,e,_,_,h3,h4⟩
     ·rw [HN.out] at e2;omega
     ·simp only [Value.slice.injEq,Option.some.injEq,Addr.mk.injEq] at e
      obtain ⟨⟨rfl,rfl,_⟩,_,_⟩:=e
      exact h4 (id * 8+7) _ (Zaa pv id pj hpj 7 (by omega))
    have hic:=(hB.out.cell (p:=⟨ik,io+k,none⟩) hik).trans hicell
    have hpc:wr.cell? ⟨bk,o+id * 8+7,none⟩=some pj.vc:=by rw [Nat.add_assoc];exact (hB.out.cell (p:=⟨bk,o+(id * 8+7),none⟩) hbk).trans hpcell
    have hidI:(id:Int)<(n:Int):=by omega
    have NX:Hid ((ifs.take (k+1)).foldl (gathF cls) (Zg [] (cls.getD sup []))=Zg (Zg ((ifs.take k).foldl (gathF cls) (Zg [] (cls.getD sup []))) cj) [id]):=by
     rw [Hid,List.take_add_one,hid,Option.toList_some,List.foldl_append,List.foldl_cons,List.foldl_nil,gathF,List.getD_eq_getElem?_getD (l:=cls) (i:=id),hcj];rfl
    have HCJ:Hid (cj.length≤300):=by have h1:=(HCL.out.2 id pj cj hpj hcj).2.2;rw [HN.out] at h1;exact Nat.le_trans h1 hn
    have T1:Hid (∀ (w:World) (ve:Value) (ce:List Nat),Bw W w→GSt w W.heap.size (W.heap.size+1+1) W.heap.size (W.heap.size+1) n ve ce→ce.length≤900000→Calls Tryz.prog 69 #[pj.vc,.pointer (some ⟨W.heap.size+1+1,0,none⟩),.pointer (some ⟨W.heap.size,0,none⟩)] w fun e w'=>e=.returned (.tuple #[])∧(∃ ve',GSt w' W.heap.size (W.heap.size+1+1) W.heap.size (W.heap.size+1) n ve' (Zg ce cj))∧Below W.heap.size w w'):=fun w ve ce h1 h2 h3=>Zaf HCL.out HN.out hn w ve ce id pj cj hpj hcj h1 h2 h3
    have T2:Hid (∀ (w:World) (ve:Value) (ce:List Nat),GSt w W.heap.size (W.heap.size+1+1) W.heap.size (W.heap.size+1) n ve ce→ce.length≤900000→Calls Tryz.prog 69 #[.slice (some ⟨w.heap.size,0,none⟩) 1 1,.pointer (some ⟨W.heap.size+1+1,0,none⟩),.pointer (some ⟨W.heap.size,0,none⟩)] (w.alloc (.cells #[.int .i64 (id:Int)] 3)) fun e w'=>e=.returned (.tuple #[])∧(∃ ve',GSt w' W.heap.size (W.heap.size+1+1) W.heap.size (W.heap.size+1) n ve' (Zg ce [id]))∧Below W.heap.size w w'):=fun w ve ce h2 h3=>Zc2 hn w ve ce id hidn h2 h3
    generalize (ifs.take k).foldl (gathF cls) (Zg [] (cls.getD sup []))=ce at *
    clear hid hpj hcj hicell hpcell
    have hk1000:k≤1000:=by omega
    have HL2:Hid ((Zg ce cj).length≤300+k * 301+300):=by have h1:=Yu ce cj;have h2:=hLn.out;have h3:=HCJ.out;rw [Hid];omega
    have HL3:Hid ((Zg (Zg ce cj) [id]).length≤300+(k+1) * 301):=by have h1:=Yu (Zg ce cj) [id];have h2:=HL2.out;rw [List.length_singleton] at h1;rw [Hid];omega
    go_wp2_with (first
     | (have hT1:=T1;clear hT1;go_at_call 69;refine (T1.out _ _ _ hB.out hG.out (by have:=hLn.out;omega)).mono ?_;rintro e w2 ⟨rfl,⟨ve2,hg2⟩,hb2⟩;have G2:Hid (GSt w2 W.heap.size (W.heap.size+1+1) W.heap.size (W.heap.size+1) n ve2 (Zg ce cj)):=hg2;have B2:Hid (Bw W w2):=hB.out.trans hb2;clear hg2 hb2 T1)
     | (have hG2:=G2;clear hG2;go_at_call 69;refine (T2.out _ _ _ G2.out (by have:=HL2.out;omega)).mono ?_;rintro e w3 ⟨rfl,⟨ve3,hg3⟩,hb3⟩;have G3:Hid (GSt w3 W.heap.size (W.heap.size+1+1) W.heap.size (W.heap.size+1) n ve3 (Zg (Zg ce cj) [id])):=hg3;have B3:Hid (Bw W w3):=B2.out.trans hb3;clear hg3 hb3 T2))
    go_roundw
    case rel=>exact ⟨k+1,ve3,by go_num,by omega,by rw [NX.out];exact G3,by rw [NX.out];exact HL3,B3⟩
    case measure=>simp [intOf];omega
   ·have hkk:¬ (k:Int)<(K:Int):=by omega
    have hkK:ifs.take k=ifs:=List.take_of_length_le (by rw [HK.out];omega)
    rw [hkK] at hG
    obtain ⟨cf,hcf⟩:∃ c,ifs.foldl (gathF cls) (Zg [] (cls.getD sup []))=c:=⟨_,rfl⟩
    have HCF:Hid (Zz cls sup ifs=cf):=hcf
    rw [hcf] at hG
    obtain ⟨ax,cx,rfl⟩:=ownv hG.out.own
    clear hcf hLn hkK
    go_wp2
    exact bodyPost_ret (results_tmp rfl _ _ _) rfl ⟨_,rfl,by rw [HCF.out];exact hG.out.own,hB.out⟩
 ·
  have HI0:Hid ((Zg [] (cls.getD sup [])).length≤300):=by
   rcases Nat.lt_or_ge sup pv.length with h|h
   ·obtain ⟨c,hc⟩:∃ c,cls[sup]?=some c:=⟨_,List.getElem?_eq_getElem (by rw [HCL.out.1];exact h)⟩
    obtain ⟨p,hp⟩:∃ p,pv[sup]?=some p:=⟨_,List.getElem?_eq_getElem h⟩
    have h1:=(HCL.out.2 sup p c hp hc).2.2
    have h2:=Yu [] c
    rw [Hid,List.getD_eq_getElem?_getD,hc]
    have h3:=HN.out
    simp at h2 ⊢
    omega
   ·rw [Hid,List.getD_eq_getElem?_getD,List.getElem?_eq_none (by rw [HCL.out.1];exact h)]
    simp [Zg]
  obtain ⟨K,hK⟩:∃ K,ifs.length=K:=⟨_,rfl⟩
  have HK:Hid (ifs.length=K):=hK
  obtain ⟨aif,cif,rfl⟩:∃ a c,vif=.slice a K c:=by
   rcases HI.out.val with ⟨e,e2⟩|⟨_,_,c,e,_⟩
   ·rw [← hK,e2];exact ⟨_,_,e⟩
   ·rw [← hK];exact ⟨_,_,e⟩
  rw [hK] at hni
  clear hK
  have GS:Hid (GSt Wg W.heap.size (W.heap.size+1+1) W.heap.size (W.heap.size+1) n (.slice none 0 0) (Zg [] (cls.getD sup []))):=by
   rw [List.getD_eq_getElem?_getD,List.getElem?_eq_none (by rw [HCL.out.1,HN.out];omega)];exact HG0.out
  have HBS:Hid (Bw W Wg):=HBg
  have hsn2:¬ (sup:Int)<(n:Int):=by omega
  clear HG0 HBg
  go_wp2_with (first
   | (go_at_call 36;rw [← HWE.out];refine (HH.out _).mono ?_;rintro e w9 ⟨rfl,hw9⟩;rw [hw9];clear hw9 w9 HH HWE))
  go_loopw [34] (fun kv wr=>∃ (k:Nat) (ve:Value),kv=.int .i64 k∧k≤K∧Hid (GSt wr W.heap.size (W.heap.size+1+1) W.heap.size (W.heap.size+1) n ve ((ifs.take k).foldl (gathF cls) (Zg [] (cls.getD sup []))))∧Hid (((ifs.take k).foldl (gathF cls) (Zg [] (cls.getD sup []))).length≤300+k * 301)∧Hid (Bw W wr)) (fun kv _=>K - (intOf kv).toNat)
  case atStart=>exact ⟨0,_,rfl,Nat.zero_le _,GS,HI0,HBS⟩
  case round =>
   obtain ⟨k,ve,rfl,hk,hG,hLn,hB⟩:=hrel
   clear GS HI0 HBS
   have hcw:=cell_of_row wr W.heap.size 0 _ _ _ hG.out.hc
   simp only [List.getElem?_toArray,List.getElem?_cons_zero] at hcw
   have hbw:=(hB.out.cell (p:=⟨b,0,none⟩) hblt).trans b0
   by_cases hlt:k<K
   ·obtain ⟨id,hid⟩:∃ p,ifs[k]?=some p:=⟨_,List.getElem?_eq_getElem (by rw [HK.out];exact hlt)⟩
    have hidn:id<n:=by have:=HIL.out id (List.mem_of_getElem? hid);rw [HN.out] at this;exact this
    obtain ⟨ik,io,rfl,hik,hicell⟩:∃ bk o,aif=some ⟨bk,o,none⟩∧bk<W.heap.size∧W.cell? ⟨bk,o+k,none⟩=some (.int .i64 (id:Int)):=by
     rcases HI.out.val with ⟨_,e2⟩|⟨bk,o,c,e,_,_,h3,h4⟩
     ·rw [HK.out] at e2;omega
     ·simp only [Value.slice.injEq] at e
      exact ⟨bk,o,e.1,h3,h4 k _ (by rw [List.getElem?_map,hid];rfl)⟩
    obtain ⟨pj,hpj⟩:∃ p,pv[id]?=some p:=⟨_,List.getElem?_eq_getElem (by rw [HN.out];exact hidn)⟩
    obtain ⟨cj,hcj⟩:∃ c,cls[id]?=some c:=⟨_,List.getElem?_eq_getElem (by rw [HCL.out.1,HN.out];exact hidn)⟩
    obtain ⟨pb,po,rfl,hpb,hpcell⟩:∃ bk o,ap=some ⟨bk,o,none⟩∧bk<W.heap.size∧W.cell? ⟨bk,o+(id * 8+7),none⟩=some pj.vc:=by
     rcases HP.out.val with ⟨_,e2⟩|⟨bk,o,c,e,_,_,h3,h4⟩
     ·rw [HN.out] at e2;omega
     ·simp only [Value.slice.injEq] at e
      exact ⟨bk,o,e.1,h3,h4 (id * 8+7) _ (Zaa pv id pj hpj 7 (by omega))⟩
    have hic:=(hB.out.cell (p:=⟨ik,io+k,none⟩) hik).trans hicell
    have hpc:wr.cell? ⟨pb,po+id * 8+7,none⟩=some pj.vc:=by rw [Nat.add_assoc];exact (hB.out.cell (p:=⟨pb,po+(id * 8+7),none⟩) hpb).trans hpcell
    have hidI:(id:Int)<(n:Int):=by omega
    have NX:Hid ((ifs.take (k+1)).foldl (gathF cls) (Zg [] (cls.getD sup []))=Zg (Zg ((ifs.take k).foldl (gathF cls) (Zg [] (cls.getD sup []))) cj) [id]):=by
     rw [Hid,List.take_add_one,hid,Option.toList_some,List.foldl_append,List.foldl_cons,List.foldl_nil,gathF,List.getD_eq_getElem?_getD (l:=cls) (i:=id),hcj];rfl
    have HCJ:Hid (cj.length≤300):=by have h1:=(HCL.out.2 id pj cj hpj hcj).2.2;rw [HN.out] at h1;exact Nat.le_trans h1 hn
    have T1:Hid (∀ (w:World) (ve:Value) (ce:List Nat),Bw W w→GSt w W.heap.size (W.heap.size+1+1) W.heap.size (W.heap.size+1) n ve ce→ce.length≤900000→Calls Tryz.prog 69 #[pj.vc,.pointer (some ⟨W.heap.size+1+1,0,none⟩),.pointer (some ⟨W.heap.size,0,none⟩)] w fun e w'=>e=.returned (.tuple #[])∧(∃ ve',GSt w' W.heap.size (W.heap.size+1+1) W.heap.size (W.heap.size+1) n ve' (Zg ce cj))∧Below W.heap.size w w'):=fun w ve ce h1 h2 h3=>Zaf HCL.out HN.out hn w ve ce id pj cj hpj hcj h1 h2 h3
    have T2:Hid (∀ (w:World) (ve:Value) (ce:List Nat),GSt w W.heap.size (W.heap.size+1+1) W.heap.size (W.heap.size+1) n ve ce→ce.length≤900000→Calls Tryz.prog 69 #[.slice (some ⟨w.heap.size,0,none⟩) 1 1,.pointer (some ⟨W.heap.size+1+1,0,none⟩),.pointer (some ⟨W.heap.size,0,none⟩)] (w.alloc (.cells #[.int .i64 (id:Int)] 3)) fun e w'=>e=.returned (.tuple #[])∧(∃ ve',GSt w' W.heap.size (W.heap.size+1+1) W.heap.size (W.heap.size+1) n ve' (Zg ce [id]))∧Below W.heap.size w w'):=fun w ve ce h2 h3=>Zc2 hn w ve ce id hidn h2 h3
    generalize (ifs.take k).foldl (gathF cls) (Zg [] (cls.getD sup []))=ce at *
    clear hid hpj hcj hicell hpcell
    have hk1000:k≤1000:=by omega
    have HL2:Hid ((Zg ce cj).length≤300+k * 301+300):=by have h1:=Yu ce cj;have h2:=hLn.out;have h3:=HCJ.out;rw [Hid];omega
    have HL3:Hid ((Zg (Zg ce cj) [id]).length≤300+(k+1) * 301):=by have h1:=Yu (Zg ce cj) [id];have h2:=HL2.out;rw [List.length_singleton] at h1;rw [Hid];omega
    go_wp2_with (first
     | (have hT1:=T1;clear hT1;go_at_call 69;refine (T1.out _ _ _ hB.out hG.out (by have:=hLn.out;omega)).mono ?_;rintro e w2 ⟨rfl,⟨ve2,hg2⟩,hb2⟩;have G2:Hid (GSt w2 W.heap.size (W.heap.size+1+1) W.heap.size (W.heap.size+1) n ve2 (Zg ce cj)):=hg2;have B2:Hid (Bw W w2):=hB.out.trans hb2;clear hg2 hb2 T1)
     | (have hG2:=G2;clear hG2;go_at_call 69;refine (T2.out _ _ _ G2.out (by have:=HL2.out;omega)).mono ?_;rintro e w3 ⟨rfl,⟨ve3,hg3⟩,hb3⟩;have G3:Hid (GSt w3 W.heap.size (W.heap.size+1+1) W.heap.size (W.heap.size+1) n ve3 (Zg (Zg ce cj) [id])):=hg3;have B3:Hid (Bw W w3):=B2.out.trans hb3;clear hg3 hb3 T2))
    go_roundw
    case rel=>exact ⟨k+1,ve3,by go_num,by omega,by rw [NX.out];exact G3,by rw [NX.out];exact HL3,B3⟩
    case measure=>simp [intOf];omega
   ·have hkk:¬ (k:Int)<(K:Int):=by omega
    have hkK:ifs.take k=ifs:=List.take_of_length_le (by rw [HK.out];omega)
    rw [hkK] at hG
    obtain ⟨cf,hcf⟩:∃ c,ifs.foldl (gathF cls) (Zg [] (cls.getD sup []))=c:=⟨_,rfl⟩
    have HCF:Hid (Zz cls sup ifs=cf):=hcf
    rw [hcf] at hG
    obtain ⟨ax,cx,rfl⟩:=ownv hG.out.own
    clear hcf hLn hkK
    go_wp2
    exact bodyPost_ret (results_tmp rfl _ _ _) rfl ⟨_,rfl,by rw [HCF.out];exact hG.out.own,hB.out⟩
end Go.Proofs.YtkoogmegdfpopaaGreat
