import Derived.Test.YtlohdfpinmdljaaGreatDoorSkH
import Derived.WalkSmall
set_option maxRecDepth 100000
namespace Go.Proofs.YtlohdfpinmdljaaGreatDoor.Sk
open Go.RowKit Go.Maps
theorem set_same {w w':World} {p:Addr} (v:Value) (h:w'.heap[p.block]?=w.heap[p.block]?):(w'.setCell p v).heap[p.block]?=(w.setCell p v).heap[p.block]?:=by
  unfold World.setCell
  simp only [Array.getElem?_modify]
  simp [h]
theorem below_set2 {N:Nat} {w w':World} (h:Below N w w') (p:Addr) (v:Value):Below N (w.setCell p v) (w'.setCell p v) :=
  ⟨h.os,h.tape,h.output,by simpa [World.setCell] using h.size,fun j hj=>by
    by_cases e:j=p.block
    · subst e;exact set_same v (h.block _ hj)
    · exact (Below.heap_setCell _ _ _ _ e).trans ((h.block j hj).trans (Below.heap_setCell _ _ _ _ e).symm)⟩
theorem cut_last {w:World} {a:Option Addr} {c:Nat} {xs:List (Bool×Int)} (h:w.ownsRow 0 32 2 (.slice a xs.length c) xs.length (flatV xs)) (hx:xs≠[]):w.ownsRow 0 32 2 (.slice a (xs.length - 1) c) (xs.length - 1) (flatV xs.dropLast):=by
  refine own_cut (m:=xs.length) (ys:=flatV [xs.getLast hx]) ?_ (by rw [flatV_len];simp) (by omega)
  rw [← flatV_app,List.dropLast_concat_getLast]
  exact h
set_option maxHeartbeats 1000000 in
theorem tk_no {W:World} {g q c:Nat} {a:Option Addr} (c0:W.cell? ⟨g,q,none⟩=some (.slice a 0 c)):Calls Tryz.prog 222 #[.pointer (some ⟨g,q,none⟩)] W fun e w'=>e=.returned (.tuple #[noV,.int .i64 35])∧Below W.heap.size W w':=by
  have hg:g<W.heap.size:=World.block_lt_of_cell? W _ c0
  have HP:Hid (∀ w,Below W.heap.size W w→Calls Tryz.prog 282 #[.pointer (some ⟨g,q,none⟩),.int .i64 0] w fun e w'=>e=.returned (.tuple #[noV,.int .i64 35])∧Below w.heap.size w w'):=fun w hb=>pk_no ((hb.cell (p:=⟨g,q,none⟩) hg).trans c0) (Nat.lt_of_lt_of_le hg hb.size) 0 (.inr (by simp))
  unfold noV at *
  clear c0
  go_enter Tryz.func222,Tryz.ntmps222
  go_wp2_with (go_at_call 282;refine (HP.out _ (by repeat (first|exact Below.refl _ _|refine Below.setCell ?_ (by simp;try omega) _|refine Below.alloc ?_ (by simp;try omega) _|refine Below.drew ?_))).mono ?_;rintro e w1 ⟨rfl,hb⟩;obtain ⟨zB,z0,z1,zf,zL,zN⟩:=k2c (n:=W.heap.size) hb;have B1:Hid (Below W.heap.size W w1):=Below.step ((Below.refl _ _).alloc (Nat.le_refl _) _) hb;clear hb)
  refine bodyPost_ret (v:=.tuple #[.agg #[.bool false,.int .i64 0],.int .i64 35]) (by simp [results,Tryz.results222,go_sem,z0,z1,zL]) rfl ⟨rfl,(by repeat (first|refine Below.setCell ?_ (by simp;try omega) _|refine Below.alloc ?_ (by have:=B1.out.size;simp;try omega) _|refine Below.drew ?_|exact B1.out))⟩
set_option maxHeartbeats 1000000 in
theorem tk_yes {W:World} {g q n c:Nat} {a:Option Addr} {v:Bool×Int} (c0:W.cell? ⟨g,q,none⟩=some (.slice a n c)) (hfz:W.frozen? ⟨g,q,none⟩=false) (h0:0<n) (hnc:n≤c) (hn:n≤40) (HP:Hid (∀ w,Below W.heap.size W w→Calls Tryz.prog 282 #[.pointer (some ⟨g,q,none⟩),.int .i64 0] w fun e w'=>e=.returned (.tuple #[vlV v,.int .i64 0])∧Below w.heap.size w w')):Calls Tryz.prog 222 #[.pointer (some ⟨g,q,none⟩)] W fun e w'=>e=.returned (.tuple #[vlV v,.int .i64 0])∧Below W.heap.size (W.setCell ⟨g,q,none⟩ (.slice a (n - 1) c)) w':=by
  have hg:g<W.heap.size:=World.block_lt_of_cell? W _ c0
  have HD:Hid (∀ w,Below W.heap.size W w→Calls Tryz.prog 283 #[.pointer (some ⟨g,q,none⟩)] w fun e w'=>e=.returned (.int .i64 (n:Int))∧w'=w):=fun w hb=>dep_o ((hb.cell (p:=⟨g,q,none⟩) hg).trans c0)
  obtain ⟨v1,v2⟩:=v
  unfold vlV at *
  have hgn:¬ g=W.heap.size:=by omega
  obtain ⟨m,rfl⟩:∃ m,n=m+1:=⟨n - 1,by omega⟩
  rw [Nat.add_sub_cancel]
  have w2:IntKind.i64.wrap (m:Int)=(m:Int):=by rw [IntKind.wrap_i64];omega
  have w4:m≤c:=by omega
  go_enter Tryz.func222,Tryz.ntmps222
  go_upto_region 4 with (go_at_call 282;refine (HP.out _ (by repeat (first|exact Below.refl _ _|refine Below.setCell ?_ (by simp;try omega) _|refine Below.alloc ?_ (by simp;try omega) _|refine Below.drew ?_))).mono ?_;rintro e w1 ⟨rfl,hb⟩;obtain ⟨zB,z0,z1,zf,zL,zN⟩:=k2c (n:=W.heap.size) hb;have B1:Hid (Below W.heap.size W w1):=Below.step ((Below.refl _ _).alloc (Nat.le_refl _) _) hb;have y0:w1.cell? ⟨g,q,none⟩=some (.slice a (m+1) c):=(B1.out.cell (p:=⟨g,q,none⟩) hg).trans c0;have yf:w1.frozen? ⟨g,q,none⟩=false:=(World.frozen?_of_block (B1.out.block g hg)).trans hfz;have gL:g<w1.heap.size:=Nat.lt_of_lt_of_le hg B1.out.size;have gN:¬ g=w1.heap.size:=Nat.ne_of_lt gL;clear hb)
  go_region_law (refine step_call1 rfl 283 callDep (.tmp 20) 389 rfl (.pointer (some ⟨g,q,none⟩)) (by first|(simp [Act.eval];done)|(simp [Act.eval,Act.put];done)) (HD.out _ (by repeat (first|refine Below.setCell ?_ (by simp;try omega) _|refine Below.alloc ?_ (by have:=B1.out.size;simp;try omega) _|refine Below.drew ?_|exact B1.out))) ?_;rintro e w3 ⟨rfl,rfl⟩;refine ⟨_,rfl,?_⟩)
  all_goals go_wp2
  all_goals refine bodyPost_ret (v:=.tuple #[.agg #[.bool v1,.int .i64 v2],.int .i64 0]) (by simp [results,Tryz.results222,go_sem,z0,z1,zL]) rfl ⟨rfl,?_⟩
  all_goals exact (by repeat (first|exact below_set2 B1.out _ _|refine Below.setCell ?_ (by simp) _|refine Below.alloc ?_ (by have:=B1.out.size;simp;omega) _|refine Below.drew ?_))
theorem takeK_err {W:World} {p:Value} {E:Int} (hE:¬ E=0) (HT:Hid (∀ w,Below W.heap.size W w→Calls Tryz.prog 220 #[p] w fun e w'=>e=.returned (.tuple #[.pointer none,.int .i64 E])∧w'=w)):Calls Tryz.prog 161 #[p] W fun e w'=>e=.returned (.tuple #[noV,.int .i64 E])∧Below W.heap.size W w':=by
  go_enter Tryz.func161,Tryz.ntmps161
  go_wp2_with (go_at_call 220;refine (HT.out _ (by repeat (first|exact Below.refl _ _|refine Below.setCell ?_ (by simp;try omega) _|refine Below.alloc ?_ (by simp;try omega) _|refine Below.drew ?_))).mono ?_;rintro e w1 ⟨rfl,rfl⟩)
  refine bodyPost_ret (v:=.tuple #[noV,.int .i64 E]) (by simp [results,Tryz.results161,go_sem,noV]) rfl ⟨rfl,(by repeat (first|exact Below.refl _ _|refine Below.setCell ?_ (by simp;try omega) _|refine Below.alloc ?_ (by simp;try omega) _|refine Below.drew ?_))⟩
theorem takeK_no {W:World} {sb g q:Nat} (HT:Hid (∀ w,Below W.heap.size W w→Calls Tryz.prog 220 #[.pointer (some ⟨sb,0,none⟩)] w fun e w'=>e=.returned (.tuple #[.pointer (some ⟨g,q,none⟩),.int .i64 0])∧w'=w.drew)) (HP:Hid (∀ w,Below W.heap.size W w→Calls Tryz.prog 222 #[.pointer (some ⟨g,q,none⟩)] w fun e w'=>e=.returned (.tuple #[noV,.int .i64 35])∧Below w.heap.size w w')):Calls Tryz.prog 161 #[.pointer (some ⟨sb,0,none⟩)] W fun e w'=>e=.returned (.tuple #[noV,.int .i64 35])∧Below W.heap.size W w':=by
  unfold noV at *
  go_enter Tryz.func161,Tryz.ntmps161
  go_wp2_with (first|(go_at_call 222;refine (HP.out _ (by repeat (first|exact Below.refl _ _|refine Below.setCell ?_ (by simp;try omega) _|refine Below.alloc ?_ (by simp;try omega) _|refine Below.drew ?_))).mono ?_;rintro e w1 ⟨rfl,hb⟩;obtain ⟨zB,z0,z1,zf,zL,zN⟩:=k2c (n:=W.heap.size) hb;have B1:Hid (Below W.heap.size W w1):=Below.step ((Below.refl _ _).alloc (Nat.le_refl _) _) (Below.step (Below.refl _ _).drew hb);clear hb)|(go_at_call 220;refine (HT.out _ (by repeat (first|exact Below.refl _ _|refine Below.setCell ?_ (by simp;try omega) _|refine Below.alloc ?_ (by simp;try omega) _|refine Below.drew ?_))).mono ?_;rintro e w1 ⟨rfl,rfl⟩))
  refine bodyPost_ret (v:=.tuple #[.agg #[.bool false,.int .i64 0],.int .i64 35]) (by simp [results,Tryz.results161,go_sem,z0,z1]) rfl ⟨rfl,(by repeat (first|refine Below.setCell ?_ (by simp;try omega) _|refine Below.alloc ?_ (by have:=B1.out.size;simp;try omega) _|refine Below.drew ?_|exact B1.out))⟩
theorem takeK_yes {W:World} {sb g q:Nat} {v:Bool×Int} {v':Value} (hg:g<W.heap.size) (HT:Hid (∀ w,Below W.heap.size W w→Calls Tryz.prog 220 #[.pointer (some ⟨sb,0,none⟩)] w fun e w'=>e=.returned (.tuple #[.pointer (some ⟨g,q,none⟩),.int .i64 0])∧w'=w.drew)) (HP:Hid (∀ w,Below W.heap.size W w→Calls Tryz.prog 222 #[.pointer (some ⟨g,q,none⟩)] w fun e w'=>e=.returned (.tuple #[vlV v,.int .i64 0])∧Below w.heap.size (w.setCell ⟨g,q,none⟩ v') w')):Calls Tryz.prog 161 #[.pointer (some ⟨sb,0,none⟩)] W fun e w'=>e=.returned (.tuple #[vlV v,.int .i64 0])∧Below W.heap.size (W.setCell ⟨g,q,none⟩ v') w':=by
  obtain ⟨v1,v2⟩:=v
  unfold vlV at *
  go_enter Tryz.func161,Tryz.ntmps161
  go_wp2_with (first|(go_at_call 222;refine (HP.out _ (by repeat (first|exact Below.refl _ _|refine Below.setCell ?_ (by simp;try omega) _|refine Below.alloc ?_ (by simp;try omega) _|refine Below.drew ?_))).mono ?_;rintro e w1 ⟨rfl,hb⟩;obtain ⟨zB,z0,z1,zf,zL,zN⟩:=k2c (n:=W.heap.size) hb (by simp) ((Below.heap_setCell _ _ _ _ (Nat.ne_of_gt hg)).trans (halloc1 _ _));have B1:Hid (Below W.heap.size (W.setCell ⟨g,q,none⟩ v') w1):=(below_set2 (((Below.refl _ _).alloc (Nat.le_refl _) _).drew) _ _).trans (hb.mono (by simp));clear hb)|(go_at_call 220;refine (HT.out _ (by repeat (first|exact Below.refl _ _|refine Below.setCell ?_ (by simp;try omega) _|refine Below.alloc ?_ (by simp;try omega) _|refine Below.drew ?_))).mono ?_;rintro e w1 ⟨rfl,rfl⟩))
  refine bodyPost_ret (v:=.tuple #[.agg #[.bool v1,.int .i64 v2],.int .i64 0]) (by simp [results,Tryz.results161,go_sem,z0,z1]) rfl ⟨rfl,(by repeat (first|refine Below.setCell ?_ (by simp;try omega) _|refine Below.alloc ?_ (by have:=B1.out.size;simp;try omega) _|refine Below.drew ?_|exact B1.out))⟩
def tkO:List PF→Option (Bool×Int)
  | []=>none
  | f::_=>f.xs.getLast?
def tkE:List PF→Int
  | []=>6
  | f::_=>oE 35 f.xs.getLast?
def tkP:List PF→List PF
  | []=>[]
  | f::r=>{ f with xs:=f.xs.dropLast }::r
theorem takeK_c {W:World} {S:Nat→Prop} {sb:Nat} {fv:Value} {fs:List Fr} (h:SkAt true W S sb fv fs):Calls Tryz.prog 161 #[.pointer (some ⟨sb,0,none⟩)] W fun e w'=>e=.returned (.tuple #[oV (tkO (fs.map Fr.p)),.int .i64 (tkE (fs.map Fr.p))])∧SkP true S W w' sb (tkP (fs.map Fr.p)):=by
  cases fs with
  | nil=>exact (takeK_err (E:=6) (by decide) (fun w hb=>top_none (h.below hb))).mono (fun e w' x=>⟨x.1,[],SkN.same h x.2,rfl⟩)
  | cons f r =>
    obtain ⟨g,c,rfl,hc,hf,hg,hne⟩:=h.topc
    have HT:Hid (∀ w,Below W.heap.size W w→Calls Tryz.prog 220 #[.pointer (some ⟨sb,0,none⟩)] w fun e w'=>e=.returned (.tuple #[.pointer (some ⟨g,r.length * 3,none⟩),.int .i64 0])∧w'=w.drew):=fun w hb=>top_yes (h.below hb)
    have hvo:=h.vo f List.mem_cons_self
    obtain ⟨a,k1,hv⟩:=ownv hvo
    have hbd:=h.bd f List.mem_cons_self
    have c0:∀ w,Below W.heap.size W w→w.cell? ⟨g,r.length * 3,none⟩=some (.slice a f.xs.length k1):=fun w hb=>(hb.cell (p:=⟨g,r.length * 3,none⟩) hg).trans ((hc 0 (by omega)).trans (by rw [← hv];rfl))
    simp only [List.map_cons,tkO,tkE,tkP]
    by_cases h0:f.xs.length=0
    · have e:f.xs=[]:=List.length_eq_zero_iff.1 h0
      have e1:f.p.xs=[]:=e
      rw [e1]
      refine (takeK_no HT (fun w hb=>tk_no (by rw [← h0];exact c0 w hb))).mono ?_
      rintro e w' ⟨rfl,hb⟩
      exact ⟨rfl,f::r,SkN.same h hb,by simp [Fr.p, *]⟩
    · have hl:f.xs.length - 1<f.xs.length:=by omega
      have e1:f.p.xs.getLast?=some f.xs[f.xs.length - 1]:=by
        show f.xs.getLast?=_
        rw [List.getLast?_eq_getElem?]
        exact List.getElem?_eq_getElem hl
      have hcap:f.xs.length≤k1:=by
        rcases hvo.2 with ⟨e,e2⟩|⟨g',cap',cur,e,_,_,h3,_⟩
        · omega
        · rw [hv] at e;injection e with _ _ e;omega
      rw [e1]
      have HP:Hid (∀ w,Below W.heap.size W w→Calls Tryz.prog 282 #[.pointer (some ⟨g,r.length * 3,none⟩),.int .i64 0] w fun e w'=>e=.returned (.tuple #[vlV f.xs[f.xs.length - 1],.int .i64 0])∧Below w.heap.size w w'):=fun w hb=>by
        have:=pk_c (c0 w hb) (by rw [← hv];exact (h.below hb).vo f List.mem_cons_self) 0 (by omega)
        have e2:pkI f.xs 0=some f.xs[f.xs.length - 1]:=by rw [pkI,if_pos (by omega)];exact List.getElem?_eq_getElem hl
        rw [e2] at this
        exact this
      refine (takeK_yes (v:=f.xs[f.xs.length - 1]) (v':=.slice a (f.xs.length - 1) k1) hg HT (fun w hb=>tk_yes (c0 w hb) ((World.frozen?_of_block (hb.block g hg)).trans (hf _)) (by omega) hcap (by omega) (fun w2 hb2=>HP.out w2 (Below.step hb hb2)))).mono ?_
      rintro e w' ⟨rfl,hb⟩
      refine ⟨rfl,{ f with vv:=.slice a (f.xs.length - 1) k1,xs:=f.xs.dropLast }::r,?_,by simp [Fr.p]⟩
      have hcut:=cut_last (by rw [← hv];exact hvo) (fun e=>h0 (by rw [e];rfl))
      refine SkN.aft (w1:=W.setCell ⟨g,r.length * 3,none⟩ (.slice a (f.xs.length - 1) k1)) (vv_fin h (.slice a (f.xs.length - 1) k1) f.xs.dropLast ⟨rfl,rfl,rfl,Nat.le_refl _,fun _ _ _=>rfl⟩ (by simpa using hcut) (fun j hj=>.inl (by rw [hv,← hj];exact sl_own _ _ _ _)) (by simp;omega)) ?_
      simpa using hb
theorem callWds (vs:Array Value) (w:World):(callFunc 151 vs).run Tryz.prog w=.ok (.enter 151 vs) w:=by simp [go_sem]
theorem lev_err {W:World} {p:Value} {E:Int} (hE:¬ E=0) (HT:Calls Tryz.prog 220 #[p] W fun e w'=>e=.returned (.tuple #[.pointer none,.int .i64 E])∧w'=W):Calls Tryz.prog 242 #[p] W fun e w'=>e=.returned (.int .i64 E)∧Below W.heap.size W w':=by
  go_enter Tryz.func242,Tryz.ntmps242
  go_wp2_with (go_at_call 220;refine (HT).mono ?_;rintro e w1 ⟨rfl,rfl⟩)
  go_ret
  exact ⟨rfl,(by repeat (first|exact Below.refl _ _|refine Below.setCell ?_ (by simp;try omega) _|refine Below.alloc ?_ (by simp;try omega) _|refine Below.drew ?_))⟩
theorem lev_mem {W:World} {S:Nat→Prop} {sb g c:Nat} {f:Fr} {r:List Fr} (h:SkAt true W S sb (.slice (some ⟨g,0,none⟩) (r.length+1) c) (f::r)) (x:Int) (hx:x=(wdF r:Int)) {a b d:Value}:SkN true S W (((((W.setCell ⟨sb,1,none⟩ (.int .i64 x)).setCell ⟨g,r.length * 3,none⟩ a).setCell ⟨g,r.length * 3+1,none⟩ b).setCell ⟨g,r.length * 3+2,none⟩ d).setCell ⟨sb,0,none⟩ (.slice (some ⟨g,0,none⟩) r.length c)) sb r:=by
  have gne:g≠sb:=fun e=>h.fne (e ▸ rfl)
  have gS':S g:=h.oS g rfl
  refine lev_fin h (by simp) (fun j _ h1 h2=>?_) ?_ ?_ ?_
  · rw [Below.heap_setCell _ _ _ _ h1,Below.heap_setCell _ _ _ _ h2,Below.heap_setCell _ _ _ _ h2,Below.heap_setCell _ _ _ _ h2,Below.heap_setCell _ _ _ _ h1]
  · have h0:=Go.Joins.block_setCell (i:=1) (v:=.int .i64 x) h.hh
    have h1:((((W.setCell ⟨sb,1,none⟩ (.int .i64 x)).setCell ⟨g,r.length * 3,none⟩ a).setCell ⟨g,r.length * 3+1,none⟩ b).setCell ⟨g,r.length * 3+2,none⟩ d).heap[sb]?=_:=(Below.heap_setCell _ _ _ _ (Ne.symm gne)).trans ((Below.heap_setCell _ _ _ _ (Ne.symm gne)).trans ((Below.heap_setCell _ _ _ _ (Ne.symm gne)).trans h0))
    rw [Go.Joins.block_setCell (i:=0) h1,hx]
    simp [hdC]
  · have h1:=own_keep h.ow (w':=W.setCell ⟨sb,1,none⟩ (.int .i64 x)) (fun j hj=>Below.heap_setCell _ _ _ _ (fun e=>h.fne (hj.trans (congrArg some e))))
    have h2:=(((h1.stored (r.length * 3) a).1.stored (r.length * 3+1) b).1.stored (r.length * 3+2) d).1
    have h3:(((flatF true (f::r)).set (r.length * 3) a).set (r.length * 3+1) b).set (r.length * 3+2) d=flatF true r++[a,b,d]:=by
      have:=flatF_len true r
      rw [flatF,List.set_append,if_neg (by omega),List.set_append,if_neg (by omega),List.set_append,if_neg (by omega),this]
      simp [frC]
    rw [h3] at h2
    refine own_keep (own_cut h2 (by rw [flatF_len]) (by simp)) (fun j hj=>Below.heap_setCell _ _ _ _ (fun e=>gne ?_))
    simp [Value.ownBlock] at hj
    exact hj.trans e
  · exact (((((Tch.refl S W).set (p:=⟨sb,1,none⟩) (.inl h.hS) _).set (p:=⟨g,r.length * 3,none⟩) (.inl gS') _).set (p:=⟨g,r.length * 3+1,none⟩) (.inl gS') _).set (p:=⟨g,r.length * 3+2,none⟩) (.inl gS') _).set (p:=⟨sb,0,none⟩) (.inl h.hS) _
set_option maxHeartbeats 1000000 in
theorem lev_yes {W:World} {S:Nat→Prop} {sb:Nat} {fv:Value} {f:Fr} {r:List Fr} (h:SkAt true W S sb fv (f::r)):Calls Tryz.prog 242 #[.pointer (some ⟨sb,0,none⟩)] W fun e w'=>e=.returned (.int .i64 0)∧SkN true S W w' sb r:=by
  obtain ⟨g,c,rfl,hc,hf,hg,hne⟩:=h.topc
  obtain ⟨c0,c1,fz,hl⟩:=h.cells
  have HT:=top_yes h
  have hbd:=h.bd f List.mem_cons_self
  obtain ⟨a1,k1,hv1⟩:=ownv (h.vo f List.mem_cons_self)
  obtain ⟨a2,k2,hv2⟩:=ownv (h.lo f List.mem_cons_self)
  have d0:W.cell? ⟨g,r.length * 3,none⟩=some (.slice a1 f.xs.length k1):=by rw [← hv1];exact hc 0 (by omega)
  have d1:W.cell? ⟨g,r.length * 3+1,none⟩=some (.int .i64 (f.rm:Int)):=hc 1 (by omega)
  have d2:W.cell? ⟨g,r.length * 3+2,none⟩=some (.slice a2 f.ls.length k2):=by rw [← hv2];exact hc 2 (by omega)
  have HW:Hid (Calls Tryz.prog 151 #[.pointer (some ⟨g,r.length * 3,none⟩)] W.drew.drew fun e w'=>e=.returned (.int .i64 ((f.ls.length:Int)+(f.rm:Int)+3))∧w'=W.drew.drew.drew):=wds_f d1 d2 hbd.1 hbd.2.1
  have n4:=h.n4
  have hbn:=h.bnd
  rw [wdF] at c1 n4
  have HH:Hid (SkAt true W S sb (.slice (some ⟨g,0,none⟩) (r.length+1) c) (f::r)):=h
  have hcap:r.length+1≤c:=by
    rcases h.ow.2 with ⟨e,_⟩|⟨g',cap',cur,e,_,_,h3,_⟩
    · cases e
    · injection e with _ _ e;subst e;simpa using h3
  simp only [List.length_cons] at hbn
  obtain ⟨n,hn⟩:∃ n,r.length=n:=⟨_,rfl⟩
  obtain ⟨x,hx⟩:∃ x,f.ls.length=x:=⟨_,rfl⟩
  obtain ⟨y,hy⟩:∃ y,f.rm=y:=⟨_,rfl⟩
  obtain ⟨z,hz⟩:∃ z,wdF r=z:=⟨_,rfl⟩
  rw [hn] at HT c0 d0 d1 d2 HW hbn hcap
  rw [hx,hy] at HW c1 n4
  rw [hx] at d2
  rw [hy] at d1
  rw [hz] at c1 n4
  have HN:Hid (r.length=n∧wdF r=z):=⟨hn,hz⟩
  clear h hc hn hx hy hz hbd hv1 hv2
  have hne2:¬ g=sb:=hne
  have hne3:¬ sb=g:=fun e=>hne e.symm
  have w2:IntKind.i64.wrap (n:Int)=(n:Int):=by rw [IntKind.wrap_i64];omega
  have hnc:n≤c:=by omega
  have e1:=fz 1
  have e0:=fz 0
  have f0:=hf (n * 3)
  have f1:=hf (n * 3+1)
  have f2:=hf (n * 3+2)
  clear fz hf
  go_enter Tryz.func242,Tryz.ntmps242
  go_upto_region 4 with (go_at_call 220;refine (HT).mono ?_;rintro e w1 ⟨rfl,rfl⟩)
  go_region_law (refine step_call1 rfl 151 callWds (.tmp 17) 324 rfl (.pointer (some ⟨g,n * 3,none⟩)) (by first|(simp [Act.eval];done)|(simp [Act.eval,Act.put];done)) (HW.out) ?_;rintro e w3 ⟨rfl,rfl⟩;refine ⟨_,rfl,?_⟩)
  all_goals go_upto_region 6 with fail
  all_goals go_region
  all_goals go_wp2
  all_goals
    go_ret
    refine ⟨rfl,?_⟩
    obtain ⟨hn,hz⟩:=HN.out
    have fin:=lev_mem (a:=.slice none 0 0) (b:=.int .i64 0) (d:=.slice none 0 0) HH.out ((x:Int)+y+3+z - (x+y+3)) (by rw [hz];omega)
    rw [hn] at fin
    exact fin.aft (((((Below.refl _ _).drew).drew).drew).drew)
def lvE:List PF→Int
  | []=>6
  | _::_=>0
theorem lev_c {W:World} {S:Nat→Prop} {sb:Nat} {fv:Value} {fs:List Fr} (h:SkAt true W S sb fv fs):Calls Tryz.prog 242 #[.pointer (some ⟨sb,0,none⟩)] W fun e w'=>e=.returned (.int .i64 (lvE (fs.map Fr.p)))∧SkP true S W w' sb (fs.map Fr.p).tail:=by
  cases fs with
  | nil=>exact (lev_err (E:=6) (by decide) (top_none h)).mono (fun e w' x=>⟨x.1,[],SkN.same h x.2,rfl⟩)
  | cons f r=>exact (lev_yes h).mono (fun e w' x=>⟨x.1,r,x.2,rfl⟩)
def noF:Value:=.agg #[.slice none 0 0,.int .i64 0,.slice none 0 0]
theorem Tryz.hinfoFr:(Tryz.prog.info? 250).map (fun i=>(i.zero,i.size,i.bytes))=some (some noF,3,56):=by kernel_rfl
theorem ent_arg (sb:Nat) (l m:Int) (h:l<0∨40<l∨m<0∨40<m) (W:World):Calls Tryz.prog 85 #[.pointer (some ⟨sb,0,none⟩),.int .i64 l,.int .i64 m] W fun e w'=>e=.returned (.int .i64 2)∧Below W.heap.size W w':=by
  by_cases h1:l<0
  · clear h
    go_enter Tryz.func85,Tryz.ntmps85
    go_wp2
    go_ret
    exact ⟨rfl,(by repeat (first|exact Below.refl _ _|refine Below.setCell ?_ (by simp;try omega) _|refine Below.alloc ?_ (by simp;try omega) _|refine Below.drew ?_))⟩
  · by_cases h2:40<l
    · clear h
      go_enter Tryz.func85,Tryz.ntmps85
      go_wp2
      go_ret
      exact ⟨rfl,(by repeat (first|exact Below.refl _ _|refine Below.setCell ?_ (by simp;try omega) _|refine Below.alloc ?_ (by simp;try omega) _|refine Below.drew ?_))⟩
    · by_cases h3:m<0
      · clear h
        go_enter Tryz.func85,Tryz.ntmps85
        go_wp2
        go_ret
        exact ⟨rfl,(by repeat (first|exact Below.refl _ _|refine Below.setCell ?_ (by simp;try omega) _|refine Below.alloc ?_ (by simp;try omega) _|refine Below.drew ?_))⟩
      · have h4:40<m:=by omega
        clear h
        go_enter Tryz.func85,Tryz.ntmps85
        go_wp2
        go_ret
        exact ⟨rfl,(by repeat (first|exact Below.refl _ _|refine Below.setCell ?_ (by simp;try omega) _|refine Below.alloc ?_ (by simp;try omega) _|refine Below.drew ?_))⟩
set_option maxHeartbeats 1000000 in
theorem ent_full {W:World} {S:Nat→Prop} {sb:Nat} {fv:Value} {fs:List Fr} (h:SkAt true W S sb fv fs) (l m:Nat) (hl:l≤40) (hm:m≤40) (hw:4000<wdF fs+l+m+3):Calls Tryz.prog 85 #[.pointer (some ⟨sb,0,none⟩),.int .i64 (l:Int),.int .i64 (m:Int)] W fun e w'=>e=.returned (.int .i64 33)∧Below W.heap.size W w':=by
  obtain ⟨c0,c1,fz,hsl⟩:=h.cells
  have n4:=h.n4
  obtain ⟨z,hz⟩:∃ z,wdF fs=z:=⟨_,rfl⟩
  rw [hz] at c1 n4 hw
  have hmk:=mk_vals l (by omega)
  have HW:Hid (∀ w:World,w.cell? ⟨W.heap.size+1,1,none⟩=some (.int .i64 (m:Int))→w.cell? ⟨W.heap.size+1,2,none⟩=some (.slice (some ⟨W.heap.size,0,none⟩) l l)→Calls Tryz.prog 151 #[.pointer (some ⟨W.heap.size+1,0,none⟩)] w fun e w'=>e=.returned (.int .i64 ((l:Int)+(m:Int)+3))∧w'=w.drew):=fun w h1 h2=>wds_f (g:=W.heap.size+1) (q:=0) h1 h2 hl hm
  have g1:¬ (l:Int)<0:=by omega
  have g2:¬ 40<(l:Int):=by omega
  have g3:¬ (m:Int)<0:=by omega
  have g4:¬ 40<(m:Int):=by omega
  have sn:¬ sb=W.heap.size:=by omega
  have sn1:¬ sb=W.heap.size+1:=by omega
  have hw2:4000<(z:Int)+((l:Int)+(m:Int)+3):=by omega
  have hw3:IntKind.i64.wrap ((z:Int)+((l:Int)+(m:Int)+3))=(z:Int)+((l:Int)+(m:Int)+3):=by rw [IntKind.wrap_i64];omega
  clear h hz hw
  go_enter Tryz.func85,Tryz.ntmps85
  go_upto_region 4 with fail
  go_region_law (refine step_call1 rfl 151 callWds (.tmp 7) 250 rfl (.pointer (some ⟨W.heap.size+1,0,none⟩)) (by first|(simp [Act.eval];done)|(simp [Act.eval,Act.put];done)) (HW.out _ (by simp) (by simp)) ?_;rintro e w3 ⟨rfl,rfl⟩;refine ⟨_,rfl,?_⟩)
  all_goals go_wp2
  all_goals
    go_ret
    exact ⟨rfl,(by repeat (first|exact Below.refl _ _|refine Below.setCell ?_ (by simp;try omega) _|refine Below.alloc ?_ (by simp;try omega) _|refine Below.drew ?_))⟩
theorem ent_mem {W wr w5:World} {S:Nat→Prop} {sb:Nat} {fv v':Value} {fs:List Fr} (h:SkAt true W S sb fv fs) {l m:Nat} (hl:l≤40) (hm:m≤40) (hw:wdF fs+l+m+3≤4000) (hb:Below W.heap.size W wr) (hB:wr.heap[W.heap.size]?=some (.cells (flatV (List.replicate l (false,0))).toArray 32 (0,0))) (G5:wr.grownBy w5 fv.ownBlock) (O5:w5.ownsRow 0 250 3 v' (fs.length+1) (flatF true fs++frC true (newF W.heap.size l m))) (V5:∀ j,v'.ownBlock=some j→fv.ownBlock=some j∨wr.heap.size≤j) (x:Int) (hx:x=(wdF fs:Int)+((l:Int)+(m:Int)+3)):SkN true S W ((w5.setCell ⟨sb,0,none⟩ v').setCell ⟨sb,1,none⟩ (.int .i64 x)) sb (newF W.heap.size l m::fs):=by
  have z0:=hb.size
  have s5:w5.heap[sb]?=some (.cells #[fv,.int .i64 (wdF fs:Int)] 135 (0,0)):=(G5.block sb (by have:=h.lt;omega) (fun e=>h.fne e.symm)).trans ((hb.block sb h.lt).trans h.hh)
  refine ent_fin (k:=true) h hl hm hw hb (Nat.le_refl _) hB G5 O5 V5 (by simp) (fun j hj=>(Below.heap_setCell _ _ _ _ hj).trans (Below.heap_setCell _ _ _ _ hj)) ?_ ?_
  · rw [Go.Joins.block_setCell (i:=1) (Go.Joins.block_setCell (i:=0) s5 _)]
    simp [hdC,wdF,newF,tyS,hx]
    omega
  · exact ((((Tch.refl S W).bel hb).grown G5 (fun j hj=>.inl (h.oS j hj))).set (p:=⟨sb,0,none⟩) (.inl h.hS) _).set (p:=⟨sb,1,none⟩) (.inl h.hS) _
set_option maxHeartbeats 2000000 in
theorem ent_ok {W:World} {S:Nat→Prop} {sb:Nat} {fv:Value} {fs:List Fr} (h:SkAt true W S sb fv fs) (l m:Nat) (hl:l≤40) (hm:m≤40) (hw:wdF fs+l+m+3≤4000):Calls Tryz.prog 85 #[.pointer (some ⟨sb,0,none⟩),.int .i64 (l:Int),.int .i64 (m:Int)] W fun e w'=>e=.returned (.int .i64 0)∧SkN true S W w' sb (newF W.heap.size l m::fs):=by
  obtain ⟨c0,c1,fz,hsl⟩:=h.cells
  obtain ⟨a,c,hfv⟩:=ownv h.ow
  have hbn:=h.bnd
  have ROW:Hid (W.ownsRow 0 250 3 (.slice a fs.length c) fs.length (flatF true fs)):=by have:=h.ow;rw [hfv] at this;exact this
  obtain ⟨i0,hi0,hz0,hz1,hz2⟩:=info_parts Tryz.hinfoFr
  have FIN:Hid (∀ (wr w5:World) (v':Value) (x:Int),_):=fun wr w5 v' x=>ent_mem (wr:=wr) (w5:=w5) (v':=v') h hl hm hw (x:=x)
  have HNE:Hid (fv.ownBlock≠some sb):=h.fne
  have OL:Hid (∀ j,fv.ownBlock=some j→j<W.heap.size):=fun j hj=>(h.ow.lt j hj).2
  rw [hfv] at c0 FIN HNE OL
  have e0:=fz 0
  have e1:=fz 1
  obtain ⟨z,hz⟩:∃ z,wdF fs=z:=⟨_,rfl⟩
  obtain ⟨n,hn⟩:∃ n,fs.length=n:=⟨_,rfl⟩
  rw [hz] at c1 hw FIN
  rw [hn] at c0 ROW FIN HNE OL hbn
  have hmk:=mk_vals l (by omega)
  have HW:Hid (∀ w:World,w.heap[W.heap.size+1]?=some (.cells #[.slice none 0 0,.int .i64 (m:Int),.slice (some ⟨W.heap.size,0,none⟩) l l] 250 (0,0))→Calls Tryz.prog 151 #[.pointer (some ⟨W.heap.size+1,0,none⟩)] w fun e w'=>e=.returned (.int .i64 ((l:Int)+(m:Int)+3))∧w'=w.drew):=fun w h1=>wds_f (g:=W.heap.size+1) (q:=0) (r3c h1).2.1 (r3c h1).2.2.1 hl hm
  have g1:¬ (l:Int)<0:=by omega
  have g2:¬ 40<(l:Int):=by omega
  have g3:¬ (m:Int)<0:=by omega
  have g4:¬ 40<(m:Int):=by omega
  have sn:¬ sb=W.heap.size:=by omega
  have sn1:¬ sb=W.heap.size+1:=by omega
  have cc:∀ o1 o2 o3:Obj,(((W.alloc o1).alloc o2).alloc o3).cell? ⟨sb,0,none⟩=some (.slice a n c):=fun o1 o2 o3=>(Below.cell (B:=W.heap.size) (p:=⟨sb,0,none⟩) ((((Below.refl _ _).alloc (Nat.le_refl _) _).alloc (by simp) _).alloc (by simp;omega) _) hsl).trans c0
  have hw2:¬ 4000<(z:Int)+((l:Int)+(m:Int)+3):=by omega
  have hw3:IntKind.i64.wrap ((z:Int)+((l:Int)+(m:Int)+3))=(z:Int)+((l:Int)+(m:Int)+3):=by rw [IntKind.wrap_i64];omega
  clear h hz hw hn hfv fz
  go_enter Tryz.func85,Tryz.ntmps85
  go_upto_region 4 with fail
  go_region_law (refine step_call1 rfl 151 callWds (.tmp 7) 250 rfl (.pointer (some ⟨W.heap.size+1,0,none⟩)) (by first|(simp [Act.eval];done)|(simp [Act.eval,Act.put];done)) (HW.out _ (haA _ _ (by simp))) ?_;rintro e w3 ⟨rfl,rfl⟩;refine ⟨_,rfl,?_⟩)
  all_goals go_upto_region 6 with fail
  all_goals go_region_law (refine step_append_lies _ rfl (.tmp 42) (.tmp 44) 133 rfl 0 250 i0 noF 3 56 Tryz.underlying133 hi0 hz0 hz1 hz2 rfl (by decide) (.slice a n c) n (flatF true fs) (by first|(simp [Act.eval];done)|(simp [Act.eval,Act.put];done)) (((((ROW.out.alloc _).alloc _).drew.drew.drew)).alloc _) ⟨W.heap.size+1+1,0,none⟩ 1 1 [.slice none 0 0,.int .i64 (m:Int),.slice (some ⟨W.heap.size,0,none⟩) l l] (by first|(simp [Act.eval];done)|(simp [Act.eval,Act.put];done)) rfl (World.news_of_block (haA _ _ (by simp))) ?_ (by decide) ?_ ?_ (Nat.zero_le _) _ rfl ?_;(intro u hu;simp at hu;rcases hu with rfl|rfl|rfl <;> rfl);(unfold maxLen;omega);omega;intro g5 cap5 w5 hown hgrow hg5 hl5;have O5:Hid _:=hown;have G5:Hid _:=hgrow;have V5:Hid _:=hg5;have y0:w5.cell? ⟨sb,0,none⟩=some (.slice a n c):=grown_cell (by repeat (first|exact Below.refl _ _|refine Below.setCell ?_ (by simp;try omega) _|refine Below.alloc ?_ (by simp;try omega) _|refine Below.drew ?_)) hgrow HNE.out c0;have y1:w5.cell? ⟨sb,1,none⟩=some (.int .i64 (z:Int)):=grown_cell (by repeat (first|exact Below.refl _ _|refine Below.setCell ?_ (by simp;try omega) _|refine Below.alloc ?_ (by simp;try omega) _|refine Below.drew ?_)) hgrow HNE.out c1;have yf0:w5.frozen? ⟨sb,0,none⟩=false:=grown_frz (by repeat (first|exact Below.refl _ _|refine Below.setCell ?_ (by simp;try omega) _|refine Below.alloc ?_ (by simp;try omega) _|refine Below.drew ?_)) hgrow hsl HNE.out e0;have yf1:w5.frozen? ⟨sb,1,none⟩=false:=grown_frz (by repeat (first|exact Below.refl _ _|refine Below.setCell ?_ (by simp;try omega) _|refine Below.alloc ?_ (by simp;try omega) _|refine Below.drew ?_)) hgrow hsl HNE.out e1;have bx5:=(hgrow.block (W.heap.size+1) (by simp) (fun e=>by have:=OL.out _ e.symm;omega)).trans (hkA (haA _ _ (by simp)));have BX5:Hid _:=bx5;clear hown hgrow hg5 bx5)
  all_goals have sn3:¬ W.heap.size+1=sb:=fun e=>sn1 e.symm
  all_goals go_upto_region 7 with fail
  all_goals go_region_law (refine step_call1 rfl 151 callWds (.tmp 7) 250 rfl (.pointer (some ⟨W.heap.size+1,0,none⟩)) (by first|(simp [Act.eval];done)|(simp [Act.eval,Act.put];done)) (HW.out _ ((Below.heap_setCell _ _ _ _ sn3).trans BX5.out)) ?_;rintro e w3 ⟨rfl,rfl⟩;refine ⟨_,rfl,?_⟩)
  all_goals go_wp2
  all_goals
    go_ret
    refine ⟨rfl,?_⟩
    have fin:=FIN.out _ w5 (.slice (some ⟨g5,0,none⟩) (n+1) cap5) ((z:Int)+((l:Int)+(m:Int)+3)) (by repeat (first|exact Below.refl _ _|refine Below.setCell ?_ (by simp;try omega) _|refine Below.alloc ?_ (by simp;try omega) _|refine Below.drew ?_)) (by exact hkA (hkA (halloc1 _ _))) G5.out O5.out (fun j hj=>by simp [Value.ownBlock] at hj;subst hj;exact V5.out.imp id (fun e=>Nat.le_of_eq e.symm)) rfl
    exact fin.aft ((Below.refl _ _).drew.drew)
def wdP:List PF→Nat
  | []=>0
  | f::r=>f.ls.length+f.rm+3+wdP r
theorem wdF_p:∀ fs:List Fr,wdF fs=wdP (fs.map Fr.p)
  | []=>rfl
  | f::r=>by rw [wdF,List.map_cons,wdP,wdF_p r];rfl
def enE (ps:List PF) (l m:Int):Int:=if l<0∨40<l∨m<0∨40<m then 2 else if 4000<(wdP ps:Int)+l+m+3 then 33 else 0
def enP (ps:List PF) (l m:Int):List PF:=if l<0∨40<l∨m<0∨40<m then ps else if 4000<(wdP ps:Int)+l+m+3 then ps else ⟨[],m.toNat,List.replicate l.toNat (false,0)⟩::ps
theorem ent_c {W:World} {S:Nat→Prop} {sb:Nat} {fv:Value} {fs:List Fr} (h:SkAt true W S sb fv fs) (l m:Int):Calls Tryz.prog 85 #[.pointer (some ⟨sb,0,none⟩),.int .i64 l,.int .i64 m] W fun e w'=>e=.returned (.int .i64 (enE (fs.map Fr.p) l m))∧SkP true S W w' sb (enP (fs.map Fr.p) l m):=by
  unfold enE enP
  by_cases h1:l<0∨40<l∨m<0∨40<m
  · rw [if_pos h1,if_pos h1]
    exact (ent_arg sb l m h1 W).mono (fun e w' x=>⟨x.1,fs,SkN.same h x.2,rfl⟩)
  · rw [if_neg h1,if_neg h1]
    obtain ⟨a,rfl⟩:∃ a:Nat,l=(a:Int):=⟨l.toNat,by omega⟩
    obtain ⟨b,rfl⟩:∃ b:Nat,m=(b:Int):=⟨m.toNat,by omega⟩
    have hp:=wdF_p fs
    by_cases h2:4000<(wdP (fs.map Fr.p):Int)+(a:Int)+(b:Int)+3
    · rw [if_pos h2,if_pos h2]
      exact (ent_full h a b (by omega) (by omega) (by omega)).mono (fun e w' x=>⟨x.1,fs,SkN.same h x.2,rfl⟩)
    · rw [if_neg h2,if_neg h2]
      exact (ent_ok h a b (by omega) (by omega) (by omega)).mono (fun e w' x=>⟨x.1,_,x.2,by simp [Fr.p,newF]⟩)
def thr (E:Int):Ending:=.panicked [{ v:=.iface 136 (.int .i64 E),recovered:=false }]
theorem throw_c (E:Int) (W:World):Calls Tryz.prog 87 #[.int .i64 E] W fun e w'=>e=thr E∧w'=W:=by
  go_enter Tryz.func87,Tryz.ntmps87
  go_wp2
  exact ⟨rfl,rfl,rfl⟩
theorem tif_no (E:Int) (W:World):Calls Tryz.prog 49 #[.bool false,.int .i64 E] W fun e w'=>e=.returned (.tuple #[])∧w'=W:=by
  go_enter Tryz.func49,Tryz.ntmps49
  go_wp2
  exact bodyPost_end (results_none rfl _ _ _) rfl ⟨rfl,rfl⟩
theorem tif_yes (E:Int) (W:World):Calls Tryz.prog 49 #[.bool true,.int .i64 E] W fun e w'=>e=thr E∧w'=W:=by
  have HT:Hid (∀ w:World,Calls Tryz.prog 87 #[.int .i64 E] w fun e w'=>e=thr E∧w'=w):=fun w=>throw_c E w
  go_enter Tryz.func49,Tryz.ntmps49
  go_wp2_with (go_at_call 87;refine (HT.out _).mono ?_;rintro e w1 ⟨he,rfl⟩;rw [thr] at he;subst he)
  exact ⟨rfl,rfl,rfl⟩
theorem chk_ok (W:World):Calls Tryz.prog 72 #[.int .i64 0] W fun e w'=>e=.returned (.tuple #[])∧w'=W:=by
  have HT:Hid (∀ w:World,Calls Tryz.prog 49 #[.bool false,.int .i64 0] w fun e w'=>e=.returned (.tuple #[])∧w'=w):=fun w=>tif_no 0 w
  go_enter Tryz.func72,Tryz.ntmps72
  go_wp2_with (go_at_call 49;refine (HT.out _).mono ?_;rintro e w1 ⟨rfl,rfl⟩)
  exact bodyPost_end (results_none rfl _ _ _) rfl ⟨rfl,rfl⟩
theorem oT_id (x y:Int) (W:World):Calls Tryz.prog 44 #[.agg #[.int .i64 x,.int .i64 y],.int .i64 0] W fun e w'=>e=.returned (.agg #[.int .i64 x,.int .i64 y])∧Below W.heap.size W w':=by
  have HT:Hid (∀ w:World,Calls Tryz.prog 72 #[.int .i64 0] w fun e w'=>e=.returned (.tuple #[])∧w'=w):=fun w=>chk_ok w
  go_enter Tryz.func44,Tryz.ntmps44
  go_wp2_with (go_at_call 72;refine (HT.out _).mono ?_;rintro e w1 ⟨rfl,rfl⟩)
  refine bodyPost_ret (v:=.agg #[.int .i64 x,.int .i64 y]) (by simp [results,Tryz.results44,go_sem]) rfl ⟨rfl,(by repeat (first|exact Below.refl _ _|refine Below.setCell ?_ (by simp;try omega) _|refine Below.alloc ?_ (by simp;try omega) _|refine Below.drew ?_))⟩
theorem oT_ty (x:Int) (s:ByteArray) (W:World):Calls Tryz.prog 82 #[.agg #[.int .i64 x,.string s],.int .i64 0] W fun e w'=>e=.returned (.agg #[.int .i64 x,.string s])∧Below W.heap.size W w':=by
  have HT:Hid (∀ w:World,Calls Tryz.prog 72 #[.int .i64 0] w fun e w'=>e=.returned (.tuple #[])∧w'=w):=fun w=>chk_ok w
  go_enter Tryz.func82,Tryz.ntmps82
  go_wp2_with (go_at_call 72;refine (HT.out _).mono ?_;rintro e w1 ⟨rfl,rfl⟩)
  refine bodyPost_ret (v:=.agg #[.int .i64 x,.string s]) (by simp [results,Tryz.results82,go_sem]) rfl ⟨rfl,(by repeat (first|exact Below.refl _ _|refine Below.setCell ?_ (by simp;try omega) _|refine Below.alloc ?_ (by simp;try omega) _|refine Below.drew ?_))⟩
theorem oT_me (n d:ByteArray) (x y z:Int) (a:Option Addr) (k c:Nat) (W:World):Calls Tryz.prog 83 #[.agg #[.string n,.string d,.int .i64 x,.int .i64 y,.int .i64 z,.slice a k c],.int .i64 0] W fun e w'=>e=.returned (.agg #[.string n,.string d,.int .i64 x,.int .i64 y,.int .i64 z,.slice a k c])∧Below W.heap.size W w':=by
  have HT:Hid (∀ w:World,Calls Tryz.prog 72 #[.int .i64 0] w fun e w'=>e=.returned (.tuple #[])∧w'=w):=fun w=>chk_ok w
  go_enter Tryz.func83,Tryz.ntmps83
  go_wp2_with (go_at_call 72;refine (HT.out _).mono ?_;rintro e w1 ⟨rfl,rfl⟩)
  refine bodyPost_ret (v:=.agg #[.string n,.string d,.int .i64 x,.int .i64 y,.int .i64 z,.slice a k c]) (by simp [results,Tryz.results83,go_sem]) rfl ⟨rfl,(by repeat (first|exact Below.refl _ _|refine Below.setCell ?_ (by simp;try omega) _|refine Below.alloc ?_ (by simp;try omega) _|refine Below.drew ?_))⟩
theorem oT_v (b:Bool) (n:Int) (W:World):Calls Tryz.prog 154 #[.agg #[.bool b,.int .i64 n],.int .i64 0] W fun e w'=>e=.returned (.agg #[.bool b,.int .i64 n])∧Below W.heap.size W w':=by
  have HT:Hid (∀ w:World,Calls Tryz.prog 72 #[.int .i64 0] w fun e w'=>e=.returned (.tuple #[])∧w'=w):=fun w=>chk_ok w
  go_enter Tryz.func154,Tryz.ntmps154
  go_wp2_with (go_at_call 72;refine (HT.out _).mono ?_;rintro e w1 ⟨rfl,rfl⟩)
  refine bodyPost_ret (v:=.agg #[.bool b,.int .i64 n]) (by simp [results,Tryz.results154,go_sem]) rfl ⟨rfl,(by repeat (first|exact Below.refl _ _|refine Below.setCell ?_ (by simp;try omega) _|refine Below.alloc ?_ (by simp;try omega) _|refine Below.drew ?_))⟩
theorem oT_d (a:Option Addr) (k c:Nat) (b:Bool) (x:Int) (s:ByteArray) (W:World):Calls Tryz.prog 177 #[.agg #[.slice a k c,.bool b,.int .i64 x,.string s],.int .i64 0] W fun e w'=>e=.returned (.agg #[.slice a k c,.bool b,.int .i64 x,.string s])∧Below W.heap.size W w':=by
  have HT:Hid (∀ w:World,Calls Tryz.prog 72 #[.int .i64 0] w fun e w'=>e=.returned (.tuple #[])∧w'=w):=fun w=>chk_ok w
  go_enter Tryz.func177,Tryz.ntmps177
  go_wp2_with (go_at_call 72;refine (HT.out _).mono ?_;rintro e w1 ⟨rfl,rfl⟩)
  refine bodyPost_ret (v:=.agg #[.slice a k c,.bool b,.int .i64 x,.string s]) (by simp [results,Tryz.results177,go_sem]) rfl ⟨rfl,(by repeat (first|exact Below.refl _ _|refine Below.setCell ?_ (by simp;try omega) _|refine Below.alloc ?_ (by simp;try omega) _|refine Below.drew ?_))⟩
def StA (w:World) (K:Nat→Prop) (sb:Nat) (ps:List PF):Prop:=∃ fs fv,SkAt true w K sb fv fs∧fs.map Fr.p=ps
theorem StA.below {w w':World} {K:Nat→Prop} {sb:Nat} {ps:List PF} (h:StA w K sb ps) (hb:Below w.heap.size w w'):StA w' K sb ps:=by
  obtain ⟨fs,fv,h1,h2⟩:=h
  exact ⟨fs,fv,h1.below hb,h2⟩
theorem StA.lt {w:World} {K:Nat→Prop} {sb:Nat} {ps:List PF} (h:StA w K sb ps) {j:Nat} (hj:K j):j<w.heap.size:=by
  obtain ⟨fs,fv,h1,_⟩:=h
  exact h1.sz j hj
theorem StA.keep {w w':World} {K:Nat→Prop} {sb:Nat} {ps:List PF} (h:StA w K sb ps) (hz:w.heap.size≤w'.heap.size) (hk:∀ j,j<w.heap.size→K j→w'.heap[j]?=w.heap[j]?):StA w' K sb ps:=by
  obtain ⟨fs,fv,h1,h2⟩:=h
  exact ⟨fs,fv,h1.keep hz hk,h2⟩
def SkR (K:Nat→Prop) (W w':World) (sb:Nat) (ps:List PF):Prop:=∃ K',StA w' K' sb ps∧(∀ j,K' j→K j∨W.heap.size≤j)∧Tch K W w'
theorem SkP.r {K:Nat→Prop} {W w':World} {sb:Nat} {ps:List PF} (h:SkP true K W w' sb ps):SkR K W w' sb ps:=by
  obtain ⟨fs,⟨⟨fv,h1⟩,h3⟩,h2⟩:=h
  exact ⟨_,⟨fs,fv,h1,h2⟩,fun j hj=>hj.imp id (fun x=>x.1),h3⟩
theorem SkR.pre {K:Nat→Prop} {W0 W w':World} {sb:Nat} {ps:List PF} (h:SkR K W w' sb ps) (hb:Below W0.heap.size W0 W):SkR K W0 w' sb ps:=by
  obtain ⟨K',h1,h2,h3⟩:=h
  have hz:=hb.size
  exact ⟨K',h1,fun j hj=>(h2 j hj).imp id (fun x=>by omega),((Tch.refl K W0).bel hb).trans h3 (fun _ _ x=>x)⟩
theorem SkR.post {K:Nat→Prop} {W w w':World} {sb:Nat} {ps:List PF} (h:SkR K W w sb ps) (hb:Below w.heap.size w w'):SkR K W w' sb ps:=by
  obtain ⟨K',h1,h2,h3⟩:=h
  exact ⟨K',h1.below hb,h2,h3.bel hb⟩
theorem SkR.loc {K:Nat→Prop} {W V w w':World} {sb:Nat} {ps:List PF} (h:SkR K V w sb ps) (hV:Below W.heap.size W V) (hK:∀ j,K j→j<W.heap.size) (ht:Tch (fun j=>W.heap.size≤j∧j<V.heap.size) w w':=by repeat (first|exact Tch.refl _ _|refine Tch.set ?_ (by first|omega|(simp;omega)|(simp;done)) _|refine Tch.alloc ?_ _|refine Tch.drew ?_)):SkR K W w' sb ps:=by
  obtain ⟨K',h1,h2,h3⟩:=h
  have hz:=hV.size
  have nK:∀ j,K' j→¬ (W.heap.size≤j∧j<V.heap.size):=fun j hj x=>(h2 j hj).elim (fun y=>by have:=hK j y;omega) (fun y=>by omega)
  refine ⟨K',h1.keep ht.size (fun j hj hk=>ht.blk j hj (nK j hk)),fun j hj=>(h2 j hj).imp id (fun x=>by omega),?_⟩
  have t0:Tch K W w:=((Tch.refl K W).bel hV).trans h3 (fun _ _ x=>x)
  exact t0.trans ht (fun j hj x=>absurd x.1 (by omega))
theorem SkR.trans {K K1:Nat→Prop} {W w1 w2:World} {sb:Nat} {qs:List PF} (h1:∀ j,K1 j→K j∨W.heap.size≤j) (ht:Tch K W w1) (k:SkR K1 w1 w2 sb qs):SkR K W w2 sb qs:=by
  obtain ⟨K',k1,k2,k3⟩:=k
  have hz:=ht.size
  exact ⟨K',k1,fun j hj=>(k2 j hj).elim (h1 j) (fun x=>.inr (by omega)),ht.trans k3 (fun j hj x=>(h1 j x).elim id (fun y=>absurd y (by omega)))⟩
theorem puE_one (p:PF) (h:p.xs.length<p.rm):puE [p]=0:=by simp [puE,h]
theorem puP_one (p:PF) (h:p.xs.length<p.rm) (v:Bool×Int):puP v [p]=[{ p with xs:=p.xs++[v] }]:=by simp [puP,h]
theorem t2c {K:Nat→Prop} {V w:World} {sb:Nat} {ps:List PF} {n:Nat} {t:TypeId} {a0 a1:Value} (hr:SkR K V w sb ps) (hn:¬ K n) (h:V.heap[n]?=some (.cells #[a0,a1] t (0,0)):=by first|exact Hid.out (by assumption)|exact hkA (Hid.out (by assumption))|exact hkA (hkA (Hid.out (by assumption)))|exact haA _ _ rfl|exact hkA (haA _ _ rfl)|exact hkA (hkA (haA _ _ rfl))|exact haA _ _ (by simp;done)|exact hkA (haA _ _ (by simp;done))):Hid (w.heap[n]?=some (.cells #[a0,a1] t (0,0)))∧w.cell? ⟨n,0,none⟩=some a0∧w.cell? ⟨n,1,none⟩=some a1∧(∀ k,w.frozen? ⟨n,k,none⟩=false)∧n<w.heap.size∧¬ n=w.heap.size:=by
  have h2:=(hr.choose_spec.2.2.blk n (Array.getElem?_eq_some_iff.1 h).1 hn).trans h
  obtain ⟨c0,c1,f,l⟩:=r2c h2
  exact ⟨h2,c0,c1,f,l,by omega⟩
theorem put_e {W:World} {K:Nat→Prop} {sb rb:Nat} {p:PF} (h:StA W K sb [p]) (hc:W.cell? ⟨rb,2,none⟩=some (.pointer (some ⟨sb,0,none⟩))) (hx:p.xs.length<p.rm) (v1:Bool) (v2:Int):Calls Tryz.prog 153 #[.pointer (some ⟨rb,0,none⟩),.agg #[.bool v1,.int .i64 v2]] W fun e w'=>e=.returned (.tuple #[])∧SkR K W w' sb [{ p with xs:=p.xs++[(v1,v2)] }]:=by
  have HP:Hid (∀ w,Below W.heap.size W w→Calls Tryz.prog 221 #[.pointer (some ⟨sb,0,none⟩),.agg #[.bool v1,.int .i64 v2]] w fun e w'=>e=.returned (.int .i64 0)∧SkR K W w' sb [{ p with xs:=p.xs++[(v1,v2)] }]):=fun w hb=>by
    obtain ⟨fs,fv,h1,h2⟩:=h.below hb
    refine (putK_c h1 (v1,v2)).mono ?_
    rintro e w' ⟨rfl,hk⟩
    rw [h2] at hk ⊢
    rw [puE_one p hx]
    rw [puP_one p hx] at hk
    exact ⟨rfl,hk.r.pre hb⟩
  have HC:Hid (∀ w:World,Calls Tryz.prog 72 #[.int .i64 0] w fun e w'=>e=.returned (.tuple #[])∧w'=w):=fun w=>chk_ok w
  have hrb:rb<W.heap.size:=World.block_lt_of_cell? W _ hc
  have hrn:¬ rb=W.heap.size:=by omega
  clear h hx
  generalize ({ p with xs:=p.xs++[(v1,v2)] }:PF)=q at *
  go_enter Tryz.func153,Tryz.ntmps153
  go_upto_region 1 with fail
  go_region_with (first
    | (go_at_call 72;refine (HC.out _).mono ?_;rintro e w2 ⟨rfl,hw⟩;obtain rfl:=hw.symm)
    | (go_at_call 221;refine (HP.out _ (by repeat (first|exact Below.refl _ _|refine Below.setCell ?_ (by simp;try omega) _|refine Below.alloc ?_ (by simp;try omega) _|refine Below.drew ?_))).mono ?_;rintro e w1 ⟨rfl,hk⟩;have K1:Hid (SkR K W w1 sb [q]):=hk;clear hk HP))
  all_goals exact bodyPost_end (results_none rfl _ _ _) rfl ⟨rfl,K1.out⟩
theorem tk_one {p:PF} {ys:List (Bool×Int)} {v:Bool×Int} (hx:p.xs=ys++[v]):oV (tkO [p])=vlV v∧tkE [p]=0∧tkP [p]=[{ p with xs:=ys }]:=by
  simp [tkO,tkE,tkP,hx,oV,oE]
theorem take_e {W:World} {K:Nat→Prop} {sb rb:Nat} {p:PF} (h:StA W K sb [p]) (hc:W.cell? ⟨rb,2,none⟩=some (.pointer (some ⟨sb,0,none⟩))) (ys:List (Bool×Int)) (v1:Bool) (v2:Int) (hx:p.xs=ys++[(v1,v2)]):Calls Tryz.prog 94 #[.pointer (some ⟨rb,0,none⟩)] W fun e w'=>e=.returned (.agg #[.bool v1,.int .i64 v2])∧SkR K W w' sb [{ p with xs:=ys }]:=by
  have HP:Hid (∀ w,Below W.heap.size W w→Calls Tryz.prog 161 #[.pointer (some ⟨sb,0,none⟩)] w fun e w'=>e=.returned (.tuple #[.agg #[.bool v1,.int .i64 v2],.int .i64 0])∧SkR K w w' sb [{ p with xs:=ys }]):=fun w hb=>by
    obtain ⟨fs,fv,h1,h2⟩:=h.below hb
    refine (takeK_c h1).mono ?_
    rintro e w' ⟨rfl,hk⟩
    obtain ⟨t1,t2,t3⟩:=tk_one hx
    rw [h2] at hk ⊢
    rw [t1,t2]
    rw [t3] at hk
    exact ⟨rfl,hk.r⟩
  have HC:Hid (∀ w:World,Calls Tryz.prog 154 #[.agg #[.bool v1,.int .i64 v2],.int .i64 0] w fun e w'=>e=.returned (.agg #[.bool v1,.int .i64 v2])∧Below w.heap.size w w'):=fun w=>oT_v v1 v2 w
  have hKn:Hid (∀ j,K j→j<W.heap.size):=fun j hj=>h.lt hj
  have hrb:rb<W.heap.size:=World.block_lt_of_cell? W _ hc
  have hrn:¬ rb=W.heap.size:=by omega
  clear h hx
  generalize ({ p with xs:=ys }:PF)=q at *
  go_enter Tryz.func94,Tryz.ntmps94
  go_wp2_with (first
    | (go_at_call 154;refine (HC.out _).mono ?_;rintro e w2 ⟨rfl,hb⟩;have K2:=K1.out.post hb;have K2:Hid (SkR K (W.alloc (.cells #[.bool false,.int .i64 0] 32)) w2 sb [q]):=K2;obtain ⟨zB,z0,z1,zf,zL,zN⟩:=k2c (n:=W.heap.size) hb;clear hb HC K1)
    | (go_at_call 161;refine (HP.out _ (by repeat (first|exact Below.refl _ _|refine Below.setCell ?_ (by simp;try omega) _|refine Below.alloc ?_ (by simp;try omega) _|refine Below.drew ?_))).mono ?_;rintro e w1 ⟨rfl,hk⟩;have K1:Hid (SkR K (W.alloc (.cells #[.bool false,.int .i64 0] 32)) w1 sb [q]):=hk;obtain ⟨zB,z0,z1,zf,zL,zN⟩:=t2c hk (n:=W.heap.size) (fun x=>absurd (hKn.out _ x) (by omega));clear hk HP))
  refine bodyPost_ret (v:=.agg #[.bool v1,.int .i64 v2]) (by simp [results,Tryz.results94,go_sem, *]) rfl ⟨rfl,K2.out.loc (by repeat (first|exact Below.refl _ _|refine Below.setCell ?_ (by simp;try omega) _|refine Below.alloc ?_ (by simp;try omega) _|refine Below.drew ?_)) hKn.out⟩
theorem takeKind_e {W:World} {K:Nat→Prop} {sb rb:Nat} {p:PF} (h:StA W K sb [p]) (hc:W.cell? ⟨rb,2,none⟩=some (.pointer (some ⟨sb,0,none⟩))) (ys:List (Bool×Int)) (v2:Int) (hx:p.xs=ys++[(false,v2)]):Calls Tryz.prog 156 #[.pointer (some ⟨rb,0,none⟩),.bool false] W fun e w'=>e=.returned (.agg #[.bool false,.int .i64 v2])∧SkR K W w' sb [{ p with xs:=ys }]:=by
  have hrb:rb<W.heap.size:=World.block_lt_of_cell? W _ hc
  have HP:Hid (∀ w,Below W.heap.size W w→Calls Tryz.prog 94 #[.pointer (some ⟨rb,0,none⟩)] w fun e w'=>e=.returned (.agg #[.bool false,.int .i64 v2])∧SkR K w w' sb [{ p with xs:=ys }]):=fun w hb=>take_e (h.below hb) ((hb.cell (p:=⟨rb,2,none⟩) hrb).trans hc) ys false v2 hx
  have HT:Hid (∀ w:World,Calls Tryz.prog 49 #[.bool false,.int .i64 35] w fun e w'=>e=.returned (.tuple #[])∧w'=w):=fun w=>tif_no 35 w
  have hKn:Hid (∀ j,K j→j<W.heap.size):=fun j hj=>h.lt hj
  clear h hx hc
  generalize ({ p with xs:=ys }:PF)=q at *
  go_enter Tryz.func156,Tryz.ntmps156
  go_wp2_with (first
    | (go_at_call 49;refine (HT.out _).mono ?_;rintro e w2 ⟨rfl,hw⟩;obtain rfl:=hw.symm)
    | (go_at_call 94;refine (HP.out _ (by repeat (first|exact Below.refl _ _|refine Below.setCell ?_ (by simp;try omega) _|refine Below.alloc ?_ (by simp;try omega) _|refine Below.drew ?_))).mono ?_;rintro e w1 ⟨rfl,hk⟩;have K1:Hid (SkR K (W.alloc (.cells #[.bool false,.int .i64 0] 32)) w1 sb [q]):=hk;obtain ⟨zB,z0,z1,zf,zL,zN⟩:=t2c hk (n:=W.heap.size) (fun x=>absurd (hKn.out _ x) (by omega));clear hk HP))
  refine bodyPost_ret (v:=.agg #[.bool false,.int .i64 v2]) (by simp [results,Tryz.results156,go_sem, *]) rfl ⟨rfl,K1.out.loc (by repeat (first|exact Below.refl _ _|refine Below.setCell ?_ (by simp;try omega) _|refine Below.alloc ?_ (by simp;try omega) _|refine Below.drew ?_)) hKn.out⟩
theorem takeInt_e {W:World} {K:Nat→Prop} {sb rb:Nat} {p:PF} (h:StA W K sb [p]) (hc:W.cell? ⟨rb,2,none⟩=some (.pointer (some ⟨sb,0,none⟩))) (ys:List (Bool×Int)) (v2:Int) (hx:p.xs=ys++[(false,v2)]):Calls Tryz.prog 157 #[.pointer (some ⟨rb,0,none⟩)] W fun e w'=>e=.returned (.int .i64 v2)∧SkR K W w' sb [{ p with xs:=ys }]:=by
  have HP:Hid (Calls Tryz.prog 156 #[.pointer (some ⟨rb,0,none⟩),.bool false] W fun e w'=>e=.returned (.agg #[.bool false,.int .i64 v2])∧SkR K W w' sb [{ p with xs:=ys }]):=takeKind_e h hc ys v2 hx
  have FLD:∀ w:World,(Instr.field 32 (.agg #[.bool false,.int .i64 v2]) 1).run Tryz.prog w=.ok (.int .i64 v2) w:=fun w=>by
    simp [Instr.field,run_underlying Tryz.underlying32,go_sem,part,asAgg]
  clear h hx hc
  go_enter Tryz.func157,Tryz.ntmps157
  go_wp2_with (go_at_call 156;refine (HP.out).mono ?_;rintro e w1 ⟨rfl,hk⟩;have K1:Hid (SkR K W w1 sb [{ p with xs:=ys }]):=hk;clear hk HP)
  go_ret
  exact ⟨rfl,K1.out⟩
theorem putInt_e {W:World} {K:Nat→Prop} {sb rb:Nat} {p:PF} (h:StA W K sb [p]) (hc:W.cell? ⟨rb,2,none⟩=some (.pointer (some ⟨sb,0,none⟩))) (hx:p.xs.length<p.rm) (v2:Int):Calls Tryz.prog 88 #[.pointer (some ⟨rb,0,none⟩),.int .i64 v2] W fun e w'=>e=.returned (.tuple #[])∧SkR K W w' sb [{ p with xs:=p.xs++[(false,v2)] }]:=by
  have HP:Hid (Calls Tryz.prog 153 #[.pointer (some ⟨rb,0,none⟩),.agg #[.bool false,.int .i64 v2]] W fun e w'=>e=.returned (.tuple #[])∧SkR K W w' sb [{ p with xs:=p.xs++[(false,v2)] }]):=put_e h hc hx false v2
  clear h hx hc
  go_enter Tryz.func88,Tryz.ntmps88
  go_wp2_with (go_at_call 153;refine (HP.out).mono ?_;rintro e w1 ⟨rfl,hk⟩;have K1:Hid (SkR K W w1 sb [{ p with xs:=p.xs++[(false,v2)] }]):=hk;clear hk HP)
  exact bodyPost_end (results_none rfl _ _ _) rfl ⟨rfl,K1.out⟩
theorem wrp_c (n:Int) (W:World):Calls Tryz.prog 158 #[.int .i64 n] W fun e w'=>e=.returned (.int .i64 (wrap32 n))∧w'=W:=by
  have h1:∀ w:World,(convert 3 21 (.int .i64 n)).run Tryz.prog w=.ok (.int .i32 (wrap32 n)) w:=fun w=>by
    simp [convert,run_underlying Tryz.underlying3,run_underlying Tryz.underlying21,go_sem,IntKind.wrap_i32]
    unfold wrap32;rfl
  have h2:∀ w:World,(convert 21 3 (.int .i32 (wrap32 n))).run Tryz.prog w=.ok (.int .i64 (wrap32 n)) w:=fun w=>by
    simp [convert,run_underlying Tryz.underlying3,run_underlying Tryz.underlying21,go_sem]
    rw [IntKind.wrap_i64];unfold wrap32;omega
  go_enter Tryz.func158,Tryz.ntmps158
  go_wp2
  go_ret
  exact ⟨rfl,rfl⟩
def cmpI (op a b:Int):Int:=if op=7 then a+b else if op=8 then a - b else if op=9 then a * b else a.tdiv b
theorem cmp_7 (a b:Int) (W:World) (h:-9223372036854775808≤a+b∧a+b≤9223372036854775807):Calls Tryz.prog 159 #[.int .i64 7,.int .i64 a,.int .i64 b] W fun e w'=>e=.returned (.int .i64 (cmpI 7 a b))∧w'=W:=by
  have e:=IntWalk.wrap64_in _ h
  go_enter Tryz.func159,Tryz.ntmps159
  go_wp2
  go_ret
  exact ⟨by simp [cmpI],rfl⟩
theorem cmp_8 (a b:Int) (W:World) (h:-9223372036854775808≤a - b∧a - b≤9223372036854775807):Calls Tryz.prog 159 #[.int .i64 8,.int .i64 a,.int .i64 b] W fun e w'=>e=.returned (.int .i64 (cmpI 8 a b))∧w'=W:=by
  have e:=IntWalk.wrap64_in _ h
  go_enter Tryz.func159,Tryz.ntmps159
  go_wp2
  go_ret
  exact ⟨by simp [cmpI],rfl⟩
theorem cmp_9 (a b:Int) (W:World) (h:-9223372036854775808≤a * b∧a * b≤9223372036854775807):Calls Tryz.prog 159 #[.int .i64 9,.int .i64 a,.int .i64 b] W fun e w'=>e=.returned (.int .i64 (cmpI 9 a b))∧w'=W:=by
  have e:=IntWalk.wrap64_in _ h
  go_enter Tryz.func159,Tryz.ntmps159
  go_wp2
  go_ret
  exact ⟨by simp [cmpI],rfl⟩
theorem cmp_10 (a b:Int) (hb:¬ b=0) (W:World) (h:-9223372036854775808≤a.tdiv b∧a.tdiv b≤9223372036854775807):Calls Tryz.prog 159 #[.int .i64 10,.int .i64 a,.int .i64 b] W fun e w'=>e=.returned (.int .i64 (cmpI 10 a b))∧w'=W:=by
  have e:=IntWalk.wrap64_in _ h
  go_enter Tryz.func159,Tryz.ntmps159
  go_wp2
  go_ret
  exact ⟨by simp [cmpI],rfl⟩
def I32 (a:Int):Prop:=-2147483648≤a∧a≤2147483647
theorem mul_in {a b:Int} (ha:I32 a) (hb:I32 b):-9223372036854775808≤a * b∧a * b≤9223372036854775807:=by
  obtain ⟨a1,a2⟩:=ha
  obtain ⟨b1,b2⟩:=hb
  have h:(a * b).natAbs≤2147483648 * 2147483648:=by
    rw [Int.natAbs_mul]
    exact Nat.mul_le_mul (by omega) (by omega)
  omega
theorem div_in {a b:Int} (ha:I32 a):-9223372036854775808≤a.tdiv b∧a.tdiv b≤9223372036854775807:=by
  obtain ⟨a1,a2⟩:=ha
  have h:(a.tdiv b).natAbs≤a.natAbs:=by
    rw [Int.natAbs_tdiv]
    exact Nat.div_le_self _ _
  omega
theorem cmp_c (op a b:Int) (ho:op=7∨op=8∨op=9∨op=10∧¬ b=0) (ha:I32 a) (hb:I32 b) (W:World):Calls Tryz.prog 159 #[.int .i64 op,.int .i64 a,.int .i64 b] W fun e w'=>e=.returned (.int .i64 (cmpI op a b))∧w'=W:=by
  obtain ⟨a1,a2⟩:=ha
  obtain ⟨b1,b2⟩:=hb
  rcases ho with rfl|rfl|rfl|⟨rfl,h0⟩
  · exact cmp_7 a b W (by omega)
  · exact cmp_8 a b W (by omega)
  · exact cmp_9 a b W (mul_in ⟨a1,a2⟩ ⟨b1,b2⟩)
  · exact cmp_10 a b h0 W (div_in ⟨a1,a2⟩)
theorem kc {V w:World} (hb:Below V.heap.size V w) {n o:Nat} {v:Value} (h:V.cell? ⟨n,o,none⟩=some v):w.cell? ⟨n,o,none⟩=some v:=(hb.cell (p:=⟨n,o,none⟩) (World.block_lt_of_cell? V _ h)).trans h
theorem k2d {V w:World} {n:Nat} {t:TypeId} {a0 a1:Value} (hb:Below V.heap.size V w) (h:V.heap[n]?=some (.cells #[a0,a1] t (0,0))):Hid (w.heap[n]?=some (.cells #[a0,a1] t (0,0)))∧w.cell? ⟨n,0,none⟩=some a0∧w.cell? ⟨n,1,none⟩=some a1∧(∀ k,w.frozen? ⟨n,k,none⟩=false)∧n<w.heap.size∧¬ n=w.heap.size:=k2c hb (Array.getElem?_eq_some_iff.1 h).1 h
theorem tchCell {K:Nat→Prop} {W w':World} (h:Tch K W w') {n o:Nat} {v:Value} (hn:¬ K n) (hc:W.cell? ⟨n,o,none⟩=some v):w'.cell? ⟨n,o,none⟩=some v:=by
  have:=h.blk n (World.block_lt_of_cell? W _ hc) hn
  rw [← hc];simp only [World.cell?,this]
theorem comp_e {W:World} {K:Nat→Prop} {sb rb:Nat} {p:PF} (h:StA W K sb [p]) (hn:¬ K rb) (hc:W.cell? ⟨rb,2,none⟩=some (.pointer (some ⟨sb,0,none⟩))) (ys:List (Bool×Int)) (op a b:Int) (hx:p.xs=ys++[(false,a),(false,b)]) (hr:ys.length<p.rm) (ho:op=7∨op=8∨op=9∨op=10∧¬ b=0) (ha:I32 a) (hb:I32 b):Calls Tryz.prog 92 #[.pointer (some ⟨rb,0,none⟩),.int .i64 op] W fun e w'=>e=.returned (.tuple #[])∧SkR K W w' sb [{ p with xs:=ys++[(false,wrap32 (cmpI op a b))] }]:=by
  have hrb:Hid (rb<W.heap.size):=World.block_lt_of_cell? W _ hc
  have HA:Hid (Calls Tryz.prog 157 #[.pointer (some ⟨rb,0,none⟩)] W fun e w'=>e=.returned (.int .i64 b)∧SkR K W w' sb [{ p with xs:=ys++[(false,a)] }]):=takeInt_e h hc (ys++[(false,a)]) b (by rw [hx];simp)
  have HB:Hid (∀ K1 w,StA w K1 sb [{ p with xs:=ys++[(false,a)] }]→w.cell? ⟨rb,2,none⟩=some (.pointer (some ⟨sb,0,none⟩))→Calls Tryz.prog 157 #[.pointer (some ⟨rb,0,none⟩)] w fun e w'=>e=.returned (.int .i64 a)∧SkR K1 w w' sb [{ p with xs:=ys }]):=fun K1 w s c=>takeInt_e s c ys a rfl
  have HP:Hid (∀ K1 w n,StA w K1 sb [{ p with xs:=ys }]→w.cell? ⟨rb,2,none⟩=some (.pointer (some ⟨sb,0,none⟩))→Calls Tryz.prog 88 #[.pointer (some ⟨rb,0,none⟩),.int .i64 n] w fun e w'=>e=.returned (.tuple #[])∧SkR K1 w w' sb [{ p with xs:=ys++[(false,n)] }]):=fun K1 w n s c=>putInt_e s c hr n
  have HC:Hid (∀ w,Calls Tryz.prog 159 #[.int .i64 op,.int .i64 a,.int .i64 b] w fun e w'=>e=.returned (.int .i64 (cmpI op a b))∧w'=w):=fun w=>cmp_c op a b ho ha hb w
  have HW:Hid (∀ n w,Calls Tryz.prog 158 #[.int .i64 n] w fun e w'=>e=.returned (.int .i64 (wrap32 n))∧w'=w):=fun n w=>wrp_c n w
  have HT:Hid (∀ w,Calls Tryz.prog 49 #[.bool false,.int .i64 29] w fun e w'=>e=.returned (.tuple #[])∧w'=w):=fun w=>tif_no 29 w
  have C0:Hid (W.cell? ⟨rb,2,none⟩=some (.pointer (some ⟨sb,0,none⟩))):=hc
  have N0:Hid (¬ K rb):=hn
  clear h hc hx hr ha hb hn
  have hz:op=10→(b == 0)=false:=fun e=>by
    rcases ho with rfl|rfl|rfl|⟨rfl,h0⟩
    · cases e
    · cases e
    · cases e
    · simpa using h0
  have ho2:op=7∨op=8∨op=9∨op=10:=by
    rcases ho with h|h|h|⟨h,_⟩ <;> simp [h]
  clear ho
  rcases ho2 with rfl|rfl|rfl|rfl
  all_goals first|(replace hz:=hz rfl)|clear hz
  all_goals
    go_enter Tryz.func92,Tryz.ntmps92
    go_wp2_with (first
      | (go_at_call 88;refine (HP.out _ _ _ S2.out C2.out).mono ?_;rintro e w3 ⟨rfl,hk⟩;have R3:=SkR.trans A2.out T2.out hk;clear hk HP)
      | (go_at_call 158;refine (HW.out _ _).mono ?_;rintro e w9 ⟨rfl,hw⟩;obtain rfl:=hw.symm)
      | (go_at_call 159;refine (HC.out _).mono ?_;rintro e w9 ⟨rfl,hw⟩;obtain rfl:=hw.symm)
      | (go_at_call 49;refine (HT.out _).mono ?_;rintro e w9 ⟨rfl,hw⟩;obtain rfl:=hw.symm)
      | (go_at_call 157; refine (HB.out _ _ S1.out C1.out).mono ?_; rintro e w2 ⟨rfl, hk⟩
         obtain ⟨K2,s2,a2,t2⟩:=SkR.trans A1.out T1.out hk
         have S2:Hid (StA w2 K2 sb [{ p with xs:=ys }]):=s2
         have A2:Hid (∀ j,K2 j→K j∨W.heap.size≤j):=a2
         have T2:Hid (Tch K W w2):=t2
         have C2:Hid (w2.cell? ⟨rb,2,none⟩=some (.pointer (some ⟨sb,0,none⟩))):=tchCell t2 N0.out C0.out
         clear hk s2 a2 t2 HB S1 A1 T1 C1)
      | (go_at_call 157; refine (HA.out).mono ?_; rintro e w1 ⟨rfl, hk⟩
         obtain ⟨K1,s1,a1,t1⟩:=hk
         have S1:Hid (StA w1 K1 sb [{ p with xs:=ys++[(false,a)] }]):=s1
         have A1:Hid (∀ j,K1 j→K j∨W.heap.size≤j):=a1
         have T1:Hid (Tch K W w1):=t1
         have C1:Hid (w1.cell? ⟨rb,2,none⟩=some (.pointer (some ⟨sb,0,none⟩))):=tchCell t1 N0.out C0.out
         clear s1 a1 t1 HA))
    exact bodyPost_end (results_none rfl _ _ _) rfl ⟨rfl,R3⟩
theorem szA (w:World) (o:Obj):(w.alloc o).heap.size=w.heap.size+1:=by simp
theorem callLoc (vs:Array Value) (w:World):(callFunc 155 vs).run Tryz.prog w=.ok (.enter 155 vs) w:=by simp [go_sem]
theorem callOTv (vs:Array Value) (w:World):(callFunc 154 vs).run Tryz.prog w=.ok (.enter 154 vs) w:=by simp [go_sem]
set_option maxHeartbeats 2000000 in
theorem load_e {W:World} {K:Nat→Prop} {sb rb:Nat} {p:PF} (h:StA W K sb [p]) (hc:W.cell? ⟨rb,2,none⟩=some (.pointer (some ⟨sb,0,none⟩))) (n:Nat) (v:Int) (hl:p.ls[n]?=some (false,v)) (hr:p.xs.length<p.rm) (t:ByteArray) (y:Bool) (c m d:ByteArray):Calls Tryz.prog 90 #[.pointer (some ⟨rb,0,none⟩),.agg #[.int .i64 2,.int .i64 (n:Int),.string t,.bool y,.string c,.string m,.string d]] W fun e w'=>e=.returned (.tuple #[])∧SkR K W w' sb [{ p with xs:=p.xs++[(false,v)] }]:=by
  have hrb:rb<W.heap.size:=World.block_lt_of_cell? W _ hc
  have hrn:¬ rb=W.heap.size:=by omega
  have HL:Hid (∀ w,Below W.heap.size W w→Calls Tryz.prog 155 #[.pointer (some ⟨sb,0,none⟩),.int .i64 (n:Int)] w fun e w'=>e=.returned (.tuple #[.agg #[.bool false,.int .i64 v],.int .i64 0])∧Below w.heap.size w w'):=fun w hb=>by
    obtain ⟨fs,fv,h1,h2⟩:=h.below hb
    cases fs with
    | nil=>simp at h2
    | cons f r =>
      have e:f.ls=p.ls:=by simp at h2;rw [← h2.1];rfl
      exact local_on h1 n (false,v) (by rw [e];exact hl)
  have HC:Hid (∀ w:World,Calls Tryz.prog 154 #[.agg #[.bool false,.int .i64 v],.int .i64 0] w fun e w'=>e=.returned (.agg #[.bool false,.int .i64 v])∧Below w.heap.size w w'):=fun w=>oT_v false v w
  have HT:Hid (∀ w:World,Calls Tryz.prog 49 #[.bool false,.int .i64 35] w fun e w'=>e=.returned (.tuple #[])∧w'=w):=fun w=>tif_no 35 w
  have HP:Hid (∀ w,Below W.heap.size W w→Calls Tryz.prog 153 #[.pointer (some ⟨rb,0,none⟩),.agg #[.bool false,.int .i64 v]] w fun e w'=>e=.returned (.tuple #[])∧SkR K W w' sb [{ p with xs:=p.xs++[(false,v)] }]):=fun w hb=>(put_e (h.below hb) ((hb.cell (p:=⟨rb,2,none⟩) hrb).trans hc) hr false v).mono (fun _ _ x=>⟨x.1,x.2.pre hb⟩)
  clear h hl hr
  go_enter Tryz.func90,Tryz.ntmps90
  go_upto_region 1 with fail
  go_region_law (first
    | (refine step_call2 rfl 154 callOTv (.tmp 12) (.tmp 13) 32 30 rfl (.agg #[.bool false,.int .i64 v]) (.int .i64 0) (by first|(simp [Act.eval];done)|(simp [Act.eval,Act.put];done)) (by first|(simp [Act.eval];done)|(simp [Act.eval,Act.put];done)) (HC.out _) ?_;rintro e w2 ⟨rfl,hb⟩;refine ⟨_,rfl,?_⟩;have j0:w2.cell? ⟨W.heap.size,0,none⟩=some (.int .i64 2):=kc hb (by first|exact i0|exact (World.cell?_alloc_lt _ _ _ l1).trans i0);have B2:Hid (Below W.heap.size W w2):=(by first|exact Below.step B1.out hb|exact Below.step (B1.out.alloc B1.out.size _) hb);(first|(have xx:=k2d hb yB.out;obtain ⟨xB,x0,x1,xf,xL,xN⟩:=xx)|(have xx:=k2d (n:=w1.heap.size) (a0:=.bool false) (a1:=.int .i64 0) (t:=32) hb (haA w1 _ rfl);obtain ⟨xB,x0,x1,xf,xL,xN⟩:=xx)|skip);have l2:=World.block_lt_of_cell? w2 _ j0;have n2:¬ W.heap.size=w2.heap.size:=Nat.ne_of_lt l2;clear hb B1 i0)
    | (refine step_call2 rfl 155 callLoc (.tmp 8) (.tmp 10) 81 3 rfl (.pointer (some ⟨sb,0,none⟩)) (.int .i64 (n:Int)) (by first|(simp [Act.eval];done)|(simp [Act.eval,Act.put];done)) (by first|(simp [Act.eval];done)|(simp [Act.eval,Act.put];done)) (HL.out _ (by repeat (first|exact Below.refl _ _|refine Below.setCell ?_ (by simp;try omega) _|refine Below.alloc ?_ (by simp;try omega) _|refine Below.drew ?_))) ?_;rintro e w1 ⟨rfl,hb⟩;refine ⟨_,rfl,?_⟩;have i0:w1.cell? ⟨W.heap.size,0,none⟩=some (.int .i64 2):=kc hb (by simp);have B1:Hid (Below W.heap.size W w1):=Below.step (by repeat (first|exact Below.refl _ _|refine Below.setCell ?_ (by simp;try omega) _|refine Below.alloc ?_ (by simp;try omega) _|refine Below.drew ?_)) hb;have l1:=World.block_lt_of_cell? w1 _ i0;have n1:¬ W.heap.size=w1.heap.size:=Nat.ne_of_lt l1;(first|(have yy:=k2d (n:=W.heap.size+1) (a0:=.bool false) (a1:=.int .i64 0) (t:=32) hb (haA (W.alloc _) _ (szA _ _));obtain ⟨yB,y0,y1,yf,yL,yN⟩:=yy)|skip);clear hb))
  all_goals go_wp2_with (first
    | (go_at_call 49;refine (HT.out _).mono ?_;rintro e w9 ⟨rfl,hw⟩;obtain rfl:=hw.symm)
    | (go_at_call 153;refine (HP.out _ (by repeat (first|refine Below.setCell ?_ (by simp;try omega) _|refine Below.alloc ?_ (by have:=B2.out.size;simp;try omega) _|refine Below.drew ?_|exact B2.out))).mono ?_;rintro e w3 ⟨rfl,hk⟩))
  all_goals exact bodyPost_end (results_none rfl _ _ _) rfl ⟨rfl,hk⟩
end Go.Proofs.YtlohdfpinmdljaaGreatDoor.Sk
