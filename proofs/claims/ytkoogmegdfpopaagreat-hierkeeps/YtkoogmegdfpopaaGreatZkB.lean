import Derived.Test.YtkoogmegdfpopaaGreatZkD
set_option maxRecDepth 100000
namespace Go.Proofs.YtkoogmegdfpopaaGreat
open Go.RowKit Go.Maps
structure RmZ (W:World) (S:Nat→Prop) (rb:Nat) (vI:Value) (nI:Nat) (vM:Value) (nM:Nat) (vC:Value) (us:List (Value×Nat)):Prop where
 hb:∃ c0 c1 c2 c3 c4 c5 w0 w1 w2 w3 w4 w5,W.heap[rb]?=some (.cells #[c0,c1,c2,c3,c4,c5,vI,vM,vC,w0,w1,w2,w3,w4,w5] 39 (0,0))
 ri:RwZ W S 9 1 vI nI
 rm:RwZ W S 48 6 vM nM
 rc:W.ownsRow 0 46 1 vC us.length (us.map Prod.fst)
 co:∀ u∈us,RwZ W S 56 7 u.1 u.2
set_option maxHeartbeats 4000000 in
theorem spoil_c {W:World} {S:Nat→Prop} {rb:Nat} {vI:Value} {nI:Nat} {vM:Value} {nM:Nat} {vC:Value} {us:List (Value×Nat)} (h:RmZ W S rb vI nI vM nM vC us):Calls Tryz.prog 11 #[.pointer (some ⟨rb,0,none⟩)] W fun e w'=>e=.returned (.tuple #[])∧StZ S W w':=by
 obtain ⟨⟨c0,c1,c2,c3,c4,c5,w0,w1,w2,w3,w4,w5,hb⟩,hi,hm,hc,hu⟩:=h
 obtain ⟨aI,cI,rfl⟩:=hi.form
 obtain ⟨aM,cM,rfl⟩:=hm.form
 obtain ⟨aC,cC,rfl⟩:=ownv hc
 have HB:Hid (∀ w,StZ S W w→w.heap[rb]?=some (.cells #[c0,c1,c2,c3,c4,c5,.slice aI nI cI,.slice aM nM cM,.slice aC us.length cC,w0,w1,w2,w3,w4,w5] 39 (0,0))):=fun w h=>h.kt rb _ _ hb (by decide) (by decide) (by decide)
 have HI:Hid (RwZ W S 9 1 (.slice aI nI cI) nI):=hi
 have HM:Hid (RwZ W S 48 6 (.slice aM nM cM) nM):=hm
 have HC:Hid (W.ownsRow 0 46 1 (.slice aC us.length cC) us.length (us.map Prod.fst)):=hc
 have HU:Hid (∀ u∈us,RwZ W S 56 7 u.1 u.2):=hu
 have hrl:rb<W.heap.size:=(Array.getElem?_eq_some_iff.1 hb).1
 have hul:us.length≤9223372036854775807:=by
  rcases hc.2 with ⟨_,e⟩|⟨g,cap,cur,hv,_,_,h1,h2,_⟩
  ·omega
  ·unfold maxLen at h2;omega
 clear hb hi hm hc hu
 go_enter Tryz.func11,Tryz.ntmps11
 go_wp2
 go_loopw [2] (fun iv wr=>∃ i:Nat,iv=.int .i64 i∧i≤nI∧Hid (StZ S W wr)) (fun iv _=>nI - (intOf iv).toNat)
 case atStart=>exact ⟨0,rfl,Nat.zero_le _,StZ.refl _ _⟩
 case round =>
  obtain ⟨i,rfl,hin,hst⟩:=hrel
  have hbr:=HB.out wr hst.out
  have x6:wr.cell? ⟨rb,6,none⟩=some (.slice aI nI cI):=(cell_of_row wr rb 6 _ _ _ hbr).trans rfl
  by_cases hlt:i<nI
  ·obtain ⟨g,cap,cs,hv,hg,hz,hS,hmx⟩:=(HI.out.sh hst.out.sh).at hlt
   cases hv
   have hi1:(0:Int)≤(i:Int):=by omega
   have hi2:(i:Int)<(nI:Int):=by omega
   have hfz:=fun k=>frozen_of_row wr g k _ _ hg
   have hgl:g<wr.heap.size:=(Array.getElem?_eq_some_iff.1 hg).1
   obtain ⟨u,hcl⟩:=Zh hg (k:=i) (by omega)
   unfold maxLen at hmx
   have HG:Hid (wr.heap[g]?=some (.cells cs 9 (0,0))):=hg
   clear hbr hg hz HU HC HM
   go_wp2
   go_roundw
   case rel=>exact ⟨i+1,by go_num,by omega,hst.out.set _ HG.out (.inl rfl) (.inl hS)⟩
   case measure=>simp [intOf];omega
  ·have hi2:¬ (i:Int)<(nI:Int):=by omega
   have S1:Hid (StZ S W wr):=hst.out
   clear hbr hst HI
   go_wp2
   clear x6
   go_loopw [3] (fun iv wq=>∃ i:Nat,iv=.int .i64 i∧i≤us.length∧Hid (StZ S W wq)) (fun iv _=>us.length - (intOf iv).toNat)
   case atStart=>exact ⟨0,rfl,Nat.zero_le _,S1⟩
   case round =>
    clear S1 hi2 hlt hin
    obtain ⟨i2,rfl,hin,hst⟩:=hrel
    have x8:wr.cell? ⟨rb,8,none⟩=some (.slice aC us.length cC):=(cell_of_row wr rb 8 _ _ _ (HB.out wr hst.out)).trans rfl
    by_cases hlt:i2<us.length
    ·have hi1:(0:Int)≤(i2:Int):=by omega
     have hi2:(i2:Int)<(us.length:Int):=by omega
     obtain ⟨gC,cp,hf⟩:=Go.Joins.ownsRow_form HC.out (by omega)
     injection hf with e1 _ e2
     subst e1 e2
     obtain ⟨u,hui⟩:∃ u,us[i2]?=some u:=⟨_,List.getElem?_eq_getElem hlt⟩
     have hC0:W.cell? ⟨gC,i2,none⟩=some u.1:=(World.ownsRow.cellAt HC.out i2 (by omega)).trans (by rw [List.getElem?_map,hui];rfl)
     obtain ⟨cs0,hg0⟩:∃ cs0,W.heap[gC]?=some (.cells cs0 46 (0,0)):=by
      rcases HC.out.2 with ⟨h,_⟩|⟨g,cap,cur,hv,_,hg,_⟩
      ·cases h
      ·cases hv;exact ⟨_,hg⟩
     have HK:Hid (∀ w,StZ S W w→w.cell? ⟨gC,i2,none⟩=some u.1∧gC<w.heap.size):=fun w h=>by
      have h2:=h.kt gC _ _ hg0 (by decide) (by decide) (by decide)
      refine ⟨?_,(Array.getElem?_eq_some_iff.1 h2).1⟩
      rw [← hC0]
      simp only [World.cell?,h2,hg0]
     have HUi:Hid (RwZ W S 56 7 u.1 u.2):=HU.out u (List.mem_of_getElem? hui)
     obtain ⟨u1,n⟩:=u
     simp only at HK HUi
     obtain ⟨aU,cU,rfl⟩:=HUi.out.form
     have hcx:=(HK.out wr hst.out).1
     have hgx:=(HK.out wr hst.out).2
     have S2:Hid (StZ S W wr):=hst.out
     clear hC0 hg0 hui hst HC HU HM
     go_wp2
     clear x8 hcx hgx
     go_loopw [4] (fun jv wq=>∃ j:Nat,jv=.int .i64 j∧j≤n∧Hid (StZ S W wq)) (fun jv _=>n - (intOf jv).toNat)
     case atStart=>exact ⟨0,rfl,Nat.zero_le _,S2⟩
     case round =>
      clear S2
      obtain ⟨j,rfl,hjn,hst⟩:=hrel
      have x8:wr.cell? ⟨rb,8,none⟩=some (.slice (some ⟨gC,0,none⟩) us.length cC):=(cell_of_row wr rb 8 _ _ _ (HB.out wr hst.out)).trans rfl
      obtain ⟨hcx,hgx⟩:=HK.out wr hst.out
      by_cases hjl:j<n
      ·obtain ⟨g,cap,cs,hv,hg,hz,hS,hmx⟩:=(HUi.out.sh hst.out.sh).at hjl
       cases hv
       have hj1:(0:Int)≤(j:Int):=by omega
       have hj2:(j:Int)<(n:Int):=by omega
       have hfz:=fun k=>frozen_of_row wr g k _ _ hg
       have hgl:g<wr.heap.size:=(Array.getElem?_eq_some_iff.1 hg).1
       obtain ⟨u0,x0⟩:=Zh hg (k:=j * 7) (by omega)
       obtain ⟨u1,x1⟩:=Zh hg (k:=j * 7+1) (by omega)
       obtain ⟨u2,x2⟩:=Zh hg (k:=j * 7+2) (by omega)
       obtain ⟨u3,x3⟩:=Zh hg (k:=j * 7+3) (by omega)
       obtain ⟨u4,x4⟩:=Zh hg (k:=j * 7+4) (by omega)
       obtain ⟨u5,x5⟩:=Zh hg (k:=j * 7+5) (by omega)
       obtain ⟨u6,x6⟩:=Zh hg (k:=j * 7+6) (by omega)
       unfold maxLen at hmx
       have HG:Hid (wr.heap[g]?=some (.cells cs 56 (0,0))):=hg
       clear hg hz
       go_wp2
       exact ⟨⟨j+1,by go_num,by omega,hst.out.set7 HG.out (.inr (.inr rfl)) (.inl hS) _ _ _ _ _ _ _ _ _ _ _ _ _ _⟩,by simp [intOf];omega⟩
      ·have hj2:¬ (j:Int)<(n:Int):=by omega
       go_wp2
       exact ⟨⟨i2+1,by go_num,by omega,hst.out⟩,by simp [intOf];omega⟩
    ·have hi2:¬ (i2:Int)<(us.length:Int):=by omega
     have S3:Hid (StZ S W wr):=hst.out
     clear hst HC HU
     go_wp2
     clear x8
     go_loopw [5] (fun iv wq=>∃ i:Nat,iv=.int .i64 i∧i≤nM∧Hid (StZ S W wq)) (fun iv _=>nM - (intOf iv).toNat)
     case atStart=>exact ⟨0,rfl,Nat.zero_le _,S3⟩
     case round =>
      clear S3 hi2 hlt hin
      obtain ⟨i3,rfl,hin,hst⟩:=hrel
      have x7:wr.cell? ⟨rb,7,none⟩=some (.slice aM nM cM):=(cell_of_row wr rb 7 _ _ _ (HB.out wr hst.out)).trans rfl
      by_cases hlt:i3<nM
      ·obtain ⟨g,cap,cs,hv,hg,hz,hS,hmx⟩:=(HM.out.sh hst.out.sh).at hlt
       cases hv
       have hi1:(0:Int)≤(i3:Int):=by omega
       have hi2:(i3:Int)<(nM:Int):=by omega
       have hfz:=fun k=>frozen_of_row wr g k _ _ hg
       have hgl:g<wr.heap.size:=(Array.getElem?_eq_some_iff.1 hg).1
       obtain ⟨u0,x0⟩:=Zh hg (k:=i3 * 6) (by omega)
       obtain ⟨u1,x1⟩:=Zh hg (k:=i3 * 6+1) (by omega)
       obtain ⟨u2,x2⟩:=Zh hg (k:=i3 * 6+2) (by omega)
       obtain ⟨u3,x3⟩:=Zh hg (k:=i3 * 6+3) (by omega)
       obtain ⟨u4,x4⟩:=Zh hg (k:=i3 * 6+4) (by omega)
       obtain ⟨u5,x5⟩:=Zh hg (k:=i3 * 6+5) (by omega)
       unfold maxLen at hmx
       have HG:Hid (wr.heap[g]?=some (.cells cs 48 (0,0))):=hg
       clear hg hz
       go_wp2
       have R:Hid (StZ S W _):=hst.out.set6 HG.out (.inr (.inl rfl)) (.inl hS) (i3 * 6) (i3 * 6+1) (i3 * 6+2) (i3 * 6+3) (i3 * 6+4) (i3 * 6+5) (.string ⟨#[115,112,111,105,108,116]⟩) (.string ⟨#[40,41,86]⟩) (.int .i64 0) (.int .i64 0) (.int .i64 0) (.slice none 0 0)
       refine ⟨⟨i3+1,by go_num,by omega,R⟩,?_⟩
       clear R HG hmx
       simp [intOf];omega
      ·have hi2:¬ (i3:Int)<(nM:Int):=by omega
       go_wp2
       exact bodyPost_end (results_none rfl _ _ _) rfl ⟨rfl,hst.out⟩
end Go.Proofs.YtkoogmegdfpopaaGreat
