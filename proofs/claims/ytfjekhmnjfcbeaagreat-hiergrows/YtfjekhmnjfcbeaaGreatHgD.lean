import Derived.Test.YtfjekhmnjfcbeaaGreatWdB
import Derived.Test.YtfjekhmnjfcbeaaGreatSmA
import Derived.Test.YtfjekhmnjfcbeaaGreatHrR
import Derived.Test.YtfjekhmnjfcbeaaGreatHrP
import Derived.Test.YtfjekhmnjfcbeaaGreatRwB
import Derived.Test.YtfjekhmnjfcbeaaGreatHgC
import Derived.BigQuiet
import Derived.Lib.SliceRun
import Derived.Shelf.RegionOpen
namespace Go.Proofs.YtfjekhmnjfcbeaaGreat
open Go.RowKit Go.Maps
theorem wi_cl {ps:List Plc} (hW:WI ps) {j:Nat} {r:Plc} (hr:ps[j]?=some r):r.cl.length≤ps.length:=by
  have hj:=(List.getElem?_eq_some_iff.1 hr).1
  have e:clO (ps.map nd) j=r.cl:=by rw [clO,nd_at' hr];rfl
  refine nodup_lt_len _ _ (by rw [← e];exact cl_nodup hW.wo j) (fun i hi=>?_)
  rw [← e] at hi
  have:=(cl_facts hW.wo hi).1
  omega
theorem HierGrows_any (v:Value) (l:List Cls) (c:Cls) (vi vm:Value) (W:World) (h:IsClss W v l) (hc:ClsIn W vi vm c):Calls Tryz.prog 3 #[v,.agg #[.string c.nm,.string c.su,vi,.int .i64 c.fl,.int .i64 c.ld,vm]] W fun e w'=>e=.returned (.bool true)∧Below W.heap.size W w':=by
  have hCW:=clss_w h
  have hW:WI (wld l):=wld_wi l hCW
  have ht:=twin_all l hCW
  have hW2:WI (dfP (wld l) (defN (wld l) c)):=hW.define c hc.ok
  have hnz:=hc.ok.1
  obtain ⟨ps,hps⟩:∃ ps,wld l=ps:=⟨_,rfl⟩
  rw [hps] at hW ht hW2
  have hch:∀ a:Nat,(chR ps (a:Int)).1.length≤1000000000:=fun a=>by
    rcases plcI_cases ps (a:Int) with ⟨h1,_⟩|⟨k,q,e,h2,h1⟩
    · rw [chR,h1];exact Nat.zero_le _
    · rw [chR,h1]
      have h3:=(List.getElem?_eq_some_iff.1 h2).1
      have h4:=ch_len hW.wo k (by simpa using h3)
      have h5:=hW.hi
      have e2:a=k:=by omega
      subst e2
      simp only [Int.toNat_natCast]
      omega
  have hcl:∀ a:Nat,(clR ps (a:Int)).1.length≤1000000000:=fun a=>by
    rcases plcI_cases ps (a:Int) with ⟨h1,_⟩|⟨k,q,e,h2,h1⟩
    · rw [clR,h1];exact Nat.zero_le _
    · rw [clR,h1]
      have h4:=wi_cl hW h2
      have h5:=hW.hi
      show q.cl.length≤1000000000
      omega
  have hpl:∀ a:Nat,a<ps.length→∃ q,plcI ps (a:Int)=some q∧ps[a]?=some q:=fun a ha=>⟨ps[a],by rw [plcI_nat];exact List.getElem?_eq_getElem ha,List.getElem?_eq_getElem ha⟩
  have hK:∃ K:Nat→Cls,∀ a:Nat,a<ps.length→∀ q,ps[a]?=some q→q.c=hcOf (K a):=by
    refine ⟨fun a=>((wldC l)[a]?).getD ⟨⟨#[]⟩,⟨#[]⟩,[],0,0,[]⟩,fun a ha q hq=>?_⟩
    obtain ⟨d,h1,h2⟩:=ht.at' hq
    simp only [h1,Option.getD_some];exact h2
  obtain ⟨K,hK⟩:=hK
  have NA:∀ (rs:List Plc) (b a:Nat) (w:World),WI rs→Gw ps rs→WAt b rs w→a<ps.length→Calls Tryz.prog 14 #[.pointer (some ⟨b,0,none⟩),.int .i64 (a:Int)] w fun e w'=>(∃ x y,e=.returned (.tuple #[.slice x (chR ps (a:Int)).1.length y,.int .i64 0])∧Rds w' (.slice x (chR ps (a:Int)).1.length y) (chR ps (a:Int)).1.length 1 ((chR ps (a:Int)).1.map numV))∧Below w.heap.size w w':=fun rs b a w h1 h2 h3 h4=>by
    obtain ⟨q,hq,_⟩:=hpl a h4
    refine (chain_r h3 h1 (a:Int)).mono fun e w' zz=>⟨?_,zz.2⟩
    obtain ⟨x,y,z1,z2⟩:=zz.1
    rw [h2.ch h4] at z1 z2
    have e0:(chR ps (a:Int)).2=0:=by rw [chR,hq]
    rw [e0] at z1
    exact ⟨x,y,z1,z2⟩
  have NB:∀ (rs:List Plc) (b a:Nat) (w:World),WI rs→Gw ps rs→WAt b rs w→a<ps.length→Calls Tryz.prog 15 #[.pointer (some ⟨b,0,none⟩),.int .i64 (a:Int)] w fun e w'=>(∃ x y,e=.returned (.tuple #[.slice x (clR ps (a:Int)).1.length y,.int .i64 0])∧Rds w' (.slice x (clR ps (a:Int)).1.length y) (clR ps (a:Int)).1.length 1 ((clR ps (a:Int)).1.map numV))∧Below w.heap.size w w':=fun rs b a w h1 h2 h3 h4=>by
    obtain ⟨q,hq,_⟩:=hpl a h4
    refine (closure_r h3 h1 (a:Int)).mono fun e w' zz=>⟨?_,zz.2⟩
    obtain ⟨x,y,z1,z2⟩:=zz.1
    rw [h2.cl h4] at z1 z2
    have e0:(clR ps (a:Int)).2=0:=by rw [clR,hq]
    rw [e0] at z1
    exact ⟨x,y,z1,z2⟩
  have NC:∀ (rs:List Plc) (b a:Nat) (w:World),WI rs→Gw ps rs→WAt b rs w→a<ps.length→Calls Tryz.prog 13 #[.pointer (some ⟨b,0,none⟩),.int .i64 (a:Int)] w fun e w'=>(ClsA (K a) e w')∧Below w.heap.size w w':=fun rs b a w h1 h2 h3 h4=>by
    obtain ⟨q,hq,hq2⟩:=hpl a h4
    exact clsA_c h3 h1.pb ((h2.plc h4).trans hq) (hK a h4 q hq2)
  have NE:∀ (rs:List Plc) (b a j:Nat) (w:World),WI rs→Gw ps rs→WAt b rs w→a<ps.length→j<ps.length→Calls Tryz.prog 18 #[.pointer (some ⟨b,0,none⟩),.int .i64 (a:Int),.int .i64 (j:Int)] w fun e w'=>(e=.returned (.bool (extI ps (a:Int) (j:Int))))∧Below w.heap.size w w':=fun rs b a j w h1 h2 h3 h4 h5=>by
    have:=extends_c h3 h1 (a:Int) (j:Int)
    rw [h2.ext h4 h5] at this
    exact this
  have NP:∀ (rs:List Plc) (b a j:Nat) (w:World),WI rs→Gw ps rs→WAt b rs w→a<ps.length→j<ps.length→Calls Tryz.prog 19 #[.pointer (some ⟨b,0,none⟩),.int .i64 (a:Int),.int .i64 (j:Int)] w fun e w'=>(e=.returned (.bool (spI ps (a:Int) (j:Int))))∧Below w.heap.size w w':=fun rs b a j w h1 h2 h3 h4 h5=>by
    have:=samePk_c h3 h1.nm (a:Int) (j:Int)
    rw [h2.sp h4 h5] at this
    exact this
  have G0:Gw ps ps:=⟨hW,hW,.inl rfl⟩
  cases hd:defN ps c with
  | error E =>
    have hE:=def_err hd
    obtain ⟨y1,y2,hy⟩:∃ y1 y2,bnV (lookL ps c.nm.data.toList)=.tuple #[.int .i64 y1,.int .i64 y2]:=by
      cases lookL ps c.nm.data.toList <;> exact ⟨_,_,rfl⟩
    refine grows_e ps ps W v l h c vi vm hc ps.length hW.hi E y1 y2 hE hps K (fun a=>(chR ps (a:Int)).1) (fun a=>(clR ps (a:Int)).1) (fun a j=>extI ps (a:Int) (j:Int)) (fun a j=>spI ps (a:Int) (j:Int)) hch hcl
      (fun a ha N b1 b2 w hw=>NC ps b1 a w hW G0 hw.left ha) (fun a ha N b1 b2 w hw=>NC ps b2 a w hW G0 hw.right ha)
      (fun a ha N b1 b2 w hw=>NA ps b1 a w hW G0 hw.left ha) (fun a ha N b1 b2 w hw=>NA ps b2 a w hW G0 hw.right ha)
      (fun a ha N b1 b2 w hw=>NB ps b1 a w hW G0 hw.left ha) (fun a ha N b1 b2 w hw=>NB ps b2 a w hW G0 hw.right ha)
      (fun a j ha hj N b1 b2 w hw=>NE ps b1 a j w hW G0 hw.left ha hj) (fun a j ha hj N b1 b2 w hw=>NE ps b2 a j w hW G0 hw.right ha hj)
      (fun a j ha hj N b1 b2 w hw=>NP ps b1 a j w hW G0 hw.left ha hj) (fun a j ha hj N b1 b2 w hw=>NP ps b2 a j w hW G0 hw.right ha hj)
      (fun N b1 b2 w hw hN hin=>?_) (fun N b1 b2 w hw=>len_c hw.left) (fun N b1 b2 w hw=>len_c hw.left) (fun N b1 b2 w hw=>?_) (fun N b1 b2 w hw=>?_)
    · have:=hw.def1 hN c vi vm hin hW.nm
      rw [hd] at this
      exact this
    · have:=byName_c hw.left c.nm hnz
      rw [hy] at this
      exact this
    · have:=byName_c hw.right c.nm hnz
      rw [hy] at this
      exact this
  | ok p =>
    rw [hd] at hW2
    have G1:Gw ps (ps++[p]):=⟨hW,hW2,.inr ⟨p,rfl⟩⟩
    refine grows_o ps (ps++[p]) W v l h c vi vm hc ps.length hW.hi hps K (fun a=>(chR ps (a:Int)).1) (fun a=>(clR ps (a:Int)).1) (fun a j=>extI ps (a:Int) (j:Int)) (fun a j=>spI ps (a:Int) (j:Int)) hch hcl
      (fun a ha N b1 b2 w hw=>NC _ b1 a w hW2 G1 hw.left ha) (fun a ha N b1 b2 w hw=>NC ps b2 a w hW G0 hw.right ha)
      (fun a ha N b1 b2 w hw=>NA _ b1 a w hW2 G1 hw.left ha) (fun a ha N b1 b2 w hw=>NA ps b2 a w hW G0 hw.right ha)
      (fun a ha N b1 b2 w hw=>NB _ b1 a w hW2 G1 hw.left ha) (fun a ha N b1 b2 w hw=>NB ps b2 a w hW G0 hw.right ha)
      (fun a j ha hj N b1 b2 w hw=>NE _ b1 a j w hW2 G1 hw.left ha hj) (fun a j ha hj N b1 b2 w hw=>NE ps b2 a j w hW G0 hw.right ha hj)
      (fun a j ha hj N b1 b2 w hw=>NP _ b1 a j w hW2 G1 hw.left ha hj) (fun a j ha hj N b1 b2 w hw=>NP ps b2 a j w hW G0 hw.right ha hj)
      (fun N b1 b2 w hw hN hin=>?_) (fun N b1 b2 w hw=>len_c hw.left) (fun N b1 b2 w hw=>?_)
    · have:=hw.def1 hN c vi vm hin hW.nm
      rw [hd] at this
      exact this
    · have:=len_c hw.left
      rw [List.length_append,List.length_singleton] at this
      exact this
end Go.Proofs.YtfjekhmnjfcbeaaGreat
