import Derived.Test.YtfjekhmnjfcbeaaGreatNaA
import Derived.Test.YtfjekhmnjfcbeaaGreatCurC
import Derived.Test.YtfjekhmnjfcbeaaGreatTypesRef
import Derived.Test.YtfjekhmnjfcbeaaGreatRfF
import Derived.Test.YtfjekhmnjfcbeaaGreatSoD
import Derived.Laws.MakeOwn
import Derived.Laws.IdiomStrings
import Derived.Deep.LoopGhost
import Derived.Deep.RegionHeld3
set_option maxRecDepth 100000
namespace Go.Proofs.YtfjekhmnjfcbeaaGreat
open Go.RowKit Go.Maps
abbrev SlT:=Option Addr×Nat×Nat
def slV (r:SlT):Value:=.slice r.1 r.2.1 r.2.2
def nmv (j:Nat):Value:=.int .i64 (-1 - (j:Int))
structure NaS (N:Nat) (R:List SlT) (W:World):Prop where
  own:∀ (j:Nat) (r:SlT),R[j]?=some r→∃ xs,W.ownsRow N 3 1 (slV r) r.2.1 xs
  apart:∀ (j j':Nat) (r r':SlT) (k:Nat),R[j]?=some r→R[j']?=some r'→(slV r).ownBlock=some k→(slV r').ownBlock=some k→j=j'
  base:N≤W.heap.size
def KpR (N:Nat) (R:List SlT) (W w:World):Prop:=Below N W w∧∀ k,k<W.heap.size→(∀ (j:Nat) (r:SlT),R[j]?=some r→(slV r).ownBlock≠some k)→w.heap[k]?=W.heap[k]?
theorem KpR.refl (N:Nat) (R:List SlT) (W:World):KpR N R W W:=⟨Below.refl _ _,fun _ _ _=>rfl⟩
theorem KpR.alloc {N:Nat} {R:List SlT} {W w:World} (h:KpR N R W w) (hN:N≤W.heap.size) (o:Obj):KpR N R W (w.alloc o) :=
  ⟨h.1.alloc (Nat.le_trans hN h.1.size) o,fun k hk hr=>(Below.heap_alloc _ _ _ (Nat.lt_of_lt_of_le hk h.1.size)).trans (h.2 k hk hr)⟩
theorem KpR.grown {N:Nat} {R:List SlT} {W w w':World} {row:Option Nat} (h:KpR N R W w) (hN:N≤W.heap.size) (hg:w.grownBy w' row) (hr:∀ k,row=some k→N≤k∧((∃ (j:Nat) (r:SlT),R[j]?=some r∧(slV r).ownBlock=some k)∨W.heap.size≤k)):KpR N R W w':=by
  refine ⟨h.1.grown hg (Nat.le_trans hN h.1.size) (fun k hk=>(hr k hk).1),fun k hk hn=>?_⟩
  refine (hg.block k (Nat.lt_of_lt_of_le hk h.1.size) (fun e=>?_)).trans (h.2 k hk hn)
  rcases (hr k e.symm).2 with ⟨j,r,h1,h2⟩|h1
  · exact hn j r h1 h2
  · omega
def RowsA (N:Nat) (R:List SlT) (i q:Nat) (w:World):Prop:=∀ (j:Nat) (r:SlT),R[j]?=some r→∃ xs,w.ownsRow N 3 1 (slV r) r.2.1 xs∧(j<i→xs=List.replicate r.2.1 (nmv j))∧(j=i→xs.take q=List.replicate q (nmv i))
theorem RowsA.start {N:Nat} {R:List SlT} {W:World} (h:NaS N R W):RowsA N R 0 0 W:=fun j r hj=>by
  obtain ⟨xs,h1⟩:=h.own j r hj
  exact ⟨xs,h1,fun h=>absurd h (by omega),fun _=>by simp⟩
theorem RowsA.next {N:Nat} {R:List SlT} {i:Nat} {w:World} {r:SlT} (h:RowsA N R i r.2.1 w) (hr:R[i]?=some r):RowsA N R (i+1) 0 w:=fun j r' hj=>by
  obtain ⟨xs,h1,h2,h3⟩:=h j r' hj
  refine ⟨xs,h1,fun hlt=>?_,fun _=>by simp⟩
  by_cases e:j=i
  · subst e
    rw [hr] at hj
    injection hj with hj
    subst hj
    have:=h3 rfl
    rwa [List.take_of_length_le (by rw [h1.1];omega)] at this
  · exact h2 (by omega)
theorem RowsA.kept {N:Nat} {R:List SlT} {i q:Nat} {w w':World} {row:Option Nat} (h:RowsA N R i q w) (hg:w.grownBy w' row) (hr:∀ k,row=some k→∀ (j:Nat) (r:SlT),R[j]?=some r→(slV r).ownBlock≠some k):RowsA N R i q w':=fun j r hj=>by
  obtain ⟨xs,h1,h2⟩:=h j r hj
  refine ⟨xs,h1.kept hg ?_,h2⟩
  cases ob:(slV r).ownBlock with
  | none=>exact .inl rfl
  | some k=>exact .inr fun e=>hr k e.symm j r hj ob
theorem RowsA.store {N:Nat} {R:List SlT} {W w:World} {i q g c n:Nat} (S:NaS N R W) (h:RowsA N R i q w) (hr:R[i]?=some (some ⟨g,0,none⟩,n,c)) (hq:q<n):RowsA N R i (q+1) (w.setCell ⟨g,q,none⟩ (nmv i))∧w.grownBy (w.setCell ⟨g,q,none⟩ (nmv i)) (some g):=by
  obtain ⟨ys,hi1,hi2,hi3⟩:=h i _ hr
  have st:=World.ownsRow.stored hi1 q (nmv i)
  refine ⟨fun j r hj=>?_,st.2⟩
  by_cases e:j=i
  · subst e
    rw [hr] at hj
    injection hj with hj
    subst hj
    refine ⟨_,st.1,fun hlt=>absurd hlt (by omega),fun _=>?_⟩
    have hl:q<ys.length:=by have:=hi1.1;simp only at this;omega
    rw [List.take_add_one,List.getElem?_set_self hl,List.take_set,List.set_eq_of_length_le (by rw [List.length_take];omega),hi3 rfl,List.replicate_succ']
    rfl
  · obtain ⟨xs,h1,h2,h3⟩:=h j r hj
    refine ⟨xs,h1.kept st.2 ?_,h2,fun e1=>absurd e1 e⟩
    cases ob:(slV r).ownBlock with
    | none=>exact .inl rfl
    | some k=>exact .inr fun e1=>e (S.apart j i r _ k hj hr ob e1.symm)
theorem NaS.blk {N:Nat} {R:List SlT} {W:World} (S:NaS N R W) {j k:Nat} {r:SlT} (hj:R[j]?=some r) (hk:(slV r).ownBlock=some k):N≤k∧k<W.heap.size:=by
  obtain ⟨xs,h⟩:=S.own j r hj
  exact h.lt k hk
def RowsB (N:Nat) (R:List SlT) (w:World):Prop:=∀ (j:Nat) (r:SlT),R[j]?=some r→w.ownsRow N 3 1 (slV r) r.2.1 (List.replicate r.2.1 (nmv j))
theorem RowsA.full {N:Nat} {R:List SlT} {w:World} (h:RowsA N R R.length 0 w):RowsB N R w:=fun j r hj=>by
  obtain ⟨xs,h1,h2,_⟩:=h j r hj
  have hl:j<R.length:=(List.getElem?_eq_some_iff.1 hj).1
  rw [← h2 hl]
  exact h1
def GrB (N:Nat) (R:List SlT) (W:World) (i Z:Nat) (G:List Value) (w:World):Prop:=∀ (j:Nat) (r:SlT),j<i→R[j]?=some r→∃ a c,G[j]?=some (.slice a (r.2.1+40) c)∧w.ownsRow N 3 1 (.slice a (r.2.1+40) c) (r.2.1+40) (List.replicate (r.2.1+40) (nmv j))∧∀ k,(Value.slice a (r.2.1+40) c).ownBlock=some k→((slV r).ownBlock=some k∨W.heap.size<k)∧k<Z
def CurB (N:Nat) (r:SlT) (i q Z:Nat) (a:Option Addr) (c:Nat) (w:World):Prop:=w.ownsRow N 3 1 (.slice a (r.2.1+q) c) (r.2.1+q) (List.replicate (r.2.1+q) (nmv i))∧∀ k,(Value.slice a (r.2.1+q) c).ownBlock=some k→(slV r).ownBlock=some k∨Z≤k
theorem appB {N:Nat} {R:List SlT} {W w w':World} {i q Z:Nat} {G:List Value} {r:SlT} {a:Option Addr} {c:Nat} (S:NaS N R W) (hK:KpR N R W w) (hB:RowsB N R w) (hG:GrB N R W i Z G w) (hr:R[i]?=some r) (hC:CurB N r i q Z a c w) (hZ:W.heap.size<Z) (hZw:Z≤w.heap.size) (hg:w.grownBy w' (Value.slice a (r.2.1+q) c).ownBlock) (hk:∀ b0 v0 n0 xs0,n0≤r.2.1+q→w.ownsRow b0 3 1 v0 n0 xs0→w'.ownsRow b0 3 1 v0 n0 xs0):KpR N R W w'∧RowsB N R w'∧GrB N R W i Z G w'∧w'.heap[W.heap.size]?=w.heap[W.heap.size]?:=by
  have hN:=S.base
  refine ⟨hK.grown hN hg (fun k e=>?_),fun j r' hj=>?_,fun j r' hji hj=>?_,?_⟩
  · rcases hC.2 k e with h|h
    · exact ⟨(S.blk hr h).1,.inl ⟨i,r,hr,h⟩⟩
    · exact ⟨by omega,.inr (by omega)⟩
  · have h0:=hB j r' hj
    by_cases e:j=i
    · subst e
      rw [hr] at hj
      injection hj with hj
      subst hj
      exact hk _ _ _ _ (by omega) h0
    · refine h0.kept hg ?_
      cases ob:(slV r').ownBlock with
      | none=>exact .inl rfl
      | some k =>
        refine .inr fun e1=>?_
        have hb:=(S.blk hj ob).2
        rcases hC.2 k e1.symm with h|h
        · exact e (S.apart j i r' r k hj hr ob h)
        · omega
  · obtain ⟨a',c',g1,g2,g3⟩:=hG j r' hji hj
    refine ⟨a',c',g1,g2.kept hg ?_,g3⟩
    cases ob:(Value.slice a' (r'.2.1+40) c').ownBlock with
    | none=>exact .inl rfl
    | some k =>
      refine .inr fun e1=>?_
      obtain ⟨p1,p2⟩:=g3 k ob
      rcases hC.2 k e1.symm with h|h
      · have hb:=(S.blk hr h).2
        rcases p1 with p1|p1
        · have:=S.apart j i r' r k hj hr p1 h
          omega
        · omega
      · omega
  · refine hg.block _ (by omega) (fun e1=>?_)
    rcases hC.2 _ e1.symm with h|h
    · have:=(S.blk hr h).2
      omega
    · omega
theorem CurB.start {N:Nat} {R:List SlT} {w:World} {i Z:Nat} {r:SlT} (hB:RowsB N R w) (hr:R[i]?=some r):CurB N r i 0 Z r.1 r.2.2 w:=⟨hB i r hr,fun _ hk=>.inl hk⟩
theorem GrB.next {N:Nat} {R:List SlT} {W w:World} {i Z Z':Nat} {G:List Value} {r:SlT} {a:Option Addr} {c:Nat} (hG:GrB N R W i Z G w) (hr:R[i]?=some r) (hC:CurB N r i 40 Z a c w) (hZ:W.heap.size<Z) (hZ1:Z≤w.heap.size) (hZ2:w.heap.size≤Z') (hi:i<G.length):GrB N R W (i+1) Z' (G.set i (.slice a (r.2.1+40) c)) w:=fun j r' hji hj=>by
  by_cases e:j=i
  · subst e
    rw [hr] at hj
    injection hj with hj
    subst hj
    refine ⟨a,c,by rw [List.getElem?_set_self hi],hC.1,fun k hk=>⟨?_,Nat.lt_of_lt_of_le (hC.1.lt k hk).2 hZ2⟩⟩
    rcases hC.2 k hk with h|h
    · exact .inl h
    · exact .inr (by omega)
  · obtain ⟨a',c',g1,g2,g3⟩:=hG j r' (by omega) hj
    exact ⟨a',c',by rw [List.getElem?_set_ne (by omega)];exact g1,g2,fun k hk=>⟨(g3 k hk).1,by have:=(g3 k hk).2;omega⟩⟩
theorem RowsB.kept {N:Nat} {R:List SlT} {w w':World} {k0:Nat} (h:RowsB N R w) (hg:w.grownBy w' (some k0)) (hr:∀ (j:Nat) (r:SlT),R[j]?=some r→(slV r).ownBlock≠some k0):RowsB N R w':=fun j r hj=>by
  refine (h j r hj).kept hg ?_
  cases ob:(slV r).ownBlock with
  | none=>exact .inl rfl
  | some k=>exact .inr fun e=>hr j r hj (by rw [ob,e])
theorem GrB.kept {N:Nat} {R:List SlT} {W w w':World} {i Z k0:Nat} {G:List Value} (h:GrB N R W i Z G w) (hg:w.grownBy w' (some k0)) (h0:k0=W.heap.size) (hr:∀ (j:Nat) (r:SlT),R[j]?=some r→(slV r).ownBlock≠some k0):GrB N R W i Z G w':=fun j r hji hj=>by
  obtain ⟨a',c',g1,g2,g3⟩:=h j r hji hj
  refine ⟨a',c',g1,g2.kept hg ?_,g3⟩
  cases ob:(Value.slice a' (r.2.1+40) c').ownBlock with
  | none=>exact .inl rfl
  | some k =>
    refine .inr fun e=>?_
    injection e with e
    subst e
    rcases (g3 k ob).1 with h1|h1
    · exact hr j r hj h1
    · omega
theorem Tryz.hinfoIn2:(Tryz.prog.info? 3).map (fun i=>(i.zero,i.size,i.bytes))=some (some (.int .i64 0),1,8):=by kernel_rfl
theorem Tryz.hinfoSl:(Tryz.prog.info? 37).map (fun i=>(i.zero,i.size,i.bytes))=some (some (.slice none 0 0),1,24):=by kernel_rfl
set_option maxHeartbeats 8000000 in
theorem apart_c (N:Nat) (R:List SlT) (W:World) (gl cl:Nat) (S:NaS N R W) (hl:W.heap[gl]?=some (.cells (R.map slV).toArray 37 (0,0))) (hM:R.length≤100) (hn:∀ (j:Nat) (r:SlT),R[j]?=some r→r.2.1≤1000000):Calls Tryz.prog 28 #[.slice (some ⟨gl,0,none⟩) R.length cl] W fun e w'=>e=.returned (.bool true)∧KpR N R W w':=by
  obtain ⟨M,hMe⟩:∃ M,R.length=M:=⟨_,rfl⟩
  have HM:Hid (R.length=M):=hMe
  rw [hMe] at hM ⊢
  clear hMe
  have SS:Hid (NaS N R W):=S
  have glL:gl<W.heap.size:=(Array.getElem?_eq_some_iff.1 hl).1
  have GLn:∀ (j:Nat) (r:SlT),R[j]?=some r→(slV r).ownBlock≠some gl:=fun j r hj e=>by
    obtain ⟨xs,h⟩:=S.own j r hj
    rcases h.2 with ⟨e1,_⟩|⟨g,cap,cur,e1,_,h3,_⟩
    · rw [e1] at e;cases e
    · rw [e1] at e
      injection e with e
      simp only at e
      subst e
      rw [hl] at h3
      injection h3 with h3
      injection h3 with _ h3
      exact absurd h3 (by decide)
  have CE:Hid (∀ w,KpR N R W w→∀ (j:Nat) (a:Option Addr) (n c:Nat),R[j]?=some (a,n,c)→w.cell? ⟨gl,j,none⟩=some (.slice a n c)):=fun w h j a n c hj=>by
    rw [cell_of_row w gl j _ _ _ ((h.2 gl glL GLn).trans hl)]
    simp [hj,slV]
  have HN:Hid (∀ (j:Nat) (r:SlT),R[j]?=some r→r.2.1≤1000000):=hn
  clear S glL GLn hl hn
  obtain ⟨i0,hi0,hz0,hz1,hz2⟩:=info_parts Tryz.hinfoIn2
  obtain ⟨iM,hiM,hzM,hsM,hbM⟩:=info_parts Tryz.hinfoSl
  obtain ⟨G0,hG0,hGl⟩:∃ G0:List Value,madeCells (Value.slice none 0 0).cells (M * 1)=G0.toArray∧G0.length=M:=⟨(madeCells (Value.slice none 0 0).cells (M * 1)).toList,by simp,by rw [Array.length_toList,size_madeCells];omega⟩
  have hmk:∀ w:World,(Instr.makeSlice 66 (.int .i64 (M:Int)) (.int .i64 (M:Int))).run Tryz.prog w=.ok (.slice (some ⟨w.heap.size,0,none⟩) M M) (w.alloc (.cells G0.toArray 37)):=fun w=>by
    have:=run_make w (P:=Tryz.prog) 66 37 iM _ Tryz.underlying66 hiM hzM .i64 .i64 (M:Int) (M:Int) (by omega) (Int.le_refl _) (by rw [hbM];omega) (by omega)
    rw [hsM,Int.toNat_natCast,hG0] at this
    exact this
  have A0:Hid (KpR N R W (W.alloc (.cells G0.toArray 37))∧RowsA N R 0 0 (W.alloc (.cells G0.toArray 37))∧(W.alloc (.cells G0.toArray 37)).heap[W.heap.size]?=some (.cells G0.toArray 37 (0,0))) :=
    ⟨(KpR.refl N R W).alloc SS.out.base _,(RowsA.start SS.out).kept (World.grownBy_alloc W _ none) (fun k e=>by cases e),halloc1 _ _⟩
  go_enter Tryz.func28,Tryz.ntmps28
  go_wp2
  go_loopw [4] (fun iv wr=>∃ i:Nat,iv=.int .i64 i∧i≤M∧Hid (KpR N R W wr∧RowsA N R i 0 wr∧wr.heap[W.heap.size]?=some (.cells G0.toArray 37 (0,0)))) (fun iv _=>M - (intOf iv).toNat)
  case atStart=>exact ⟨0,rfl,Nat.zero_le _,A0.out⟩
  case round =>
    obtain ⟨i,rfl,hi,hI⟩:=hrel
    clear A0 hmk
    by_cases hlt:i<M
    · have hiI:(i:Int)<(M:Int):=by omega
      obtain ⟨⟨a,n,c⟩,hr⟩:∃ r,R[i]?=some r:=⟨_,List.getElem?_eq_getElem (by rw [HM.out];exact hlt)⟩
      have hn:n≤1000000:=HN.out i _ hr
      have HR:Hid (R[i]?=some (a,n,c)):=hr
      clear hr
      go_wp2
      go_loopw [5] (fun jv wq=>∃ q:Nat,jv=.int .i64 q∧q≤n∧Hid (KpR N R W wq∧RowsA N R i q wq∧wq.heap[W.heap.size]?=some (.cells G0.toArray 37 (0,0)))) (fun jv _=>n - (intOf jv).toNat)
      case atStart=>exact ⟨0,rfl,Nat.zero_le _,hI.out⟩
      case round =>
        obtain ⟨q,rfl,hq,hQ⟩:=hrel
        have x0:=CE.out _ hQ.out.1 i a n c HR.out
        by_cases hq2:q<n
        · have hqI:(q:Int)<(n:Int):=by omega
          obtain ⟨xs,h1,_⟩:=hQ.out.2.1 i _ HR.out
          obtain ⟨g,cp,hf⟩:=Go.Joins.ownsRow_form h1 (by show 0<n;omega)
          injection hf with e1 _ e2
          simp only at e1 e2
          subst e1 e2
          have hlen:xs.length=n * 1:=h1.1
          have y0:=(World.ownsRow.cellAt h1 q (by show q<n * 1;omega)).trans (List.getElem?_eq_getElem (by omega))
          generalize xs[q]=yv at y0
          have yf:=World.ownsRow.frozenAt h1 q
          have hwr:IntKind.i64.wrap (-1 - (i:Int))=-1 - (i:Int):=by rw [IntKind.wrap_i64];omega
          have NX:Hid (KpR N R W (wr.setCell ⟨g,q,none⟩ (.int .i64 (-1 - (i:Int))))∧RowsA N R i (q+1) (wr.setCell ⟨g,q,none⟩ (.int .i64 (-1 - (i:Int))))∧(wr.setCell ⟨g,q,none⟩ (.int .i64 (-1 - (i:Int)))).heap[W.heap.size]?=some (.cells G0.toArray 37 (0,0))):=by
            have st:=RowsA.store SS.out hQ.out.2.1 HR.out hq2
            have bl:=SS.out.blk HR.out (k:=g) rfl
            refine ⟨hQ.out.1.grown SS.out.base st.2 (fun k e=>?_),st.1,?_⟩
            · injection e with e
              subst e
              exact ⟨bl.1,.inl ⟨i,_,HR.out,rfl⟩⟩
            · exact (heap_setCell_other _ _ _ _ (by simp;omega)).trans hQ.out.2.2
          clear h1 hlen
          go_wp2
          exact ⟨⟨q+1,by simp,by omega,NX.out⟩,by simp [intOf];omega⟩
        · have e:q=n:=by omega
          subst e
          go_wp2
          exact ⟨⟨i+1,by simp,by omega,hQ.out.1,RowsA.next (r:=(a,q,c)) hQ.out.2.1 HR.out,hQ.out.2.2⟩,by simp [intOf];omega⟩
    · have e:i=M:=by omega
      subst e
      have hI2:=hI.out
      have B0:Hid (KpR N R W wr∧RowsB N R wr∧∃ G:List Value,G.length=i∧wr.heap[W.heap.size]?=some (.cells G.toArray 37 (0,0))∧GrB N R W 0 wr.heap.size G wr):=⟨hI2.1,by have:=hI2.2.1;rw [← HM.out] at this;exact this.full,G0,hGl,hI2.2.2,fun j r hj=>absurd hj (by omega)⟩
      clear hI hI2
      go_wp2
      go_loopw [6] (fun iv wp=>∃ m:Nat,iv=.int .i64 m∧m≤i∧Hid (KpR N R W wp∧RowsB N R wp∧∃ G:List Value,G.length=i∧wp.heap[W.heap.size]?=some (.cells G.toArray 37 (0,0))∧GrB N R W m wp.heap.size G wp)) (fun iv _=>i - (intOf iv).toNat)
      case atStart=>exact ⟨0,rfl,Nat.zero_le _,B0.out⟩
      case round =>
        obtain ⟨m,rfl,hm,hP⟩:=hrel
        by_cases hlt2:m<i
        · have hmI:(m:Int)<(i:Int):=by omega
          obtain ⟨⟨a,n,c⟩,hr⟩:∃ r,R[m]?=some r:=⟨_,List.getElem?_eq_getElem (by rw [HM.out];exact hlt2)⟩
          have hn:n≤1000000:=HN.out m _ hr
          have HR:Hid (R[m]?=some (a,n,c)):=hr
          clear hr B0
          obtain ⟨hK,hB,G,hGL,hGh,hGB⟩:=hP.out
          have x0:=CE.out _ hK m a n c HR.out
          obtain ⟨Z,hZ⟩:∃ Z,wr.heap.size=Z:=⟨_,rfl⟩
          have hZ1:W.heap.size<Z:=by rw [← hZ];exact (Array.getElem?_eq_some_iff.1 hGh).1
          rw [hZ] at hGB
          have C0:Hid (KpR N R W wr∧RowsB N R wr∧GrB N R W m Z G wr∧CurB N (a,n,c) m 0 Z a c wr∧wr.heap[W.heap.size]?=some (.cells G.toArray 37 (0,0))∧Z≤wr.heap.size):=⟨hK,hB,hGB,CurB.start hB HR.out,hGh,by omega⟩
          clear hP hK hB hGh hGB hZ
          go_wp2
          go_loopw [7,8] (fun gv kv wq=>∃ (q:Nat) (a':Option Addr) (c':Nat),kv=.int .i64 q∧gv=.slice a' (n+q) c'∧q≤40∧Hid (KpR N R W wq∧RowsB N R wq∧GrB N R W m Z G wq∧CurB N (a,n,c) m q Z a' c' wq∧wq.heap[W.heap.size]?=some (.cells G.toArray 37 (0,0))∧Z≤wq.heap.size)) (fun _ kv _=>40 - (intOf kv).toNat)
          case atStart=>exact ⟨0,a,c,rfl,rfl,Nat.zero_le _,C0.out⟩
          case round =>
            obtain ⟨q,a',c',rfl,rfl,hq,hQ⟩:=hrel
            clear C0 x0
            by_cases hq2:q<40
            · have hqI:(q:Int)<40:=by omega
              have hwr:IntKind.i64.wrap (-1 - (m:Int))=-1 - (m:Int):=by rw [IntKind.wrap_i64];omega
              go_wp2_with (at_builtin;refine wpList_append_kp rfl _ _ 37 rfl N 3 i0 (.int .i64 0) 1 8 Tryz.underlying37 hi0 hz0 hz1 hz2 rfl (by decide) (.slice a' (n+q) c') (n+q) (List.replicate (n+q) (nmv m)) rfl (hQ.out.2.2.2.1.1.alloc _) ⟨wr.heap.size,0,none⟩ 1 1 [nmv m] rfl rfl ?c1 ?c2 ?c3 ?c4 ?c5 ?_)
              case c1=>exact World.news_of_block (cs:=#[nmv m]) (halloc1 _ _)
              case c2=>intro u hu;simp at hu;rw [hu];rfl
              case c3=>unfold maxLen;omega
              case c4=>omega
              case c5=>have h1:=SS.out.base;have h2:=hQ.out.1.1.size;simp;omega
              intro v' w4 hown hgrow hblk hkp
              obtain ⟨a4,c4,rfl⟩:=ownv hown
              obtain ⟨hK,hB,hG,hC,hH,hZw⟩:=hQ.out
              have NX:Hid (KpR N R W w4∧RowsB N R w4∧GrB N R W m Z G w4∧CurB N (a,n,c) m (q+1) Z a4 c4 w4∧w4.heap[W.heap.size]?=some (.cells G.toArray 37 (0,0))∧Z≤w4.heap.size):=by
                have hlt:W.heap.size<wr.heap.size:=by omega
                have ap:=appB (a:=a') (c:=c') SS.out (hK.alloc SS.out.base _) (fun j r hj=>(hB j r hj).alloc _) (fun j r h1 h2=>by obtain ⟨u1,u2,u3,u4,u5⟩:=hG j r h1 h2;exact ⟨u1,u2,u3,u4.alloc _,u5⟩) HR.out ⟨hC.1.alloc _,hC.2⟩ hZ1 (by simp;omega) hgrow hkp
                refine ⟨ap.1,ap.2.1,ap.2.2.1,⟨?_,fun k hk=>?_⟩,ap.2.2.2.trans ((Below.heap_alloc _ _ _ hlt).trans hH),?_⟩
                · have e:=List.replicate_succ' (n:=n+q) (a:=nmv m)
                  show w4.ownsRow N 3 1 (.slice a4 (n+(q+1)) c4) (n+(q+1)) (List.replicate (n+(q+1)) (nmv m))
                  rw [← Nat.add_assoc,e]
                  exact hown
                · rcases hblk k hk with h|h
                  · exact hC.2 k h
                  · exact .inr (by first|omega|(simp at h;omega))
                · have:=hgrow.size
                  simp at this
                  omega
              clear hown hgrow hblk hkp hK hB hG hC hH hZw hQ
              go_wp2
              exact ⟨⟨q+1,a4,c4,by simp,rfl,by omega,NX.out⟩,by simp [intOf];omega⟩
            · have e:q=40:=by omega
              subst e
              obtain ⟨hK,hB,hG,hC,hH,hZw⟩:=hQ.out
              obtain ⟨yv,hyv⟩:∃ yv,G[m]?=some yv:=⟨_,List.getElem?_eq_getElem (by omega)⟩
              have y0:wr.cell? ⟨W.heap.size,m,none⟩=some yv:=(cell_of_row wr W.heap.size m _ _ _ hH).trans (by rw [List.getElem?_toArray];exact hyv)
              clear hyv
              have yf:=frozen_of_row wr W.heap.size m _ _ hH
              have NX:Hid (KpR N R W (wr.setCell ⟨W.heap.size,m,none⟩ (.slice a' (n+40) c'))∧RowsB N R (wr.setCell ⟨W.heap.size,m,none⟩ (.slice a' (n+40) c'))∧∃ G:List Value,G.length=i∧(wr.setCell ⟨W.heap.size,m,none⟩ (.slice a' (n+40) c')).heap[W.heap.size]?=some (.cells G.toArray 37 (0,0))∧GrB N R W (m+1) (wr.setCell ⟨W.heap.size,m,none⟩ (.slice a' (n+40) c')).heap.size G (wr.setCell ⟨W.heap.size,m,none⟩ (.slice a' (n+40) c'))):=by
                have gs:=grown_set wr W.heap.size m (.slice a' (n+40) c')
                have ne:∀ (j:Nat) (r:SlT),R[j]?=some r→(slV r).ownBlock≠some W.heap.size:=fun j r hj e=>by have:=(SS.out.blk hj e).2;omega
                refine ⟨hK.grown SS.out.base gs (fun k e=>?_),hB.kept gs ne,G.set m (.slice a' (n+40) c'),by rw [List.length_set];exact hGL,?_,?_⟩
                · injection e with e
                  subst e
                  exact ⟨SS.out.base,.inr (Nat.le_refl _)⟩
                · rw [heap_setCell_same _ _ _ _ _ _ hH]
                  simp
                · exact (GrB.next (r:=(a,n,c)) hG HR.out hC hZ1 hZw (by simp) (by omega)).kept gs rfl ne
              clear hK hB hG hC hH hZw hQ
              go_wp2
              exact ⟨⟨m+1,by simp,by omega,NX.out⟩,by simp [intOf];omega⟩
        · have e:m=i:=by omega
          subst e
          obtain ⟨hK,hB,G,hGL,hGh,hGB⟩:=hP.out
          clear hP B0
          have D0:Hid (KpR N R W wr):=hK
          have GC:Hid (∀ (j:Nat) (a:Option Addr) (n c:Nat),R[j]?=some (a,n,c)→wr.cell? ⟨gl,j,none⟩=some (.slice a n c)):=CE.out _ hK
          have GG:Hid (∀ (j:Nat) (a:Option Addr) (n c:Nat),R[j]?=some (a,n,c)→∃ a' c',wr.cell? ⟨W.heap.size,j,none⟩=some (.slice a' (n+40) c')∧wr.ownsRow N 3 1 (.slice a' (n+40) c') (n+40) (List.replicate (n+40) (nmv j))):=fun j a n c hj=>by
            obtain ⟨a',c',u1,u2,_⟩:=hGB j _ (by rw [← HM.out];exact (List.getElem?_eq_some_iff.1 hj).1) hj
            exact ⟨a',c',by rw [cell_of_row wr W.heap.size j _ _ _ hGh,List.getElem?_toArray];exact u1,u2⟩
          have RB:Hid (RowsB N R wr):=hB
          clear hK hB hGL hGh hGB CE
          obtain ⟨wz,hwz⟩:∃ wz,wr=wz:=⟨_,rfl⟩
          rw [hwz] at D0 GC GG RB ⊢
          clear hwz
          go_wp2
          go_loopw [9] (fun iv wr=>∃ i:Nat,iv=.int .i64 i∧i≤m∧wr=wz) (fun iv _=>m - (intOf iv).toNat)
          case atStart=>exact ⟨0,rfl,Nat.zero_le _,rfl⟩
          case round =>
            obtain ⟨i,rfl,hi3,hwz⟩:=hrel
            rw [hwz]
            clear hwz
            by_cases hlt3:i<m
            · have hiI:(i:Int)<(m:Int):=by omega
              obtain ⟨⟨a,n,c⟩,hr⟩:∃ r,R[i]?=some r:=⟨_,List.getElem?_eq_getElem (by rw [HM.out];exact hlt3)⟩
              have hn:n≤1000000:=HN.out i _ hr
              have x0:=GC.out i a n c hr
              obtain ⟨a',c',x1,hO⟩:=GG.out i a n c hr
              have hL:=RB.out i _ hr
              obtain ⟨g',cp',hf⟩:=Go.Joins.ownsRow_form hO (by omega)
              injection hf with e1 _ e2
              subst e1 e2
              have hwr:IntKind.i64.wrap (-1 - (i:Int))=-1 - (i:Int):=by rw [IntKind.wrap_i64];omega
              clear hr
              go_wp2
              go_loopw [10] (fun jv wr=>∃ q:Nat,jv=.int .i64 q∧q≤n+40∧wr=wz) (fun jv _=>n+40 - (intOf jv).toNat)
              case atStart=>exact ⟨0,rfl,Nat.zero_le _,rfl⟩
              case round =>
                obtain ⟨q,rfl,hq,hwz⟩:=hrel
                rw [hwz]
                clear hwz
                by_cases hq2:q<n+40
                · have hqI:(q:Int)<((n+40:Nat):Int):=by omega
                  have y0:wz.cell? ⟨g',q,none⟩=some (.int .i64 (-1 - (i:Int))):=(World.ownsRow.cellAt hO q (by omega)).trans (by rw [List.getElem?_replicate,if_pos hq2];rfl)
                  by_cases hq3:q<n
                  · have hq3I:(q:Int)<(n:Int):=by omega
                    obtain ⟨g,cp,hf⟩:=Go.Joins.ownsRow_form hL (by show 0<n;omega)
                    injection hf with e1 _ e2
                    simp only at e1 e2
                    subst e1 e2
                    have z0:wz.cell? ⟨g,q,none⟩=some (.int .i64 (-1 - (i:Int))):=(World.ownsRow.cellAt hL q (by show q<n * 1;omega)).trans (by rw [List.getElem?_replicate,if_pos hq3];rfl)
                    clear hL hO
                    go_wp2
                    exact ⟨⟨q+1,by simp,by omega,trivial⟩,by simp [intOf];omega⟩
                  · have hq3I:¬ (q:Int)<(n:Int):=by omega
                    clear hL hO
                    go_wp2
                    exact ⟨⟨q+1,by simp,by omega,trivial⟩,by simp [intOf];omega⟩
                · have e:q=n+40:=by omega
                  subst e
                  go_wp2
                  exact ⟨⟨i+1,by simp,by omega,trivial⟩,by simp [intOf];omega⟩
            · have e:i=m:=by omega
              subst e
              go_wp2
              exact bodyPost_ret (results_tmp rfl _ _ _) rfl ⟨rfl,D0.out⟩
theorem own_blk {w w':World} {N e s n:Nat} {v:Value} {xs:List Value} (h:w.ownsRow N e s v n xs) (hk:∀ k,v.ownBlock=some k→w'.heap[k]?=w.heap[k]?):w'.ownsRow N e s v n xs:=by
  refine ⟨h.1,?_⟩
  rcases h.2 with h1|⟨g,cap,cur,h1,h2,h3,h4⟩
  · exact .inl h1
  · exact .inr ⟨g,cap,cur,h1,h2,(hk g (by rw [h1];rfl)).trans h3,h4⟩
theorem DspA.lies {N:Nat} {P Q C:List Nat} {v1 v2 v3:Value} {w:World} (h:DspA N P Q C v1 v2 v3 w):∀ k,(v1.ownBlock=some k∨v2.ownBlock=some k∨v3.ownBlock=some k)→N≤k∧k<w.heap.size:=by
  obtain ⟨r1,r2,r3⟩:=h.rows
  rintro k (hk|hk|hk)
  · exact r1.lt k hk
  · exact r2.lt k hk
  · exact r3.lt k hk
theorem apart6 (N M T:Nat) (P Q C P2 Q2 C2:List Nat) (a1 a2 a3 b1 b2 b3:Option Addr) (c1 c2 c3 d1 d2 d3:Nat) (gl cl:Nat) (W:World)
    (hA:DspA N P Q C (.slice a1 P.length c1) (.slice a2 Q.length c2) (.slice a3 C.length c3) W) (hB:DspA M P2 Q2 C2 (.slice b1 P2.length d1) (.slice b2 Q2.length d2) (.slice b3 C2.length d3) W)
    (hM:∀ k,((Value.slice a1 P.length c1).ownBlock=some k∨(Value.slice a2 Q.length c2).ownBlock=some k∨(Value.slice a3 C.length c3).ownBlock=some k)→k<M)
    (hT:∀ k,((Value.slice b1 P2.length d1).ownBlock=some k∨(Value.slice b2 Q2.length d2).ownBlock=some k∨(Value.slice b3 C2.length d3).ownBlock=some k)→k<T)
    (hNM:N≤M) (hMT:M≤T) (hN:N≤W.heap.size) (hl:W.heap[gl]?=some (.cells #[.slice a1 P.length c1,.slice a2 Q.length c2,.slice a3 C.length c3,.slice b1 P2.length d1,.slice b2 Q2.length d2,.slice b3 C2.length d3] 37 (0,0)))
    (z1:P.length≤1000000) (z2:Q.length≤1000000) (z3:C.length≤1000000) (z4:P2.length≤1000000) (z5:Q2.length≤1000000) (z6:C2.length≤1000000) :
    Calls Tryz.prog 28 #[.slice (some ⟨gl,0,none⟩) 6 cl] W fun e w'=>e=.returned (.bool true)∧Below N W w'∧∀ k,T≤k→k<W.heap.size→w'.heap[k]?=W.heap[k]?:=by
  obtain ⟨α,β,x1,x2,x3,x4,x5,x6,x7⟩:=hA
  obtain ⟨γ,δ,y1,y2,y3,y4,y5,y6,y7⟩:=hB
  let R:List SlT:=[(a1,P.length,c1),(a2,Q.length,c2),(a3,C.length,c3),(b1,P2.length,d1),(b2,Q2.length,d2),(b3,C2.length,d3)]
  have six:∀ (j:Nat) (r:SlT),R[j]?=some r→(j=0∧r=(a1,P.length,c1))∨(j=1∧r=(a2,Q.length,c2))∨(j=2∧r=(a3,C.length,c3))∨(j=3∧r=(b1,P2.length,d1))∨(j=4∧r=(b2,Q2.length,d2))∨(j=5∧r=(b3,C2.length,d3)):=fun j r hj=>by
    have hlt:j<6:=(List.getElem?_eq_some_iff.1 hj).1
    have:j=0∨j=1∨j=2∨j=3∨j=4∨j=5:=by omega
    rcases this with rfl|rfl|rfl|rfl|rfl|rfl <;> (simp [R] at hj;subst hj;simp)
  have lie:∀ (j:Nat) (r:SlT) (k:Nat),R[j]?=some r→(slV r).ownBlock=some k→k<T∧((j=0∧α≤k∧k<β∧k<M)∨(j=1∧β≤k∧k<M)∨(j=2∧N≤k∧k<α∧k<M)∨(j=3∧γ≤k∧k<δ)∨(j=4∧δ≤k)∨(j=5∧M≤k∧k<γ)):=fun j r k hj hk=>by
    rcases six j r hj with ⟨rfl,rfl⟩|⟨rfl,rfl⟩|⟨rfl,rfl⟩|⟨rfl,rfl⟩|⟨rfl,rfl⟩|⟨rfl,rfl⟩
    · have h1:=(x5.lt k hk).1;have h2:=x6 k hk;have h3:=hM k (.inl hk);omega
    · have h1:=(x7.lt k hk).1;have h3:=hM k (.inr (.inl hk));omega
    · have h1:=(x3.lt k hk).1;have h2:=x4 k hk;have h3:=hM k (.inr (.inr hk));omega
    · have h1:=(y5.lt k hk).1;have h2:=y6 k hk;have h3:=hT k (.inl hk);omega
    · have h1:=(y7.lt k hk).1;have h3:=hT k (.inr (.inl hk));omega
    · have h1:=(y3.lt k hk).1;have h2:=y4 k hk;have h3:=hT k (.inr (.inr hk));omega
  have S:NaS N R W:=by
    refine ⟨fun j r hj=>?_,fun j j' r r' k h1 h2 e1 e2=>?_,hN⟩
    · rcases six j r hj with ⟨rfl,rfl⟩|⟨rfl,rfl⟩|⟨rfl,rfl⟩|⟨rfl,rfl⟩|⟨rfl,rfl⟩|⟨rfl,rfl⟩
      · exact ⟨_,Go.Joins.ownsRow_le x5 (by omega)⟩
      · exact ⟨_,Go.Joins.ownsRow_le x7 (by omega)⟩
      · exact ⟨_,Go.Joins.ownsRow_le x3 (by omega)⟩
      · exact ⟨_,Go.Joins.ownsRow_le y5 (by omega)⟩
      · exact ⟨_,Go.Joins.ownsRow_le y7 (by omega)⟩
      · exact ⟨_,Go.Joins.ownsRow_le y3 (by omega)⟩
    · have p1:=lie j r k h1 e1
      have p2:=lie j' r' k h2 e2
      omega
  refine (apart_c N R W gl cl S hl (by simp [R]) (fun j r hj=>?_)).mono ?_
  · rcases six j r hj with ⟨rfl,rfl⟩|⟨rfl,rfl⟩|⟨rfl,rfl⟩|⟨rfl,rfl⟩|⟨rfl,rfl⟩|⟨rfl,rfl⟩ <;> assumption
  · rintro e w' ⟨rfl,hk⟩
    refine ⟨rfl,hk.1,fun k h1 h2=>hk.2 k h2 (fun j r hj e=>?_)⟩
    have:=(lie j r k hj e).1
    omega
theorem kp1 {V w:World} {N n:Nat} {t:TypeId} {a0:Value} (hb:Below N V w) (hn:n<N) (h:V.heap[n]?=some (.cells #[a0] t (0,0))):Hid (w.heap[n]?=some (.cells #[a0] t (0,0)))∧w.cell? ⟨n,0,none⟩=some a0∧(∀ k,w.frozen? ⟨n,k,none⟩=false)∧n<w.heap.size∧¬ n=w.heap.size:=by
  have hd:=(hb.block n hn).trans h
  obtain ⟨c0,f,l⟩:=rw1 hd
  exact ⟨hd,c0,f,l,by omega⟩
theorem callDof (vs:Array Value) (w:World):(callFunc 99 vs).run Tryz.prog w=.ok (.enter 99 vs) w:=by simp [go_sem]
theorem callSta (vs:Array Value) (w:World):(callFunc 146 vs).run Tryz.prog w=.ok (.enter 146 vs) w:=by simp [go_sem]
theorem callSse (vs:Array Value) (w:World):(callFunc 147 vs).run Tryz.prog w=.ok (.enter 147 vs) w:=by simp [go_sem]
set_option maxHeartbeats 4000000 in
theorem icb_1 (V W:World) (b rb m s t:Nat) (hb:Below V.heap.size V W) (hr:V.heap.size≤rb) (hrb:W.heap[rb]?=some (.cells #[.int .i64 (m:Int)] 3 (0,0))) (hm:m≤1000000) (n:Nat) (P Q C:List Nat) (hn:n≤1000000) (hP:P.length≤1000000) (hQ:Q.length≤1000000) (HIF:Hid (∀ w,Below V.heap.size V w→Calls Tryz.prog 113 #[.pointer (some ⟨b,0,none⟩),.int .i64 (t:Int)] w fun e w'=>(e=.returned (.bool false))∧Below w.heap.size w w')) (HDP:Hid (∀ w,Below V.heap.size V w→Calls Tryz.prog 103 #[.pointer (some ⟨b,0,none⟩),.int .i64 (t:Int)] w fun e w'=>(e=.returned (.tuple #[.int .i64 (n:Int),.int .i64 0]))∧Below w.heap.size w w')) (HDO:Hid (∀ w,Below V.heap.size V w→Calls Tryz.prog 99 #[.pointer (some ⟨b,0,none⟩),.int .i64 (s:Int)] w fun e w'=>(∃ v1 v2 v3,e=.returned (.agg #[v1,v2,v3])∧DspA w.heap.size P Q C v1 v2 v3 w')∧Below w.heap.size w w')) :
    Calls Tryz.prog 100 #[.pointer (some ⟨b,0,none⟩),.agg #[.int .i64 (s:Int),.int .i64 (t:Int)],.pointer (some ⟨rb,0,none⟩)] W fun e w'=>e=.returned (.bool (atB (P++Q) n t))∧w'.heap[rb]?=some (.cells #[.int .i64 ((m+1:Nat):Int)] 3 (0,0))∧Below V.heap.size V w':=by
  have HB:Hid (Below V.heap.size V W):=hb
  have HR:Hid (W.heap[rb]?=some (.cells #[.int .i64 (m:Int)] 3 (0,0))):=hrb
  obtain ⟨r0,rf,rl⟩:=rw1 hrb
  have hW0:=hb.size
  clear hb hrb
  go_enter Tryz.func100,Tryz.ntmps100
  go_upto_region 3 with (first
    | (go_at_call 113;refine (HIF.out _ (HB.out.alloc HB.out.size _)).mono ?_;rintro e w1 ⟨rfl,hb⟩;have eed:=kp2 (n:=W.heap.size) hb (by first|omega|(simp;try omega)) (halloc1 _ _);(try clear eeB ee0 ee1 eef eeL eeN);obtain ⟨eeB,ee0,ee1,eef,eeL,eeN⟩:=eed;have rrd:=kp1 (n:=rb) hb (by first|omega|(simp;try omega)) (hkeep HR.out);(try clear rrB rr0 rrf rrL rrN);obtain ⟨rrB,rr0,rrf,rrL,rrN⟩:=rrd;have B1:Hid (Below V.heap.size V w1):=bstep (HB.out.alloc HB.out.size _) hb;clear hb HIF)
    | (go_at_call 103;refine (HDP.out _ B1.out).mono ?_;rintro e w2 ⟨rfl,hb⟩;have eed:=kp2 (n:=W.heap.size) hb (by first|omega|(simp;try omega)) (eeB.out);(try clear eeB ee0 ee1 eef eeL eeN);obtain ⟨eeB,ee0,ee1,eef,eeL,eeN⟩:=eed;have rrd:=kp1 (n:=rb) hb (by first|omega|(simp;try omega)) (rrB.out);(try clear rrB rr0 rrf rrL rrN);obtain ⟨rrB,rr0,rrf,rrL,rrN⟩:=rrd;have B2:Hid (Below V.heap.size V w2):=bstep B1.out hb;clear hb HDP))
  go_region_law (first
    | (refine stp2 rfl 99 callDof (.tmp 22) (.tmp 24) 28 3 rfl (.pointer (some ⟨b,0,none⟩)) (.int .i64 (s:Int)) (by simp [Act.eval]) (by simp [Act.eval]) (HDO.out _ B2.out.drew) ?_;rintro e w3 ⟨⟨v1,v2,v3,rfl,ho⟩,hb⟩;refine ⟨_,rfl,?_⟩;obtain ⟨a1,c1,rfl⟩:=ownv ho.rows.1;obtain ⟨a2,c2,rfl⟩:=ownv ho.rows.2.1;obtain ⟨a3,c3,rfl⟩:=ownv ho.rows.2.2;have O3:Hid (DspA w2.heap.size P Q C (.slice a1 P.length c1) (.slice a2 Q.length c2) (.slice a3 C.length c3) w3):=ho;have RL:Hid (rb<w2.heap.size):=rrL;have hb2:Below w2.heap.size w2 w3:=(Below.refl _ _).drew.trans hb;have eed:=kp2 (n:=W.heap.size) hb2 (by first|omega|(simp;try omega)) (eeB.out);(try clear eeB ee0 ee1 eef eeL eeN);obtain ⟨eeB,ee0,ee1,eef,eeL,eeN⟩:=eed;have rrd:=kp1 (n:=rb) hb2 (by first|omega|(simp;try omega)) (rrB.out);(try clear rrB rr0 rrf rrL rrN);obtain ⟨rrB,rr0,rrf,rrL,rrN⟩:=rrd;have B3:Hid (Below V.heap.size V w3):=bstep B2.out hb2;clear hb hb2 ho)
    | (refine stp4 rfl 146 callSta (.tmp 25) (.tmp 26) (.tmp 28) (.tmp 29) 86 3 3 152 rfl (.agg #[.slice a1 P.length c1,.slice a2 Q.length c2,.slice a3 C.length c3]) (.int .i64 (n:Int)) (.int .i64 (t:Int)) (.pointer (some ⟨rb,0,none⟩)) (by simp [Act.eval]) (by simp [Act.eval]) (by simp [Act.eval]) (by simp [Act.eval]) (sta_c V w3 rb _ m n t P Q _ _ a3 C.length c3 B3.out hr rrB.out RL.out O3.out.rows.1 O3.out.rows.2.1 hm hn hP hQ) ?_;rintro e w4 ⟨rfl,hk,hb⟩;refine ⟨_,rfl,?_⟩;have R4:Hid (w4.heap[rb]?=some (.cells #[.int .i64 ((m+1:Nat):Int)] 3 (0,0))):=hk;have B4:Hid (Below V.heap.size V w4):=hb;clear hb hk))
  all_goals go_wp2
  all_goals exact bodyPost_ret (results_tmp rfl _ _ _) rfl ⟨rfl,R4.out,B4.out⟩
set_option maxHeartbeats 4000000 in
theorem icb_2 (V W:World) (b rb m s t:Nat) (hb:Below V.heap.size V W) (hr:V.heap.size≤rb) (hrb:W.heap[rb]?=some (.cells #[.int .i64 (m:Int)] 3 (0,0))) (hm:m≤1000000) (hst:s=t) (HIF:Hid (∀ w,Below V.heap.size V w→Calls Tryz.prog 113 #[.pointer (some ⟨b,0,none⟩),.int .i64 (t:Int)] w fun e w'=>(e=.returned (.bool true))∧Below w.heap.size w w')) :
    Calls Tryz.prog 100 #[.pointer (some ⟨b,0,none⟩),.agg #[.int .i64 (s:Int),.int .i64 (t:Int)],.pointer (some ⟨rb,0,none⟩)] W fun e w'=>e=.returned (.bool true)∧w'.heap[rb]?=some (.cells #[.int .i64 ((m+1:Nat):Int)] 3 (0,0))∧Below V.heap.size V w':=by
  have HB:Hid (Below V.heap.size V W):=hb
  have HR:Hid (W.heap[rb]?=some (.cells #[.int .i64 (m:Int)] 3 (0,0))):=hrb
  obtain ⟨r0,rf,rl⟩:=rw1 hrb
  have hW0:=hb.size
  clear hb hrb
  subst hst
  go_enter Tryz.func100,Tryz.ntmps100
  go_wp2_with (go_at_call 113;refine (HIF.out _ (HB.out.alloc HB.out.size _)).mono ?_;rintro e w1 ⟨rfl,hb⟩;have eed:=kp2 (n:=W.heap.size) hb (by first|omega|(simp;try omega)) (halloc1 _ _);(try clear eeB ee0 ee1 eef eeL eeN);obtain ⟨eeB,ee0,ee1,eef,eeL,eeN⟩:=eed;have rrd:=kp1 (n:=rb) hb (by first|omega|(simp;try omega)) (hkeep HR.out);(try clear rrB rr0 rrf rrL rrN);obtain ⟨rrB,rr0,rrf,rrL,rrN⟩:=rrd;have B1:Hid (Below V.heap.size V w1):=bstep (HB.out.alloc HB.out.size _) hb;clear hb HIF)
  exact bodyPost_ret (results_tmp rfl _ _ _) rfl ⟨rfl,st1 rrB.out _,B1.out.setCell (p:=⟨rb,0,none⟩) hr _⟩
set_option maxHeartbeats 4000000 in
theorem icb_3 (V W:World) (b rb m s t:Nat) (hb:Below V.heap.size V W) (hr:V.heap.size≤rb) (hrb:W.heap[rb]?=some (.cells #[.int .i64 (m:Int)] 3 (0,0))) (hm:m≤1000000) (P Q C:List Nat) (hC:C.length≤1000000) (hst:¬ s=t) (HIF:Hid (∀ w,Below V.heap.size V w→Calls Tryz.prog 113 #[.pointer (some ⟨b,0,none⟩),.int .i64 (t:Int)] w fun e w'=>(e=.returned (.bool true))∧Below w.heap.size w w')) (HDO:Hid (∀ w,Below V.heap.size V w→Calls Tryz.prog 99 #[.pointer (some ⟨b,0,none⟩),.int .i64 (s:Int)] w fun e w'=>(∃ v1 v2 v3,e=.returned (.agg #[v1,v2,v3])∧DspA w.heap.size P Q C v1 v2 v3 w')∧Below w.heap.size w w')) :
    Calls Tryz.prog 100 #[.pointer (some ⟨b,0,none⟩),.agg #[.int .i64 (s:Int),.int .i64 (t:Int)],.pointer (some ⟨rb,0,none⟩)] W fun e w'=>e=.returned (.bool (C.contains t))∧w'.heap[rb]?=some (.cells #[.int .i64 ((m+(lookN C t+1):Nat):Int)] 3 (0,0))∧Below V.heap.size V w':=by
  have HB:Hid (Below V.heap.size V W):=hb
  have HR:Hid (W.heap[rb]?=some (.cells #[.int .i64 (m:Int)] 3 (0,0))):=hrb
  obtain ⟨r0,rf,rl⟩:=rw1 hrb
  have hW0:=hb.size
  clear hb hrb
  obtain ⟨B0,hB0⟩:∃ B0,C.contains t=B0:=⟨_,rfl⟩
  obtain ⟨L0,hL0⟩:∃ L0,lookN C t=L0:=⟨_,rfl⟩
  have HB0:Hid (C.contains t=B0):=hB0
  have HL0:Hid (lookN C t=L0):=hL0
  rw [hB0,hL0]
  clear hB0 hL0
  have hne:((s:Int) == (t:Int))=false:=by rw [← Bool.not_eq_true,beq_iff_eq];omega
  have hne2:¬ (s:Int)=(t:Int):=by omega
  go_enter Tryz.func100,Tryz.ntmps100
  go_upto_region 7 with (first
    | (go_at_call 113;refine (HIF.out _ (HB.out.alloc HB.out.size _)).mono ?_;rintro e w1 ⟨rfl,hb⟩;have eed:=kp2 (n:=W.heap.size) hb (by first|omega|(simp;try omega)) (halloc1 _ _);(try clear eeB ee0 ee1 eef eeL eeN);obtain ⟨eeB,ee0,ee1,eef,eeL,eeN⟩:=eed;have rrd:=kp1 (n:=rb) hb (by first|omega|(simp;try omega)) (hkeep HR.out);(try clear rrB rr0 rrf rrL rrN);obtain ⟨rrB,rr0,rrf,rrL,rrN⟩:=rrd;have B1:Hid (Below V.heap.size V w1):=bstep (HB.out.alloc HB.out.size _) hb;clear hb HIF))
  go_region_law (first
    | (refine stp2 rfl 99 callDof (.tmp 42) (.tmp 44) 28 3 rfl (.pointer (some ⟨b,0,none⟩)) (.int .i64 (s:Int)) (by simp [Act.eval]) (by simp [Act.eval]) (HDO.out _ B1.out.drew) ?_;rintro e w3 ⟨⟨v1,v2,v3,rfl,ho⟩,hb⟩;refine ⟨_,rfl,?_⟩;obtain ⟨a1,c1,rfl⟩:=ownv ho.rows.1;obtain ⟨a2,c2,rfl⟩:=ownv ho.rows.2.1;obtain ⟨a3,c3,rfl⟩:=ownv ho.rows.2.2;have O3:Hid (DspA w1.heap.size P Q C (.slice a1 P.length c1) (.slice a2 Q.length c2) (.slice a3 C.length c3) w3):=ho;have RL:Hid (rb<w1.heap.size):=rrL;have hb2:Below w1.heap.size w1 w3:=(Below.refl _ _).drew.trans hb;have eed:=kp2 (n:=W.heap.size) hb2 (by first|omega|(simp;try omega)) (eeB.out);(try clear eeB ee0 ee1 eef eeL eeN);obtain ⟨eeB,ee0,ee1,eef,eeL,eeN⟩:=eed;have rrd:=kp1 (n:=rb) hb2 (by first|omega|(simp;try omega)) (rrB.out);(try clear rrB rr0 rrf rrL rrN);obtain ⟨rrB,rr0,rrf,rrL,rrN⟩:=rrd;have B3:Hid (Below V.heap.size V w3):=bstep B1.out hb2;clear hb hb2 ho)
    | (refine step_call3 rfl 147 callSse (.tmp 45) (.tmp 47) (.tmp 48) 86 3 152 rfl (.agg #[.slice a1 P.length c1,.slice a2 Q.length c2,.slice a3 C.length c3]) (.int .i64 (t:Int)) (.pointer (some ⟨rb,0,none⟩)) (by simp [Act.eval]) (by simp [Act.eval]) (by simp [Act.eval]) (sse_c V w3 rb _ m t C _ a1 a2 P.length c1 Q.length c2 B3.out hr rrB.out RL.out O3.out.rows.2.2 hm hC) ?_;rintro e w4 ⟨he,hk,hb⟩;rw [HB0.out] at he;subst he;rw [HL0.out] at hk;refine ⟨_,rfl,?_⟩;have R4:Hid (w4.heap[rb]?=some (.cells #[.int .i64 ((m+(L0+1):Nat):Int)] 3 (0,0))):=hk;have B4:Hid (Below V.heap.size V w4):=hb;clear hb hk))
  all_goals go_wp2
  all_goals exact bodyPost_ret (results_tmp rfl _ _ _) rfl ⟨rfl,R4.out,B4.out⟩
theorem icb_c {b:Nat} {ps:List Plc} {V W:World} (h:WAt b ps V) (hW:WI ps) (rb m s t:Nat) (q r:Plc) (hs:ps[s]?=some q) (ht:ps[t]?=some r) (hb:Below V.heap.size V W) (hr:V.heap.size≤rb) (hrb:W.heap[rb]?=some (.cells #[.int .i64 (m:Int)] 3 (0,0))) (hm:m≤1000000) :
    Calls Tryz.prog 100 #[.pointer (some ⟨b,0,none⟩),.agg #[.int .i64 (s:Int),.int .i64 (t:Int)],.pointer (some ⟨rb,0,none⟩)] W fun e w'=>e=.returned (.bool (extI ps (s:Int) (t:Int)))∧w'.heap[rb]?=some (.cells #[.int .i64 ((m+rdN ps s t:Nat):Int)] 3 (0,0))∧Below V.heap.size V w':=by
  have hsl:=(List.getElem?_eq_some_iff.1 hs).1
  have hdl:=dn_le hW hsl
  have htl:=dn_le hW (List.getElem?_eq_some_iff.1 ht).1
  have HDO:∀ w,Below V.heap.size V w→Calls Tryz.prog 99 #[.pointer (some ⟨b,0,none⟩),.int .i64 (s:Int)] w fun e w'=>(∃ v1 v2 v3,e=.returned (.agg #[v1,v2,v3])∧DspA w.heap.size ((dnL ps s).take 8) ((dnL ps s).drop 8) q.cl v1 v2 v3 w')∧Below w.heap.size w w':=fun w hb=>dof_c (h.below hb) hW s q hs
  have HIF:∀ w,Below V.heap.size V w→Calls Tryz.prog 113 #[.pointer (some ⟨b,0,none⟩),.int .i64 (t:Int)] w fun e w'=>(e=.returned (.bool (ifcI ps (t:Int))))∧Below w.heap.size w w':=fun w hb=>isIface_c (h.below hb) _
  cases hf:ifcI ps (t:Int) with
  | false =>
    rw [hf] at HIF
    have e1:rdN ps s t=1:=by rw [rdN,hf];rfl
    have e2:=ext_class hW hs ht hf
    rw [dn_len] at htl
    rw [e1,e2]
    have:=icb_1 V W b rb m s t hb hr hrb hm ((chL (ps.map nd) t).length - 1) ((dnL ps s).take 8) ((dnL ps s).drop 8) q.cl (by omega) (by rw [List.length_take];omega) (by rw [List.length_drop];omega) HIF (fun w hb=>?_) HDO
    · rw [List.take_append_drop] at this
      exact this
    · have hd:=depth_r (h.below hb) hW (t:Int)
      rw [dpI,plcI_nat,ht] at hd
      simp only [Int.toNat_natCast] at hd
      rw [show (((chL (ps.map nd) t).length - 1:Nat):Int)=((chL (ps.map nd) t).length:Int) - 1 by have:=ch_pos (ns:=ps.map nd) t;omega]
      exact hd
  | true =>
    rw [hf] at HIF
    by_cases hst:s=t
    · have e1:rdN ps s t=1:=by rw [rdN,hf,if_pos rfl,if_pos hst]
      rw [e1]
      have e2:extI ps (s:Int) (t:Int)=true:=by rw [← hst];exact ext_own hs
      rw [e2]
      exact icb_2 V W b rb m s t hb hr hrb hm hst HIF
    · have e1:rdN ps s t=lookN q.cl t+1:=by rw [rdN,hf,if_pos rfl,if_neg hst,cl_at hs]
      rw [e1,ext_iface hW hs ht hf hst]
      have:=cl_len hW hs
      exact icb_3 V W b rb m s t hb hr hrb hm _ _ q.cl (by omega) hst HIF HDO
theorem idx2_0 (s t:Int) (w:World):(Instr.index 150 (.agg #[.int .i64 s,.int .i64 t]) (.int .i64 0)).run Tryz.prog w=.ok (.int .i64 s) w:=by
  simp [Instr.index,run_underlying Tryz.underlying150,go_sem,part]
theorem idx2_1 (s t:Int) (w:World):(Instr.index 150 (.agg #[.int .i64 s,.int .i64 t]) (.int .i64 1)).run Tryz.prog w=.ok (.int .i64 t) w:=by
  simp [Instr.index,run_underlying Tryz.underlying150,go_sem,part]
set_option maxHeartbeats 4000000 in
theorem tst_1 (W:World) (b:Nat) (s t E:Int) (hE:¬ E=0) (HS:Hid (∀ w,Below W.heap.size W w→Calls Tryz.prog 98 #[.pointer (some ⟨b,0,none⟩),.int .i64 s] w fun e w'=>e=.returned (.int .i64 E)∧Below w.heap.size w w')):Calls Tryz.prog 52 #[.pointer (some ⟨b,0,none⟩),.int .i64 s,.int .i64 t] W fun e w'=>e=.returned (.tuple #[.bool false,.int .i64 0,.int .i64 E])∧Below W.heap.size W w':=by
  have hE2:(E == 0)=false:=by simp [hE]
  have IX0:=idx2_0 s t
  have IX1:=idx2_1 s t
  go_enter Tryz.func52,Tryz.ntmps52
  go_wp2
  go_loopw [17] (fun kv wr=>(kv=.int .i64 0)∧Hid (Below W.heap.size W wr)∧Hid (wr.heap[W.heap.size]?=some (.cells #[.int .i64 0] 3 (0,0)))∧Hid (wr.heap[W.heap.size+1]?=some (.cells #[.int .i64 s,.int .i64 t] 150 (0,0)))) (fun kv _=>2 - (intOf kv).toNat)
  case atStart=>exact ⟨rfl,((Below.refl _ _).alloc (Nat.le_refl _) _).alloc (by simp) _,hkeep (halloc1 _ _),halloc2 _ _ (by simp)⟩
  case round =>
    obtain ⟨hk,hB,rrB,eeB⟩:=hrel
    obtain ⟨rr0,rrf,rrL⟩:=rw1 rrB.out
    obtain ⟨ee0,ee1,eef,eeL⟩:=rw2 eeB.out
    have rrN:¬ W.heap.size=wr.heap.size:=by omega
    have eeN:¬ W.heap.size+1=wr.heap.size:=by omega
    subst hk
    go_wp2_with (go_at_call 98;refine (HS.out _ hB.out).mono ?_;rintro e w1 ⟨rfl,hb⟩;have eed:=kp2 (n:=W.heap.size+1) hb (by first|omega|(simp;try omega)) (eeB.out);(try clear eeB ee0 ee1 eef eeL eeN);obtain ⟨eeB,ee0,ee1,eef,eeL,eeN⟩:=eed;have rrd:=kp1 (n:=W.heap.size) hb (by first|omega|(simp;try omega)) (rrB.out);(try clear rrB rr0 rrf rrL rrN);obtain ⟨rrB,rr0,rrf,rrL,rrN⟩:=rrd;have B1:Hid (Below W.heap.size W w1):=bstep hB.out hb;clear hb)
    exact bodyPost_ret (v:=.tuple #[.bool false,.int .i64 0,.int .i64 E]) (by simp [results,Tryz.results52,go_sem, *]) rfl ⟨rfl,B1.out.setCell (Nat.le_refl _) _⟩
set_option maxHeartbeats 4000000 in
theorem tst_2 (W:World) (b:Nat) (s t E:Int) (hE:¬ E=0) (HS:Hid (∀ w,Below W.heap.size W w→Calls Tryz.prog 98 #[.pointer (some ⟨b,0,none⟩),.int .i64 s] w fun e w'=>e=.returned (.int .i64 0)∧Below w.heap.size w w')) (HT:Hid (∀ w,Below W.heap.size W w→Calls Tryz.prog 98 #[.pointer (some ⟨b,0,none⟩),.int .i64 t] w fun e w'=>e=.returned (.int .i64 E)∧Below w.heap.size w w')):Calls Tryz.prog 52 #[.pointer (some ⟨b,0,none⟩),.int .i64 s,.int .i64 t] W fun e w'=>e=.returned (.tuple #[.bool false,.int .i64 0,.int .i64 E])∧Below W.heap.size W w':=by
  have hE2:(E == 0)=false:=by simp [hE]
  have IX0:=idx2_0 s t
  have IX1:=idx2_1 s t
  go_enter Tryz.func52,Tryz.ntmps52
  go_wp2
  go_loopw [17] (fun kv wr=>(kv=.int .i64 0∨kv=.int .i64 1)∧Hid (Below W.heap.size W wr)∧Hid (wr.heap[W.heap.size]?=some (.cells #[.int .i64 0] 3 (0,0)))∧Hid (wr.heap[W.heap.size+1]?=some (.cells #[.int .i64 s,.int .i64 t] 150 (0,0)))) (fun kv _=>2 - (intOf kv).toNat)
  case atStart=>exact ⟨.inl rfl,((Below.refl _ _).alloc (Nat.le_refl _) _).alloc (by simp) _,hkeep (halloc1 _ _),halloc2 _ _ (by simp)⟩
  case round =>
    obtain ⟨hk,hB,rrB,eeB⟩:=hrel
    obtain ⟨rr0,rrf,rrL⟩:=rw1 rrB.out
    obtain ⟨ee0,ee1,eef,eeL⟩:=rw2 eeB.out
    have rrN:¬ W.heap.size=wr.heap.size:=by omega
    have eeN:¬ W.heap.size+1=wr.heap.size:=by omega
    rcases hk with rfl|rfl
    · go_wp2_with (go_at_call 98;refine (HS.out _ hB.out).mono ?_;rintro e w1 ⟨rfl,hb⟩;have eed:=kp2 (n:=W.heap.size+1) hb (by first|omega|(simp;try omega)) (eeB.out);(try clear eeB ee0 ee1 eef eeL eeN);obtain ⟨eeB,ee0,ee1,eef,eeL,eeN⟩:=eed;have rrd:=kp1 (n:=W.heap.size) hb (by first|omega|(simp;try omega)) (rrB.out);(try clear rrB rr0 rrf rrL rrN);obtain ⟨rrB,rr0,rrf,rrL,rrN⟩:=rrd;have B1:Hid (Below W.heap.size W w1):=bstep hB.out hb;clear hb)
      refine ⟨⟨.inr rfl,B1,rrB,eeB⟩,by simp [intOf]⟩
    · go_wp2_with (go_at_call 98;refine (HT.out _ hB.out).mono ?_;rintro e w1 ⟨rfl,hb⟩;have eed:=kp2 (n:=W.heap.size+1) hb (by first|omega|(simp;try omega)) (eeB.out);(try clear eeB ee0 ee1 eef eeL eeN);obtain ⟨eeB,ee0,ee1,eef,eeL,eeN⟩:=eed;have rrd:=kp1 (n:=W.heap.size) hb (by first|omega|(simp;try omega)) (rrB.out);(try clear rrB rr0 rrf rrL rrN);obtain ⟨rrB,rr0,rrf,rrL,rrN⟩:=rrd;have B1:Hid (Below W.heap.size W w1):=bstep hB.out hb;clear hb)
      exact bodyPost_ret (v:=.tuple #[.bool false,.int .i64 0,.int .i64 E]) (by simp [results,Tryz.results52,go_sem, *]) rfl ⟨rfl,B1.out.setCell (Nat.le_refl _) _⟩
set_option maxHeartbeats 4000000 in
theorem tst_3 (W:World) (b:Nat) (s t:Int) (B:Bool) (n:Nat) (HS:Hid (∀ w,Below W.heap.size W w→Calls Tryz.prog 98 #[.pointer (some ⟨b,0,none⟩),.int .i64 s] w fun e w'=>e=.returned (.int .i64 0)∧Below w.heap.size w w')) (HT:Hid (∀ w,Below W.heap.size W w→Calls Tryz.prog 98 #[.pointer (some ⟨b,0,none⟩),.int .i64 t] w fun e w'=>e=.returned (.int .i64 0)∧Below w.heap.size w w')) (HI:Hid (∀ w,Below W.heap.size W w→w.heap[W.heap.size]?=some (.cells #[.int .i64 0] 3 (0,0))→Calls Tryz.prog 100 #[.pointer (some ⟨b,0,none⟩),.agg #[.int .i64 s,.int .i64 t],.pointer (some ⟨W.heap.size,0,none⟩)] w fun e w'=>e=.returned (.bool B)∧w'.heap[W.heap.size]?=some (.cells #[.int .i64 (n:Int)] 3 (0,0))∧Below W.heap.size W w')):Calls Tryz.prog 52 #[.pointer (some ⟨b,0,none⟩),.int .i64 s,.int .i64 t] W fun e w'=>e=.returned (.tuple #[.bool B,.int .i64 (n:Int),.int .i64 0])∧Below W.heap.size W w':=by
  have IX0:=idx2_0 s t
  have IX1:=idx2_1 s t
  go_enter Tryz.func52,Tryz.ntmps52
  go_wp2
  go_loopw [17] (fun kv wr=>(kv=.int .i64 0∨kv=.int .i64 1∨kv=.int .i64 2)∧Hid (Below W.heap.size W wr)∧Hid (wr.heap[W.heap.size]?=some (.cells #[.int .i64 0] 3 (0,0)))∧Hid (wr.heap[W.heap.size+1]?=some (.cells #[.int .i64 s,.int .i64 t] 150 (0,0)))) (fun kv _=>2 - (intOf kv).toNat)
  case atStart=>exact ⟨.inl rfl,((Below.refl _ _).alloc (Nat.le_refl _) _).alloc (by simp) _,hkeep (halloc1 _ _),halloc2 _ _ (by simp)⟩
  case round =>
    obtain ⟨hk,hB,rrB,eeB⟩:=hrel
    obtain ⟨rr0,rrf,rrL⟩:=rw1 rrB.out
    obtain ⟨ee0,ee1,eef,eeL⟩:=rw2 eeB.out
    have rrN:¬ W.heap.size=wr.heap.size:=by omega
    have eeN:¬ W.heap.size+1=wr.heap.size:=by omega
    rcases hk with rfl|rfl|rfl
    · go_wp2_with (go_at_call 98;refine (HS.out _ hB.out).mono ?_;rintro e w1 ⟨rfl,hb⟩;have eed:=kp2 (n:=W.heap.size+1) hb (by first|omega|(simp;try omega)) (eeB.out);(try clear eeB ee0 ee1 eef eeL eeN);obtain ⟨eeB,ee0,ee1,eef,eeL,eeN⟩:=eed;have rrd:=kp1 (n:=W.heap.size) hb (by first|omega|(simp;try omega)) (rrB.out);(try clear rrB rr0 rrf rrL rrN);obtain ⟨rrB,rr0,rrf,rrL,rrN⟩:=rrd;have B1:Hid (Below W.heap.size W w1):=bstep hB.out hb;clear hb)
      refine ⟨⟨.inr (.inl rfl),B1,rrB,eeB⟩,by simp [intOf]⟩
    · go_wp2_with (go_at_call 98;refine (HT.out _ hB.out).mono ?_;rintro e w1 ⟨rfl,hb⟩;have eed:=kp2 (n:=W.heap.size+1) hb (by first|omega|(simp;try omega)) (eeB.out);(try clear eeB ee0 ee1 eef eeL eeN);obtain ⟨eeB,ee0,ee1,eef,eeL,eeN⟩:=eed;have rrd:=kp1 (n:=W.heap.size) hb (by first|omega|(simp;try omega)) (rrB.out);(try clear rrB rr0 rrf rrL rrN);obtain ⟨rrB,rr0,rrf,rrL,rrN⟩:=rrd;have B1:Hid (Below W.heap.size W w1):=bstep hB.out hb;clear hb)
      refine ⟨⟨.inr (.inr rfl),B1,rrB,eeB⟩,by simp [intOf]⟩
    · go_wp2_with (go_at_call 100;refine (HI.out _ hB.out rrB.out).mono ?_;rintro e w2 ⟨rfl,hk2,hb⟩;(try clear rrB rr0 rrf rrL rrN);have rrB:Hid (w2.heap[W.heap.size]?=some (.cells #[.int .i64 (n:Int)] 3 (0,0))):=hk2;obtain ⟨rr0,rrf,rrL⟩:=rw1 hk2;have B2:Hid (Below W.heap.size W w2):=hb;clear hb hk2 HI)
      go_region
      all_goals go_wp2
      all_goals exact bodyPost_ret (v:=.tuple #[.bool B,.int .i64 (n:Int),.int .i64 0]) (by simp [results,Tryz.results52,go_sem, *]) rfl ⟨rfl,(B2.out.drew).setCell (Nat.le_refl _) _⟩
def tstR (ps:List Plc) (s t:Int):(Bool×Nat)×Int:=if ckI ps s=0 then if ckI ps t=0 then ((extI ps s t,rdN ps s.toNat t.toNat),0) else ((false,0),3) else ((false,0),3)
theorem tst_c {b:Nat} {ps:List Plc} {W:World} (h:WAt b ps W) (hW:WI ps) (s t:Int):Calls Tryz.prog 52 #[.pointer (some ⟨b,0,none⟩),.int .i64 s,.int .i64 t] W fun e w'=>e=.returned (.tuple #[.bool (tstR ps s t).1.1,.int .i64 ((tstR ps s t).1.2:Int),.int .i64 (tstR ps s t).2])∧Below W.heap.size W w':=by
  by_cases hs:ckI ps s=0
  · by_cases ht:ckI ps t=0
    · obtain ⟨x,q,rfl,hq⟩:=ck_zero hs
      obtain ⟨y,r,rfl,hr⟩:=ck_zero ht
      have e0:tstR ps (x:Int) (y:Int)=((extI ps (x:Int) (y:Int),rdN ps x y),0):=by rw [tstR,if_pos hs,if_pos ht];rfl
      rw [e0]
      refine tst_3 W b x y (extI ps (x:Int) (y:Int)) (rdN ps x y) (fun w hb=>?_) (fun w hb=>?_) (fun w hb hk=>?_)
      · rw [← hs];exact dck_c (h.below hb) _
      · rw [← ht];exact dck_c (h.below hb) _
      · have:=icb_c h hW W.heap.size 0 x y q r hq hr hb (Nat.le_refl _) hk (by omega)
        rw [Nat.zero_add] at this
        exact this
    · have e1:=ck_three ht
      have e0:tstR ps s t=((false,0),3):=by rw [tstR,if_pos hs,if_neg ht]
      rw [e0]
      refine tst_2 W b s t 3 (by decide) (fun w hb=>?_) (fun w hb=>?_)
      · rw [← hs];exact dck_c (h.below hb) _
      · rw [← e1];exact dck_c (h.below hb) _
  · have e1:=ck_three hs
    have e0:tstR ps s t=((false,0),3):=by rw [tstR,if_neg hs]
    rw [e0]
    refine tst_1 W b s t 3 (by decide) (fun w hb=>?_)
    rw [← e1];exact dck_c (h.below hb) _
theorem idxT_0 (x y:Int) (s t:ByteArray) (w:World):(Instr.index 153 (.agg #[.int .i64 x,.string s,.int .i64 y,.string t]) (.int .i64 0)).run Tryz.prog w=.ok (.agg #[.int .i64 x,.string s]) w:=by
  simp [Instr.index,run_underlying Tryz.underlying153,go_sem,part]
theorem idxT_1 (x y:Int) (s t:ByteArray) (w:World):(Instr.index 153 (.agg #[.int .i64 x,.string s,.int .i64 y,.string t]) (.int .i64 1)).run Tryz.prog w=.ok (.agg #[.int .i64 y,.string t]) w:=by
  simp [Instr.index,run_underlying Tryz.underlying153,go_sem,part]
end Go.Proofs.YtfjekhmnjfcbeaaGreat
