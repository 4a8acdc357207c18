import Derived.Test.YtfjekhmnjfcbeaaGreatHgF
import Derived.Maps.OwnOps
set_option maxRecDepth 100000
namespace Go.Proofs.YtfjekhmnjfcbeaaGreat
open Go.RowKit Go.Maps
def insL (op n:Int):List Value:=[.int .i64 op,.int .i64 n,.string ⟨#[]⟩,.bool false,.string ⟨#[]⟩,.string ⟨#[]⟩,.string ⟨#[]⟩]
def tObj:ByteArray:=⟨#[79,98,106,101,99,116]⟩
def objMs:List HM:=[⟨⟨#[60,105,110,105,116,62]⟩,⟨#[40,41,86]⟩,1,1,0,1,insL 38 0⟩,⟨⟨#[105,100]⟩,⟨#[40,41,73]⟩,1,1,1,2,insL 1 7++insL 36 0⟩,⟨⟨#[107,105,110]⟩,⟨#[40,41,76,79,98,106,101,99,116,59]⟩,4,1,1,2,insL 4 0++insL 37 0⟩]
theorem rds_at (w:World) (m:Nat) (hm:w.heap.size=m) (cs:Array Value) (t:TypeId) (n k:Nat) (hl:cs.toList.length=n * k) (hn:n≤maxLen):Rds (w.alloc (.cells cs t)) (.slice (some ⟨m,0,none⟩) n n) n k cs.toList:=by
  subst hm
  refine ⟨hl,.inr ⟨w.heap.size,0,n,rfl,Nat.le_refl _,hn,by simp,fun j u hj=>?_⟩⟩
  rw [Nat.zero_add,cell_of_row _ w.heap.size j _ _ _ (heap_alloc_new w _)]
  simpa using hj
theorem objectC_any (W:World):Calls Tryz.prog 104 #[] W fun e w'=>∃ g pm,e=.returned (.agg #[.string tObj,.string ⟨#[]⟩,.slice none 0 0,.int .i64 33,.int .i64 0,.slice (some ⟨g,0,none⟩) 3 3])∧Rds w' (.slice (some ⟨g,0,none⟩) 3 3) 3 6 (flatH pm)∧pm.map Prod.fst=objMs∧(∀ p∈pm,Rds w' p.2 p.1.n 7 p.1.xs∧(∀ u∈p.1.xs,u.oneCell'=true)∧p.1.n≤1000000)∧Below W.heap.size W w':=by
  go_enter Tryz.func104,Tryz.ntmps104
  go_wp2
  refine bodyPost_ret (v:=.agg #[.string tObj,.string ⟨#[]⟩,.slice none 0 0,.int .i64 33,.int .i64 0,.slice (some ⟨W.heap.size+1+1+1+1,0,none⟩) 3 3]) (by simp [results,Tryz.results104,go_sem,tObj]) rfl ⟨_,[(⟨⟨#[60,105,110,105,116,62]⟩,⟨#[40,41,86]⟩,1,1,0,1,insL 38 0⟩,.slice (some ⟨W.heap.size+1,0,none⟩) 1 1),(⟨⟨#[105,100]⟩,⟨#[40,41,73]⟩,1,1,1,2,insL 1 7++insL 36 0⟩,.slice (some ⟨W.heap.size+1+1,0,none⟩) 2 2),(⟨⟨#[107,105,110]⟩,⟨#[40,41,76,79,98,106,101,99,116,59]⟩,4,1,1,2,insL 4 0++insL 37 0⟩,.slice (some ⟨W.heap.size+1+1+1,0,none⟩) 2 2)],rfl,?_,rfl,?_,?_⟩
  · exact rds_at _ _ (by simp) _ 56 3 6 rfl (by decide)
  · intro p hp
    simp only [List.mem_cons,List.not_mem_nil,or_false] at hp
    have one:∀ a b:Int,∀ u∈insL a b,u.oneCell'=true:=fun a b u hu=>by
      simp only [insL,List.mem_cons,List.not_mem_nil,or_false] at hu
      rcases hu with rfl|rfl|rfl|rfl|rfl|rfl|rfl <;> rfl
    rcases hp with rfl|rfl|rfl
    · refine ⟨(rds_at _ _ (by simp) _ 64 1 7 rfl (by decide)).keep ((((Below.refl _ _).alloc (Nat.le_refl _) _).alloc (by simp) _).alloc (by simp only [World.size_alloc];omega) _),one _ _,show (1:Nat)≤1000000 by decide⟩
    · refine ⟨(rds_at _ _ (by simp) _ 64 2 7 rfl (by decide)).keep (((Below.refl _ _).alloc (Nat.le_refl _) _).alloc (by simp) _),fun u hu=>?_,show (2:Nat)≤1000000 by decide⟩
      rcases List.mem_append.1 hu with h|h <;> exact one _ _ u h
    · refine ⟨(rds_at _ _ (by simp) _ 64 2 7 rfl (by decide)).keep ((Below.refl _ _).alloc (Nat.le_refl _) _),fun u hu=>?_,show (2:Nat)≤1000000 by decide⟩
      rcases List.mem_append.1 hu with h|h <;> exact one _ _ u h
  · exact (((((Below.refl _ _).alloc (Nat.le_refl _) _).alloc (by simp) _).alloc (by simp;omega) _).alloc (by simp;omega) _).alloc (by simp;omega) _
theorem marker_any (nm:ByteArray) (W:World):Calls Tryz.prog 105 #[.string nm] W fun e w'=>e=.returned (.agg #[.string nm,.string tObj,.slice none 0 0,.int .i64 1537,.int .i64 0,.slice none 0 0])∧Below W.heap.size W w':=by
  go_enter Tryz.func105,Tryz.ntmps105
  go_wp2
  exact bodyPost_ret (v:=.agg #[.string nm,.string tObj,.slice none 0 0,.int .i64 1537,.int .i64 0,.slice none 0 0]) (by simp [results,Tryz.results105,go_sem,tObj]) rfl ⟨rfl,(Below.refl _ _).alloc (Nat.le_refl _) _⟩
def tClo:ByteArray:=⟨#[67,108,111,110,101,97,98,108,101]⟩
def tSer:ByteArray:=⟨#[83,101,114,105,97,108,105,122,97,98,108,101]⟩
theorem firstC_any (W:World):Calls Tryz.prog 55 #[] W fun e w'=>∃ f g pm,e=.returned (.slice (some ⟨f,0,none⟩) 3 3)∧w'.heap[f]?=some (.cells #[.string tObj,.string ⟨#[]⟩,.slice none 0 0,.int .i64 33,.int .i64 0,.slice (some ⟨g,0,none⟩) 3 3,.string tClo,.string tObj,.slice none 0 0,.int .i64 1537,.int .i64 0,.slice none 0 0,.string tSer,.string tObj,.slice none 0 0,.int .i64 1537,.int .i64 0,.slice none 0 0] 26 (0,0))∧Rds w' (.slice (some ⟨g,0,none⟩) 3 3) 3 6 (flatH pm)∧pm.map Prod.fst=objMs∧(∀ p∈pm,Rds w' p.2 p.1.n 7 p.1.xs∧(∀ u∈p.1.xs,u.oneCell'=true)∧p.1.n≤1000000)∧Below W.heap.size W w':=by
  have HO:Hid (∀ w:World,Calls Tryz.prog 104 #[] w fun e w'=>∃ g pm,e=.returned (.agg #[.string tObj,.string ⟨#[]⟩,.slice none 0 0,.int .i64 33,.int .i64 0,.slice (some ⟨g,0,none⟩) 3 3])∧Rds w' (.slice (some ⟨g,0,none⟩) 3 3) 3 6 (flatH pm)∧pm.map Prod.fst=objMs∧(∀ p∈pm,Rds w' p.2 p.1.n 7 p.1.xs∧(∀ u∈p.1.xs,u.oneCell'=true)∧p.1.n≤1000000)∧Below w.heap.size w w'):=objectC_any
  have H1:Hid (∀ w:World,Calls Tryz.prog 105 #[.string tClo] w fun e w'=>e=.returned (.agg #[.string tClo,.string tObj,.slice none 0 0,.int .i64 1537,.int .i64 0,.slice none 0 0])∧Below w.heap.size w w'):=marker_any tClo
  have H2:Hid (∀ w:World,Calls Tryz.prog 105 #[.string tSer] w fun e w'=>e=.returned (.agg #[.string tSer,.string tObj,.slice none 0 0,.int .i64 1537,.int .i64 0,.slice none 0 0])∧Below w.heap.size w w'):=marker_any tSer
  go_enter Tryz.func55,Tryz.ntmps55
  go_wp2_with (first
    | (go_at_call 104;refine (HO.out _).mono ?_;rintro e w1 ⟨g,pm,rfl,hr,hq,hc,hb⟩;have R1:Hid (Rds w1 (.slice (some ⟨g,0,none⟩) 3 3) 3 6 (flatH pm)):=hr;have Q1:Hid (pm.map Prod.fst=objMs):=hq;have C1:Hid (∀ p∈pm,Rds w1 p.2 p.1.n 7 p.1.xs∧(∀ u∈p.1.xs,u.oneCell'=true)∧p.1.n≤1000000):=hc;have B1:Hid (Below W.heap.size W w1):=hb;clear hr hq hc hb HO)
    | (have h9:=H1;clear h9;go_at_call 105;refine (H1.out _).mono ?_;rintro e w2 ⟨rfl,hb⟩;have B2:Hid (Below w1.heap.size w1 w2):=hb;clear hb H1)
    | (have h9:=B2;clear h9;go_at_call 105;refine (H2.out _).mono ?_;rintro e w3 ⟨rfl,hb⟩;have B3:Hid (Below w1.heap.size w1 w3):=bstep B2.out hb;clear hb H2))
  have B4:Below w1.heap.size w1 (w3.alloc (.cells #[.string tObj,.string ⟨#[]⟩,.slice none 0 0,.int .i64 33,.int .i64 0,.slice (some ⟨g,0,none⟩) 3 3,.string tClo,.string tObj,.slice none 0 0,.int .i64 1537,.int .i64 0,.slice none 0 0,.string tSer,.string tObj,.slice none 0 0,.int .i64 1537,.int .i64 0,.slice none 0 0] 26)):=B3.out.alloc B3.out.size _
  exact bodyPost_ret (results_tmp rfl _ _ _) rfl ⟨w3.heap.size,g,pm,rfl,heap_alloc_new w3 _,R1.out.keep B4,Q1.out,fun p hp=>⟨(C1.out p hp).1.keep B4,(C1.out p hp).2⟩,bstep B1.out B4⟩
def objH:HC:=⟨tObj,⟨#[]⟩,0,[],33,0,objMs⟩
def cloH:HC:=⟨tClo,tObj,0,[],1537,0,[]⟩
def serH:HC:=⟨tSer,tObj,0,[],1537,0,[]⟩
def P3:List Plc:=[⟨objH,0,[]⟩,⟨cloH,0,[]⟩,⟨serH,0,[]⟩]
theorem HW.new (w:World):HW ((w.alloc (.map #[] 0)).alloc (.cells #[.slice none 0 0,.map (some w.heap.size)] 100)) w.heap.size (w.heap.size+1) w.heap.size [] (.slice none 0 0) []:=by
  have h1:=heap_alloc2_new w (.map #[] 0) (.cells #[.slice none 0 0,.map (some w.heap.size)] 100)
  exact ⟨h1,World.ownsRow_nil _ _ _ _,rfl,fun k p q h=>by simp at h,(World.ownsMap_made w _ _ _).alloc _,by omega,Nat.le_refl _,fun q hq=>by simp at hq⟩
set_option maxHeartbeats 4000000 in
theorem new_any (W:World):Calls Tryz.prog 9 #[] W fun e w'=>e=.returned (.pointer (some ⟨W.heap.size+1,0,none⟩))∧(∃ vp pv,HW w' W.heap.size (W.heap.size+1) W.heap.size P3 vp pv)∧Below W.heap.size W w':=by
  have HF:Hid (∀ w:World,Calls Tryz.prog 55 #[] w fun e w'=>∃ f g pm,e=.returned (.slice (some ⟨f,0,none⟩) 3 3)∧w'.heap[f]?=some (.cells #[.string tObj,.string ⟨#[]⟩,.slice none 0 0,.int .i64 33,.int .i64 0,.slice (some ⟨g,0,none⟩) 3 3,.string tClo,.string tObj,.slice none 0 0,.int .i64 1537,.int .i64 0,.slice none 0 0,.string tSer,.string tObj,.slice none 0 0,.int .i64 1537,.int .i64 0,.slice none 0 0] 26 (0,0))∧Rds w' (.slice (some ⟨g,0,none⟩) 3 3) 3 6 (flatH pm)∧pm.map Prod.fst=objMs∧(∀ p∈pm,Rds w' p.2 p.1.n 7 p.1.xs∧(∀ u∈p.1.xs,u.oneCell'=true)∧p.1.n≤1000000)∧Below w.heap.size w w'):=firstC_any
  have hmm:=@run_makeMap Tryz.prog
  obtain ⟨Wc,hWc⟩:∃ x,x=(W.alloc (.map #[] 0)).alloc (.cells #[.slice none 0 0,.map (some W.heap.size)] 100):=⟨_,rfl⟩
  have HW0:Hid (HW Wc W.heap.size (W.heap.size+1) W.heap.size [] (.slice none 0 0) []):=by rw [hWc];exact HW.new W
  have HB0:Hid (Below W.heap.size W Wc):=by rw [hWc];exact ((Below.refl _ _).alloc (Nat.le_refl _) _).alloc (by simp) _
  have HWE:Hid (Wc=(W.alloc (.map #[] 0)).alloc (.cells #[.slice none 0 0,.map (some W.heap.size)] 100)):=hWc
  have hWs:Wc.heap.size=W.heap.size+2:=by rw [hWc];simp
  clear hWc
  go_enter Tryz.func9,Tryz.ntmps9
  go_wp2_with (go_at_call 55;rw [← HWE.out];refine (HF.out _).mono ?_;rintro e w1 ⟨f,g,pm,rfl,hf,hr,hq,hc,hb⟩;have F1:Hid (w1.heap[f]?=_):=hf;have R1:Hid (Rds w1 (.slice (some ⟨g,0,none⟩) 3 3) 3 6 (flatH pm)):=hr;have Q1:Hid (pm.map Prod.fst=objMs):=hq;have C1:Hid (∀ p∈pm,Rds w1 p.2 p.1.n 7 p.1.xs∧(∀ u∈p.1.xs,u.oneCell'=true)∧p.1.n≤1000000):=hc;have H1:Hid (HW w1 W.heap.size (W.heap.size+1) W.heap.size [] (.slice none 0 0) []):=HW0.out.below hb;have B1:Hid (Below W.heap.size W w1):=bstep HB0.out hb;clear hf hr hq hc hb HF HW0 HB0 HWE)
  have HPL:Hid (pm.length=3):=by have h9:=congrArg List.length Q1.out;rw [List.length_map] at h9;exact h9
  have hfl:f<w1.heap.size:=(Array.getElem?_eq_some_iff.1 F1.out).1
  have HA:Hid (∀ (k:Nat) (q:Plc) (vm:Value) (pm':List (HM×Value)) (w:World) (vp:Value) (pv:List PV),P3[k]?=some q→HW w W.heap.size (W.heap.size+1) W.heap.size (P3.take k) vp pv→W.heap.size≤w.heap.size→Rds w vm pm'.length 6 (flatH pm')→pm'.map Prod.fst=q.c.ms→pm'.length≤3→(∀ p∈pm',Rds w p.2 p.1.n 7 p.1.xs∧(∀ u∈p.1.xs,u.oneCell'=true)∧p.1.n≤1000000) →
      Calls Tryz.prog 56 #[.pointer (some ⟨W.heap.size+1,0,none⟩),.agg #[.string q.c.nm,.string q.c.su,.slice none 0 0,.int .i64 q.c.fl,.int .i64 q.c.ld,vm],.int .i64 0,.slice none 0 0] w fun e w'=>e=.returned (.int .i64 (k:Int))∧(∃ vp' pv',HW w' W.heap.size (W.heap.size+1) W.heap.size (P3.take (k+1)) vp' pv')∧Below W.heap.size w w'∧∀ j<w.heap.size,j≠W.heap.size+1→j≠W.heap.size→some j≠vp.ownBlock→w'.heap[j]?=w.heap[j]?):=by
    intro k q vm pm' w vp pv hq hw hs hr he hl hc
    have hk:k<3:=(List.getElem?_eq_some_iff.1 hq).1
    have hlen:(P3.take k).length=k:=by rw [List.length_take];show min k 3=k;omega
    have hcs:q.sp=0∧q.cl=[]∧q.c.ni=0∧q.c.xi=[]∧q.c.nm.size≤maxLen:=by
      have:q∈P3:=List.mem_of_getElem? hq
      simp only [P3,List.mem_cons,List.not_mem_nil,or_false] at this
      rcases this with rfl|rfl|rfl <;> exact ⟨rfl,rfl,rfl,rfl,by decide⟩
    have hg:gathL ((P3.take k).map Plc.cl) 0 []=[]:=by
      have:∀ j,j<3→gathL ((P3.take j).map Plc.cl) 0 []=[]:=fun j hj=>by
        match j,hj with
        | 0,_=>rfl
        | 1,_=>rfl
        | 2,_=>rfl
      exact this k hk
    have h:=add_any W.heap.size (W.heap.size+1) W.heap.size (P3.take k) vp pv q.c (.slice none 0 0) vm pm' 0 (.slice none 0 0) [] w hw hs ⟨by rw [hcs.2.2.2.1,hcs.2.2.1];rfl,.inl ⟨rfl,hcs.2.2.1⟩⟩ (by rw [hcs.2.2.2.1];simp) (by rw [hcs.2.2.1];omega) hr he (by omega) hc ⟨rfl,.inl ⟨rfl,rfl⟩⟩ (by simp) (by simp) (by omega) (by rw [hlen];omega) hcs.2.2.2.2
    rw [hlen,hg] at h
    have e:P3.take (k+1)=P3.take k++[⟨q.c,0,[]⟩]:=by
      rw [List.take_add_one,hq]
      obtain ⟨qc,qs,ql⟩:=q
      simp only at hcs
      rw [hcs.1,hcs.2.1];rfl
    rw [e]
    exact h
  go_loopw [9] (fun kv wr=>∃ (k:Nat) (vp:Value) (pv:List PV),kv=.int .i64 k∧k≤3∧Hid (HW wr W.heap.size (W.heap.size+1) W.heap.size (P3.take k) vp pv)∧Hid (wr.heap[f]?=w1.heap[f]?)∧Hid (k=0→Below w1.heap.size w1 wr)∧Hid (Below W.heap.size W wr)) (fun kv _=>3 - (intOf kv).toNat)
  case atStart=>exact ⟨0,_,_,rfl,by decide,H1,rfl,fun _=>Below.refl _ _,B1⟩
  case round =>
    obtain ⟨k,vp,pv,rfl,hk,hH,hF,hZ,hB⟩:=hrel
    have hff:=hF.out.trans F1.out
    have e0:=cell_of_row wr f 0 _ _ _ hff
    have e1:=cell_of_row wr f 1 _ _ _ hff
    have e2:=cell_of_row wr f 2 _ _ _ hff
    have e3:=cell_of_row wr f 3 _ _ _ hff
    have e4:=cell_of_row wr f 4 _ _ _ hff
    have e5:=cell_of_row wr f 5 _ _ _ hff
    have e6:=cell_of_row wr f 6 _ _ _ hff
    have e7:=cell_of_row wr f 7 _ _ _ hff
    have e8:=cell_of_row wr f 8 _ _ _ hff
    have e9:=cell_of_row wr f 9 _ _ _ hff
    have e10:=cell_of_row wr f 10 _ _ _ hff
    have e11:=cell_of_row wr f 11 _ _ _ hff
    have e12:=cell_of_row wr f 12 _ _ _ hff
    have e13:=cell_of_row wr f 13 _ _ _ hff
    have e14:=cell_of_row wr f 14 _ _ _ hff
    have e15:=cell_of_row wr f 15 _ _ _ hff
    have e16:=cell_of_row wr f 16 _ _ _ hff
    have e17:=cell_of_row wr f 17 _ _ _ hff
    simp only [List.getElem?_toArray,List.getElem?_cons_zero,List.getElem?_cons_succ] at e0 e1 e2 e3 e4 e5 e6 e7 e8 e9 e10 e11 e12 e13 e14 e15 e16 e17
    have hfr:f<wr.heap.size:=(Array.getElem?_eq_some_iff.1 hff).1
    have hn1:f≠W.heap.size+1:=fun e=>by have h9:=hH.out.hb;rw [← e,hff] at h9;simp at h9
    have hn2:f≠W.heap.size:=fun e=>by obtain ⟨es,ck,hmb,_⟩:=hH.out.map;rw [← e,hff] at hmb;simp at hmb
    have hn3:some f≠vp.ownBlock:=by
      rcases row_kind_ne hH.out.row hff (by decide) with e|e
      · rw [e];simp
      · exact fun e2=>e e2.symm
    clear hff
    by_cases hlt:k<3
    · obtain rfl|rfl|rfl:k=0∨k=1∨k=2:=by omega
      · have hkk:(0:Int)<3:=by decide
        have HK:Hid (∀ w:World,Below wr.heap.size wr w→Calls Tryz.prog 56 #[.pointer (some ⟨W.heap.size+1,0,none⟩),.agg #[.string tObj,.string ⟨#[]⟩,.slice none 0 0,.int .i64 33,.int .i64 0,.slice (some ⟨g,0,none⟩) 3 3],.int .i64 0,.slice none 0 0] w fun e w'=>e=.returned (.int .i64 ((0:Nat):Int))∧(∃ vp' pv',HW w' W.heap.size (W.heap.size+1) W.heap.size (P3.take 1) vp' pv')∧Below W.heap.size w w'∧∀ j<w.heap.size,j≠W.heap.size+1→j≠W.heap.size→some j≠vp.ownBlock→w'.heap[j]?=w.heap[j]?):=fun w hb=>HA.out 0 ⟨objH,0,[]⟩ (.slice (some ⟨g,0,none⟩) 3 3) pm w vp pv rfl (hH.out.below hb) (Nat.le_trans hB.out.size hb.size) (by rw [HPL.out];exact R1.out.keep (bstep (hZ.out rfl) hb)) Q1.out (by rw [HPL.out];decide) (fun p hp=>⟨(C1.out p hp).1.keep (bstep (hZ.out rfl) hb),(C1.out p hp).2⟩)
        obtain ⟨Wm,hWm⟩:∃ x,x=wr.alloc (.cells #[.string tObj,.string ⟨#[]⟩,.slice none 0 0,.int .i64 33,.int .i64 0,.slice (some ⟨g,0,none⟩) 3 3] 26):=⟨_,rfl⟩
        have HWm:Hid (Below wr.heap.size wr Wm):=by rw [hWm];exact (Below.refl _ _).alloc (Nat.le_refl _) _
        have HWE:Hid (Wm=wr.alloc (.cells #[.string tObj,.string ⟨#[]⟩,.slice none 0 0,.int .i64 33,.int .i64 0,.slice (some ⟨g,0,none⟩) 3 3] 26)):=hWm
        clear hWm
        go_wp2_with (go_at_call 56;rw [← HWE.out];refine (HK.out _ HWm.out).mono ?_;rintro e w2 ⟨rfl,⟨vp',pv',hw2⟩,hb2,hj2⟩;have H2:Hid (HW w2 W.heap.size (W.heap.size+1) W.heap.size (P3.take 1) vp' pv'):=hw2;have B2:Hid (Below W.heap.size W w2):=(hB.out.trans (HWm.out.mono hB.out.size)).trans hb2;have F2:Hid (w2.heap[f]?=w1.heap[f]?):=((hj2 f (Nat.lt_of_lt_of_le hfr HWm.out.size) hn1 hn2 hn3).trans (HWm.out.block f hfr)).trans hF.out;clear hw2 hb2 hj2 HK)
        go_roundw
        case rel=>exact ⟨1,vp',pv',rfl,by decide,H2,F2,fun h=>by omega,B2⟩
        case measure=>simp [intOf]
      · have hkk:(1:Int)<3:=by decide
        have HK:Hid (∀ w:World,Below wr.heap.size wr w→Calls Tryz.prog 56 #[.pointer (some ⟨W.heap.size+1,0,none⟩),.agg #[.string tClo,.string tObj,.slice none 0 0,.int .i64 1537,.int .i64 0,.slice none 0 0],.int .i64 0,.slice none 0 0] w fun e w'=>e=.returned (.int .i64 ((1:Nat):Int))∧(∃ vp' pv',HW w' W.heap.size (W.heap.size+1) W.heap.size (P3.take 2) vp' pv')∧Below W.heap.size w w'∧∀ j<w.heap.size,j≠W.heap.size+1→j≠W.heap.size→some j≠vp.ownBlock→w'.heap[j]?=w.heap[j]?):=fun w hb=>HA.out 1 ⟨cloH,0,[]⟩ (.slice none 0 0) [] w vp pv rfl (hH.out.below hb) (Nat.le_trans hB.out.size hb.size) ⟨rfl,.inl ⟨rfl,rfl⟩⟩ rfl (by decide) (fun p hp=>by simp at hp)
        obtain ⟨Wm,hWm⟩:∃ x,x=wr.alloc (.cells #[.string tClo,.string tObj,.slice none 0 0,.int .i64 1537,.int .i64 0,.slice none 0 0] 26):=⟨_,rfl⟩
        have HWm:Hid (Below wr.heap.size wr Wm):=by rw [hWm];exact (Below.refl _ _).alloc (Nat.le_refl _) _
        have HWE:Hid (Wm=wr.alloc (.cells #[.string tClo,.string tObj,.slice none 0 0,.int .i64 1537,.int .i64 0,.slice none 0 0] 26)):=hWm
        clear hWm
        go_wp2_with (go_at_call 56;rw [← HWE.out];refine (HK.out _ HWm.out).mono ?_;rintro e w2 ⟨rfl,⟨vp',pv',hw2⟩,hb2,hj2⟩;have H2:Hid (HW w2 W.heap.size (W.heap.size+1) W.heap.size (P3.take 2) vp' pv'):=hw2;have B2:Hid (Below W.heap.size W w2):=(hB.out.trans (HWm.out.mono hB.out.size)).trans hb2;have F2:Hid (w2.heap[f]?=w1.heap[f]?):=((hj2 f (Nat.lt_of_lt_of_le hfr HWm.out.size) hn1 hn2 hn3).trans (HWm.out.block f hfr)).trans hF.out;clear hw2 hb2 hj2 HK)
        go_roundw
        case rel=>exact ⟨2,vp',pv',rfl,by decide,H2,F2,fun h=>by omega,B2⟩
        case measure=>simp [intOf]
      · have hkk:(2:Int)<3:=by decide
        have HK:Hid (∀ w:World,Below wr.heap.size wr w→Calls Tryz.prog 56 #[.pointer (some ⟨W.heap.size+1,0,none⟩),.agg #[.string tSer,.string tObj,.slice none 0 0,.int .i64 1537,.int .i64 0,.slice none 0 0],.int .i64 0,.slice none 0 0] w fun e w'=>e=.returned (.int .i64 ((2:Nat):Int))∧(∃ vp' pv',HW w' W.heap.size (W.heap.size+1) W.heap.size (P3.take 3) vp' pv')∧Below W.heap.size w w'∧∀ j<w.heap.size,j≠W.heap.size+1→j≠W.heap.size→some j≠vp.ownBlock→w'.heap[j]?=w.heap[j]?):=fun w hb=>HA.out 2 ⟨serH,0,[]⟩ (.slice none 0 0) [] w vp pv rfl (hH.out.below hb) (Nat.le_trans hB.out.size hb.size) ⟨rfl,.inl ⟨rfl,rfl⟩⟩ rfl (by decide) (fun p hp=>by simp at hp)
        obtain ⟨Wm,hWm⟩:∃ x,x=wr.alloc (.cells #[.string tSer,.string tObj,.slice none 0 0,.int .i64 1537,.int .i64 0,.slice none 0 0] 26):=⟨_,rfl⟩
        have HWm:Hid (Below wr.heap.size wr Wm):=by rw [hWm];exact (Below.refl _ _).alloc (Nat.le_refl _) _
        have HWE:Hid (Wm=wr.alloc (.cells #[.string tSer,.string tObj,.slice none 0 0,.int .i64 1537,.int .i64 0,.slice none 0 0] 26)):=hWm
        clear hWm
        go_wp2_with (go_at_call 56;rw [← HWE.out];refine (HK.out _ HWm.out).mono ?_;rintro e w2 ⟨rfl,⟨vp',pv',hw2⟩,hb2,hj2⟩;have H2:Hid (HW w2 W.heap.size (W.heap.size+1) W.heap.size (P3.take 3) vp' pv'):=hw2;have B2:Hid (Below W.heap.size W w2):=(hB.out.trans (HWm.out.mono hB.out.size)).trans hb2;have F2:Hid (w2.heap[f]?=w1.heap[f]?):=((hj2 f (Nat.lt_of_lt_of_le hfr HWm.out.size) hn1 hn2 hn3).trans (HWm.out.block f hfr)).trans hF.out;clear hw2 hb2 hj2 HK)
        go_roundw
        case rel=>exact ⟨3,vp',pv',rfl,by decide,H2,F2,fun h=>by omega,B2⟩
        case measure=>simp [intOf]
    · have hk3:k=3:=by omega
      subst hk3
      go_wp2
      exact bodyPost_ret (results_tmp rfl _ _ _) rfl ⟨rfl,⟨_,_,hH.out⟩,hB.out⟩
theorem zero3 (w:World):(zeroValue 3).run Tryz.prog w=.ok (.int .i64 0) w:=by kernel_rfl
theorem len_any (N b mb:Nat) (ps:List Plc) (vp:Value) (pv:List PV) (W:World) (h:HW W N b mb ps vp pv):Calls Tryz.prog 11 #[.pointer (some ⟨b,0,none⟩)] W fun e w'=>e=.returned (.int .i64 (ps.length:Int))∧w'=W:=by
  obtain ⟨a,c,rfl⟩:=ownv h.row
  have b0:=cell_of_row W b 0 _ _ _ h.hb
  simp only [List.getElem?_toArray,List.getElem?_cons_zero] at b0
  rw [h.len] at b0
  clear h
  go_enter Tryz.func11,Tryz.ntmps11
  go_wp2
  exact bodyPost_ret (results_tmp rfl _ _ _) rfl ⟨rfl,rfl⟩
theorem byName_any (N b mb:Nat) (ps:List Plc) (vp:Value) (pv:List PV) (nm:ByteArray) (hnz:nm.size≤maxLen) (W:World) (h:HW W N b mb ps vp pv):Calls Tryz.prog 12 #[.pointer (some ⟨b,0,none⟩),.string nm] W fun e w'=>(∃ c:Int,(numsD ps).atKey (.string nm.data.toList) (.lit (.int .i64 0))=.lit (.int .i64 c)∧e=.returned (if Maps.has (numsD ps) (.string nm.data.toList) then .tuple #[.int .i64 c,.int .i64 0] else .tuple #[.int .i64 0,.int .i64 6]))∧Below W.heap.size W w':=by
  have b1:=cell_of_row W b 1 _ _ _ h.hb
  simp only [List.getElem?_toArray,List.getElem?_cons_zero,List.getElem?_cons_succ] at b1
  obtain ⟨D,hD⟩:∃ D,numsD ps=D:=⟨_,rfl⟩
  have hown:=h.map
  rw [hD] at hown ⊢
  have HOWN:Hid _:=hown
  have hkey:=Go.WideMaps.keyOf_string_mk (P:=Tryz.prog) Tryz.underlying9 hnz
  have HKEY:Hid (keyOf Tryz.prog 9 (.string nm)=some (.string nm.data.toList)):=hkey
  obtain ⟨kl,hkl⟩:∃ k,k=Lit.string nm.data.toList:=⟨_,rfl⟩
  rw [← hkl] at HKEY ⊢
  clear h hD hown hkey hkl
  cases hz:Maps.has D kl with
  | true =>
    go_enter Tryz.func12,Tryz.ntmps12
    go_wp2_with (at_lookup;refine wpList_lookup_own_ok_int _ rfl _ _ 97 rfl 9 3 .i64 law9 Tryz.underlying97 Tryz.underlying3 (zero3 _) mb ps.length D rfl HOWN.out _ _ rfl HKEY.out ?_;intro cc hat hwc;have HAT:Hid _:=hat;clear hat hwc)
    exact bodyPost_ret (results_tmp2 rfl _ _ _) rfl ⟨⟨cc,HAT.out,rfl⟩,Below.refl _ _⟩
  | false =>
    go_enter Tryz.func12,Tryz.ntmps12
    go_wp2_with (at_lookup;refine wpList_lookup_own_ok_int _ rfl _ _ 97 rfl 9 3 .i64 law9 Tryz.underlying97 Tryz.underlying3 (zero3 _) mb ps.length D rfl HOWN.out _ _ rfl HKEY.out ?_;intro cc hat hwc;have HAT:Hid _:=hat;clear hat hwc)
    exact bodyPost_ret (results_tmp2 rfl _ _ _) rfl ⟨⟨⟨cc,HAT.out⟩,rfl⟩,Below.refl _ _⟩
theorem nums3:(numsD P3).atKey (.string tClo.data.toList) (.lit (.int .i64 0))=.lit (.int .i64 1)∧Maps.has (numsD P3) (.string tClo.data.toList)=true:=by
  constructor
  · rfl
  · rfl
theorem awake_any (W:World):Calls Tryz.prog 8 #[] W fun e w'=>e=.returned (.bool true)∧Below W.heap.size W w':=by
  have HN:Hid (∀ w:World,Calls Tryz.prog 9 #[] w fun e w'=>e=.returned (.pointer (some ⟨w.heap.size+1,0,none⟩))∧(∃ vp pv,HW w' w.heap.size (w.heap.size+1) w.heap.size P3 vp pv)∧Below w.heap.size w w'):=new_any
  have HL:Hid (∀ (w:World) (N b mb:Nat) (vp:Value) (pv:List PV),HW w N b mb P3 vp pv→Calls Tryz.prog 11 #[.pointer (some ⟨b,0,none⟩)] w fun e w'=>e=.returned (.int .i64 3)∧w'=w):=fun w N b mb vp pv h=>len_any N b mb P3 vp pv w h
  have HY:Hid (∀ (w:World) (N b mb:Nat) (vp:Value) (pv:List PV),HW w N b mb P3 vp pv→Calls Tryz.prog 12 #[.pointer (some ⟨b,0,none⟩),.string tClo] w fun e w'=>e=.returned (.tuple #[.int .i64 1,.int .i64 0])∧Below w.heap.size w w'):=fun w N b mb vp pv h=>(byName_any N b mb P3 vp pv tClo (by decide) w h).mono (by
    rintro e w' ⟨⟨c,hc,he⟩,hb⟩
    refine ⟨?_,hb⟩
    rw [nums3.2,if_pos rfl] at he
    rw [nums3.1] at hc
    injection hc with h1
    injection h1 with _ h2
    rw [he,h2])
  go_enter Tryz.func8,Tryz.ntmps8
  go_wp2_with (first
    | (go_at_call 9;refine (HN.out _).mono ?_;rintro e w1 ⟨rfl,⟨vp,pv,hw⟩,hb⟩;have H1:Hid (HW w1 W.heap.size (W.heap.size+1) W.heap.size P3 vp pv):=hw;have B1:Hid (Below W.heap.size W w1):=hb;clear hw hb HN)
    | (go_at_call 11;refine (HL.out _ _ _ _ _ _ H1.out).mono ?_;rintro e w9 ⟨rfl,hw9⟩;rw [hw9];clear hw9 w9 HL)
    | (go_at_call 12;refine (HY.out _ _ _ _ _ _ H1.out).mono ?_;rintro e w2 ⟨rfl,hb⟩;have B2:Hid (Below W.heap.size W w2):=bstep B1.out hb;clear hb HY))
  exact bodyPost_ret (results_tmp rfl _ _ _) rfl ⟨rfl,B2.out⟩
theorem HW.at {w:World} {N b mb:Nat} {ps:List Plc} {vp:Value} {pv:List PV} (h:HW w N b mb ps vp pv) {k:Nat} {q:Plc} (hk:ps[k]?=some q) :
    ∃ g cap p,vp=.slice (some ⟨g,0,none⟩) ps.length cap∧PlcAt w N p q∧∀ j,j<8→w.cell? ⟨g,k * 8+j,none⟩=(pvC p)[j]?:=by
  have hkl:=(List.getElem?_eq_some_iff.1 hk).1
  obtain ⟨p,hp⟩:∃ p,pv[k]?=some p:=⟨_,List.getElem?_eq_getElem (by rw [h.len];exact hkl)⟩
  obtain ⟨g,cap,rfl⟩:=Go.Joins.ownsRow_form h.row (by rw [h.len];omega)
  refine ⟨g,cap,p,by rw [h.len],h.pl k p q hp hk,fun j hj=>?_⟩
  rw [h.row.cellAt (k * 8+j) (by rw [h.len];omega)]
  exact flatP_at pv k p hp j hj
theorem has_yes {W:World} {N b mb:Nat} {ps:List Plc} {vp:Value} {pv:List PV} (h:HW W N b mb ps vp pv) (k:Nat) (hk:k<ps.length):Calls Tryz.prog 60 #[.pointer (some ⟨b,0,none⟩),.int .i64 (k:Int)] W fun e w'=>e=.returned (.bool true)∧w'=W:=by
  obtain ⟨a,c,e⟩:=ownv h.row
  rw [h.len] at e
  have hb:=h.hb
  rw [e] at hb
  refine (whas_any b ps.length a c _ (k:Int) W hb).mono ?_
  rintro e w' ⟨rfl,rfl⟩
  exact ⟨by rw [decide_eq_true (Int.natCast_nonneg k),decide_eq_true (by omega)];rfl,rfl⟩
theorem has_no {W:World} {N b mb:Nat} {ps:List Plc} {vp:Value} {pv:List PV} (h:HW W N b mb ps vp pv) (i:Int) (hi:¬ (0≤i∧i<ps.length)):Calls Tryz.prog 60 #[.pointer (some ⟨b,0,none⟩),.int .i64 i] W fun e w'=>e=.returned (.bool false)∧w'=W:=by
  obtain ⟨a,c,e⟩:=ownv h.row
  rw [h.len] at e
  have hb:=h.hb
  rw [e] at hb
  refine (whas_any b ps.length a c _ i W hb).mono ?_
  rintro e w' ⟨rfl,rfl⟩
  refine ⟨?_,rfl⟩
  by_cases h0:0≤i
  · rw [decide_eq_false (fun h1=>hi ⟨h0,h1⟩),Bool.and_false]
  · rw [decide_eq_false h0];rfl
theorem closure_no (N b mb:Nat) (ps:List Plc) (vp:Value) (pv:List PV) (i:Int) (W:World) (h:HW W N b mb ps vp pv) (hi:¬ (0≤i∧i<ps.length)):Calls Tryz.prog 15 #[.pointer (some ⟨b,0,none⟩),.int .i64 i] W fun e w'=>e=.returned (.tuple #[.slice none 0 0,.int .i64 3])∧w'=W:=by
  have HX:Hid (Calls Tryz.prog 60 #[.pointer (some ⟨b,0,none⟩),.int .i64 i] W fun e w'=>e=.returned (.bool false)∧w'=W):=has_no h i hi
  clear h hi
  go_enter Tryz.func15,Tryz.ntmps15
  go_wp2_with (go_at_call 60;refine HX.out.mono ?_;rintro e w9 ⟨rfl,hw9⟩;rw [hw9];clear hw9 w9)
  exact bodyPost_ret (results_tmp2 rfl _ _ _) rfl ⟨rfl,rfl⟩
theorem closure_yes (N b mb:Nat) (ps:List Plc) (vp:Value) (pv:List PV) (k:Nat) (q:Plc) (W:World) (h:HW W N b mb ps vp pv) (hq:ps[k]?=some q) (hn:ps.length≤300):Calls Tryz.prog 15 #[.pointer (some ⟨b,0,none⟩),.int .i64 (k:Int)] W fun e w'=>∃ v,e=.returned (.tuple #[v,.int .i64 0])∧w'.ownsRow W.heap.size 3 1 v q.cl.length (q.cl.map numV)∧Below W.heap.size W w':=by
  have hkl:=(List.getElem?_eq_some_iff.1 hq).1
  have HX:Hid (Calls Tryz.prog 60 #[.pointer (some ⟨b,0,none⟩),.int .i64 (k:Int)] W fun e w'=>e=.returned (.bool true)∧w'=W):=has_yes h k hkl
  have hwf:=h.wf q (List.mem_of_getElem? hq)
  have hcl:=nodup_lt_len _ _ hwf.2 hwf.1
  obtain ⟨g,cap,p,rfl,hpl,hcell⟩:=h.at hq
  have b0:=cell_of_row W b 0 _ _ _ h.hb
  simp only [List.getElem?_toArray,List.getElem?_cons_zero] at b0
  have c7:W.cell? ⟨g,k * 8+7,none⟩=some p.vc:=hcell 7 (by omega)
  have HC:Hid (Calls Tryz.prog 64 #[p.vc] W fun e w'=>∃ v',e=.returned v'∧w'.ownsRow W.heap.size 3 1 v' q.cl.length (q.cl.map numV)∧Below W.heap.size W w'):=copyN_any p.vc _ _ W (own_rds hpl.clo) (fun u hu=>by obtain ⟨x,_,rfl⟩:=List.mem_map.1 hu;rfl) (by omega)
  have hkI:(k:Int)<(ps.length:Int):=by omega
  clear hcell hpl hq h hwf
  go_enter Tryz.func15,Tryz.ntmps15
  go_wp2_with (first
    | (go_at_call 60;refine HX.out.mono ?_;rintro e w9 ⟨rfl,hw9⟩;rw [hw9];clear hw9 w9)
    | (go_at_call 64;refine HC.out.mono ?_;rintro e w1 ⟨v',rfl,hown,hb⟩;obtain ⟨a',c',rfl⟩:=ownv hown;have O1:Hid _:=hown;have B1:Hid _:=hb;clear hown hb HC))
  exact bodyPost_ret (results_tmp2 rfl _ _ _) rfl ⟨_,rfl,O1.out,B1.out⟩
def ifB (fl:Int):Bool:=bits .and .i64 fl 512 != 0
theorem isIface_any (nm su:ByteArray) (fl ld:Int) (vi vm:Value) (W:World):Calls Tryz.prog 114 #[.agg #[.string nm,.string su,vi,.int .i64 fl,.int .i64 ld,vm]] W fun e w'=>e=.returned (.bool (ifB fl))∧Below W.heap.size W w':=by
  go_enter Tryz.func114,Tryz.ntmps114
  go_wp2
  exact bodyPost_ret (results_tmp rfl _ _ _) rfl ⟨rfl,(Below.refl _ _).alloc (Nat.le_refl _) _⟩
theorem isIfaceW_yes (N b mb:Nat) (ps:List Plc) (vp:Value) (pv:List PV) (k:Nat) (q:Plc) (W:World) (h:HW W N b mb ps vp pv) (hq:ps[k]?=some q):Calls Tryz.prog 113 #[.pointer (some ⟨b,0,none⟩),.int .i64 (k:Int)] W fun e w'=>e=.returned (.bool (ifB q.c.fl))∧Below W.heap.size W w':=by
  have hkl:=(List.getElem?_eq_some_iff.1 hq).1
  have HX:Hid (Calls Tryz.prog 60 #[.pointer (some ⟨b,0,none⟩),.int .i64 (k:Int)] W fun e w'=>e=.returned (.bool true)∧w'=W):=has_yes h k hkl
  obtain ⟨g,cap,p,rfl,hpl,hcell⟩:=h.at hq
  have b0:=cell_of_row W b 0 _ _ _ h.hb
  simp only [List.getElem?_toArray,List.getElem?_cons_zero] at b0
  have c0:W.cell? ⟨g,k * 8,none⟩=some (.string p.nm):=hcell 0 (by omega)
  have c1:W.cell? ⟨g,k * 8+1,none⟩=some (.string p.su):=hcell 1 (by omega)
  have c2:W.cell? ⟨g,k * 8+2,none⟩=some p.vi:=hcell 2 (by omega)
  have c3:W.cell? ⟨g,k * 8+3,none⟩=some (.int .i64 p.fl):=hcell 3 (by omega)
  have c4:W.cell? ⟨g,k * 8+4,none⟩=some (.int .i64 p.ld):=hcell 4 (by omega)
  have c5:W.cell? ⟨g,k * 8+5,none⟩=some p.vm:=hcell 5 (by omega)
  have HI:Hid (∀ w:World,Calls Tryz.prog 114 #[.agg #[.string p.nm,.string p.su,p.vi,.int .i64 p.fl,.int .i64 p.ld,p.vm]] w fun e w'=>e=.returned (.bool (ifB q.c.fl))∧Below w.heap.size w w'):=fun w=>by rw [← hpl.fl];exact isIface_any p.nm p.su p.fl p.ld p.vi p.vm w
  have hkI:(k:Int)<(ps.length:Int):=by omega
  clear hcell hpl hq h
  go_enter Tryz.func113,Tryz.ntmps113
  go_wp2_with (first
    | (go_at_call 60;refine HX.out.mono ?_;rintro e w9 ⟨rfl,hw9⟩;rw [hw9];clear hw9 w9 HX)
    | (go_at_call 114;refine (HI.out _).mono ?_;rintro e w1 ⟨rfl,hb⟩;have B1:Hid (Below W.heap.size W w1):=hb;clear hb HI))
  exact bodyPost_ret (results_tmp rfl _ _ _) rfl ⟨rfl,B1.out⟩
structure PlcB (q:Plc):Prop where
  ni:q.c.ni≤1000000
  xi:∀ u∈q.c.xi,u.oneCell'=true
  ms:q.c.ms.length≤1000000
  cd:∀ m∈q.c.ms,(∀ u∈m.xs,u.oneCell'=true)∧m.n≤1000000
  nm:q.c.nm.size≤maxLen
theorem halloc1 (w:World) (o:Obj):(w.alloc o).heap[w.heap.size]?=some o:=by unfold World.alloc;simp
theorem OwnC.setCell {w:World} {N:Nat} {vi:Value} {ni:Nat} {xi:List Value} {vm:Value} {qm:List (HM×Value)} (h:OwnC w N vi ni xi vm qm) {a:Addr} (ha:a.block<N) (v:Value):OwnC (w.setCell a v) N vi ni xi vm qm :=
  ⟨ownsRow_setCell_below h.ifs ha _,ownsRow_setCell_below h.ms ha _,fun x hx=>ownsRow_setCell_below (h.cod x hx) ha _⟩
theorem OwnC.le {w:World} {N M:Nat} {vi:Value} {ni:Nat} {xi:List Value} {vm:Value} {qm:List (HM×Value)} (h:OwnC w N vi ni xi vm qm) (hM:M≤N):OwnC w M vi ni xi vm qm :=
  ⟨Go.Joins.ownsRow_le h.ifs hM,Go.Joins.ownsRow_le h.ms hM,fun x hx=>Go.Joins.ownsRow_le (h.cod x hx) hM⟩
theorem class_no (N b mb:Nat) (ps:List Plc) (vp:Value) (pv:List PV) (i:Int) (W:World) (h:HW W N b mb ps vp pv) (hi:¬ (0≤i∧i<ps.length)):Calls Tryz.prog 13 #[.pointer (some ⟨b,0,none⟩),.int .i64 i] W fun e w'=>e=.returned (.tuple #[.agg #[.string ⟨#[]⟩,.string ⟨#[]⟩,.slice none 0 0,.int .i64 0,.int .i64 0,.slice none 0 0],.int .i64 3])∧Below W.heap.size W w':=by
  have HX:Hid (∀ w:World,Below W.heap.size W w→Calls Tryz.prog 60 #[.pointer (some ⟨b,0,none⟩),.int .i64 i] w fun e w'=>e=.returned (.bool false)∧w'=w):=fun w hb=>has_no (h.below hb) i hi
  clear h hi
  go_enter Tryz.func13,Tryz.ntmps13
  go_wp2_with (go_at_call 60;refine (HX.out _ ((Below.refl _ _).alloc (Nat.le_refl _) _)).mono ?_;rintro e w9 ⟨rfl,hw9⟩;rw [hw9];clear hw9 w9)
  refine bodyPost_ret (v:=.tuple #[.agg #[.string ⟨#[]⟩,.string ⟨#[]⟩,.slice none 0 0,.int .i64 0,.int .i64 0,.slice none 0 0],.int .i64 3]) (by simp [results,Tryz.results13,go_sem]) rfl ⟨rfl,?_⟩
  repeat (first|exact Below.refl _ _|refine Below.setCell ?_ (by simp;try omega) _|refine Below.alloc ?_ (by simp;try omega) _)
theorem class_yes (N b mb:Nat) (ps:List Plc) (vp:Value) (pv:List PV) (k:Nat) (q:Plc) (W:World) (h:HW W N b mb ps vp pv) (hq:ps[k]?=some q) (hB:PlcB q):Calls Tryz.prog 13 #[.pointer (some ⟨b,0,none⟩),.int .i64 (k:Int)] W fun e w'=>∃ vi vm qm,e=.returned (.tuple #[.agg #[.string q.c.nm,.string q.c.su,vi,.int .i64 q.c.fl,.int .i64 q.c.ld,vm],.int .i64 0])∧OwnC w' W.heap.size vi q.c.ni q.c.xi vm qm∧qm.map Prod.fst=q.c.ms∧Below W.heap.size W w':=by
  have hkl:=(List.getElem?_eq_some_iff.1 hq).1
  have HX:Hid (∀ w:World,Below W.heap.size W w→Calls Tryz.prog 60 #[.pointer (some ⟨b,0,none⟩),.int .i64 (k:Int)] w fun e w'=>e=.returned (.bool true)∧w'=w):=fun w hb=>has_yes (h.below hb) k hkl
  obtain ⟨g,cap,p,rfl,hpl,hcell⟩:=h.at hq
  have b0:=cell_of_row W b 0 _ _ _ h.hb
  simp only [List.getElem?_toArray,List.getElem?_cons_zero] at b0
  obtain ⟨qm,hqm,hoc⟩:=hpl.own
  obtain ⟨ai,ci,hvi⟩:=ownv hoc.ifs
  obtain ⟨am,cm,hvm⟩:=ownv hoc.ms
  have c0:W.cell? ⟨g,k * 8,none⟩=some (.string q.c.nm):=by rw [← hpl.nm];exact hcell 0 (by omega)
  have c1:W.cell? ⟨g,k * 8+1,none⟩=some (.string q.c.su):=by rw [← hpl.su];exact hcell 1 (by omega)
  have c2:W.cell? ⟨g,k * 8+2,none⟩=some (.slice ai q.c.ni ci):=by rw [← hvi];exact hcell 2 (by omega)
  have c3:W.cell? ⟨g,k * 8+3,none⟩=some (.int .i64 q.c.fl):=by rw [← hpl.fl];exact hcell 3 (by omega)
  have c4:W.cell? ⟨g,k * 8+4,none⟩=some (.int .i64 q.c.ld):=by rw [← hpl.ld];exact hcell 4 (by omega)
  have c5:W.cell? ⟨g,k * 8+5,none⟩=some (.slice am qm.length cm):=by rw [← hvm];exact hcell 5 (by omega)
  have hlen:qm.length=q.c.ms.length:=by rw [← hqm];simp
  have HC:Hid (∀ w:World,Below W.heap.size W w→Calls Tryz.prog 61 #[.agg #[.string q.c.nm,.string q.c.su,.slice ai q.c.ni ci,.int .i64 q.c.fl,.int .i64 q.c.ld,.slice am qm.length cm]] w fun e w'=>∃ vi' vm' qm',e=.returned (.agg #[.string q.c.nm,.string q.c.su,vi',.int .i64 q.c.fl,.int .i64 q.c.ld,vm'])∧OwnC w' w.heap.size vi' q.c.ni q.c.xi vm' qm'∧qm'.map Prod.fst=q.c.ms∧Below w.heap.size w w'):=by
    intro w hb
    rw [← hvi,← hvm,← hqm]
    refine copyC_any _ _ _ _ p.vi p.vm q.c.ni q.c.xi qm w ((own_rds hoc.ifs).keep hb) hB.xi hB.ni ((own_rds hoc.ms).keep hb) (by rw [hlen];exact hB.ms) (fun x hx=>⟨(own_rds (hoc.cod x hx)).keep hb,?_⟩)
    exact hB.cd x.1 (by rw [← hqm];exact List.mem_map_of_mem hx)
  have hkI:(k:Int)<(ps.length:Int):=by omega
  have hlt:b<W.heap.size:=(Array.getElem?_eq_some_iff.1 h.hb).1
  have hlm:¬ b=W.heap.size:=by omega
  have hgl:g<W.heap.size:=World.block_lt_of_cell? W _ c0
  have hgm:¬ g=W.heap.size:=by omega
  clear hcell hpl hq h hB hoc hvi hvm hqm hlen
  go_enter Tryz.func13,Tryz.ntmps13
  go_wp2_with (first
    | (go_at_call 60;refine (HX.out _ ((Below.refl _ _).alloc (Nat.le_refl _) _)).mono ?_;rintro e w9 ⟨rfl,hw9⟩;rw [hw9];clear hw9 w9)
    | (go_at_call 61;refine (HC.out _ ((Below.refl _ _).alloc (Nat.le_refl _) _)).mono ?_;rintro e w1 ⟨vi',vm',qm',rfl,hown,hqm,hb⟩;obtain ⟨a',c',rfl⟩:=ownv hown.ifs;obtain ⟨a2,c2,rfl⟩:=ownv hown.ms;have O1:Hid (OwnC w1 (W.heap.size+1) (.slice a' q.c.ni c') q.c.ni q.c.xi (.slice a2 qm'.length c2) qm'):=hown.le (by simp);have B1:Hid (Below W.heap.size W w1):=bstep ((Below.refl _ _).alloc (Nat.le_refl _) _) hb;have Q1:Hid _:=hqm;have h0:=(hb.block W.heap.size (by simp)).trans (halloc1 W _);have r0:=cell_of_row w1 W.heap.size 0 _ _ _ h0;have y0:=frozen_of_row w1 W.heap.size 0 _ _ h0;have r1:=cell_of_row w1 W.heap.size 1 _ _ _ h0;have y1:=frozen_of_row w1 W.heap.size 1 _ _ h0;have r2:=cell_of_row w1 W.heap.size 2 _ _ _ h0;have y2:=frozen_of_row w1 W.heap.size 2 _ _ h0;have r3:=cell_of_row w1 W.heap.size 3 _ _ _ h0;have y3:=frozen_of_row w1 W.heap.size 3 _ _ h0;have r4:=cell_of_row w1 W.heap.size 4 _ _ _ h0;have y4:=frozen_of_row w1 W.heap.size 4 _ _ h0;have r5:=cell_of_row w1 W.heap.size 5 _ _ _ h0;have y5:=frozen_of_row w1 W.heap.size 5 _ _ h0;simp only [List.getElem?_toArray,List.getElem?_cons_zero,List.getElem?_cons_succ] at r0 r1 r2 r3 r4 r5;clear hown hb hqm HC h0))
  refine bodyPost_ret (v:=.tuple #[.agg #[.string q.c.nm,.string q.c.su,.slice a' q.c.ni c',.int .i64 q.c.fl,.int .i64 q.c.ld,.slice a2 qm'.length c2],.int .i64 0]) (by simp [results,Tryz.results13,go_sem, *]) rfl ⟨_,_,qm',rfl,?_,Q1.out,?_⟩
  · refine OwnC.le (N:=W.heap.size+1) ?_ (by omega)
    repeat (refine OwnC.setCell ?_ (by simp) _)
    exact O1.out
  · repeat (refine Below.setCell ?_ (by simp) _)
    exact B1.out
end Go.Proofs.YtfjekhmnjfcbeaaGreat
