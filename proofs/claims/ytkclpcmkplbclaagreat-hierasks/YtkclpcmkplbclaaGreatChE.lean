import Derived.Test.YtkclpcmkplbclaaGreatRfN
import Derived.Test.YtkclpcmkplbclaaGreatMxA
import Derived.Test.YtkclpcmkplbclaaGreatRfF
import Derived.Test.YtkclpcmkplbclaaGreatHrX
import Derived.Test.YtkclpcmkplbclaaGreatHrH
import Derived.Test.YtkclpcmkplbclaaGreatTys
import Derived.Test.YtkclpcmkplbclaaGreatTypesRef
import Derived.Test.YtkclpcmkplbclaaGreatSoD
import Derived.Test.YtkclpcmkplbclaaGreatHrZ
import Derived.Test.YtkclpcmkplbclaaGreatOwnC
import Derived.Test.YtkclpcmkplbclaaGreatHrR
import Derived.BigQuiet
import Derived.Lib.SliceRun
import Derived.Shelf.RegionOpen
import Derived.Laws.IdiomStrings
import Derived.Deep.LoopGhost
import Derived.Deep.DeepCutAuto
import Derived.Laws.AppendOwn
import Derived.Lib.SmallJoins
import Derived.Deep.AppendLies
set_option maxRecDepth 100000
namespace Go.Proofs.YtkclpcmkplbclaaGreat
open Go.RowKit Go.Maps
theorem findM_H (nm ds:ByteArray):∀ (l:List Mth) (k:Nat),findM nm ds l k=findH nm ds (l.map hmOf) k
  | [],_=>rfl
  | m::r,k=>by
    rw [findM,List.map_cons,findH,findM_H nm ds r (k+1)]
    rfl
set_option maxHeartbeats 1000000 in
theorem rFind_c {b:Nat} {cs:List Cls} {ps:List Plc} {W:World} (h:RAt b cs W) (ht:TwW cs ps) (x:Int) (nm ds:ByteArray):Calls Tryz.prog 52 #[.pointer (some ⟨b,0,none⟩),.int .i64 x,.string nm,.string ds] W fun e w'=>e=.returned (.tuple #[.int .i64 (fndI ps x nm ds).1,.int .i64 (fndI ps x nm ds).2])∧Below W.heap.size W w':=by
  have HI:Hid (Calls Tryz.prog 84 #[.pointer (some ⟨b,0,none⟩),.int .i64 x] W fun e w'=>e=.returned (.bool (plcI ps x).isSome)∧w'=W):=rIn_t h ht x
  rcases ht.tw.clsI x with ⟨h1,h2⟩|⟨k,c,q,rfl,hc,hq,hcq,h1,h2⟩
  · have e:fndI ps x nm ds=(0,3):=by rw [fndI,h2]
    rw [e]
    rw [h2] at HI
    clear h ht h1 h2 e
    go_enter Tryz.func52,Tryz.ntmps52
    go_wp2_with (go_at_call 84;refine HI.out.mono ?_;rintro e w9 ⟨rfl,hw9⟩;rw [hw9];clear hw9 w9)
    exact bodyPost_ret (results_tmp2 rfl _ _ _) rfl ⟨rfl,Below.refl _ _⟩
  · have e:fndI ps k nm ds=if findM nm ds c.ms 0<0 then (0,6) else (findM nm ds c.ms 0,0):=by
      rw [fndI,h2]
      simp only
      have:q.c.ms=c.ms.map hmOf:=by rw [hcq];rfl
      rw [this,← findM_H]
    rw [e]
    rw [h2] at HI
    simp only [Option.isSome_some] at HI
    obtain ⟨g,cap,vi,vm,b0,hlt,hgl,c0,c1,c2,c3,c4,c5,hIs,hMs⟩:=RAt.cells h hc
    obtain ⟨ai,ci,rfl⟩:=strs_slice hIs
    have HF:Hid (∀ cn cu cf cl,Calls Tryz.prog 101 #[.agg #[.string cn,.string cu,.slice ai c.ifs.length ci,.int .i64 cf,.int .i64 cl,vm],.string nm,.string ds] W fun e w'=>e=.returned (.int .i64 (findM nm ds c.ms 0))∧Below W.heap.size W w'):=fun cn cu cf cl=>rFind_any cn cu _ cf cl vm c.ms nm ds W hMs
    obtain ⟨am,cm,rfl⟩:=mths_slice hMs
    have hkI:(k:Int)<(cs.length:Int):=by have:=(List.getElem?_eq_some_iff.1 hc).1;omega
    generalize findM nm ds c.ms 0=F at *
    clear h ht h1 h2 e hc hq hcq hIs hMs
    by_cases hF:F<0
    · rw [if_pos hF]
      go_enter Tryz.func52,Tryz.ntmps52
      go_wp2_with (first
        | (go_at_call 84;refine HI.out.mono ?_;rintro e w9 ⟨rfl,hw9⟩;rw [hw9];clear hw9 w9)
        | (go_at_call 101;refine (HF.out _ _ _ _).mono ?_;rintro e w1 ⟨rfl,hb⟩;have B1:Hid (Below W.heap.size W w1):=hb;clear hb HF))
      exact bodyPost_ret (results_tmp2 rfl _ _ _) rfl ⟨rfl,B1.out⟩
    · rw [if_neg hF]
      have hF2:0≤F:=by omega
      go_enter Tryz.func52,Tryz.ntmps52
      go_wp2_with (first
        | (go_at_call 84;refine HI.out.mono ?_;rintro e w9 ⟨rfl,hw9⟩;rw [hw9];clear hw9 w9)
        | (go_at_call 101;refine (HF.out _ _ _ _).mono ?_;rintro e w1 ⟨rfl,hb⟩;have B1:Hid (Below W.heap.size W w1):=hb;clear hb HF))
      exact bodyPost_ret (results_tmp2 rfl _ _ _) rfl ⟨rfl,B1.out⟩
theorem rClosure_yes {b:Nat} {cs:List Cls} {ps:List Plc} {W:World} (h:RAt b cs W) (ht:TwW cs ps) (hJ:WJ ps) (k:Nat) (q:Plc) (hq:ps[k]?=some q):Calls Tryz.prog 46 #[.pointer (some ⟨b,0,none⟩),.int .i64 (k:Int)] W fun e w'=>(∃ v,e=.returned (.tuple #[v,.int .i64 0])∧w'.ownsRow W.heap.size 3 1 v q.cl.length (q.cl.map numV))∧Below W.heap.size W w':=by
  have hkl:=(List.getElem?_eq_some_iff.1 hq).1
  have hcl:clO (ps.map nd) k=q.cl:=by rw [clO,nd_at' hq];rfl
  have HI:Hid (Calls Tryz.prog 84 #[.pointer (some ⟨b,0,none⟩),.int .i64 (k:Int)] W fun e w'=>e=.returned (.bool true)∧w'=W):=(rIn_t h ht k).mono fun e w' zz=>⟨by rw [zz.1,plcI_nat,hq];rfl,zz.2⟩
  have HG:Hid (∀ w,Below W.heap.size W w→Calls Tryz.prog 95 #[.pointer (some ⟨b,0,none⟩),.int .i64 (k:Int),.slice none 0 0] w fun e w'=>(∃ v',e=.returned v'∧w'.ownsRow W.heap.size 3 1 v' q.cl.length (q.cl.map numV))∧Below W.heap.size W w'):=fun w hb=>by
    have:=rGather_any h ht hJ k hkl w (.slice none 0 0) [] hb (World.ownsRow_nil _ _ _ _) (ClL.nil ps)
    rw [take_nil _ (cl_nodup ht.wi.wo k),hcl] at this
    exact this
  generalize q.cl.length=n at *
  generalize q.cl.map numV=xs at *
  clear h ht hJ hq hkl hcl
  go_enter Tryz.func46,Tryz.ntmps46
  go_wp2_with (first
    | (go_at_call 84;refine HI.out.mono ?_;rintro e w9 ⟨rfl,hw9⟩;rw [hw9];clear hw9 w9)
    | (go_at_call 95;refine (HG.out _ (Below.refl _ _)).mono ?_;rintro e w1 ⟨⟨v,rfl,ho⟩,hb⟩;obtain ⟨a1,c1,rfl⟩:=ownv ho;have O1:Hid (w1.ownsRow W.heap.size 3 1 (.slice a1 n c1) n xs):=ho;have B1:Hid (Below W.heap.size W w1):=hb;clear ho hb HG))
  exact bodyPost_ret (results_tmp2 rfl _ _ _) rfl ⟨⟨_,rfl,O1.out⟩,B1.out⟩
theorem rClosure_no {b:Nat} {cs:List Cls} {ps:List Plc} {W:World} (h:RAt b cs W) (ht:TwW cs ps) (x:Int) (hx:plcI ps x=none):Calls Tryz.prog 46 #[.pointer (some ⟨b,0,none⟩),.int .i64 x] W fun e w'=>e=.returned (.tuple #[.slice none 0 0,.int .i64 3])∧Below W.heap.size W w':=by
  have HI:Hid (Calls Tryz.prog 84 #[.pointer (some ⟨b,0,none⟩),.int .i64 x] W fun e w'=>e=.returned (.bool false)∧w'=W):=(rIn_t h ht x).mono fun e w' zz=>⟨by rw [zz.1,hx];rfl,zz.2⟩
  clear h ht hx
  go_enter Tryz.func46,Tryz.ntmps46
  go_wp2_with (go_at_call 84;refine HI.out.mono ?_;rintro e w9 ⟨rfl,hw9⟩;rw [hw9];clear hw9 w9)
  exact bodyPost_ret (results_tmp2 rfl _ _ _) rfl ⟨rfl,Below.refl _ _⟩
theorem wld_wj (l:List Cls) (hl:∀ c∈l,ClsW c):WI (wld l)∧WJ (wld l):=wld_ind (P:=fun ps=>WI ps∧WJ ps) ⟨wi3,wj3⟩ (fun _ c h hc=>⟨h.1.define c hc,WJ.define h.1 h.2 c hc⟩) l hl
theorem hkeep {w:World} {n:Nat} {x o:Obj} (h:w.heap[n]?=some x):(w.alloc o).heap[n]?=some x:=by
  have hb:Below w.heap.size w (w.alloc o):=(Below.refl _ w).alloc (Nat.le_refl _) _
  exact (hb.block n (Array.getElem?_eq_some_iff.1 h).1).trans h
theorem chL_len {ps:List Plc} (hi:WI ps) {k:Nat} (hk:k<ps.length):(chL (ps.map nd) k).length≤1000000:=by
  have:=ch_len hi.wo k (by simpa using hk)
  have:=hi.hi
  omega
theorem rChain_no6 {b:Nat} {cs:List Cls} {ps:List Plc} {W:World} (h:RAt b cs W) (ht:TwW cs ps) (c:Int) (hc:plcI ps c=none):Calls Tryz.prog 45 #[.pointer (some ⟨b,0,none⟩),.int .i64 c] W fun e w'=>e=.returned (.tuple #[.slice none 0 0,.int .i64 3])∧Below W.heap.size W w':=by
  have HI:Hid (∀ w,Below W.heap.size W w→Calls Tryz.prog 84 #[.pointer (some ⟨b,0,none⟩),.int .i64 c] w fun e w'=>e=.returned (.bool false)∧w'=w):=fun w hb=>(rIn_t (h.below hb) ht c).mono fun e w' zz=>⟨by rw [zz.1,hc];rfl,zz.2⟩
  clear h ht hc
  go_enter Tryz.func45,Tryz.ntmps45
  go_wp2_with (go_at_call 84;refine (HI.out _ (by repeat (first|exact Below.refl _ _|refine Below.setCell ?_ (by simp;try omega) _|refine Below.alloc ?_ (by simp;try omega) _|refine Below.drew ?_))).mono ?_;rintro e w9 ⟨rfl,hw9⟩;rw [hw9];clear hw9 w9)
  exact bodyPost_ret (results_tmp2 rfl _ _ _) rfl ⟨rfl,(by repeat (first|exact Below.refl _ _|refine Below.setCell ?_ (by simp;try omega) _|refine Below.alloc ?_ (by simp;try omega) _|refine Below.drew ?_))⟩
theorem rChain_r {b:Nat} {cs:List Cls} {ps:List Plc} {W:World} (h:RAt b cs W) (ht:TwW cs ps) (x:Int):Calls Tryz.prog 45 #[.pointer (some ⟨b,0,none⟩),.int .i64 x] W fun e w'=>NumsA (chR ps x) e w'∧Below W.heap.size W w':=by
  rcases plcI_cases ps x with ⟨hn,_⟩|⟨k,q,rfl,hk,hq⟩
  · refine (rChain_no6 h ht x hn).mono fun e w' zz=>⟨?_,zz.2⟩
    rw [zz.1,chR,hn]
    exact NumsA.nil 3 w'
  · refine (rChain_yes h ht k (List.getElem?_eq_some_iff.1 hk).1).mono ?_
    rintro e w' ⟨⟨v,rfl,ho⟩,hb⟩
    rw [chR,hq]
    exact ⟨NumsA.of ho,hb⟩
theorem rClosure_r {b:Nat} {cs:List Cls} {ps:List Plc} {W:World} (h:RAt b cs W) (ht:TwW cs ps) (hJ:WJ ps) (x:Int):Calls Tryz.prog 46 #[.pointer (some ⟨b,0,none⟩),.int .i64 x] W fun e w'=>NumsA (clR ps x) e w'∧Below W.heap.size W w':=by
  rcases plcI_cases ps x with ⟨hn,_⟩|⟨k,q,rfl,hk,hq⟩
  · refine (rClosure_no h ht x hn).mono fun e w' zz=>⟨?_,zz.2⟩
    rw [zz.1,clR,hn]
    exact NumsA.nil 3 w'
  · refine (rClosure_yes h ht hJ k q hk).mono ?_
    rintro e w' ⟨⟨v,rfl,ho⟩,hb⟩
    rw [clR,hq]
    exact ⟨NumsA.of ho,hb⟩
theorem rDepth_r {b:Nat} {cs:List Cls} {ps:List Plc} {W:World} (h:RAt b cs W) (ht:TwW cs ps) (x:Int):Calls Tryz.prog 44 #[.pointer (some ⟨b,0,none⟩),.int .i64 x] W fun e w'=>e=.returned (.tuple #[.int .i64 (dpI ps x).1,.int .i64 (dpI ps x).2])∧Below W.heap.size W w':=by
  have HC:Hid (∀ w,Below W.heap.size W w→Calls Tryz.prog 45 #[.pointer (some ⟨b,0,none⟩),.int .i64 x] w fun e w'=>NumsA (chR ps x) e w'∧Below w.heap.size w w'):=fun w hb=>rChain_r (h.below hb) ht x
  obtain ⟨l,E,hlE,hd,hl⟩:∃ l E,chR ps x=(l,E)∧((E=3∧dpI ps x=(0,3))∨(E=0∧dpI ps x=((l.length:Int) - 1,0)))∧l.length≤1000000:=by
    rcases plcI_cases ps x with ⟨hn,_⟩|⟨k,q,rfl,hk,hq⟩
    · exact ⟨[],3,by rw [chR,hn],.inl ⟨rfl,by rw [dpI,hn]⟩,by simp⟩
    · refine ⟨chL (ps.map nd) k,0,by rw [chR,hq];rfl,.inr ⟨rfl,by rw [dpI,hq];rfl⟩,?_⟩
      exact chL_len ht.wi (List.getElem?_eq_some_iff.1 hk).1
  rw [hlE] at HC
  obtain ⟨K,hK⟩:∃ K,l.length=K:=⟨_,rfl⟩
  have HC2:Hid (∀ w,Below W.heap.size W w→Calls Tryz.prog 45 #[.pointer (some ⟨b,0,none⟩),.int .i64 x] w fun e w'=>(∃ a c,e=.returned (.tuple #[.slice a K c,.int .i64 E]))∧Below w.heap.size w w'):=fun w hb=>(HC.out w hb).mono fun e w' zz=>⟨by obtain ⟨a,c,h1,_⟩:=zz.1;exact ⟨a,c,by rw [h1,← hK]⟩,zz.2⟩
  rw [hK] at hd hl
  clear h ht hlE HC hK
  rcases hd with ⟨rfl,e0⟩|⟨rfl,e0⟩
  all_goals
    rw [e0]
    clear e0
    go_enter Tryz.func44,Tryz.ntmps44
    go_wp2_with (go_at_call 45;refine (HC2.out _ (by repeat (first|exact Below.refl _ _|refine Below.setCell ?_ (by simp;try omega) _|refine Below.alloc ?_ (by simp;try omega) _|refine Below.drew ?_))).mono ?_;rintro e w1 ⟨⟨a,c,rfl⟩,hb⟩;have B1:Hid (Below W.heap.size W w1):=hb;clear hb HC2)
    exact bodyPost_ret (results_tmp2 rfl _ _ _) rfl ⟨rfl,B1.out⟩
theorem rw6 {w:World} {n:Nat} {t:TypeId} {a0 a1 a2 a3 a4 a5:Value} (h:w.heap[n]?=some (.cells #[a0,a1,a2,a3,a4,a5] t (0,0))):w.cell? ⟨n,0,none⟩=some a0∧w.cell? ⟨n,1,none⟩=some a1∧w.cell? ⟨n,2,none⟩=some a2∧w.cell? ⟨n,3,none⟩=some a3∧w.cell? ⟨n,4,none⟩=some a4∧w.cell? ⟨n,5,none⟩=some a5∧(∀ k,w.frozen? ⟨n,k,none⟩=false)∧n<w.heap.size :=
  ⟨(cell_of_row w n 0 _ _ _ h).trans rfl,(cell_of_row w n 1 _ _ _ h).trans rfl,(cell_of_row w n 2 _ _ _ h).trans rfl,(cell_of_row w n 3 _ _ _ h).trans rfl,(cell_of_row w n 4 _ _ _ h).trans rfl,(cell_of_row w n 5 _ _ _ h).trans rfl,fun k=>frozen_of_row w n k _ _ h,(Array.getElem?_eq_some_iff.1 h).1⟩
theorem kp6 {V w:World} {N n:Nat} {t:TypeId} {a0 a1 a2 a3 a4 a5:Value} (hb:Below N V w) (hn:n<N:=by first|omega|(simp;try omega)) (h:V.heap[n]?=some (.cells #[a0,a1,a2,a3,a4,a5] t (0,0)):=by first|exact Hid.out (by assumption)|exact hkeep (Hid.out (by assumption))|exact hkeep (hkeep (Hid.out (by assumption)))|exact halloc2 _ _ rfl|exact hkeep (halloc2 _ _ rfl)|exact hkeep (hkeep (halloc2 _ _ rfl))|exact halloc2 _ _ (by simp;done)):Hid (w.heap[n]?=some (.cells #[a0,a1,a2,a3,a4,a5] t (0,0)))∧w.cell? ⟨n,0,none⟩=some a0∧w.cell? ⟨n,1,none⟩=some a1∧w.cell? ⟨n,2,none⟩=some a2∧w.cell? ⟨n,3,none⟩=some a3∧w.cell? ⟨n,4,none⟩=some a4∧w.cell? ⟨n,5,none⟩=some a5∧(∀ k,w.frozen? ⟨n,k,none⟩=false)∧n<w.heap.size∧¬ n=w.heap.size:=by
  have h2:=(hb.block n hn).trans h
  obtain ⟨c0,c1,c2,c3,c4,c5,f,l⟩:=rw6 h2
  exact ⟨h2,c0,c1,c2,c3,c4,c5,f,l,by omega⟩
structure AsksA (w2:World) (b1 b2:Nat) (a b:Int) (nm ds:ByteArray) (s1 s2 d1 d2:Int) (X1:List Value) (n1:Nat) (E1:Int) (X2:List Value) (n2:Nat) (E2:Int) (ex ic sp:Bool) (f1 f2:Int) (mn md:ByteArray) (mf ml ms:Int) (mk:Nat) (code:List Ins) (E5 y1 y2:Int):Prop where
  HSu:∀ w,Below w2.heap.size w2 w→Calls Tryz.prog 27 #[.pointer (some ⟨b1,0,none⟩),.int .i64 a] w fun e w'=>(e=.returned (.tuple #[.int .i64 s1,.int .i64 s2]))∧Below w.heap.size w w'
  HDe:∀ w,Below w2.heap.size w2 w→Calls Tryz.prog 26 #[.pointer (some ⟨b1,0,none⟩),.int .i64 a] w fun e w'=>(e=.returned (.tuple #[.int .i64 d1,.int .i64 d2]))∧Below w.heap.size w w'
  HCh:∀ w,Below w2.heap.size w2 w→Calls Tryz.prog 25 #[.pointer (some ⟨b1,0,none⟩),.int .i64 a] w fun e w'=>(∃ sa sc,e=.returned (.tuple #[.slice sa n1 sc,.int .i64 E1])∧Rds w' (.slice sa n1 sc) n1 1 X1)∧Below w.heap.size w w'
  HCl:∀ w,Below w2.heap.size w2 w→Calls Tryz.prog 18 #[.pointer (some ⟨b1,0,none⟩),.int .i64 a] w fun e w'=>(∃ sa sc,e=.returned (.tuple #[.slice sa n2 sc,.int .i64 E2])∧Rds w' (.slice sa n2 sc) n2 1 X2)∧Below w.heap.size w w'
  HEx:∀ w,Below w2.heap.size w2 w→Calls Tryz.prog 20 #[.pointer (some ⟨b1,0,none⟩),.int .i64 a,.int .i64 b] w fun e w'=>(e=.returned (.bool ex))∧Below w.heap.size w w'
  HIf:∀ w,Below w2.heap.size w2 w→Calls Tryz.prog 21 #[.pointer (some ⟨b1,0,none⟩),.int .i64 a] w fun e w'=>(e=.returned (.bool ic))∧Below w.heap.size w w'
  HSp:∀ w,Below w2.heap.size w2 w→Calls Tryz.prog 49 #[.pointer (some ⟨b1,0,none⟩),.int .i64 a,.int .i64 b] w fun e w'=>(e=.returned (.bool sp))∧Below w.heap.size w w'
  HFi:∀ w,Below w2.heap.size w2 w→Calls Tryz.prog 51 #[.pointer (some ⟨b1,0,none⟩),.int .i64 a,.string nm,.string ds] w fun e w'=>(e=.returned (.tuple #[.int .i64 f1,.int .i64 f2]))∧Below w.heap.size w w'
  HMe:∀ w,Below w2.heap.size w2 w→Calls Tryz.prog 53 #[.pointer (some ⟨b1,0,none⟩),.agg #[.int .i64 a,.int .i64 b]] w fun e w'=>(∃ sa sc,e=.returned (.tuple #[.agg #[.string mn,.string md,.int .i64 mf,.int .i64 ml,.int .i64 ms,.slice sa mk sc],.int .i64 E5])∧IsInss w' (.slice sa mk sc) code)∧Below w.heap.size w w'
  HBy:∀ w,Below w2.heap.size w2 w→Calls Tryz.prog 56 #[.pointer (some ⟨b1,0,none⟩),.string nm] w fun e w'=>(e=.returned (.tuple #[.int .i64 y1,.int .i64 y2]))∧Below w.heap.size w w'
  RSu:∀ w,Below w2.heap.size w2 w→Calls Tryz.prog 43 #[.pointer (some ⟨b2,0,none⟩),.int .i64 a] w fun e w'=>(e=.returned (.tuple #[.int .i64 s1,.int .i64 s2]))∧Below w.heap.size w w'
  RDe:∀ w,Below w2.heap.size w2 w→Calls Tryz.prog 44 #[.pointer (some ⟨b2,0,none⟩),.int .i64 a] w fun e w'=>(e=.returned (.tuple #[.int .i64 d1,.int .i64 d2]))∧Below w.heap.size w w'
  RCh:∀ w,Below w2.heap.size w2 w→Calls Tryz.prog 45 #[.pointer (some ⟨b2,0,none⟩),.int .i64 a] w fun e w'=>(∃ sa sc,e=.returned (.tuple #[.slice sa n1 sc,.int .i64 E1])∧Rds w' (.slice sa n1 sc) n1 1 X1)∧Below w.heap.size w w'
  RCl:∀ w,Below w2.heap.size w2 w→Calls Tryz.prog 46 #[.pointer (some ⟨b2,0,none⟩),.int .i64 a] w fun e w'=>(∃ sa sc,e=.returned (.tuple #[.slice sa n2 sc,.int .i64 E2])∧Rds w' (.slice sa n2 sc) n2 1 X2)∧Below w.heap.size w w'
  REx:∀ w,Below w2.heap.size w2 w→Calls Tryz.prog 47 #[.pointer (some ⟨b2,0,none⟩),.int .i64 a,.int .i64 b] w fun e w'=>(e=.returned (.bool ex))∧Below w.heap.size w w'
  RIf:∀ w,Below w2.heap.size w2 w→Calls Tryz.prog 48 #[.pointer (some ⟨b2,0,none⟩),.int .i64 a] w fun e w'=>(e=.returned (.bool ic))∧Below w.heap.size w w'
  RSp:∀ w,Below w2.heap.size w2 w→Calls Tryz.prog 50 #[.pointer (some ⟨b2,0,none⟩),.int .i64 a,.int .i64 b] w fun e w'=>(e=.returned (.bool sp))∧Below w.heap.size w w'
  RFi:∀ w,Below w2.heap.size w2 w→Calls Tryz.prog 52 #[.pointer (some ⟨b2,0,none⟩),.int .i64 a,.string nm,.string ds] w fun e w'=>(e=.returned (.tuple #[.int .i64 f1,.int .i64 f2]))∧Below w.heap.size w w'
  RMe:∀ w,Below w2.heap.size w2 w→Calls Tryz.prog 54 #[.pointer (some ⟨b2,0,none⟩),.agg #[.int .i64 a,.int .i64 b]] w fun e w'=>(∃ sa sc,e=.returned (.tuple #[.agg #[.string mn,.string md,.int .i64 mf,.int .i64 ml,.int .i64 ms,.slice sa mk sc],.int .i64 E5])∧IsInss w' (.slice sa mk sc) code)∧Below w.heap.size w w'
  RBy:∀ w,Below w2.heap.size w2 w→Calls Tryz.prog 57 #[.pointer (some ⟨b2,0,none⟩),.string nm] w fun e w'=>(e=.returned (.tuple #[.int .i64 y1,.int .i64 y2]))∧Below w.heap.size w w'
set_option maxHeartbeats 8000000 in
theorem asks_w (v:Value) (W:World) (a b:Int) (nm ds:ByteArray) (s1 s2 d1 d2:Int) (X1:List Value) (n1:Nat) (E1:Int) (X2:List Value) (n2:Nat) (E2:Int) (ex ic sp:Bool) (f1 f2:Int) (mn md:ByteArray) (mf ml ms:Int) (mk:Nat) (code:List Ins) (E5 y1 y2:Int)
    (HA:Hid (∀ w,Calls Tryz.prog 41 #[] w fun e w'=>e=.returned (.bool true)∧Below w.heap.size w w'))
    (HB:Hid (∀ w,Below W.heap.size W w→Calls Tryz.prog 42 #[v] w fun e w'=>(∃ b1 b2,e=.returned (.tuple #[.pointer (some ⟨b1,0,none⟩),.pointer (some ⟨b2,0,none⟩),.bool true])∧AsksA w' b1 b2 a b nm ds s1 s2 d1 d2 X1 n1 E1 X2 n2 E2 ex ic sp f1 f2 mn md mf ml ms mk code E5 y1 y2)∧Below w.heap.size w w'))
    (HN1:Hid (∀ w u1 u2,Rds w u1 n1 1 X1→Rds w u2 n1 1 X1→Calls Tryz.prog 28 #[u1,u2] w fun e w'=>e=.returned (.bool true)∧Below w.heap.size w w'))
    (HN2:Hid (∀ w u1 u2,Rds w u1 n2 1 X2→Rds w u2 n2 1 X2→Calls Tryz.prog 28 #[u1,u2] w fun e w'=>e=.returned (.bool true)∧Below w.heap.size w w'))
    (HSM:Hid (∀ w u1 u2,IsInss w u1 code→IsInss w u2 code→Calls Tryz.prog 55 #[.agg #[.string mn,.string md,.int .i64 mf,.int .i64 ml,.int .i64 ms,u1],.agg #[.string mn,.string md,.int .i64 mf,.int .i64 ml,.int .i64 ms,u2]] w fun e w'=>e=.returned (.bool true)∧Below w.heap.size w w')) :
    Calls Tryz.prog 10 #[v,.int .i64 a,.int .i64 b,.string nm,.string ds] W fun e w'=>e=.returned (.bool true)∧Below W.heap.size W w':=by
  go_enter Tryz.func10,Tryz.ntmps10
  go_wp2_with (first
    | (go_at_call 41;refine (HA.out _).mono ?_;rintro e w1 ⟨rfl,hb⟩;have B1:Hid (Below W.heap.size W w1):=hb;clear hb HA)
    | (go_at_call 42;refine (HB.out _ B1.out).mono ?_;rintro e w2 ⟨⟨b1,b2,rfl,hq⟩,hb⟩;have QA:Hid (AsksA w2 b1 b2 a b nm ds s1 s2 d1 d2 X1 n1 E1 X2 n2 E2 ex ic sp f1 f2 mn md mf ml ms mk code E5 y1 y2):=hq;have B2:Hid (Below W.heap.size W w2):=bstep B1.out hb;have BB:Hid (Below w2.heap.size w2 w2):=Below.refl _ _;clear hb hq HB B1)
    | (go_at_call 27;refine (QA.out.HSu _ BB.out).mono ?_;rintro e w3 ⟨rfl,hb⟩;have BB9:=BB.out.trans (hb.mono BB.out.size);clear BB;have BB:Hid (Below w2.heap.size w2 w3):=BB9;clear BB9;clear hb)
    | (go_at_call 26;refine (QA.out.HDe _ BB.out).mono ?_;rintro e w3 ⟨rfl,hb⟩;have BB9:=BB.out.trans (hb.mono BB.out.size);clear BB;have BB:Hid (Below w2.heap.size w2 w3):=BB9;clear BB9;clear hb)
    | (go_at_call 25;refine (QA.out.HCh _ BB.out).mono ?_;rintro e w3 ⟨⟨sa,sc,rfl,hr⟩,hb⟩;have P1:Hid (Rds w3 _ n1 1 X1):=hr;have BB9:=BB.out.trans (hb.mono BB.out.size);clear BB;have BB:Hid (Below w2.heap.size w2 w3):=BB9;clear BB9;clear hr hb)
    | (go_at_call 18;refine (QA.out.HCl _ BB.out).mono ?_;rintro e w3 ⟨⟨sa,sc,rfl,hr⟩,hb⟩;have P3:Hid (Rds w3 _ n2 1 X2):=hr;have BB9:=BB.out.trans (hb.mono BB.out.size);clear BB;have BB:Hid (Below w2.heap.size w2 w3):=BB9;clear BB9;clear hr hb)
    | (go_at_call 20;refine (QA.out.HEx _ BB.out).mono ?_;rintro e w3 ⟨rfl,hb⟩;have BB9:=BB.out.trans (hb.mono BB.out.size);clear BB;have BB:Hid (Below w2.heap.size w2 w3):=BB9;clear BB9;clear hb)
    | (go_at_call 21;refine (QA.out.HIf _ BB.out).mono ?_;rintro e w3 ⟨rfl,hb⟩;have BB9:=BB.out.trans (hb.mono BB.out.size);clear BB;have BB:Hid (Below w2.heap.size w2 w3):=BB9;clear BB9;clear hb)
    | (go_at_call 49;refine (QA.out.HSp _ BB.out).mono ?_;rintro e w3 ⟨rfl,hb⟩;have BB9:=BB.out.trans (hb.mono BB.out.size);clear BB;have BB:Hid (Below w2.heap.size w2 w3):=BB9;clear BB9;clear hb)
    | (go_at_call 51;refine (QA.out.HFi _ BB.out).mono ?_;rintro e w3 ⟨rfl,hb⟩;have BB9:=BB.out.trans (hb.mono BB.out.size);clear BB;have BB:Hid (Below w2.heap.size w2 w3):=BB9;clear BB9;clear hb)
    | (go_at_call 53;refine (QA.out.HMe _ BB.out).mono ?_;rintro e w3 ⟨⟨sa,sc,rfl,hr⟩,hb⟩;have I1:Hid (IsInss w3 _ code):=hr;have BB9:=BB.out.trans (hb.mono BB.out.size);clear BB;have BB:Hid (Below w2.heap.size w2 w3):=BB9;clear BB9;clear hr hb)
    | (go_at_call 56;refine (QA.out.HBy _ BB.out).mono ?_;rintro e w3 ⟨rfl,hb⟩;have BB9:=BB.out.trans (hb.mono BB.out.size);clear BB;have BB:Hid (Below w2.heap.size w2 w3):=BB9;clear BB9;clear hb)
    | (go_at_call 43;refine (QA.out.RSu _ BB.out).mono ?_;rintro e w3 ⟨rfl,hb⟩;have BB9:=BB.out.trans (hb.mono BB.out.size);clear BB;have BB:Hid (Below w2.heap.size w2 w3):=BB9;clear BB9;clear hb)
    | (go_at_call 44;refine (QA.out.RDe _ BB.out).mono ?_;rintro e w3 ⟨rfl,hb⟩;have BB9:=BB.out.trans (hb.mono BB.out.size);clear BB;have BB:Hid (Below w2.heap.size w2 w3):=BB9;clear BB9;clear hb)
    | (go_at_call 45;refine (QA.out.RCh _ BB.out).mono ?_;rintro e w3 ⟨⟨sa,sc,rfl,hr⟩,hb⟩;have P9:=P1.out.keep hb;clear P1;have P1:Hid (Rds w3 _ n1 1 X1):=P9;clear P9;have P2:Hid (Rds w3 _ n1 1 X1):=hr;have BB9:=BB.out.trans (hb.mono BB.out.size);clear BB;have BB:Hid (Below w2.heap.size w2 w3):=BB9;clear BB9;clear hr hb)
    | (go_at_call 46;refine (QA.out.RCl _ BB.out).mono ?_;rintro e w3 ⟨⟨sa,sc,rfl,hr⟩,hb⟩;have P9:=P3.out.keep hb;clear P3;have P3:Hid (Rds w3 _ n2 1 X2):=P9;clear P9;have P4:Hid (Rds w3 _ n2 1 X2):=hr;have BB9:=BB.out.trans (hb.mono BB.out.size);clear BB;have BB:Hid (Below w2.heap.size w2 w3):=BB9;clear BB9;clear hr hb)
    | (go_at_call 47;refine (QA.out.REx _ BB.out).mono ?_;rintro e w3 ⟨rfl,hb⟩;have BB9:=BB.out.trans (hb.mono BB.out.size);clear BB;have BB:Hid (Below w2.heap.size w2 w3):=BB9;clear BB9;clear hb)
    | (go_at_call 48;refine (QA.out.RIf _ BB.out).mono ?_;rintro e w3 ⟨rfl,hb⟩;have BB9:=BB.out.trans (hb.mono BB.out.size);clear BB;have BB:Hid (Below w2.heap.size w2 w3):=BB9;clear BB9;clear hb)
    | (go_at_call 50;refine (QA.out.RSp _ BB.out).mono ?_;rintro e w3 ⟨rfl,hb⟩;have BB9:=BB.out.trans (hb.mono BB.out.size);clear BB;have BB:Hid (Below w2.heap.size w2 w3):=BB9;clear BB9;clear hb)
    | (go_at_call 52;refine (QA.out.RFi _ BB.out).mono ?_;rintro e w3 ⟨rfl,hb⟩;have BB9:=BB.out.trans (hb.mono BB.out.size);clear BB;have BB:Hid (Below w2.heap.size w2 w3):=BB9;clear BB9;clear hb)
    | (go_at_call 54;refine (QA.out.RMe _ (BB.out.alloc BB.out.size _)).mono ?_;rintro e w4 ⟨⟨sa',sc',rfl,hr⟩,hb⟩;have I9:=(I1.out.keep ((Below.refl _ w3).alloc (Nat.le_refl _) _)).keep hb;clear I1;have I1:Hid (IsInss w4 _ code):=I9;clear I9;have I2:Hid (IsInss w4 _ code):=hr;obtain ⟨_,g0,g1,g2,g3,g4,g5,gf,gl,gn⟩:=kp6 (n:=w3.heap.size) hb (by simp) (halloc1 w3 _);have BB9:=(BB.out.alloc BB.out.size (.cells #[.string mn,.string md,.int .i64 mf,.int .i64 ml,.int .i64 ms,.slice sa mk sc] 81)).trans (hb.mono (BB.out.alloc BB.out.size _).size);clear BB;have BB:Hid (Below w2.heap.size w2 w4):=BB9;clear BB9 hr hb)
    | (go_at_call 57;refine (QA.out.RBy _ BB.out).mono ?_;rintro e w3 ⟨rfl,hb⟩;have BB9:=BB.out.trans (hb.mono BB.out.size);clear BB;have BB:Hid (Below w2.heap.size w2 w3):=BB9;clear BB9;clear hb)
    | (go_at_call 28;refine (HN1.out _ _ _ P1.out P2.out).mono ?_;rintro e w3 ⟨rfl,hb⟩;have BB9:=BB.out.trans (hb.mono BB.out.size);clear BB;have BB:Hid (Below w2.heap.size w2 w3):=BB9;clear BB9;clear hb P1 P2)
    | (go_at_call 28;refine (HN2.out _ _ _ P3.out P4.out).mono ?_;rintro e w3 ⟨rfl,hb⟩;have BB9:=BB.out.trans (hb.mono BB.out.size);clear BB;have BB:Hid (Below w2.heap.size w2 w3):=BB9;clear BB9;clear hb P3 P4)
    | (go_at_call 55;refine (HSM.out _ _ _ (I1.out.keep ((Below.refl _ w4).alloc (Nat.le_refl _) _)) (I2.out.keep ((Below.refl _ w4).alloc (Nat.le_refl _) _))).mono ?_;rintro e w5 ⟨rfl,hb⟩;have BB9:=(BB.out.alloc BB.out.size _).trans (hb.mono (BB.out.alloc BB.out.size _).size);clear BB;have BB:Hid (Below w2.heap.size w2 w5):=BB9;clear BB9 hb I1 I2))
  all_goals go_ret
  all_goals exact ⟨retB (by simp),bstep B2.out BB.out⟩
theorem RAt.meth {b:Nat} {cs:List Cls} {ps:List Plc} {w:World} (h:RAt b cs w) (ht:TwW cs ps) {k:Nat} {i:Int} {x:HM} (hx:methI ps (k:Int) i=some x):∃ (g cap bk n cm j:Nat) (ac:Option Addr) (cc:Nat),i=(j:Int)∧w.cell? ⟨b,0,none⟩=some (.slice (some ⟨g,0,none⟩) cs.length cap)∧b<w.heap.size∧g<w.heap.size∧(k:Int)<(cs.length:Int)∧w.cell? ⟨g,k * 6+5,none⟩=some (.slice (some ⟨bk,0,none⟩) n cm)∧bk<w.heap.size∧(j:Int)<(n:Int)∧w.cell? ⟨bk,j * 6,none⟩=some (.string x.nm)∧w.cell? ⟨bk,j * 6+1,none⟩=some (.string x.ds)∧w.cell? ⟨bk,j * 6+2,none⟩=some (.int .i64 x.fl)∧w.cell? ⟨bk,j * 6+3,none⟩=some (.int .i64 x.lo)∧w.cell? ⟨bk,j * 6+4,none⟩=some (.int .i64 x.st)∧w.cell? ⟨bk,j * 6+5,none⟩=some (.slice ac x.n cc)∧Rds w (.slice ac x.n cc) x.n 7 x.xs∧(∀ u∈x.xs,u.oneCell'=true)∧x.n≤1000000:=by
  obtain ⟨k',q,hk,hq,_,hm⟩:=meth_plc hx
  have:k=k':=by omega
  subst this
  obtain ⟨c,hc,hcq⟩:=ht.tw.at' hq
  have hcd:=(ht.wi.pb q (List.mem_of_getElem? hq)).cd
  obtain ⟨N,v,rs,hW,hrc⟩:=h
  have hc2:=hc
  rw [← hrc,List.getElem?_map] at hc2
  cases er:rs[k]? with
  | none=>rw [er] at hc2;cases hc2
  | some r =>
    rw [er] at hc2
    have hrcc:r.c=c:=Option.some.inj hc2
    have hkl:=(List.getElem?_eq_some_iff.1 er).1
    obtain ⟨g,cap,rfl⟩:=Go.Joins.ownsRow_form hW.row (by omega)
    have hat:=(hW.row.cellAt (k * 6+5) (by omega)).trans (flatR_at rs k r er 5 (by omega))
    have b0:=cell_of_row w b 0 _ _ _ hW.hb
    simp only [List.getElem?_toArray,List.getElem?_cons_zero] at b0
    obtain ⟨qm,hqm,ho⟩:=hW.own r (List.mem_of_getElem? er)
    unfold methP at hm
    split at hm
    · rename_i hi
      have hms:q.c.ms=qm.map Prod.fst:=by rw [hqm,hrcc,hcq];rfl
      have hxm:x∈q.c.ms:=List.mem_of_getElem? hm
      rw [hms,List.getElem?_map] at hm
      cases e:qm[i.toNat]? with
      | none=>rw [e] at hm;cases hm
      | some p =>
        rw [e] at hm
        have hpx:p.1=x:=Option.some.inj hm
        have hil:=(List.getElem?_eq_some_iff.1 e).1
        obtain ⟨bk,cm,hvm⟩:=Go.Joins.ownsRow_form ho.ms (by omega)
        have hmr:=ho.ms
        rw [hvm] at hmr
        have hcell:=fun j hj=>(hmr.cellAt (i.toNat * 6+j) (by omega)).trans (flatH_at qm i.toNat p e j hj)
        have hco:=ho.cod p (List.mem_of_getElem? e)
        obtain ⟨ac,cc,hp2⟩:=ownv hco
        have h0:w.cell? ⟨bk,i.toNat * 6,none⟩=some (.string x.nm):=by rw [← hpx];exact hcell 0 (by omega)
        have hgb:=World.block_lt_of_cell? w _ (show w.cell? ⟨g,k * 6+5,none⟩=some r.vm from hat)
        refine ⟨g,cap,bk,qm.length,cm,i.toNat,ac,cc,by omega,?_,(Array.getElem?_eq_some_iff.1 hW.hb).1,hgb,?_,?_,World.block_lt_of_cell? w _ h0,by omega,h0,?_,?_,?_,?_,?_,?_,(hcd x hxm).1,(hcd x hxm).2⟩
        · rw [← hrc,List.length_map];exact b0
        · rw [← hrc,List.length_map];omega
        · rw [← hvm];exact hat
        · rw [← hpx];exact hcell 1 (by omega)
        · rw [← hpx];exact hcell 2 (by omega)
        · rw [← hpx];exact hcell 3 (by omega)
        · rw [← hpx];exact hcell 4 (by omega)
        · have:=hcell 5 (by omega)
          rw [← hpx,← hp2];exact this
        · rw [hp2] at hco
          rw [← hpx]
          exact own_rds hco
    · cases hm
set_option maxHeartbeats 1000000 in
theorem rMethod_no {b:Nat} {cs:List Cls} {ps:List Plc} {W:World} (h:RAt b cs W) (ht:TwW cs ps) (c i:Int) (hm:plcI ps c=none):Calls Tryz.prog 54 #[.pointer (some ⟨b,0,none⟩),.agg #[.int .i64 c,.int .i64 i]] W fun e w'=>e=.returned noM∧Below W.heap.size W w':=by
  obtain ⟨σ,V,hne,V1,V2⟩:=class_of' (fun w'=>Below (W.heap.size+2) ((W.alloc (.cells #[.int .i64 c,.int .i64 i] 85)).alloc (.cells #[.string ⟨#[]⟩,.string ⟨#[]⟩,.int .i64 0,.int .i64 0,.int .i64 0,.slice none 0 0] 81)) w') ⟨_,Below.refl _ _⟩
  have hBV:∀ s0,Below W.heap.size W (V s0):=fun s0=>(((Below.refl _ W).alloc (Nat.le_refl _) _).alloc (by simp) _).trans ((V1.out s0).mono (by omega))
  have HI:Hid (∀ s0,Calls Tryz.prog 84 #[.pointer (some ⟨b,0,none⟩),.int .i64 c] (V s0) fun e w''=>e=.returned (.bool false)∧∃ s',w''=V s'):=fun s0=>(rIn_t (h.below (hBV s0)) ht c).mono fun e w'' zz=>⟨by rw [zz.1,hm];rfl,s0,zz.2⟩
  have m0:∀ s0,(V s0).cell? ⟨W.heap.size,0,none⟩=some (.int .i64 c):=fun s0=>((V1.out s0).cell (p:=⟨W.heap.size,0,none⟩) (show W.heap.size<W.heap.size+2 by omega)).trans (by simp [go_sem])
  have HZ:Hid (∀ s0,(V s0).heap[W.heap.size+1]?=some (.cells #[.string ⟨#[]⟩,.string ⟨#[]⟩,.int .i64 0,.int .i64 0,.int .i64 0,.slice none 0 0] 81 (0,0))):=fun s0=>((V1.out s0).block (W.heap.size+1) (by omega)).trans (heap_alloc2_new W _ _)
  have HBV:Hid (∀ s0,Below W.heap.size W (V s0)):=hBV
  have VD:Hid (∃ s1,((W.alloc (.cells #[.int .i64 c,.int .i64 i] 85)).alloc (.cells #[.string ⟨#[]⟩,.string ⟨#[]⟩,.int .i64 0,.int .i64 0,.int .i64 0,.slice none 0 0] 81)).drew=V s1):=V2.out _ ((Below.refl _ _).drew)
  clear h ht hm hBV V1 V2
  go_enter Tryz.func54,Tryz.ntmps54
  go_wp2
  refine wp_region_class (C:=fun w'=>∃ s0,w'=V s0) (by kernel_rfl) (by kernel_rfl) VD.out ?_
  repeat (go_big_quiet_step ((go_at_call 84;exact HI.out _)))
  refine wpQuiet_nil ?_
  intro w9 hw9
  obtain ⟨s9,hs9⟩:=hw9
  have k:w9.heap[W.heap.size+1]?=some (.cells #[.string ⟨#[]⟩,.string ⟨#[]⟩,.int .i64 0,.int .i64 0,.int .i64 0,.slice none 0 0] 81 (0,0)):=by rw [hs9];exact HZ.out s9
  have B9:Hid (Below W.heap.size W w9):=by rw [hs9];exact HBV.out s9
  clear HZ HBV VD HI hs9 m0
  have z0:w9.cell? ⟨W.heap.size+1,0,none⟩=some (.string ⟨#[]⟩):=(cell_of_row _ (W.heap.size+1) 0 _ _ _ k).trans rfl
  have z1:w9.cell? ⟨W.heap.size+1,1,none⟩=some (.string ⟨#[]⟩):=(cell_of_row _ (W.heap.size+1) 1 _ _ _ k).trans rfl
  have z2:w9.cell? ⟨W.heap.size+1,2,none⟩=some (.int .i64 0):=(cell_of_row _ (W.heap.size+1) 2 _ _ _ k).trans rfl
  have z3:w9.cell? ⟨W.heap.size+1,3,none⟩=some (.int .i64 0):=(cell_of_row _ (W.heap.size+1) 3 _ _ _ k).trans rfl
  have z4:w9.cell? ⟨W.heap.size+1,4,none⟩=some (.int .i64 0):=(cell_of_row _ (W.heap.size+1) 4 _ _ _ k).trans rfl
  have z5:w9.cell? ⟨W.heap.size+1,5,none⟩=some (.slice none 0 0):=(cell_of_row _ (W.heap.size+1) 5 _ _ _ k).trans rfl
  have f0:=frozen_of_row w9 (W.heap.size+1) 0 _ _ k
  have f1:=frozen_of_row w9 (W.heap.size+1) 1 _ _ k
  have f2:=frozen_of_row w9 (W.heap.size+1) 2 _ _ k
  have f3:=frozen_of_row w9 (W.heap.size+1) 3 _ _ k
  have f4:=frozen_of_row w9 (W.heap.size+1) 4 _ _ k
  have f5:=frozen_of_row w9 (W.heap.size+1) 5 _ _ k
  clear k
  go_wp2
  refine bodyPost_ret (v:=noM) (by simp [results,Tryz.results54,go_sem,noM,z0,z1,z2,z3,z4,z5]) rfl ⟨rfl,?_⟩
  repeat (first|refine Below.setCell ?_ (by simp;try omega) _|exact B9.out)
set_option maxHeartbeats 1000000 in
theorem rMethod_no2 {b:Nat} {cs:List Cls} {ps:List Plc} {W:World} (h:RAt b cs W) (ht:TwW cs ps) (k:Nat) (q:Plc) (hq:ps[k]?=some q) (i:Int) (hm:methP q i=none):Calls Tryz.prog 54 #[.pointer (some ⟨b,0,none⟩),.agg #[.int .i64 (k:Int),.int .i64 i]] W fun e w'=>e=.returned noM∧Below W.heap.size W w':=by
  obtain ⟨c0,hc,hcq⟩:=ht.tw.at' hq
  obtain ⟨c,hcI⟩:∃ c:Int,c=(k:Int):=⟨_,rfl⟩
  rw [← hcI]
  obtain ⟨σ,V,hne,V1,V2⟩:=class_of' (fun w'=>Below (W.heap.size+2) ((W.alloc (.cells #[.int .i64 c,.int .i64 i] 85)).alloc (.cells #[.string ⟨#[]⟩,.string ⟨#[]⟩,.int .i64 0,.int .i64 0,.int .i64 0,.slice none 0 0] 81)) w') ⟨_,Below.refl _ _⟩
  have hBV:∀ s0,Below W.heap.size W (V s0):=fun s0=>(((Below.refl _ W).alloc (Nat.le_refl _) _).alloc (by simp) _).trans ((V1.out s0).mono (by omega))
  have HI:Hid (∀ s0,Calls Tryz.prog 84 #[.pointer (some ⟨b,0,none⟩),.int .i64 c] (V s0) fun e w''=>e=.returned (.bool true)∧∃ s',w''=V s'):=fun s0=>(rIn_t (h.below (hBV s0)) ht c).mono fun e w'' zz=>⟨by rw [zz.1,hcI,plcI_nat,hq];rfl,s0,zz.2⟩
  have m0:∀ s0,(V s0).cell? ⟨W.heap.size,0,none⟩=some (.int .i64 c):=fun s0=>((V1.out s0).cell (p:=⟨W.heap.size,0,none⟩) (show W.heap.size<W.heap.size+2 by omega)).trans (by simp [go_sem])
  have HZ:Hid (∀ s0,(V s0).heap[W.heap.size+1]?=some (.cells #[.string ⟨#[]⟩,.string ⟨#[]⟩,.int .i64 0,.int .i64 0,.int .i64 0,.slice none 0 0] 81 (0,0))):=fun s0=>((V1.out s0).block (W.heap.size+1) (by omega)).trans (heap_alloc2_new W _ _)
  have HBV:Hid (∀ s0,Below W.heap.size W (V s0)):=hBV
  have VD:Hid (∃ s1,((W.alloc (.cells #[.int .i64 c,.int .i64 i] 85)).alloc (.cells #[.string ⟨#[]⟩,.string ⟨#[]⟩,.int .i64 0,.int .i64 0,.int .i64 0,.slice none 0 0] 81)).drew=V s1):=V2.out _ ((Below.refl _ _).drew)
  have m1:∀ s0,(V s0).cell? ⟨W.heap.size,1,none⟩=some (.int .i64 i):=fun s0=>((V1.out s0).cell (p:=⟨W.heap.size,1,none⟩) (show W.heap.size<W.heap.size+2 by omega)).trans (by simp [go_sem])
  obtain ⟨g,cap,vi,vm,b0,hlt,hgl,_,_,_,_,_,c5,_,hMs⟩:=RAt.cells h hc
  obtain ⟨am,cm,rfl⟩:=mths_slice hMs
  have kp:∀ (s0:σ) (bb j:Nat) (v:Value),bb<W.heap.size→W.cell? ⟨bb,j,none⟩=some v→(V s0).cell? ⟨bb,j,none⟩=some v:=fun s0 bb j v hl h=>((hBV s0).cell (p:=⟨bb,j,none⟩) hl).trans h
  replace b0:=fun s0=>kp s0 _ _ _ hlt b0
  replace c5:=fun s0=>kp s0 _ _ _ hgl c5
  have hkI:(k:Int)<(cs.length:Int):=by have:=(List.getElem?_eq_some_iff.1 hc).1;omega
  have hml:i<0∨(0≤i∧(c0.ms.length:Int)≤i):=by
    unfold methP at hm
    split at hm
    · rename_i h0
      have:q.c.ms.length=c0.ms.length:=by rw [hcq];simp [hcOf]
      have:=List.getElem?_eq_none_iff.1 hm
      exact .inr ⟨h0,by omega⟩
    · exact .inl (by omega)
  generalize c0.ms.length=n at *
  subst hcI
  clear h ht hm hBV V1 V2 kp hMs hq hc hcq
  have hml2:(i<0∧decide (i<0)=true)∨(¬ i<0∧decide (i<0)=false∧(n:Int)≤i):=by
    rcases hml with h0|⟨h0,h1⟩
    · exact .inl ⟨h0,by simpa using h0⟩
    · exact .inr ⟨by omega,by simpa using h0,h1⟩
  clear hml
  rcases hml2 with ⟨hi,hi1⟩|⟨hi,hi1,hi2⟩
  all_goals
    go_enter Tryz.func54,Tryz.ntmps54
    go_wp2
    refine wp_region_class (C:=fun w'=>∃ s0,w'=V s0) (by kernel_rfl) (by kernel_rfl) VD.out ?_
    repeat (go_big_quiet_step ((go_at_call 84;exact HI.out _)))
    refine wpQuiet_nil ?_
    intro w9 hw9
    obtain ⟨s9,hs9⟩:=hw9
    have k:w9.heap[W.heap.size+1]?=some (.cells #[.string ⟨#[]⟩,.string ⟨#[]⟩,.int .i64 0,.int .i64 0,.int .i64 0,.slice none 0 0] 81 (0,0)):=by rw [hs9];exact HZ.out s9
    have B9:Hid (Below W.heap.size W w9):=by rw [hs9];exact HBV.out s9
    clear HZ HBV VD HI hs9 m0 m1 b0 c5
    have z0:w9.cell? ⟨W.heap.size+1,0,none⟩=some (.string ⟨#[]⟩):=(cell_of_row _ (W.heap.size+1) 0 _ _ _ k).trans rfl
    have z1:w9.cell? ⟨W.heap.size+1,1,none⟩=some (.string ⟨#[]⟩):=(cell_of_row _ (W.heap.size+1) 1 _ _ _ k).trans rfl
    have z2:w9.cell? ⟨W.heap.size+1,2,none⟩=some (.int .i64 0):=(cell_of_row _ (W.heap.size+1) 2 _ _ _ k).trans rfl
    have z3:w9.cell? ⟨W.heap.size+1,3,none⟩=some (.int .i64 0):=(cell_of_row _ (W.heap.size+1) 3 _ _ _ k).trans rfl
    have z4:w9.cell? ⟨W.heap.size+1,4,none⟩=some (.int .i64 0):=(cell_of_row _ (W.heap.size+1) 4 _ _ _ k).trans rfl
    have z5:w9.cell? ⟨W.heap.size+1,5,none⟩=some (.slice none 0 0):=(cell_of_row _ (W.heap.size+1) 5 _ _ _ k).trans rfl
    have f0:=frozen_of_row w9 (W.heap.size+1) 0 _ _ k
    have f1:=frozen_of_row w9 (W.heap.size+1) 1 _ _ k
    have f2:=frozen_of_row w9 (W.heap.size+1) 2 _ _ k
    have f3:=frozen_of_row w9 (W.heap.size+1) 3 _ _ k
    have f4:=frozen_of_row w9 (W.heap.size+1) 4 _ _ k
    have f5:=frozen_of_row w9 (W.heap.size+1) 5 _ _ k
    clear k
    go_wp2
    refine bodyPost_ret (v:=noM) (by simp [results,Tryz.results54,go_sem,noM,z0,z1,z2,z3,z4,z5]) rfl ⟨rfl,?_⟩
    repeat (first|refine Below.setCell ?_ (by simp;try omega) _|exact B9.out)
def MthT (x:Option HM) (e:Ending) (w':World):Prop:=match x with
  | none=>e=.returned noM
  | some x=>∃ a c N,e=.returned (.tuple #[.agg #[.string x.nm,.string x.ds,.int .i64 x.fl,.int .i64 x.lo,.int .i64 x.st,.slice a x.n c],.int .i64 0])∧w'.ownsRow N 169 7 (.slice a x.n c) x.n x.xs
theorem own_set {w:World} {N e s:Nat} {v:Value} {n:Nat} {xs:List Value} (h:w.ownsRow N e s v n xs) {g j:Nat} (hg:g<N) (u:Value):(w.setCell ⟨g,j,none⟩ u).ownsRow N e s v n xs:=by
  refine h.kept (grown_set w g j u) (.inr fun e1=>?_)
  have:=(h.lt g e1).1
  omega
set_option maxHeartbeats 1000000 in
theorem rMethod_yes {b:Nat} {cs:List Cls} {ps:List Plc} {W:World} (h:RAt b cs W) (ht:TwW cs ps) (k:Nat) (q:Plc) (hq:ps[k]?=some q) (i:Int) (x:HM) (hm:methI ps (k:Int) i=some x):Calls Tryz.prog 54 #[.pointer (some ⟨b,0,none⟩),.agg #[.int .i64 (k:Int),.int .i64 i]] W fun e w'=>MthT (some x) e w'∧Below W.heap.size W w':=by
  obtain ⟨iI,hiI,hzI,hsI,hbI⟩:=info_parts Tryz.hinfo81
  obtain ⟨c0,hc,hcq⟩:=ht.tw.at' hq
  obtain ⟨c,hcI⟩:∃ c:Int,c=(k:Int):=⟨_,rfl⟩
  rw [← hcI]
  obtain ⟨σ,V,hne,V1,V2⟩:=class_of' (fun w'=>Below (W.heap.size+2) ((W.alloc (.cells #[.int .i64 c,.int .i64 i] 85)).alloc (.cells #[.string ⟨#[]⟩,.string ⟨#[]⟩,.int .i64 0,.int .i64 0,.int .i64 0,.slice none 0 0] 81)) w') ⟨_,Below.refl _ _⟩
  have hBV:∀ s0,Below W.heap.size W (V s0):=fun s0=>(((Below.refl _ W).alloc (Nat.le_refl _) _).alloc (by simp) _).trans ((V1.out s0).mono (by omega))
  have HI:Hid (∀ s0,Calls Tryz.prog 84 #[.pointer (some ⟨b,0,none⟩),.int .i64 c] (V s0) fun e w''=>e=.returned (.bool true)∧∃ s',w''=V s'):=fun s0=>(rIn_t (h.below (hBV s0)) ht c).mono fun e w'' zz=>⟨by rw [zz.1,hcI,plcI_nat,hq];rfl,s0,zz.2⟩
  have m0:∀ s0,(V s0).cell? ⟨W.heap.size,0,none⟩=some (.int .i64 c):=fun s0=>((V1.out s0).cell (p:=⟨W.heap.size,0,none⟩) (show W.heap.size<W.heap.size+2 by omega)).trans (by simp [go_sem])
  have HZ:Hid (∀ s0,(V s0).heap[W.heap.size+1]?=some (.cells #[.string ⟨#[]⟩,.string ⟨#[]⟩,.int .i64 0,.int .i64 0,.int .i64 0,.slice none 0 0] 81 (0,0))):=fun s0=>((V1.out s0).block (W.heap.size+1) (by omega)).trans (heap_alloc2_new W _ _)
  have HBV:Hid (∀ s0,Below W.heap.size W (V s0)):=hBV
  have VD:Hid (∃ s1,((W.alloc (.cells #[.int .i64 c,.int .i64 i] 85)).alloc (.cells #[.string ⟨#[]⟩,.string ⟨#[]⟩,.int .i64 0,.int .i64 0,.int .i64 0,.slice none 0 0] 81)).drew=V s1):=V2.out _ ((Below.refl _ _).drew)
  have m1:∀ s0,(V s0).cell? ⟨W.heap.size,1,none⟩=some (.int .i64 i):=fun s0=>((V1.out s0).cell (p:=⟨W.heap.size,1,none⟩) (show W.heap.size<W.heap.size+2 by omega)).trans (by simp [go_sem])
  have HMe:Hid (∀ w,Below W.heap.size W w→∃ (g cap bk n cm j:Nat) (ac:Option Addr) (cc:Nat),i=(j:Int)∧w.cell? ⟨b,0,none⟩=some (.slice (some ⟨g,0,none⟩) cs.length cap)∧b<w.heap.size∧g<w.heap.size∧(k:Int)<(cs.length:Int)∧w.cell? ⟨g,k * 6+5,none⟩=some (.slice (some ⟨bk,0,none⟩) n cm)∧bk<w.heap.size∧(j:Int)<(n:Int)∧w.cell? ⟨bk,j * 6,none⟩=some (.string x.nm)∧w.cell? ⟨bk,j * 6+1,none⟩=some (.string x.ds)∧w.cell? ⟨bk,j * 6+2,none⟩=some (.int .i64 x.fl)∧w.cell? ⟨bk,j * 6+3,none⟩=some (.int .i64 x.lo)∧w.cell? ⟨bk,j * 6+4,none⟩=some (.int .i64 x.st)∧w.cell? ⟨bk,j * 6+5,none⟩=some (.slice ac x.n cc)∧Rds w (.slice ac x.n cc) x.n 7 x.xs∧(∀ u∈x.xs,u.oneCell'=true)∧x.n≤1000000):=fun w hb=>(h.below hb).meth ht hm
  obtain ⟨g,cap,bk,n,cm,j,ac,cc,rfl,b0,hlt,hgl,hkI,c5,hbk,hjn,e0,e1,e2,e3,e4,e5,hrd,hone,hxn⟩:=HMe.out W (Below.refl _ _)
  have kp:∀ (s0:σ) (bb j:Nat) (v:Value),bb<W.heap.size→W.cell? ⟨bb,j,none⟩=some v→(V s0).cell? ⟨bb,j,none⟩=some v:=fun s0 bb j v hl h=>((hBV s0).cell (p:=⟨bb,j,none⟩) hl).trans h
  have KP:Hid (∀ (s0:σ) (bb j:Nat) (v:Value),bb<W.heap.size→W.cell? ⟨bb,j,none⟩=some v→(V s0).cell? ⟨bb,j,none⟩=some v):=kp
  have b0s:=fun s0=>kp s0 _ _ _ hlt b0
  have c5s:=fun s0=>kp s0 _ _ _ hgl c5
  have hj0:¬ (j:Int)<0:=by omega
  have hj1:decide ((j:Int)<0)=false:=by simp
  have hj2:¬ (n:Int)≤(j:Int):=by omega
  have HRD:Hid (Rds W (.slice ac x.n cc) x.n 7 x.xs):=hrd
  have HON:Hid (∀ u∈x.xs,u.oneCell'=true):=hone
  subst hcI
  clear h ht hm hBV V1 V2 kp hq hc hcq HMe hrd hone
  have HE:Hid (W.cell? ⟨bk,j * 6,none⟩=some (.string x.nm)∧W.cell? ⟨bk,j * 6+1,none⟩=some (.string x.ds)∧W.cell? ⟨bk,j * 6+2,none⟩=some (.int .i64 x.fl)∧W.cell? ⟨bk,j * 6+3,none⟩=some (.int .i64 x.lo)∧W.cell? ⟨bk,j * 6+4,none⟩=some (.int .i64 x.st)∧W.cell? ⟨bk,j * 6+5,none⟩=some (.slice ac x.n cc)):=⟨e0,e1,e2,e3,e4,e5⟩
  clear e0 e1 e2 e3 e4 e5 b0 c5
  go_enter Tryz.func54,Tryz.ntmps54
  go_wp2
  refine wp_region_class (C:=fun w'=>∃ s0,w'=V s0) (by kernel_rfl) (by kernel_rfl) VD.out ?_
  repeat (go_big_quiet_step ((go_at_call 84;exact HI.out _)))
  refine wpQuiet_nil ?_
  intro w9 hw9
  obtain ⟨s9,hs9⟩:=hw9
  have k9:w9.heap[W.heap.size+1]?=some (.cells #[.string ⟨#[]⟩,.string ⟨#[]⟩,.int .i64 0,.int .i64 0,.int .i64 0,.slice none 0 0] 81 (0,0)):=by rw [hs9];exact HZ.out s9
  have B9:Hid (Below W.heap.size W w9):=by rw [hs9];exact HBV.out s9
  have q0:w9.cell? ⟨W.heap.size,0,none⟩=some (.int .i64 (k:Int)):=by rw [hs9];exact m0 s9
  have q1:w9.cell? ⟨W.heap.size,1,none⟩=some (.int .i64 (j:Int)):=by rw [hs9];exact m1 s9
  have q2:=b0s s9
  have q3:=c5s s9
  rw [← hs9] at q2 q3
  clear HZ HBV VD HI hs9 m0 m1 b0s c5s KP
  obtain ⟨e0,e1,e2,e3,e4,e5⟩:=HE.out
  replace e0:=(B9.out.cell (p:=⟨bk,j * 6,none⟩) hbk).trans e0
  replace e1:=(B9.out.cell (p:=⟨bk,j * 6+1,none⟩) hbk).trans e1
  replace e2:=(B9.out.cell (p:=⟨bk,j * 6+2,none⟩) hbk).trans e2
  replace e3:=(B9.out.cell (p:=⟨bk,j * 6+3,none⟩) hbk).trans e3
  replace e4:=(B9.out.cell (p:=⟨bk,j * 6+4,none⟩) hbk).trans e4
  replace e5:=(B9.out.cell (p:=⟨bk,j * 6+5,none⟩) hbk).trans e5
  clear HE
  have hL9:W.heap.size+1<w9.heap.size:=(Array.getElem?_eq_some_iff.1 k9).1
  have hs:=B9.out.size
  have y1:¬ W.heap.size=w9.heap.size:=by omega
  have y2:¬ bk=w9.heap.size:=by omega
  have y3:¬ b=w9.heap.size:=by omega
  have y4:¬ g=w9.heap.size:=by omega
  have y5:¬ W.heap.size+1=w9.heap.size:=by omega
  have x1:W.heap.size<w9.heap.size:=by omega
  have x2:bk<w9.heap.size:=by omega
  have x3:b<w9.heap.size:=by omega
  have x4:g<w9.heap.size:=by omega
  go_wp2
  go_region
  have hxU:(w9.alloc (.cells #[.string x.nm,.string x.ds,.int .i64 x.fl,.int .i64 x.lo,.int .i64 x.st,.slice ac x.n cc] 81)).drew.heap[w9.heap.size]?=some (.cells #[.string x.nm,.string x.ds,.int .i64 x.fl,.int .i64 x.lo,.int .i64 x.st,.slice ac x.n cc] 81 (0,0)):=(((Below.refl (w9.alloc (.cells #[.string x.nm,.string x.ds,.int .i64 x.fl,.int .i64 x.lo,.int .i64 x.st,.slice ac x.n cc] 81)).heap.size _).drew).block w9.heap.size (by simp)).trans (halloc1 w9 _)
  have hkU:(w9.alloc (.cells #[.string x.nm,.string x.ds,.int .i64 x.fl,.int .i64 x.lo,.int .i64 x.st,.slice ac x.n cc] 81)).drew.heap[W.heap.size+1]?=some (.cells #[.string ⟨#[]⟩,.string ⟨#[]⟩,.int .i64 0,.int .i64 0,.int .i64 0,.slice none 0 0] 81 (0,0)):=(((Below.refl (w9.alloc (.cells #[.string x.nm,.string x.ds,.int .i64 x.fl,.int .i64 x.lo,.int .i64 x.st,.slice ac x.n cc] 81)).heap.size _).drew).block (W.heap.size+1) (by simp;omega)).trans (hkeep k9)
  have BU:Below W.heap.size W (w9.alloc (.cells #[.string x.nm,.string x.ds,.int .i64 x.fl,.int .i64 x.lo,.int .i64 x.st,.slice ac x.n cc] 81)).drew:=(B9.out.alloc B9.out.size _).drew
  have hzU:(w9.alloc (.cells #[.string x.nm,.string x.ds,.int .i64 x.fl,.int .i64 x.lo,.int .i64 x.st,.slice ac x.n cc] 81)).drew.heap.size=w9.heap.size+1:=by simp
  generalize (w9.alloc (.cells #[.string x.nm,.string x.ds,.int .i64 x.fl,.int .i64 x.lo,.int .i64 x.st,.slice ac x.n cc] 81)).drew=U at *
  have x0U:=(cell_of_row U w9.heap.size 5 _ _ _ hxU).trans rfl
  have HRU:Hid (Rds U (.slice ac x.n cc) x.n 7 x.xs):=HRD.out.keep BU
  have HXU:Hid (U.heap[w9.heap.size]?=some (.cells #[.string x.nm,.string x.ds,.int .i64 x.fl,.int .i64 x.lo,.int .i64 x.st,.slice ac x.n cc] 81 (0,0))):=hxU
  have HKU:Hid (U.heap[W.heap.size+1]?=some (.cells #[.string ⟨#[]⟩,.string ⟨#[]⟩,.int .i64 0,.int .i64 0,.int .i64 0,.slice none 0 0] 81 (0,0))):=hkU
  have HBU:Hid (Below W.heap.size W U):=BU
  have n1:¬ w9.heap.size=U.heap.size:=by omega
  have n2:w9.heap.size<U.heap.size:=by omega
  simp only [List.getElem?_toArray,List.getElem?_cons_zero,List.getElem?_cons_succ] at x0U
  clear hxU hkU BU q0 q1 q2 q3 e0 e1 e2 e3 e4 e5 k9 HRD B9 y1 y2 y3 y4 x1 x2 x3 x4 hj0 hj1 hj2
  go_wp2_with (at_builtin;refine wpList_append_rdw rfl _ _ 79 rfl (w9.heap.size+1) 169 iI _ 7 _ Tryz.underlying79 hiI hzI hsI hbI rfl (by decide) (.slice (some ⟨w9.heap.size+1,0,none⟩) 0 0) 0 [] rfl (own_empty U _ hzU _ _ _ (by omega)) (.slice ac x.n cc) x.n x.xs rfl (.inl (HRU.out.keep ((Below.refl _ U).alloc (Nat.le_refl _) _))) HON.out ?c1 ?c2 ?c3 ?_)
  case c1=>unfold maxLen;omega
  case c2=>omega
  case c3=>simp;omega
  intro v' w5 hown hgrow
  obtain ⟨a5,c5,rfl⟩:=ownv hown
  have hb5:Below (w9.heap.size+1) U w5:=by
    have h1:Below (w9.heap.size+1) U (U.alloc (.cells #[] 169)):=(Below.refl _ U).alloc (by omega) _
    refine h1.grown hgrow (by simp;omega) (fun z hz=>?_)
    simp [Value.ownBlock] at hz
    omega
  have kx:=(hb5.block w9.heap.size (by omega)).trans HXU.out
  have kz:=(hb5.block (W.heap.size+1) (by omega)).trans HKU.out
  have B5:Hid (Below W.heap.size W w5):=HBU.out.trans (hb5.mono (by omega))
  have p0:w5.cell? ⟨w9.heap.size,0,none⟩=some (.string x.nm):=(cell_of_row _ w9.heap.size 0 _ _ _ kx).trans rfl
  have p1:w5.cell? ⟨w9.heap.size,1,none⟩=some (.string x.ds):=(cell_of_row _ w9.heap.size 1 _ _ _ kx).trans rfl
  have p2:w5.cell? ⟨w9.heap.size,2,none⟩=some (.int .i64 x.fl):=(cell_of_row _ w9.heap.size 2 _ _ _ kx).trans rfl
  have p3:w5.cell? ⟨w9.heap.size,3,none⟩=some (.int .i64 x.lo):=(cell_of_row _ w9.heap.size 3 _ _ _ kx).trans rfl
  have p4:w5.cell? ⟨w9.heap.size,4,none⟩=some (.int .i64 x.st):=(cell_of_row _ w9.heap.size 4 _ _ _ kx).trans rfl
  have p5:w5.cell? ⟨w9.heap.size,5,none⟩=some (.slice ac x.n cc):=(cell_of_row _ w9.heap.size 5 _ _ _ kx).trans rfl
  have pf:=frozen_of_row w5 w9.heap.size 5 _ _ kx
  have z0:w5.cell? ⟨W.heap.size+1,0,none⟩=some (.string ⟨#[]⟩):=(cell_of_row _ (W.heap.size+1) 0 _ _ _ kz).trans rfl
  have z1:w5.cell? ⟨W.heap.size+1,1,none⟩=some (.string ⟨#[]⟩):=(cell_of_row _ (W.heap.size+1) 1 _ _ _ kz).trans rfl
  have z2:w5.cell? ⟨W.heap.size+1,2,none⟩=some (.int .i64 0):=(cell_of_row _ (W.heap.size+1) 2 _ _ _ kz).trans rfl
  have z3:w5.cell? ⟨W.heap.size+1,3,none⟩=some (.int .i64 0):=(cell_of_row _ (W.heap.size+1) 3 _ _ _ kz).trans rfl
  have z4:w5.cell? ⟨W.heap.size+1,4,none⟩=some (.int .i64 0):=(cell_of_row _ (W.heap.size+1) 4 _ _ _ kz).trans rfl
  have z5:w5.cell? ⟨W.heap.size+1,5,none⟩=some (.slice none 0 0):=(cell_of_row _ (W.heap.size+1) 5 _ _ _ kz).trans rfl
  have f0:=frozen_of_row w5 (W.heap.size+1) 0 _ _ kz
  have f1:=frozen_of_row w5 (W.heap.size+1) 1 _ _ kz
  have f2:=frozen_of_row w5 (W.heap.size+1) 2 _ _ kz
  have f3:=frozen_of_row w5 (W.heap.size+1) 3 _ _ kz
  have f4:=frozen_of_row w5 (W.heap.size+1) 4 _ _ kz
  have f5:=frozen_of_row w5 (W.heap.size+1) 5 _ _ kz
  have hWle:Hid (W.heap.size≤w9.heap.size):=by rw [Hid];omega
  have y6:¬ w9.heap.size=W.heap.size+1:=by omega
  have O5:Hid (w5.ownsRow (w9.heap.size+1) 169 7 (.slice a5 x.n c5) x.n x.xs):=by rw [Hid];simpa using hown
  have hW9:Hid (W.heap.size+1<w9.heap.size+1):=by rw [Hid];omega
  clear hown hgrow hb5 kx kz HXU HKU HRU HBU x0U
  try simp only [Nat.zero_add]
  go_wp2
  refine bodyPost_ret (v:=.tuple #[.agg #[.string x.nm,.string x.ds,.int .i64 x.fl,.int .i64 x.lo,.int .i64 x.st,.slice a5 (0+x.n) c5],.int .i64 0]) (by simp [results,Tryz.results54,go_sem,z0,z1,z2,z3,z4,z5]) rfl ⟨⟨a5,c5,w9.heap.size+1,by rw [Nat.zero_add],?_⟩,?_⟩
  · repeat (first|refine own_set ?_ (by first|exact hW9.out|(simp;done)|(simp;omega)) _|exact O5.out)
  repeat (first|refine Below.setCell ?_ (by first|(simp;done)|(simp;exact hWle.out)|(simp;omega)) _|exact B5.out)
theorem rMethod_d {b:Nat} {cs:List Cls} {ps:List Plc} {W:World} (h:RAt b cs W) (ht:TwW cs ps) (c i:Int):Calls Tryz.prog 54 #[.pointer (some ⟨b,0,none⟩),.agg #[.int .i64 c,.int .i64 i]] W fun e w'=>MthT (methI ps c i) e w'∧Below W.heap.size W w':=by
  rcases plcI_cases ps c with ⟨h1,_⟩|⟨k,q,rfl,h2,h1⟩
  · have e:methI ps c i=none:=by rw [methI,h1];rfl
    rw [e];exact rMethod_no h ht c i h1
  · cases hm:methI ps (k:Int) i with
    | none =>
      have:methP q i=none:=by rw [methI,h1] at hm;exact hm
      exact rMethod_no2 h ht k q h2 i this
    | some x=>exact rMethod_yes h ht k q h2 i x hm
theorem wi_cl {ps:List Plc} (hW:WI ps) {j:Nat} {r:Plc} (hr:ps[j]?=some r):r.cl.length≤ps.length:=by
  have hj:=(List.getElem?_eq_some_iff.1 hr).1
  have e:clO (ps.map nd) j=r.cl:=by rw [clO,nd_at' hr];rfl
  refine nodup_lt_len _ _ (by rw [← e];exact cl_nodup hW.wo j) (fun i hi=>?_)
  rw [← e] at hi
  have:=(cl_facts hW.wo hi).1
  omega
def supI (ps:List Plc) (d:Int):Int×Int:=match plcI ps d with
  | some q=>if d=0 then (0,6) else ((q.sp:Int),0)
  | none=>(0,3)
theorem sup_c {b:Nat} {ps:List Plc} {W:World} (h:WAt b ps W) (d:Int):Calls Tryz.prog 27 #[.pointer (some ⟨b,0,none⟩),.int .i64 d] W fun e w'=>e=.returned (.tuple #[.int .i64 (supI ps d).1,.int .i64 (supI ps d).2])∧w'=W:=by
  obtain ⟨N,mb,vp,pv,h⟩:=h
  rcases plcI_cases ps d with ⟨h1,h2⟩|⟨k,q,rfl,h2,h1⟩
  · have e:supI ps d=(0,3):=by rw [supI,h1]
    rw [e];exact super_no N b mb ps vp pv d W h h2
  · have e:supI ps (k:Int)=if (k:Int)=0 then (0,6) else ((q.sp:Int),0):=by rw [supI,h1]
    refine (super_yes N b mb ps vp pv k q W h h2).mono fun e2 w' zz=>⟨?_,zz.2⟩
    rw [zz.1,e]
    by_cases h0:k=0
    · subst h0;rfl
    · rw [if_neg h0,if_neg (by omega)]
end Go.Proofs.YtkclpcmkplbclaaGreat
