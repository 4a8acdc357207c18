import Derived.Test.YtkclpcmkplbclaaGreatLwA
import Derived.Test.YtkclpcmkplbclaaGreatOrdB
import Derived.Test.YtkclpcmkplbclaaGreatCurE
import Derived.Test.YtkclpcmkplbclaaGreatWdB
import Derived.Test.YtkclpcmkplbclaaGreatSoA
import Derived.Test.YtkclpcmkplbclaaGreatRfX
import Derived.Test.YtkclpcmkplbclaaGreatWdT
import Derived.Test.YtkclpcmkplbclaaGreatHrX
import Derived.Test.YtkclpcmkplbclaaGreatOwnRefs
import Derived.Test.YtkclpcmkplbclaaGreatWtA
import Derived.Test.YtkclpcmkplbclaaGreatHrK
import Derived.Test.YtkclpcmkplbclaaGreatOwnC
import Derived.Test.YtkclpcmkplbclaaGreatCodeL
import Derived.Test.YtkclpcmkplbclaaGreatTypesRef
import Derived.Test.YtkclpcmkplbclaaGreatRfF
import Derived.WalkSmall
import Derived.BigQuiet
import Derived.Lib.SliceRun
import Derived.Shelf.RegionOpen
import Derived.Deep.DeepCutAuto
import Derived.Laws.AppendOwn
import Derived.Lib.SmallJoins
import Derived.Deep.AppendLies
import Derived.Deep.RegionLaw
import Derived.Maps.AppendAt
set_option maxRecDepth 100000
namespace Go.Proofs.YtkclpcmkplbclaaGreat
open Go.RowKit Go.Maps
def SpW (ps:List Plc):Prop:=∀ k q,0<k→ps[k]?=some q→lookL ps q.c.su.data.toList=some q.sp
theorem spW (l:List Cls) (hl:∀ c∈l,ClsW c):SpW (wld l):=by
  have key:WI (wld l)∧SpW (wld l):=by
    refine wld_ind (P:=fun ps=>WI ps∧SpW ps) ⟨wi3,fun k q h0 hk=>?_⟩ (fun ps c h hc=>⟨h.1.define c hc,?_⟩) l hl
    · match k,hk with
      | 1,hk=>simp [P3] at hk;subst hk;decide
      | 2,hk=>simp [P3] at hk;subst hk;decide
      | (k+3),hk=>simp [P3] at hk
    · cases hd:defN ps c with
      | error e=>exact h.2
      | ok p =>
        obtain ⟨_,_,hn,s,l,hs,_,rfl⟩:=def_ok hd
        intro k q h0 hk
        have hk2:(ps++[(⟨hcOf c,s,gathL (ps.map Plc.cl) s l⟩:Plc)])[k]?=some q:=hk
        show lookL (ps++[_]) q.c.su.data.toList=some q.sp
        by_cases hlt:k<ps.length
        · rw [List.getElem?_append_left hlt] at hk2
          exact look_snoc (h.2 k q h0 hk2) hn
        · rw [List.getElem?_append_right (by omega)] at hk2
          have he:k - ps.length=0:=by
            have:=(List.getElem?_eq_some_iff.1 hk2).1
            simp at this;omega
          rw [he] at hk2
          simp at hk2
          subst hk2
          refine look_snoc ?_ hn
          show lookL ps c.su.data.toList=some s
          rw [aboveN] at hs
          cases hl2:lookL ps c.su.data.toList with
          | none=>rw [hl2] at hs;cases hs
          | some j =>
            rw [hl2] at hs
            simp only at hs
            cases hq:ps[j]? with
            | none=>rw [hq] at hs;cases hs
            | some q =>
              rw [hq] at hs
              simp only at hs
              split at hs
              · split at hs
                · cases hs;rfl
                · cases hs
              · cases hs
  exact key.2
structure TwW (cs:List Cls) (ps:List Plc):Prop where
  tw:Twin cs ps
  nm:NmW ps
  sp:SpW ps
  wi:WI ps
theorem twW (l:List Cls) (hl:∀ c∈l,ClsW c):TwW (wldC l) (wld l):=⟨twin_all l hl,nmW l hl,spW l hl,wld_wi l hl⟩
theorem rIn_t {b:Nat} {cs:List Cls} {ps:List Plc} {W:World} (h:RAt b cs W) (ht:TwW cs ps) (i:Int):Calls Tryz.prog 84 #[.pointer (some ⟨b,0,none⟩),.int .i64 i] W fun e w'=>e=.returned (.bool (plcI ps i).isSome)∧w'=W:=by
  have:=rIn_c h i
  rcases ht.tw.clsI i with ⟨h1,h2⟩|⟨k,c,q,rfl,_,_,_,h1,h2⟩
  · rw [h1] at this;rw [h2];exact this
  · rw [h1] at this;rw [h2];exact this
theorem halloc2 (w:World) {n:Nat} (o:Obj) (hn:w.heap.size=n):(w.alloc o).heap[n]?=some o:=by subst hn;exact halloc1 w o
theorem hkeep {w:World} {n:Nat} {x o:Obj} (h:w.heap[n]?=some x):(w.alloc o).heap[n]?=some x:=by
  have hb:Below w.heap.size w (w.alloc o):=(Below.refl _ w).alloc (Nat.le_refl _) _
  exact (hb.block n (Array.getElem?_eq_some_iff.1 h).1).trans h
theorem rw2 {w:World} {n:Nat} {t:TypeId} {a0 a1:Value} (h:w.heap[n]?=some (.cells #[a0,a1] t (0,0))):w.cell? ⟨n,0,none⟩=some a0∧w.cell? ⟨n,1,none⟩=some a1∧(∀ k,w.frozen? ⟨n,k,none⟩=false)∧n<w.heap.size :=
  ⟨(cell_of_row w n 0 _ _ _ h).trans rfl,(cell_of_row w n 1 _ _ _ h).trans rfl,fun k=>frozen_of_row w n k _ _ h,(Array.getElem?_eq_some_iff.1 h).1⟩
theorem rw6 {w:World} {n:Nat} {t:TypeId} {a0 a1 a2 a3 a4 a5:Value} (h:w.heap[n]?=some (.cells #[a0,a1,a2,a3,a4,a5] t (0,0))):w.cell? ⟨n,0,none⟩=some a0∧w.cell? ⟨n,1,none⟩=some a1∧w.cell? ⟨n,2,none⟩=some a2∧w.cell? ⟨n,3,none⟩=some a3∧w.cell? ⟨n,4,none⟩=some a4∧w.cell? ⟨n,5,none⟩=some a5∧(∀ k,w.frozen? ⟨n,k,none⟩=false)∧n<w.heap.size :=
  ⟨(cell_of_row w n 0 _ _ _ h).trans rfl,(cell_of_row w n 1 _ _ _ h).trans rfl,(cell_of_row w n 2 _ _ _ h).trans rfl,(cell_of_row w n 3 _ _ _ h).trans rfl,(cell_of_row w n 4 _ _ _ h).trans rfl,(cell_of_row w n 5 _ _ _ h).trans rfl,fun k=>frozen_of_row w n k _ _ h,(Array.getElem?_eq_some_iff.1 h).1⟩
theorem kp2 {V w:World} {N n:Nat} {t:TypeId} {a0 a1:Value} (hb:Below N V w) (hn:n<N:=by first|omega|(simp;try omega)) (h:V.heap[n]?=some (.cells #[a0,a1] t (0,0)):=by first|exact Hid.out (by assumption)|exact hkeep (Hid.out (by assumption))|exact hkeep (hkeep (Hid.out (by assumption)))|exact halloc2 _ _ rfl|exact hkeep (halloc2 _ _ rfl)|exact hkeep (hkeep (halloc2 _ _ rfl))|exact halloc2 _ _ (by simp;done)):Hid (w.heap[n]?=some (.cells #[a0,a1] t (0,0)))∧w.cell? ⟨n,0,none⟩=some a0∧w.cell? ⟨n,1,none⟩=some a1∧(∀ k,w.frozen? ⟨n,k,none⟩=false)∧n<w.heap.size∧¬ n=w.heap.size:=by
  have h2:=(hb.block n hn).trans h
  obtain ⟨c0,c1,f,l⟩:=rw2 h2
  exact ⟨h2,c0,c1,f,l,by omega⟩
def hldR (ps:List Plc) (x:Int) (s:ByteArray):Int×Int:=if ldI ps x s=0 then (if intB x s then (0,2) else if 0<x then (0,0) else match lookL ps s.data.toList with
  | some k=>((k:Int),0)
  | none=>(0,6)) else (0,ldI ps x s)
set_option maxHeartbeats 1000000 in
theorem hld_c {b:Nat} {ps:List Plc} {W:World} (h:WAt b ps W) (x:Int) (s:ByteArray) (hs:s.size≤maxLen):Calls Tryz.prog 66 #[.pointer (some ⟨b,0,none⟩),.agg #[.int .i64 x,.string s]] W fun e w'=>e=.returned (.tuple #[.int .i64 (hldR ps x s).1,.int .i64 (hldR ps x s).2])∧Below W.heap.size W w':=by
  have HL:Hid (∀ w,Below W.heap.size W w→Calls Tryz.prog 71 #[.pointer (some ⟨b,0,none⟩),.agg #[.int .i64 x,.string s]] w fun e w'=>e=.returned (.int .i64 (ldI ps x s))∧Below w.heap.size w w'):=fun w hb=>loaded_c (h.below hb) x s hs
  have HI:Hid (∀ w:World,Calls Tryz.prog 105 #[.agg #[.int .i64 x,.string s]] w fun e w'=>e=.returned (.bool (intB x s))∧Below w.heap.size w w'):=isInt_c x s
  have HN:Hid (∀ w:World,Below W.heap.size W w→Calls Tryz.prog 56 #[.pointer (some ⟨b,0,none⟩),.string s] w fun e w'=>e=.returned (bnV (lookL ps s.data.toList))∧Below w.heap.size w w'):=fun w hb=>byName_c (h.below hb) s hs
  unfold hldR
  generalize ldI ps x s=ld at *
  generalize intB x s=iB at *
  generalize lookL ps s.data.toList=lk at *
  clear h hs
  by_cases h0:ld=0
  · subst h0
    rw [if_pos rfl]
    cases iB with
    | true =>
      rw [if_pos rfl]
      go_enter Tryz.func66,Tryz.ntmps66
      go_wp2_with (first
        | (go_at_call 71;refine (HL.out _ (by repeat (first|exact Below.refl _ _|refine Below.setCell ?_ (by simp;try omega) _|refine Below.alloc ?_ (by simp;try omega) _|refine Below.drew ?_))).mono ?_;rintro e w1 ⟨rfl,hb⟩;have gd:=kp2 (n:=W.heap.size) hb;(try clear gB g0 g1 gf gL gN);obtain ⟨gB,g0,g1,gf,gL,gN⟩:=gd;have B1:Hid (Below W.heap.size W w1):=bstep (by repeat (first|exact Below.refl _ _|refine Below.setCell ?_ (by simp;try omega) _|refine Below.alloc ?_ (by simp;try omega) _|refine Below.drew ?_)) hb;clear hb HL)
        | (go_at_call 105;refine (HI.out _).mono ?_;rintro e w2 ⟨rfl,hb⟩;have B2:Hid (Below W.heap.size W w2):=bstep B1.out hb;clear hb HI))
      exact bodyPost_ret (results_tmp2 rfl _ _ _) rfl ⟨rfl,B2.out⟩
    | false =>
      rw [if_neg (by simp)]
      by_cases hx:0<x
      · rw [if_pos hx]
        go_enter Tryz.func66,Tryz.ntmps66
        go_wp2_with (first
          | (go_at_call 71;refine (HL.out _ (by repeat (first|exact Below.refl _ _|refine Below.setCell ?_ (by simp;try omega) _|refine Below.alloc ?_ (by simp;try omega) _|refine Below.drew ?_))).mono ?_;rintro e w1 ⟨rfl,hb⟩;have gd:=kp2 (n:=W.heap.size) hb;(try clear gB g0 g1 gf gL gN);obtain ⟨gB,g0,g1,gf,gL,gN⟩:=gd;have B1:Hid (Below W.heap.size W w1):=bstep (by repeat (first|exact Below.refl _ _|refine Below.setCell ?_ (by simp;try omega) _|refine Below.alloc ?_ (by simp;try omega) _|refine Below.drew ?_)) hb;clear hb HL)
          | (go_at_call 105;refine (HI.out _).mono ?_;rintro e w2 ⟨rfl,hb⟩;have gd:=kp2 (n:=W.heap.size) hb;(try clear gB g0 g1 gf gL gN);obtain ⟨gB,g0,g1,gf,gL,gN⟩:=gd;have B2:Hid (Below W.heap.size W w2):=bstep B1.out hb;clear hb HI))
        exact bodyPost_ret (results_tmp2 rfl _ _ _) rfl ⟨rfl,B2.out⟩
      · rw [if_neg hx]
        cases lk with
        | none =>
          simp only [bnV] at HN
          go_enter Tryz.func66,Tryz.ntmps66
          go_wp2_with (first
            | (go_at_call 71;refine (HL.out _ (by repeat (first|exact Below.refl _ _|refine Below.setCell ?_ (by simp;try omega) _|refine Below.alloc ?_ (by simp;try omega) _|refine Below.drew ?_))).mono ?_;rintro e w1 ⟨rfl,hb⟩;have gd:=kp2 (n:=W.heap.size) hb;(try clear gB g0 g1 gf gL gN);obtain ⟨gB,g0,g1,gf,gL,gN⟩:=gd;have B1:Hid (Below W.heap.size W w1):=bstep (by repeat (first|exact Below.refl _ _|refine Below.setCell ?_ (by simp;try omega) _|refine Below.alloc ?_ (by simp;try omega) _|refine Below.drew ?_)) hb;clear hb HL)
            | (go_at_call 105;refine (HI.out _).mono ?_;rintro e w2 ⟨rfl,hb⟩;have gd:=kp2 (n:=W.heap.size) hb;(try clear gB g0 g1 gf gL gN);obtain ⟨gB,g0,g1,gf,gL,gN⟩:=gd;have B2:Hid (Below W.heap.size W w2):=bstep B1.out hb;clear hb HI)
            | (go_at_call 56;refine (HN.out _ B2.out).mono ?_;rintro e w3 ⟨rfl,hb⟩;have B3:Hid (Below W.heap.size W w3):=bstep B2.out hb;clear hb HN))
          exact bodyPost_ret (results_tmp2 rfl _ _ _) rfl ⟨rfl,B3.out⟩
        | some k =>
          simp only [bnV] at HN
          go_enter Tryz.func66,Tryz.ntmps66
          go_wp2_with (first
            | (go_at_call 71;refine (HL.out _ (by repeat (first|exact Below.refl _ _|refine Below.setCell ?_ (by simp;try omega) _|refine Below.alloc ?_ (by simp;try omega) _|refine Below.drew ?_))).mono ?_;rintro e w1 ⟨rfl,hb⟩;have gd:=kp2 (n:=W.heap.size) hb;(try clear gB g0 g1 gf gL gN);obtain ⟨gB,g0,g1,gf,gL,gN⟩:=gd;have B1:Hid (Below W.heap.size W w1):=bstep (by repeat (first|exact Below.refl _ _|refine Below.setCell ?_ (by simp;try omega) _|refine Below.alloc ?_ (by simp;try omega) _|refine Below.drew ?_)) hb;clear hb HL)
            | (go_at_call 105;refine (HI.out _).mono ?_;rintro e w2 ⟨rfl,hb⟩;have gd:=kp2 (n:=W.heap.size) hb;(try clear gB g0 g1 gf gL gN);obtain ⟨gB,g0,g1,gf,gL,gN⟩:=gd;have B2:Hid (Below W.heap.size W w2):=bstep B1.out hb;clear hb HI)
            | (go_at_call 56;refine (HN.out _ B2.out).mono ?_;rintro e w3 ⟨rfl,hb⟩;have B3:Hid (Below W.heap.size W w3):=bstep B2.out hb;clear hb HN))
          exact bodyPost_ret (results_tmp2 rfl _ _ _) rfl ⟨rfl,B3.out⟩
  · rw [if_neg h0]
    go_enter Tryz.func66,Tryz.ntmps66
    go_wp2_with (first
      | (go_at_call 71;refine (HL.out _ (by repeat (first|exact Below.refl _ _|refine Below.setCell ?_ (by simp;try omega) _|refine Below.alloc ?_ (by simp;try omega) _|refine Below.drew ?_))).mono ?_;rintro e w1 ⟨rfl,hb⟩;have gd:=kp2 (n:=W.heap.size) hb;(try clear gB g0 g1 gf gL gN);obtain ⟨gB,g0,g1,gf,gL,gN⟩:=gd;have B1:Hid (Below W.heap.size W w1):=bstep (by repeat (first|exact Below.refl _ _|refine Below.setCell ?_ (by simp;try omega) _|refine Below.alloc ?_ (by simp;try omega) _|refine Below.drew ?_)) hb;clear hb HL))
    exact bodyPost_ret (results_tmp2 rfl _ _ _) rfl ⟨rfl,B1.out⟩
def tofR (ps:List Plc) (x:Int):ByteArray×Int:=match plcI ps x with
  | some q=>(q.c.nm,0)
  | none=>(⟨#[]⟩,3)
set_option maxHeartbeats 4000000 in
theorem tof_w (W:World) (b:Nat) (x E:Int) (nm:ByteArray) (hE:E=0∨(E=3∧nm=⟨#[]⟩)) (HC:Hid (∀ w,Below W.heap.size W w→Calls Tryz.prog 19 #[.pointer (some ⟨b,0,none⟩),.int .i64 x] w fun e w'=>(∃ su a1 n1 c1 fl ld a2 n2 c2,e=.returned (.tuple #[.agg #[.string nm,.string su,.slice a1 n1 c1,.int .i64 fl,.int .i64 ld,.slice a2 n2 c2],.int .i64 E]))∧Below w.heap.size w w')):Calls Tryz.prog 63 #[.pointer (some ⟨b,0,none⟩),.int .i64 x] W fun e w'=>e=.returned (.tuple #[.agg #[.int .i64 0,.string nm],.int .i64 E])∧Below W.heap.size W w':=by
  rcases hE with rfl|⟨rfl,rfl⟩
  all_goals
    go_enter Tryz.func63,Tryz.ntmps63
    go_wp2_with (go_at_call 19;refine (HC.out _ (by repeat (first|exact Below.refl _ _|refine Below.setCell ?_ (by simp;try omega) _|refine Below.alloc ?_ (by simp;try omega) _|refine Below.drew ?_))).mono ?_;rintro e w1 ⟨⟨su,a1,n1,c1,fl,ld,a2,n2,c2,rfl⟩,hb⟩;have rrd:=kp2 (n:=W.heap.size) hb (by simp) (halloc1 _ _);obtain ⟨rrB,rr0,rr1,rrf,rrL,rrN⟩:=rrd;have B1:Hid (Below W.heap.size W w1):=bstep (by repeat (first|exact Below.refl _ _|refine Below.setCell ?_ (by simp;try omega) _|refine Below.alloc ?_ (by simp;try omega) _|refine Below.drew ?_)) hb;clear hb HC)
  · exact bodyPost_ret (v:=.tuple #[.agg #[.int .i64 0,.string nm],.int .i64 0]) (by simp [results,Tryz.results63,go_sem, *]) rfl ⟨rfl,(by repeat (first|refine Below.setCell ?_ (by simp;try omega) _|refine Below.alloc ?_ (by have:=B1.out.size;simp;try omega) _|exact B1.out))⟩
  · exact bodyPost_ret (v:=.tuple #[.agg #[.int .i64 0,.string ⟨#[]⟩],.int .i64 3]) (by simp [results,Tryz.results63,go_sem, *]) rfl ⟨rfl,(by repeat (first|refine Below.setCell ?_ (by simp;try omega) _|refine Below.alloc ?_ (by have:=B1.out.size;simp;try omega) _|exact B1.out))⟩
theorem tof_c {b:Nat} {ps:List Plc} {W:World} (h:WAt b ps W) (hW:WI ps) (x:Int):Calls Tryz.prog 63 #[.pointer (some ⟨b,0,none⟩),.int .i64 x] W fun e w'=>e=.returned (.tuple #[.agg #[.int .i64 0,.string (tofR ps x).1],.int .i64 (tofR ps x).2])∧Below W.heap.size W w':=by
  refine tof_w W b x _ _ ?_ (fun w hb=>?_)
  · rw [tofR]
    cases plcI ps x with
    | none=>exact .inr ⟨rfl,rfl⟩
    | some q=>exact .inl rfl
  · refine (class_c (h.below hb) hW.pb x).mono fun e w' zz=>⟨?_,zz.2⟩
    have z:=zz.1
    rw [tofR]
    cases e0:plcI ps x with
    | none=>rw [e0] at z;exact ⟨_,_,_,_,_,_,_,_,_,z⟩
    | some q =>
      rw [e0] at z
      obtain ⟨vi,vm,qm,z1,z2,_⟩:=z
      obtain ⟨a1,c1,rfl⟩:=ownv z2.ifs
      obtain ⟨a2,c2,rfl⟩:=ownv z2.ms
      exact ⟨_,_,_,_,_,_,_,_,_,z1⟩
set_option maxHeartbeats 4000000 in
theorem rTof_c {b:Nat} {cs:List Cls} {ps:List Plc} {W:World} (h:RAt b cs W) (ht:TwW cs ps) (x:Int):Calls Tryz.prog 64 #[.pointer (some ⟨b,0,none⟩),.int .i64 x] W fun e w'=>e=.returned (.tuple #[.agg #[.int .i64 0,.string (tofR ps x).1],.int .i64 (tofR ps x).2])∧Below W.heap.size W w':=by
  rcases plcI_cases ps x with ⟨hn,_⟩|⟨k,q,rfl,hk,hq⟩
  · have HI:Hid (∀ w,Below W.heap.size W w→Calls Tryz.prog 84 #[.pointer (some ⟨b,0,none⟩),.int .i64 x] w fun e w'=>e=.returned (.bool false)∧w'=w):=fun w hb=>(rIn_t (h.below hb) ht x).mono fun e w' zz=>⟨by rw [zz.1,hn];rfl,zz.2⟩
    have e0:tofR ps x=(⟨#[]⟩,3):=by rw [tofR,hn]
    rw [e0]
    clear h ht hn e0
    go_enter Tryz.func64,Tryz.ntmps64
    go_wp2_with (go_at_call 84;refine (HI.out _ (by repeat (first|exact Below.refl _ _|refine Below.setCell ?_ (by simp;try omega) _|refine Below.alloc ?_ (by simp;try omega) _|refine Below.drew ?_))).mono ?_;rintro e w9 ⟨rfl,hw9⟩;rw [hw9];clear hw9 w9)
    exact bodyPost_ret (v:=.tuple #[.agg #[.int .i64 0,.string ⟨#[]⟩],.int .i64 3]) (by simp [results,Tryz.results64,go_sem, *]) rfl ⟨rfl,(by repeat (first|exact Below.refl _ _|refine Below.setCell ?_ (by simp;try omega) _|refine Below.alloc ?_ (by simp;try omega) _|refine Below.drew ?_))⟩
  · have HI:Hid (∀ w,Below W.heap.size W w→Calls Tryz.prog 84 #[.pointer (some ⟨b,0,none⟩),.int .i64 (k:Int)] w fun e w'=>e=.returned (.bool true)∧w'=w):=fun w hb=>(rIn_t (h.below hb) ht k).mono fun e w' zz=>⟨by rw [zz.1,hq];rfl,zz.2⟩
    obtain ⟨c,hc,hqc⟩:=ht.tw.at' hk
    have e0:tofR ps (k:Int)=(c.nm,0):=by rw [tofR,hq];show (q.c.nm,(0:Int))=_;rw [hqc];rfl
    rw [e0]
    have hkl:=(List.getElem?_eq_some_iff.1 hc).1
    obtain ⟨g,cap,vi,vm,b0,hbl,hgl,c0,_⟩:=h.cells hc
    have hkI:(k:Int)<(cs.length:Int):=by omega
    have hbn:¬ b=W.heap.size:=by omega
    have hgn:¬ g=W.heap.size:=by omega
    clear h ht hk hq hc hqc e0
    go_enter Tryz.func64,Tryz.ntmps64
    go_wp2_with (go_at_call 84;refine (HI.out _ (by repeat (first|exact Below.refl _ _|refine Below.setCell ?_ (by simp;try omega) _|refine Below.alloc ?_ (by simp;try omega) _|refine Below.drew ?_))).mono ?_;rintro e w9 ⟨rfl,hw9⟩;rw [hw9];clear hw9 w9)
    exact bodyPost_ret (v:=.tuple #[.agg #[.int .i64 0,.string c.nm],.int .i64 0]) (by simp [results,Tryz.results64,go_sem, *]) rfl ⟨rfl,(by repeat (first|exact Below.refl _ _|refine Below.setCell ?_ (by simp;try omega) _|refine Below.alloc ?_ (by simp;try omega) _|refine Below.drew ?_))⟩
set_option maxHeartbeats 16000000 in
theorem sameTys_eq (N1 N2:Nat) (l:List (Int×List UInt8)) (v1 v2:Value) (W:World) (h1:W.ownsRow N1 24 2 v1 l.length (flatU l)) (h2:W.ownsRow N2 24 2 v2 l.length (flatU l)) (hn:l.length≤1000000000):Calls Tryz.prog 70 #[v1,v2] W fun e w'=>e=.returned (.bool true)∧Below W.heap.size W w':=by
  obtain ⟨a1,c1,rfl⟩:=ownv h1
  obtain ⟨a2,c2,rfl⟩:=ownv h2
  have H1:Hid (W.ownsRow N1 24 2 (.slice a1 l.length c1) l.length (flatU l)):=h1
  have H2:Hid (W.ownsRow N2 24 2 (.slice a2 l.length c2) l.length (flatU l)):=h2
  obtain ⟨K,hK⟩:∃ K,l.length=K:=⟨_,rfl⟩
  have HK:Hid (l.length=K):=hK
  rw [hK] at hn H1 H2 ⊢
  clear h1 h2 hK
  go_enter Tryz.func70,Tryz.ntmps70
  go_wp2
  go_loopw [5] (fun iv wr=>∃ i:Nat,iv=.int .i64 i∧i≤K∧Hid (Below W.heap.size W wr)) (fun iv _=>K - (intOf iv).toNat)
  case atStart=>exact ⟨0,rfl,Nat.zero_le _,Below.refl _ _⟩
  case round =>
    obtain ⟨i,rfl,hi,hB⟩:=hrel
    by_cases hlt:i<K
    · have hiI:(i:Int)<(K:Int):=by omega
      obtain ⟨⟨d,q⟩,hu⟩:∃ u,l[i]?=some u:=⟨_,List.getElem?_eq_getElem (by rw [HK.out];exact hlt)⟩
      obtain ⟨g1,cp1,hf1⟩:=Go.Joins.ownsRow_form H1.out (by omega)
      injection hf1 with e1 _ e2
      subst e1 e2
      obtain ⟨g2,cp2,hf2⟩:=Go.Joins.ownsRow_form H2.out (by omega)
      injection hf2 with e3 _ e4
      subst e3 e4
      obtain ⟨p0,p1,pL⟩:=rowU_at H1.out hu
      obtain ⟨r0,r1,rL⟩:=rowU_at H2.out hu
      simp only at p0 p1 r0 r1
      generalize mkB q=qb at *
      have x0:=(hB.out.cell (p:=⟨g1,i * 2,none⟩) pL).trans p0
      have x1:=(hB.out.cell (p:=⟨g1,i * 2+1,none⟩) pL).trans p1
      have xL:g1<wr.heap.size:=Nat.lt_of_lt_of_le pL hB.out.size
      have y0:=(hB.out.cell (p:=⟨g2,i * 2,none⟩) rL).trans r0
      have y1:=(hB.out.cell (p:=⟨g2,i * 2+1,none⟩) rL).trans r1
      have yL:g2<wr.heap.size:=Nat.lt_of_lt_of_le rL hB.out.size
      clear hu p0 p1 r0 r1
      go_upto_region 6 with fail
      obtain ⟨σ,V,hne,V1,V2⟩:=class_of' (fun w'=>Below wr.heap.size wr w') ⟨_,Below.refl _ _⟩
      have cV0:∀ z9,(V z9).cell? ⟨g1,i * 2,none⟩=some (.int .i64 d):=fun z9=>((V1.out z9).cell (p:=⟨g1,i * 2,none⟩) xL).trans x0
      have cV1:∀ z9,(V z9).cell? ⟨g1,i * 2+1,none⟩=some (.string qb):=fun z9=>((V1.out z9).cell (p:=⟨g1,i * 2+1,none⟩) xL).trans x1
      have cV2:∀ z9,(V z9).cell? ⟨g2,i * 2,none⟩=some (.int .i64 d):=fun z9=>((V1.out z9).cell (p:=⟨g2,i * 2,none⟩) yL).trans y0
      have cV3:∀ z9,(V z9).cell? ⟨g2,i * 2+1,none⟩=some (.string qb):=fun z9=>((V1.out z9).cell (p:=⟨g2,i * 2+1,none⟩) yL).trans y1
      have HQ:Hid (∀ z9,Calls Tryz.prog 65 #[.agg #[.int .i64 d,.string qb],.agg #[.int .i64 d,.string qb]] (V z9) fun e w''=>e=.returned (.bool true)∧∃ z8,w''=V z8):=fun z9=>(((tySame_any d d qb qb (V z9)).mono fun e w'' zz=>(⟨by rw [zz.1];simp,zz.2⟩:_∧Below (V z9).heap.size (V z9) w''))).mono fun e w'' zz=>⟨zz.1,V2.out _ (bstep (V1.out z9) zz.2)⟩
      refine wp_region_class (C:=fun w'=>∃ z8,w'=V z8) (by kernel_rfl) (by kernel_rfl) (V2.out _ (Below.refl _ _).drew) ?_
      repeat (go_big_quiet_step (first|(go_at_call 65;exact HQ.out _)))
      refine wpQuiet_nil ?_
      intro w5 hw9
      obtain ⟨s9,hw9⟩:=hw9
      have hb:Below wr.heap.size wr w5:=by rw [hw9];exact V1.out s9
      clear hw9 cV0 cV1 cV2 cV3 HQ V1 V2 s9 hne V σ
      have B5:Hid (Below W.heap.size W w5):=bstep hB.out hb
      clear hb
      go_wp2
      exact ⟨⟨i+1,by simp,by omega,B5⟩,by simp [intOf];omega⟩
    · have e:i=K:=by omega
      subst e
      go_wp2
      exact bodyPost_ret (results_tmp rfl _ _ _) rfl ⟨rfl,hB.out⟩
def ldC (cs:List Cls) (d:Int) (s:ByteArray):Int:=if sndB d s.data.toList then (if s.toList.isEmpty then 0 else if nmdI s.toList cs 0<0 then 20 else 0) else 1
set_option maxHeartbeats 1000000 in
theorem rLoaded_c {b:Nat} {cs:List Cls} {W:World} (h:RAt b cs W) (hn:cs.length≤300) (d:Int) (s:ByteArray) (hs:s.size≤maxLen):Calls Tryz.prog 106 #[.pointer (some ⟨b,0,none⟩),.agg #[.int .i64 d,.string s]] W fun e w'=>e=.returned (.int .i64 (ldC cs d s))∧Below W.heap.size W w':=by
  have HC:Hid (∀ w:World,Calls Tryz.prog 145 #[.agg #[.int .i64 d,.string s]] w fun e w'=>e=.returned (.int .i64 (chkI (sndB d s.data.toList)))∧Below w.heap.size w w'):=tyRCheck_any d s hs
  have HN:Hid (∀ w,Below W.heap.size W w→Calls Tryz.prog 57 #[.pointer (some ⟨b,0,none⟩),.string s] w fun e w'=>e=.returned (bnC (nmdI s.toList cs 0))∧w'=w):=fun w hb=>rByName_c (h.below hb) s hn
  have HR:Hid (ldC cs d s=if sndB d s.data.toList then (if s.toList.isEmpty then 0 else if nmdI s.toList cs 0<0 then 20 else 0) else 1):=rfl
  generalize ldC cs d s=R at *
  generalize sndB d s.data.toList=z at *
  generalize nmdI s.toList cs 0=k at *
  clear h
  cases z with
  | false =>
    have hR:R=1:=HR.out
    subst hR
    clear HR
    go_enter Tryz.func106,Tryz.ntmps106
    go_wp2_with (first
      | (go_at_call 145;refine (HC.out _).mono ?_;rintro e w1 ⟨rfl,hb⟩;simp only [chkI];have B1:Hid (Below W.heap.size W w1):=bstep (by repeat (first|exact Below.refl _ _|refine Below.setCell ?_ (by simp;try omega) _|refine Below.alloc ?_ (by simp;try omega) _|refine Below.drew ?_)) hb;clear hb HC))
    exact bodyPost_ret (results_tmp rfl _ _ _) rfl ⟨rfl,B1.out⟩
  | true =>
    cases he:s.toList.isEmpty with
    | true =>
      have hR:R=0:=by rw [HR.out,he];rfl
      subst hR
      clear HR
      go_enter Tryz.func106,Tryz.ntmps106
      go_wp2_with (first
        | (go_at_call 145;refine (HC.out _).mono ?_;rintro e w1 ⟨rfl,hb⟩;simp only [chkI];have t1:w1.cell? ⟨W.heap.size,1,none⟩=some (.string s):=(hb.cell (p:=⟨W.heap.size,1,none⟩) (by simp)).trans (by simp [go_sem]);have B1:Hid (Below W.heap.size W w1):=bstep (by repeat (first|exact Below.refl _ _|refine Below.setCell ?_ (by simp;try omega) _|refine Below.alloc ?_ (by simp;try omega) _|refine Below.drew ?_)) hb;clear hb HC))
      exact bodyPost_ret (results_tmp rfl _ _ _) rfl ⟨rfl,B1.out⟩
    | false =>
      have hR:R=if k<0 then 20 else 0:=by rw [HR.out,he];rfl
      clear HR
      by_cases hk:k<0
      · rw [if_pos hk] at hR
        subst hR
        go_enter Tryz.func106,Tryz.ntmps106
        go_wp2_with (first
          | (go_at_call 145;refine (HC.out _).mono ?_;rintro e w1 ⟨rfl,hb⟩;simp only [chkI];have t1:w1.cell? ⟨W.heap.size,1,none⟩=some (.string s):=(hb.cell (p:=⟨W.heap.size,1,none⟩) (by simp)).trans (by simp [go_sem]);have B1:Hid (Below W.heap.size W w1):=bstep (by repeat (first|exact Below.refl _ _|refine Below.setCell ?_ (by simp;try omega) _|refine Below.alloc ?_ (by simp;try omega) _|refine Below.drew ?_)) hb;clear hb HC)
          | (go_at_call 57;refine (HN.out _ B1.out).mono ?_;rintro e w9 ⟨rfl,hw9⟩;rw [bnC,if_pos hk,hw9];clear hw9 w9))
        exact bodyPost_ret (results_tmp rfl _ _ _) rfl ⟨rfl,B1.out⟩
      · rw [if_neg hk] at hR
        subst hR
        go_enter Tryz.func106,Tryz.ntmps106
        go_wp2_with (first
          | (go_at_call 145;refine (HC.out _).mono ?_;rintro e w1 ⟨rfl,hb⟩;simp only [chkI];have t1:w1.cell? ⟨W.heap.size,1,none⟩=some (.string s):=(hb.cell (p:=⟨W.heap.size,1,none⟩) (by simp)).trans (by simp [go_sem]);have B1:Hid (Below W.heap.size W w1):=bstep (by repeat (first|exact Below.refl _ _|refine Below.setCell ?_ (by simp;try omega) _|refine Below.alloc ?_ (by simp;try omega) _|refine Below.drew ?_)) hb;clear hb HC)
          | (go_at_call 57;refine (HN.out _ B1.out).mono ?_;rintro e w9 ⟨rfl,hw9⟩;rw [bnC,if_neg hk,hw9];clear hw9 w9))
        exact bodyPost_ret (results_tmp rfl _ _ _) rfl ⟨rfl,B1.out⟩
theorem rIsInt_c (d:Int) (s:ByteArray) (W:World):Calls Tryz.prog 107 #[.agg #[.int .i64 d,.string s]] W fun e w'=>e=.returned (.bool (intB d s))∧Below W.heap.size W w':=by
  obtain ⟨R,hR⟩:∃ R,intB d s=R:=⟨_,rfl⟩
  have HR:Hid (((d == 0)&&s.toList.isEmpty)=R):=hR
  rw [hR]
  clear hR
  go_enter Tryz.func107,Tryz.ntmps107
  go_wp2
  all_goals go_ret
  all_goals exact ⟨retB (by rw [← HR.out];simp [*]),(by repeat (first|exact Below.refl _ _|refine Below.setCell ?_ (by simp;try omega) _|refine Below.alloc ?_ (by simp;try omega) _|refine Below.drew ?_))⟩
theorem rLower_c (d:Nat) (hd:d≤255) (s:ByteArray) (W:World):Calls Tryz.prog 146 #[.agg #[.int .i64 ((d+1:Nat):Int),.string s]] W fun e w'=>e=.returned (.agg #[.int .i64 (d:Int),.string s])∧Below W.heap.size W w':=by
  have e:((d+1:Nat):Int) - 1=(d:Int):=by omega
  go_enter Tryz.func146,Tryz.ntmps146
  go_wp2
  exact bodyPost_ret (v:=.agg #[.int .i64 (d:Int),.string s]) (by simp [results,Tryz.results146,go_sem]) rfl ⟨rfl,(by repeat (first|exact Below.refl _ _|refine Below.setCell ?_ (by simp;try omega) _|refine Below.alloc ?_ (by simp;try omega) _|refine Below.drew ?_))⟩
theorem rByName_t {b:Nat} {cs:List Cls} {ps:List Plc} {W:World} (h:RAt b cs W) (ht:TwW cs ps) (s:ByteArray) (x:Nat) (hx:lookL ps s.data.toList=some x):Calls Tryz.prog 57 #[.pointer (some ⟨b,0,none⟩),.string s] W fun e w'=>e=.returned (.tuple #[.int .i64 (x:Int),.int .i64 0])∧w'=W:=by
  have hn:cs.length≤300:=by rw [ht.tw.len];exact ht.wi.hi
  refine (rByName_c h s hn).mono fun e w' zz=>⟨?_,zz.2⟩
  rw [zz.1,Lib.toList_data,look_nmd ht.tw ht.nm,hx]
  show Ending.returned (bnC (x:Int))=_
  rw [bnC,if_neg (by omega)]
theorem ldC_eq {cs:List Cls} {ps:List Plc} (ht:TwW cs ps) (x:Int) (s:ByteArray):ldC cs x s=ldI ps x s:=by
  unfold ldC ldI
  rw [Lib.toList_data s,look_nmd ht.tw ht.nm]
  cases lookL ps s.data.toList with
  | none=>rfl
  | some k =>
    have:¬ lkI (some k)<0:=by show ¬ ((k:Nat):Int)<0;omega
    simp only [this,if_false]
    try (split <;> split <;> rfl)
theorem Tryz.hinfoTy:(Tryz.prog.info? 24).map (fun i=>(i.zero,i.size,i.bytes))=some (some (.agg #[.int .i64 0,.string ⟨#[]⟩]),2,24):=by kernel_rfl
end Go.Proofs.YtkclpcmkplbclaaGreat
