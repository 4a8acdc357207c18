import Derived.Test.YtkoogmegdfpopaaGreatChecked
import Derived.Laws.AppendOwnNone
import Derived.Lib.SmallJoins
import Derived.Deep.RegionHeld3
import Derived.Deep.RegionLaw
import Derived.Maps.AppendAt
import Derived.Test.YtkoogmegdfpopaaGreatSq
set_option maxRecDepth 100000
namespace Go.Proofs.YtkoogmegdfpopaaGreat
open Go.RowKit
theorem Tryz.hinfo9:(Tryz.prog.info? 9).map (fun i=>(i.zero,i.size,i.bytes))=some (some (.string ⟨#[]⟩),1,16):=by kernel_rfl
theorem Tryz.hinfo3:(Tryz.prog.info? 3).map (fun i=>(i.zero,i.size,i.bytes))=some (some (.int .i64 0),1,8):=by kernel_rfl
theorem Tryz.hinfo58:(Tryz.prog.info? 48).map (fun i=>(i.zero,i.size,i.bytes))=some (some (.agg #[.string ⟨#[]⟩,.string ⟨#[]⟩,.int .i64 0,.int .i64 0,.int .i64 0,.slice none 0 0]),6,80):=by kernel_rfl
theorem Tryz.hinfo81:(Tryz.prog.info? 56).map (fun i=>(i.zero,i.size,i.bytes))=some (some (.agg #[.int .i64 0,.int .i64 0,.string ⟨#[]⟩,.bool false,.string ⟨#[]⟩,.string ⟨#[]⟩,.string ⟨#[]⟩]),7,88):=by kernel_rfl
structure Rds (w:World) (v:Value) (n k:Nat) (xs:List Value):Prop where
 len:xs.length=n * k
 val:(v=.slice none 0 0∧n=0)∨∃ bk o cap,v=.slice (some ⟨bk,o,none⟩) n cap∧n≤cap∧cap≤maxLen∧bk<w.heap.size∧∀ j u,xs[j]?=some u→w.cell? ⟨bk,o+j,none⟩=some u
theorem Rds.keep {w w':World} {v:Value} {n k:Nat} {xs:List Value} (h:Rds w v n k xs) (hb:Bw w w'):Rds w' v n k xs:=by
 refine ⟨h.len,?_⟩
 rcases h.val with h1|⟨bk,o,cap,e,h1,h2,h3,h4⟩
 ·exact .inl h1
 ·exact .inr ⟨bk,o,cap,e,h1,h2,Nat.lt_of_lt_of_le h3 hb.size,fun j u hj=>(hb.cell h3).trans (h4 j u hj)⟩
def Rdw (w:World) (v:Value) (n k:Nat) (xs:List Value):Prop:=Rds w v n k xs∨(n=0∧xs=[]∧∃ ad cap,v=.slice (some ad) 0 cap)
theorem Rdw.keep {w w':World} {v:Value} {n k:Nat} {xs:List Value} (h:Rdw w v n k xs) (hb:Bw w w'):Rdw w' v n k xs:=h.imp (fun h=>h.keep hb) id
theorem Rds.slice {w:World} {v:Value} {n k:Nat} {xs:List Value} (h:Rds w v n k xs):∃ a c,v=.slice a n c:=by
 rcases h.val with ⟨e,e2⟩|⟨_,_,c,e,_⟩
 ·rw [e2];exact ⟨_,_,e⟩
 ·exact ⟨_,_,e⟩
theorem Rdw.slice {w:World} {v:Value} {n k:Nat} {xs:List Value} (h:Rdw w v n k xs):∃ a c,v=.slice a n c:=by
 rcases h with h|⟨e,_,ad,cap,e2⟩
 ·exact h.slice
 ·rw [e];exact ⟨_,_,e2⟩
theorem Zj {w w1 w2:World} (h1:Bw w w1) (h2:Bw w1 w2):Bw w w2:=h1.trans (h2.mono h1.size)
theorem ownv {w:World} {base:Nat} {e:TypeId} {k:Nat} {v:Value} {n:Nat} {xs:List Value} (h:w.ownsRow base e k v n xs):∃ a c,v=.slice a n c:=by
 rcases h.2 with ⟨rfl,h2⟩|⟨g,cap,cur,rfl,_⟩
 ·have:n=0:=by first|exact h2|exact h2.1|(simp at h2;omega)
  subst this;exact ⟨none,0,rfl⟩
 ·exact ⟨_,cap,rfl⟩
theorem addr_add (bk o j:Nat):(⟨bk,o,none⟩:Addr).add j=⟨bk,o+j,none⟩:=by unfold Addr.add;split <;> simp_all
theorem Yx {w w':World} (h:w.grownBy w' (Value.ownBlock (.slice none 0 0))):Bw w w' :=
 ⟨h.os,h.tape,h.output,h.size,fun k hk=>h.block k hk (by simp [Value.ownBlock])⟩
theorem Ziu (v:Value) (n:Nat) (xs:List Value) (W:World) (h:Rdw W v n 1 xs) (h1:∀ u∈xs,u.oneCell'=true) (hn:n≤1000000) :
 Calls Tryz.prog 62 #[v] W fun e w'=>∃ v',e=.returned v'∧w'.ownsRow W.heap.size 9 1 v' n xs∧Bw W w':=by
 obtain ⟨i0,hi,hz0,hz1,hz2⟩:=info_parts Tryz.hinfo9
 go_enter Tryz.func62,Tryz.ntmps62
 rcases h with h|⟨rfl,rfl,ad,cap,rfl⟩
 ·rcases h.val with ⟨rfl,rfl⟩|⟨bk,o,cap,rfl,hc1,hc2,hlt,hcell⟩
  ·have hx:xs=[]:=List.length_eq_zero_iff.1 (by rw [h.len,Nat.zero_mul])
   subst hx
   go_wp2_with (at_builtin;refine wpList_append_own_none rfl _ _ 30 rfl W.heap.size 9 i0 1 Tryz.underlying30 hi (.slice none 0 0) 0 [] rfl (World.ownsRow_nil _ _ _ _) rfl ?_)
   exact bodyPost_ret (by simp [results,Tryz.results62,go_sem, *]) rfl ⟨_,rfl,World.ownsRow_nil _ _ _ _,Below.refl _ _⟩
  ·go_wp2_with (at_builtin;refine wpList_append_own _ rfl _ _ 30 rfl W.heap.size 9 i0 (.string ⟨#[]⟩) 1 16 Tryz.underlying30 hi hz0 hz1 hz2 rfl (by decide) (.slice none 0 0) 0 [] rfl (World.ownsRow_nil _ _ _ _) ⟨bk,o,none⟩ n cap xs rfl h.len ?c1 h1 ?c3 ?c4 (Nat.le_refl _) ?_)
   case c1=>intro j u hj;rw [addr_add];exact hcell j u hj
   case c3=>unfold maxLen;omega
   case c4=>omega
   intro v' w' hown hgrow _
   go_wp2
   exact bodyPost_ret (v:=v') (by simp [results,Tryz.results62,go_sem, *]) rfl ⟨_,rfl,hown,Yx hgrow⟩
 ·go_wp2_with (at_builtin;refine wpList_append_own _ rfl _ _ 30 rfl W.heap.size 9 i0 (.string ⟨#[]⟩) 1 16 Tryz.underlying30 hi hz0 hz1 hz2 rfl (by decide) (.slice none 0 0) 0 [] rfl (World.ownsRow_nil _ _ _ _) ad 0 cap [] rfl rfl ?c1 h1 ?c3 ?c4 (Nat.le_refl _) ?_)
  case c1=>intro j u hj;simp at hj
  case c3=>unfold maxLen;omega
  case c4=>omega
  intro v' w' hown hgrow _
  go_wp2
  exact bodyPost_ret (v:=v') (by simp [results,Tryz.results62,go_sem, *]) rfl ⟨_,rfl,hown,Yx hgrow⟩
theorem Ziv (v:Value) (n:Nat) (xs:List Value) (W:World) (h:Rds W v n 1 xs) (h1:∀ u∈xs,u.oneCell'=true) (hn:n≤1000000) :
 Calls Tryz.prog 44 #[v] W fun e w'=>∃ v',e=.returned v'∧w'.ownsRow W.heap.size 3 1 v' n xs∧Bw W w':=by
 obtain ⟨i0,hi,hz0,hz1,hz2⟩:=info_parts Tryz.hinfo3
 go_enter Tryz.func44,Tryz.ntmps44
 rcases h.val with ⟨rfl,rfl⟩|⟨bk,o,cap,rfl,hc1,hc2,hlt,hcell⟩
 ·have hx:xs=[]:=List.length_eq_zero_iff.1 (by rw [h.len,Nat.zero_mul])
  subst hx
  go_wp2_with (at_builtin;refine wpList_append_own_none rfl _ _ 57 rfl W.heap.size 3 i0 1 Tryz.underlying57 hi (.slice none 0 0) 0 [] rfl (World.ownsRow_nil _ _ _ _) rfl ?_)
  exact bodyPost_ret (by simp [results,Tryz.results44,go_sem, *]) rfl ⟨_,rfl,World.ownsRow_nil _ _ _ _,Below.refl _ _⟩
 ·go_wp2_with (at_builtin;refine wpList_append_own _ rfl _ _ 57 rfl W.heap.size 3 i0 (.int .i64 0) 1 8 Tryz.underlying57 hi hz0 hz1 hz2 rfl (by decide) (.slice none 0 0) 0 [] rfl (World.ownsRow_nil _ _ _ _) ⟨bk,o,none⟩ n cap xs rfl h.len ?c1 h1 ?c3 ?c4 (Nat.le_refl _) ?_)
  case c1=>intro j u hj;rw [addr_add];exact hcell j u hj
  case c3=>unfold maxLen;omega
  case c4=>omega
  intro v' w' hown hgrow _
  go_wp2
  exact bodyPost_ret (v:=v') (by simp [results,Tryz.results44,go_sem, *]) rfl ⟨_,rfl,hown,Yx hgrow⟩
theorem Zix (v:Value) (n:Nat) (xs:List Value) (W:World) (h:Rdw W v n 6 xs) (h1:∀ u∈xs,u.oneCell'=true) (hn:n≤1000000) :
 Calls Tryz.prog 63 #[v] W fun e w'=>∃ v',e=.returned v'∧w'.ownsRow W.heap.size 48 6 v' n xs∧Bw W w':=by
 obtain ⟨i0,hi,hz0,hz1,hz2⟩:=info_parts Tryz.hinfo58
 go_enter Tryz.func63,Tryz.ntmps63
 rcases h with h|⟨rfl,rfl,ad,cap,rfl⟩
 ·rcases h.val with ⟨rfl,rfl⟩|⟨bk,o,cap,rfl,hc1,hc2,hlt,hcell⟩
  ·have hx:xs=[]:=List.length_eq_zero_iff.1 (by rw [h.len,Nat.zero_mul])
   subst hx
   go_wp2_with (at_builtin;refine wpList_append_own_none rfl _ _ 31 rfl W.heap.size 48 i0 6 Tryz.underlying31 hi (.slice none 0 0) 0 [] rfl (World.ownsRow_nil _ _ _ _) rfl ?_)
   exact bodyPost_ret (by simp [results,Tryz.results63,go_sem, *]) rfl ⟨_,rfl,World.ownsRow_nil _ _ _ _,Below.refl _ _⟩
  ·go_wp2_with (at_builtin;refine wpList_append_own _ rfl _ _ 31 rfl W.heap.size 48 i0 (.agg #[.string ⟨#[]⟩,.string ⟨#[]⟩,.int .i64 0,.int .i64 0,.int .i64 0,.slice none 0 0]) 6 80 Tryz.underlying31 hi hz0 hz1 hz2 rfl (by decide) (.slice none 0 0) 0 [] rfl (World.ownsRow_nil _ _ _ _) ⟨bk,o,none⟩ n cap xs rfl h.len ?c1 h1 ?c3 ?c4 (Nat.le_refl _) ?_)
   case c1=>intro j u hj;rw [addr_add];exact hcell j u hj
   case c3=>unfold maxLen;omega
   case c4=>omega
   intro v' w' hown hgrow _
   go_wp2
   exact bodyPost_ret (v:=v') (by simp [results,Tryz.results63,go_sem, *]) rfl ⟨_,rfl,hown,Yx hgrow⟩
 ·go_wp2_with (at_builtin;refine wpList_append_own _ rfl _ _ 31 rfl W.heap.size 48 i0 (.agg #[.string ⟨#[]⟩,.string ⟨#[]⟩,.int .i64 0,.int .i64 0,.int .i64 0,.slice none 0 0]) 6 80 Tryz.underlying31 hi hz0 hz1 hz2 rfl (by decide) (.slice none 0 0) 0 [] rfl (World.ownsRow_nil _ _ _ _) ad 0 cap [] rfl rfl ?c1 h1 ?c3 ?c4 (Nat.le_refl _) ?_)
  case c1=>intro j u hj;simp at hj
  case c3=>unfold maxLen;omega
  case c4=>omega
  intro v' w' hown hgrow _
  go_wp2
  exact bodyPost_ret (v:=v') (by simp [results,Tryz.results63,go_sem, *]) rfl ⟨_,rfl,hown,Yx hgrow⟩
theorem Ziw (v:Value) (n:Nat) (xs:List Value) (W:World) (h:Rdw W v n 7 xs) (h1:∀ u∈xs,u.oneCell'=true) (hn:n≤1000000) :
 Calls Tryz.prog 65 #[v] W fun e w'=>∃ v',e=.returned v'∧w'.ownsRow W.heap.size 56 7 v' n xs∧Bw W w':=by
 obtain ⟨i0,hi,hz0,hz1,hz2⟩:=info_parts Tryz.hinfo81
 go_enter Tryz.func65,Tryz.ntmps65
 rcases h with h|⟨rfl,rfl,ad,cap,rfl⟩
 ·rcases h.val with ⟨rfl,rfl⟩|⟨bk,o,cap,rfl,hc1,hc2,hlt,hcell⟩
  ·have hx:xs=[]:=List.length_eq_zero_iff.1 (by rw [h.len,Nat.zero_mul])
   subst hx
   go_wp2_with (at_builtin;refine wpList_append_own_none rfl _ _ 46 rfl W.heap.size 56 i0 7 Tryz.underlying46 hi (.slice none 0 0) 0 [] rfl (World.ownsRow_nil _ _ _ _) rfl ?_)
   exact bodyPost_ret (by simp [results,Tryz.results65,go_sem, *]) rfl ⟨_,rfl,World.ownsRow_nil _ _ _ _,Below.refl _ _⟩
  ·go_wp2_with (at_builtin;refine wpList_append_own _ rfl _ _ 46 rfl W.heap.size 56 i0 (.agg #[.int .i64 0,.int .i64 0,.string ⟨#[]⟩,.bool false,.string ⟨#[]⟩,.string ⟨#[]⟩,.string ⟨#[]⟩]) 7 88 Tryz.underlying46 hi hz0 hz1 hz2 rfl (by decide) (.slice none 0 0) 0 [] rfl (World.ownsRow_nil _ _ _ _) ⟨bk,o,none⟩ n cap xs rfl h.len ?c1 h1 ?c3 ?c4 (Nat.le_refl _) ?_)
   case c1=>intro j u hj;rw [addr_add];exact hcell j u hj
   case c3=>unfold maxLen;omega
   case c4=>omega
   intro v' w' hown hgrow _
   go_wp2
   exact bodyPost_ret (v:=v') (by simp [results,Tryz.results65,go_sem, *]) rfl ⟨_,rfl,hown,Yx hgrow⟩
 ·go_wp2_with (at_builtin;refine wpList_append_own _ rfl _ _ 46 rfl W.heap.size 56 i0 (.agg #[.int .i64 0,.int .i64 0,.string ⟨#[]⟩,.bool false,.string ⟨#[]⟩,.string ⟨#[]⟩,.string ⟨#[]⟩]) 7 88 Tryz.underlying46 hi hz0 hz1 hz2 rfl (by decide) (.slice none 0 0) 0 [] rfl (World.ownsRow_nil _ _ _ _) ad 0 cap [] rfl rfl ?c1 h1 ?c3 ?c4 (Nat.le_refl _) ?_)
  case c1=>intro j u hj;simp at hj
  case c3=>unfold maxLen;omega
  case c4=>omega
  intro v' w' hown hgrow _
  go_wp2
  exact bodyPost_ret (v:=v') (by simp [results,Tryz.results65,go_sem, *]) rfl ⟨_,rfl,hown,Yx hgrow⟩
theorem Zd9 (nm ds:ByteArray) (fl lo st:Int) (v:Value) (n:Nat) (xs:List Value) (W:World) (h:Rdw W v n 7 xs) (h1:∀ u∈xs,u.oneCell'=true) (hn:n≤1000000) :
 Calls Tryz.prog 41 #[.agg #[.string nm,.string ds,.int .i64 fl,.int .i64 lo,.int .i64 st,v]] W fun e w'=>∃ v',e=.returned (.agg #[.string nm,.string ds,.int .i64 fl,.int .i64 lo,.int .i64 st,v'])∧w'.ownsRow W.heap.size 56 7 v' n xs∧Bw W w':=by
 have HC:Hid (∀ w:World,Bw W w→Calls Tryz.prog 65 #[v] w fun e w'=>∃ v',e=.returned v'∧w'.ownsRow w.heap.size 56 7 v' n xs∧Bw w w'):=fun w hb=>Ziw v n xs w (h.keep hb) h1 hn
 clear h h1 hn
 go_enter Tryz.func41,Tryz.ntmps41
 go_wp2_with (go_at_call 65;refine (HC.out _ (((Below.refl _ _).alloc (Nat.le_refl _) _).alloc (by simp) _)).mono ?_;rintro e w1 ⟨v',rfl,hown,hb⟩;obtain ⟨a',cap',rfl⟩:=ownv hown;have HO:Hid (w1.ownsRow (W.heap.size+2) 56 7 (.slice a' n cap') n xs):=Go.Joins.ownsRow_le hown (by simp);clear hown;have h0:=(hb.block W.heap.size (by simp;omega)).trans (heap_alloc2_old W _ _);have h1:=(hb.block (W.heap.size+1) (by simp)).trans (heap_alloc2_new W _ _);have c0:=cell_of_row w1 W.heap.size 0 _ _ _ h0;have y0:=frozen_of_row w1 W.heap.size 0 _ _ h0;have d0:=frozen_of_row w1 (W.heap.size+1) 0 _ _ h1;have c1:=cell_of_row w1 W.heap.size 1 _ _ _ h0;have y1:=frozen_of_row w1 W.heap.size 1 _ _ h0;have d1:=frozen_of_row w1 (W.heap.size+1) 1 _ _ h1;have c2:=cell_of_row w1 W.heap.size 2 _ _ _ h0;have y2:=frozen_of_row w1 W.heap.size 2 _ _ h0;have d2:=frozen_of_row w1 (W.heap.size+1) 2 _ _ h1;have c3:=cell_of_row w1 W.heap.size 3 _ _ _ h0;have y3:=frozen_of_row w1 W.heap.size 3 _ _ h0;have d3:=frozen_of_row w1 (W.heap.size+1) 3 _ _ h1;have c4:=cell_of_row w1 W.heap.size 4 _ _ _ h0;have y4:=frozen_of_row w1 W.heap.size 4 _ _ h0;have d4:=frozen_of_row w1 (W.heap.size+1) 4 _ _ h1;have c5:=cell_of_row w1 W.heap.size 5 _ _ _ h0;have y5:=frozen_of_row w1 W.heap.size 5 _ _ h0;have d5:=frozen_of_row w1 (W.heap.size+1) 5 _ _ h1;have x0:=cell_of_row w1 (W.heap.size+1) 0 _ _ _ h1;have x1:=cell_of_row w1 (W.heap.size+1) 1 _ _ _ h1;have x2:=cell_of_row w1 (W.heap.size+1) 2 _ _ _ h1;have x3:=cell_of_row w1 (W.heap.size+1) 3 _ _ _ h1;have x4:=cell_of_row w1 (W.heap.size+1) 4 _ _ _ h1;have x5:=cell_of_row w1 (W.heap.size+1) 5 _ _ _ h1;simp only [List.getElem?_toArray,List.getElem?_cons_zero,List.getElem?_cons_succ] at c0 c1 c2 c3 c4 c5 x0 x1 x2 x3 x4 x5;have H0:Hid _:=h0;have H1:Hid _:=h1;have HB:Hid (Bw W w1):=Zj (((Below.refl _ _).alloc (Nat.le_refl _) _).alloc (by simp) _) hb;clear h0 h1 hb HC)
 refine bodyPost_ret (v:=.agg #[.string nm,.string ds,.int .i64 fl,.int .i64 lo,.int .i64 st,.slice a' n cap']) (by simp [results,Tryz.results41,go_sem, *]) rfl ⟨_,rfl,?_,?_⟩
 ·refine Go.Joins.ownsRow_le (base:=W.heap.size+2) ?_ (by omega)
  repeat (refine ownsRow_setCell_below ?_ (by simp) _)
  exact HO.out
 ·repeat (refine Below.setCell ?_ (by simp) _)
  exact HB.out
structure HM where
 nm:ByteArray
 ds:ByteArray
 fl:Int
 lo:Int
 st:Int
 n:Nat
 xs:List Value
def hmC (p:HM×Value):List Value:=[.string p.1.nm,.string p.1.ds,.int .i64 p.1.fl,.int .i64 p.1.lo,.int .i64 p.1.st,p.2]
def Zm (l:List (HM×Value)):List Value:=l.flatMap hmC
theorem Y2 (l:List (HM×Value)):(Zm l).length=l.length * 6:=by
 induction l with
 | nil=>rfl
 | cons t ts ih=>simp only [Zm,List.flatMap_cons,List.length_append,hmC] at *;rw [ih];simp;omega
theorem Zp (l:List (HM×Value)) (k:Nat) (p:HM×Value) (h:l[k]?=some p) (j:Nat) (hj:j<6):(Zm l)[k * 6+j]?=(hmC p)[j]?:=by
 induction l generalizing k with
 | nil=>simp at h
 | cons u ts ih =>
   have e:Zm (u::ts)=hmC u++Zm ts:=by simp [Zm]
   rw [e]
   cases k with
   | zero=>simp at h;subst h;rw [List.getElem?_append_left (by simp [hmC];omega)];simp
   | succ k =>
     simp at h
     rw [List.getElem?_append_right (by simp [hmC];omega)]
     have:=ih k h
     rw [← this]
     congr 1
     simp [hmC];omega
theorem Zdx (l:List (HM×Value)) (k:Nat) (m:HM) (u v:Value) (h:l[k]?=some (m,u)):(Zm l).set (k * 6+5) v=Zm (l.set k (m,v)):=by
 induction l generalizing k with
 | nil=>simp at h
 | cons t ts ih =>
   have e:∀ a b,Zm (a::b)=hmC a++Zm b:=fun a b=>by simp [Zm]
   rw [e]
   cases k with
   | zero=>simp at h;subst h;rw [List.set_cons_zero,e];simp [hmC]
   | succ k =>
     simp at h
     rw [List.set_cons_succ,e,← ih k h,List.set_append_right _ _ (by simp [hmC];omega)]
     congr 2
     simp [hmC];omega
theorem set_self {l:List Value} {k:Nat} {v:Value} (h:l[k]?=some v):l.set k v=l:=by
 obtain ⟨h1,h2⟩:=List.getElem?_eq_some_iff.1 h
 subst h2
 exact List.set_getElem_self h1
structure OwnC (w:World) (N:Nat) (vi:Value) (ni:Nat) (xi:List Value) (vm:Value) (qm:List (HM×Value)):Prop where
 ifs:w.ownsRow N 9 1 vi ni xi
 ms:w.ownsRow N 48 6 vm qm.length (Zm qm)
 cod:∀ p∈qm,w.ownsRow N 56 7 p.2 p.1.n p.1.xs
structure CcR (W wr:World) (nm su:ByteArray) (fl ld:Int) (ai am:Option Addr) (ni capi M capm:Nat) (xi:List Value) (pm qm:List (HM×Value)) (k:Nat):Prop where
 b0:wr.heap[W.heap.size]?=some (.cells #[.string nm,.string su,.slice ai ni capi,.int .i64 fl,.int .i64 ld,.slice am M capm] 33 (0,0))
 b1:wr.heap[W.heap.size+1]?=some (.cells #[.string ⟨#[]⟩,.string ⟨#[]⟩,.slice none 0 0,.int .i64 0,.int .i64 0,.slice none 0 0] 33 (0,0))
 ifs:wr.ownsRow (W.heap.size+2) 9 1 (.slice ai ni capi) ni xi
 len:qm.length=M
 ms:wr.ownsRow (W.heap.size+2) 48 6 (.slice am M capm) M (Zm qm)
 eq:qm.map Prod.fst=pm.map Prod.fst
 old:∀ j p,qm[j]?=some p→j<k→wr.ownsRow (W.heap.size+2) 56 7 p.2 p.1.n p.1.xs
 new:∀ j,k≤j→qm[j]?=pm[j]?
 below:Bw W wr
theorem Ze {w:World} {n1 e1 s1:Nat} {v1:Value} {l1:Nat} {x1:List Value} (h1:w.ownsRow n1 e1 s1 v1 l1 x1) {b:Nat} {cs:Array Value} {t:TypeId} (hb:w.heap[b]?=some (.cells cs t (0,0))) (hne:e1≠t):v1.ownBlock=none∨v1.ownBlock≠some b:=by
 rcases h1.2 with ⟨rfl,_⟩|⟨g,cap,cur,rfl,_,hg,_⟩
 ·exact .inl rfl
 ·refine .inr fun e=>?_
  simp [Value.ownBlock] at e
  subst e
  rw [hg] at hb
  simp only [Option.some.injEq,Obj.cells.injEq] at hb
  exact hne hb.2.1
theorem Zn (w:World) (g j:Nat) (v:Value):w.grownBy (w.setCell ⟨g,j,none⟩ v) (some g):=⟨rfl,rfl,rfl,by simp,fun k _ hne=>heap_setCell_other w ⟨g,j,none⟩ k v (fun e=>hne (by rw [e]))⟩
theorem below_grown {w w':World} (h:Bw w w') (r:Option Nat):w.grownBy w' r:=⟨h.os,h.tape,h.output,h.size,fun k hk _=>h.block k hk⟩
theorem Zi {w w':World} {N e s:Nat} {v:Value} {n:Nat} {xs:List Value} (h:w.ownsRow N e s v n xs) (hb:Bw w w'):w'.ownsRow N e s v n xs:=h.kept (below_grown hb none) (by cases v.ownBlock <;> simp)
theorem Zw {w:World} {N e s:Nat} {v:Value} {n:Nat} {xs:List Value} (h:w.ownsRow N e s v n xs):Rds w v n s xs:=by
 refine ⟨h.1,?_⟩
 rcases h.2 with ⟨rfl,h2⟩|⟨g,cap,cur,rfl,hb,hg,h3,h4,_,htake⟩
 ·exact .inl ⟨rfl,h2⟩
 ·refine .inr ⟨g,0,cap,rfl,h3,h4,(Array.getElem?_eq_some_iff.1 hg).1,fun j u hj=>?_⟩
  rw [Nat.zero_add,cell_of_row w g j cur e (0,0) hg]
  have:=hj
  rw [← htake,List.getElem?_take] at this
  split at this
  ·simpa using this
  ·cases this
theorem CcR.next {W wr w4:World} {nm su:ByteArray} {fl ld:Int} {ai:Option Addr} {ni capi M capm g k:Nat} {xi:List Value} {pm qm:List (HM×Value)} {m:HM} {u v':Value} (h:CcR W wr nm su fl ld ai (some ⟨g,0,none⟩) ni capi M capm xi pm qm k) (hk:qm[k]?=some (m,u)) (hb:Bw wr w4) (ho:w4.ownsRow (W.heap.size+2) 56 7 v' m.n m.xs) :
 CcR W ((((((w4.setCell ⟨g,k * 6,none⟩ (.string m.nm)).setCell ⟨g,k * 6+1,none⟩ (.string m.ds)).setCell ⟨g,k * 6+2,none⟩ (.int .i64 m.fl)).setCell ⟨g,k * 6+3,none⟩ (.int .i64 m.lo)).setCell ⟨g,k * 6+4,none⟩ (.int .i64 m.st)).setCell ⟨g,k * 6+5,none⟩ v') nm su fl ld ai (some ⟨g,0,none⟩) ni capi M capm xi pm (qm.set k (m,v')) (k+1):=by
 have hms:=Zi h.ms hb
 have hb0:=(hb.block W.heap.size (Array.getElem?_eq_some_iff.1 h.b0).1).trans h.b0
 have hb1:=(hb.block (W.heap.size+1) (Array.getElem?_eq_some_iff.1 h.b1).1).trans h.b1
 obtain ⟨hgN,hglt⟩:=hms.lt g rfl
 have n0:W.heap.size≠g:=by omega
 have n1:W.heap.size+1≠g:=by omega
 have at6:=Zp qm k _ hk
 have hkind:∃ cur,w4.heap[g]?=some (.cells cur 48 (0,0)):=by
  rcases hms.2 with ⟨e,_⟩|⟨g',cap',cur,e,_,hg,_⟩
  ·simp at e
  ·simp only [Value.slice.injEq,Option.some.injEq,Addr.mk.injEq,and_true,true_and] at e
   obtain ⟨rfl,rfl⟩:=e
   exact ⟨cur,hg⟩
 obtain ⟨cur,hcur⟩:=hkind
 obtain ⟨s0,_⟩:=hms.stored (k * 6) (.string m.nm)
 rw [set_self (show (Zm qm)[k * 6]?=some (.string m.nm) from at6 0 (by omega))] at s0
 obtain ⟨s1,_⟩:=s0.stored (k * 6+1) (.string m.ds)
 rw [set_self (show (Zm qm)[k * 6+1]?=some (.string m.ds) from at6 1 (by omega))] at s1
 obtain ⟨s2,_⟩:=s1.stored (k * 6+2) (.int .i64 m.fl)
 rw [set_self (show (Zm qm)[k * 6+2]?=some (.int .i64 m.fl) from at6 2 (by omega))] at s2
 obtain ⟨s3,_⟩:=s2.stored (k * 6+3) (.int .i64 m.lo)
 rw [set_self (show (Zm qm)[k * 6+3]?=some (.int .i64 m.lo) from at6 3 (by omega))] at s3
 obtain ⟨s4,_⟩:=s3.stored (k * 6+4) (.int .i64 m.st)
 rw [set_self (show (Zm qm)[k * 6+4]?=some (.int .i64 m.st) from at6 4 (by omega))] at s4
 obtain ⟨s5,_⟩:=s4.stored (k * 6+5) v'
 rw [Zdx qm k m u v' hk] at s5
 have G:w4.grownBy ((((((w4.setCell ⟨g,k * 6,none⟩ (.string m.nm)).setCell ⟨g,k * 6+1,none⟩ (.string m.ds)).setCell ⟨g,k * 6+2,none⟩ (.int .i64 m.fl)).setCell ⟨g,k * 6+3,none⟩ (.int .i64 m.lo)).setCell ⟨g,k * 6+4,none⟩ (.int .i64 m.st)).setCell ⟨g,k * 6+5,none⟩ v') (some g) :=
  (Zn _ g _ _).trans ((Zn _ g _ _).trans ((Zn _ g _ _).trans ((Zn _ g _ _).trans ((Zn _ g _ _).trans (Zn _ g _ _)))))
 have hlt0:=(Array.getElem?_eq_some_iff.1 hb0).1
 have hlt1:=(Array.getElem?_eq_some_iff.1 hb1).1
 refine ⟨(G.block _ hlt0 (by simpa using n0)).trans hb0,(G.block _ hlt1 (by simpa using n1)).trans hb1,(Zi h.ifs hb).kept G (Ze (Zi h.ifs hb) hcur (by decide)),by rw [List.length_set];exact h.len,s5,?_,?_,?_,?_⟩
 ·rw [List.map_set,← h.eq]
  refine List.ext_getElem? fun j=>?_
  rw [List.getElem?_set]
  split
  ·rename_i e;subst e
   rw [List.getElem?_map,hk]
   split
   ·rfl
   ·rename_i hl;exact absurd (by rw [List.length_map];exact (List.getElem?_eq_some_iff.1 hk).1) hl
  ·rfl
 ·intro j p hj hjk
  by_cases e:j=k
  ·subst e
   rw [List.getElem?_set_self (List.getElem?_eq_some_iff.1 hk).1] at hj
   cases hj
   exact ho.kept G (Ze ho hcur (by decide))
  ·rw [List.getElem?_set_ne (fun e2=>e e2.symm)] at hj
   have:=Zi (h.old j p hj (by omega)) hb
   exact this.kept G (Ze this hcur (by decide))
 ·intro j hj
  rw [List.getElem?_set_ne (by omega)]
  exact h.new j (by omega)
 ·exact (h.below.trans (hb.mono h.below.size)).grown G (Nat.le_trans h.below.size hb.size) (fun k hk=>by cases hk;omega)
theorem Zbq (nm su:ByteArray) (fl ld:Int) (vi vm:Value) (ni:Nat) (xi:List Value) (pm:List (HM×Value)) (W:World) (hi:Rdw W vi ni 1 xi) (hi1:∀ u∈xi,u.oneCell'=true) (hni:ni≤1000000)
 (hm:Rdw W vm pm.length 6 (Zm pm)) (hnm:pm.length≤1000000) (hc:∀ p∈pm,Rdw W p.2 p.1.n 7 p.1.xs∧(∀ u∈p.1.xs,u.oneCell'=true)∧p.1.n≤1000000) :
 Calls Tryz.prog 37 #[.agg #[.string nm,.string su,vi,.int .i64 fl,.int .i64 ld,vm]] W fun e w'=>∃ vi' vm' qm,e=.returned (.agg #[.string nm,.string su,vi',.int .i64 fl,.int .i64 ld,vm'])∧OwnC w' W.heap.size vi' ni xi vm' qm∧qm.map Prod.fst=pm.map Prod.fst∧Bw W w':=by
 have hm1:∀ u∈Zm pm,u.oneCell'=true:=by
  intro u hu
  simp only [Zm,List.mem_flatMap] at hu
  obtain ⟨p,hp,hu⟩:=hu
  simp only [hmC,List.mem_cons,List.not_mem_nil,or_false] at hu
  rcases hu with rfl|rfl|rfl|rfl|rfl|rfl <;> try rfl
  obtain ⟨a,c,e⟩:=(hc p hp).1.slice
  rw [e];rfl
 have HI:Hid (∀ w:World,Bw W w→Calls Tryz.prog 62 #[vi] w fun e w'=>∃ v',e=.returned v'∧w'.ownsRow w.heap.size 9 1 v' ni xi∧Bw w w'):=fun w hb=>Ziu vi ni xi w (hi.keep hb) hi1 hni
 have HM':Hid (∀ w:World,Bw W w→Calls Tryz.prog 63 #[vm] w fun e w'=>∃ v',e=.returned v'∧w'.ownsRow w.heap.size 48 6 v' pm.length (Zm pm)∧Bw w w'):=fun w hb=>Zix vm pm.length (Zm pm) w (hm.keep hb) hm1 hnm
 have HC:Hid (∀ p∈pm,∀ w:World,Bw W w→Calls Tryz.prog 41 #[.agg #[.string p.1.nm,.string p.1.ds,.int .i64 p.1.fl,.int .i64 p.1.lo,.int .i64 p.1.st,p.2]] w fun e w'=>∃ v',e=.returned (.agg #[.string p.1.nm,.string p.1.ds,.int .i64 p.1.fl,.int .i64 p.1.lo,.int .i64 p.1.st,v'])∧w'.ownsRow w.heap.size 56 7 v' p.1.n p.1.xs∧Bw w w'):=fun p hp w hb=>Zd9 _ _ _ _ _ p.2 p.1.n p.1.xs w ((hc p hp).1.keep hb) (hc p hp).2.1 (hc p hp).2.2
 have HCV:Hid (∀ p∈pm,∃ a n c,p.2=.slice a n c):=fun p hp=>by
  obtain ⟨a,c,e⟩:=(hc p hp).1.slice
  exact ⟨_,_,_,e⟩
 obtain ⟨vi0,rfl⟩:∃ v,v=vi:=⟨_,rfl⟩
 have hvi:∃ a c,vi0=.slice a ni c:=hi.slice
 have hvm:∃ a c,vm=.slice a pm.length c:=hm.slice
 obtain ⟨ai0,ci0,rfl⟩:=hvi
 obtain ⟨am0,cm0,rfl⟩:=hvm
 obtain ⟨M,hM⟩:∃ M,pm.length=M:=⟨_,rfl⟩
 have HML:Hid (pm.length=M):=hM
 rw [hM] at hnm HM'
 rw [hM]
 clear hi hi1 hm hm1 hc hM
 go_enter Tryz.func37,Tryz.ntmps37
 go_wp2_with (first
  | (go_at_call 62;refine (HI.out _ (((Below.refl _ _).alloc (Nat.le_refl _) _).alloc (by simp) _)).mono ?_;rintro e w1 ⟨v',rfl,hown,hb⟩;obtain ⟨ai,capi,rfl⟩:=ownv hown;have HO:Hid (w1.ownsRow (W.heap.size+2) 9 1 (.slice ai ni capi) ni xi):=Go.Joins.ownsRow_le hown (by simp);have h0:=(hb.block W.heap.size (by simp;omega)).trans (heap_alloc2_old W _ _);have h1:=(hb.block (W.heap.size+1) (by simp)).trans (heap_alloc2_new W _ _);have c0:=cell_of_row w1 W.heap.size 0 _ _ _ h0;have y0:=frozen_of_row w1 W.heap.size 0 _ _ h0;have c1:=cell_of_row w1 W.heap.size 1 _ _ _ h0;have y1:=frozen_of_row w1 W.heap.size 1 _ _ h0;have c2:=cell_of_row w1 W.heap.size 2 _ _ _ h0;have y2:=frozen_of_row w1 W.heap.size 2 _ _ h0;have c3:=cell_of_row w1 W.heap.size 3 _ _ _ h0;have y3:=frozen_of_row w1 W.heap.size 3 _ _ h0;have c4:=cell_of_row w1 W.heap.size 4 _ _ _ h0;have y4:=frozen_of_row w1 W.heap.size 4 _ _ h0;have c5:=cell_of_row w1 W.heap.size 5 _ _ _ h0;have y5:=frozen_of_row w1 W.heap.size 5 _ _ h0;simp only [List.getElem?_toArray,List.getElem?_cons_zero,List.getElem?_cons_succ] at c0 c1 c2 c3 c4 c5;have H0:Hid _:=h0;have H1:Hid _:=h1;have hs1:=hb.size;have HB:Hid (Bw W w1):=Zj (((Below.refl _ _).alloc (Nat.le_refl _) _).alloc (by simp) _) hb;simp only [World.size_alloc] at hs1;clear h0 h1 hb hown HI)
  | (go_at_call 63;refine (HM'.out _ (HB.out.setCell (p:=⟨W.heap.size,2,none⟩) (Nat.le_refl _) _)).mono ?_;rintro e w2 ⟨v',rfl,hown,hb⟩;obtain ⟨am,capm,rfl⟩:=ownv hown;have HO2:Hid (w2.ownsRow (W.heap.size+2) 48 6 (.slice am M capm) M (Zm pm)):=Go.Joins.ownsRow_le hown (by simp;omega);have HO3:Hid (w2.ownsRow (W.heap.size+2) 9 1 (.slice ai ni capi) ni xi):=Zi (ownsRow_setCell_below (a:=⟨W.heap.size,2,none⟩) HO.out (Nat.lt_add_of_pos_right (by decide)) _) hb;have h0:w2.heap[W.heap.size]?=some (.cells #[.string nm,.string su,.slice ai ni capi,.int .i64 fl,.int .i64 ld,.slice am0 M cm0] 33 (0,0)):=(hb.block W.heap.size (by simp;omega)).trans (Go.Joins.block_setCell H0.out (.slice ai ni capi));have h1:=(hb.block (W.heap.size+1) (by simp;omega)).trans ((heap_setCell_other _ _ _ _ (Nat.succ_ne_self _)).trans H1.out);clear c0 c1 c2 c3 c4 c5 y0 y1 y2 y3 y4 y5;have c0:=cell_of_row w2 W.heap.size 0 _ _ _ h0;have y0:=frozen_of_row w2 W.heap.size 0 _ _ h0;have c1:=cell_of_row w2 W.heap.size 1 _ _ _ h0;have y1:=frozen_of_row w2 W.heap.size 1 _ _ h0;have c2:=cell_of_row w2 W.heap.size 2 _ _ _ h0;have y2:=frozen_of_row w2 W.heap.size 2 _ _ h0;have c3:=cell_of_row w2 W.heap.size 3 _ _ _ h0;have y3:=frozen_of_row w2 W.heap.size 3 _ _ h0;have c4:=cell_of_row w2 W.heap.size 4 _ _ _ h0;have y4:=frozen_of_row w2 W.heap.size 4 _ _ h0;have c5:=cell_of_row w2 W.heap.size 5 _ _ _ h0;have y5:=frozen_of_row w2 W.heap.size 5 _ _ h0;simp only [List.getElem?_toArray,List.getElem?_cons_zero,List.getElem?_cons_succ] at c0 c1 c2 c3 c4 c5;have H20:Hid _:=h0;have H21:Hid _:=h1;have hs2:=hb.size;have HB2:Hid (Bw W w2):=Zj (HB.out.setCell (p:=⟨W.heap.size,2,none⟩) (Nat.le_refl _) _) hb;clear h0 h1 hb hown HM' HO H0 H1 HB))
 have HR0:Hid (CcR W (w2.setCell ⟨W.heap.size,5,none⟩ (.slice am M capm)) nm su fl ld ai am ni capi M capm xi pm pm 0) :=
  ⟨Go.Joins.block_setCell H20.out _,(heap_setCell_other _ _ _ _ (Nat.succ_ne_self _)).trans H21.out,ownsRow_setCell_below (a:=⟨W.heap.size,5,none⟩) HO3.out (Nat.lt_add_of_pos_right (by decide)) _,HML.out,ownsRow_setCell_below (a:=⟨W.heap.size,5,none⟩) HO2.out (Nat.lt_add_of_pos_right (by decide)) _,rfl,fun j p _ h=>absurd h (Nat.not_lt_zero _),fun j _=>rfl,HB2.out.setCell (p:=⟨W.heap.size,5,none⟩) (Nat.le_refl _) _⟩
 clear c0 c1 c2 c3 c4 c5 y0 y1 y2 y3 y4 y5 H20 H21 HO2 HO3 HB2
 go_loopw [16] (fun kv wr=>∃ (k:Nat) (qm:List (HM×Value)),kv=.int .i64 k∧k≤M∧Hid (CcR W wr nm su fl ld ai am ni capi M capm xi pm qm k)) (fun kv _=>M - (intOf kv).toNat)
 case atStart=>exact ⟨0,pm,rfl,Nat.zero_le _,HR0⟩
 case round =>
  obtain ⟨k,qm,rfl,hk,hR⟩:=hrel
  clear HR0
  have h0:=hR.out.b0
  have c0:=cell_of_row wr W.heap.size 0 _ _ _ h0;have y0:=frozen_of_row wr W.heap.size 0 _ _ h0;have c1:=cell_of_row wr W.heap.size 1 _ _ _ h0;have y1:=frozen_of_row wr W.heap.size 1 _ _ h0;have c2:=cell_of_row wr W.heap.size 2 _ _ _ h0;have y2:=frozen_of_row wr W.heap.size 2 _ _ h0;have c3:=cell_of_row wr W.heap.size 3 _ _ _ h0;have y3:=frozen_of_row wr W.heap.size 3 _ _ h0;have c4:=cell_of_row wr W.heap.size 4 _ _ _ h0;have y4:=frozen_of_row wr W.heap.size 4 _ _ h0;have c5:=cell_of_row wr W.heap.size 5 _ _ _ h0;have y5:=frozen_of_row wr W.heap.size 5 _ _ h0;simp only [List.getElem?_toArray,List.getElem?_cons_zero,List.getElem?_cons_succ] at c0 c1 c2 c3 c4 c5
  by_cases hlt:k<M
  ·obtain ⟨⟨m,u⟩,hku⟩:∃ p,qm[k]?=some p:=⟨_,List.getElem?_eq_getElem (by rw [hR.out.len];exact hlt)⟩
   obtain ⟨g,capg,hgv⟩:=Go.Joins.ownsRow_form hR.out.ms (by omega)
   simp only [Value.slice.injEq] at hgv
   obtain ⟨rfl,-,-⟩:=hgv
   have hmem:(m,u)∈pm:=List.mem_of_getElem? ((hR.out.new k (Nat.le_refl _)).symm.trans hku)
   obtain ⟨ua,un,uc,hu⟩:=HCV.out _ hmem
   simp only at hu
   subst hu
   have HC1:Hid (∀ w:World,Bw W w→Calls Tryz.prog 41 #[.agg #[.string m.nm,.string m.ds,.int .i64 m.fl,.int .i64 m.lo,.int .i64 m.st,.slice ua un uc]] w fun e w'=>∃ v',e=.returned (.agg #[.string m.nm,.string m.ds,.int .i64 m.fl,.int .i64 m.lo,.int .i64 m.st,v'])∧w'.ownsRow w.heap.size 56 7 v' m.n m.xs∧Bw w w'):=HC.out _ hmem
   have HKU:Hid (qm[k]?=some (m,.slice ua un uc)):=hku
   obtain ⟨hgN,hglt⟩:=hR.out.ms.lt g rfl
   have hMl:k * 6+6≤M * 6:=by omega
   have g0:wr.cell? ⟨g,k * 6,none⟩=some (.string m.nm):=(hR.out.ms.cellAt (k * 6+0) (by omega)).trans (Zp qm k _ HKU.out 0 (by omega));have f0:=hR.out.ms.frozenAt (k * 6)
   have g1:=(hR.out.ms.cellAt (k * 6+1) (by omega)).trans (Zp qm k _ HKU.out 1 (by omega));have f1:=hR.out.ms.frozenAt (k * 6+1);simp only [hmC,List.getElem?_cons_zero,List.getElem?_cons_succ] at g1
   have g2:=(hR.out.ms.cellAt (k * 6+2) (by omega)).trans (Zp qm k _ HKU.out 2 (by omega));have f2:=hR.out.ms.frozenAt (k * 6+2);simp only [hmC,List.getElem?_cons_zero,List.getElem?_cons_succ] at g2
   have g3:=(hR.out.ms.cellAt (k * 6+3) (by omega)).trans (Zp qm k _ HKU.out 3 (by omega));have f3:=hR.out.ms.frozenAt (k * 6+3);simp only [hmC,List.getElem?_cons_zero,List.getElem?_cons_succ] at g3
   have g4:=(hR.out.ms.cellAt (k * 6+4) (by omega)).trans (Zp qm k _ HKU.out 4 (by omega));have f4:=hR.out.ms.frozenAt (k * 6+4);simp only [hmC,List.getElem?_cons_zero,List.getElem?_cons_succ] at g4
   have g5:=(hR.out.ms.cellAt (k * 6+5) (by omega)).trans (Zp qm k _ HKU.out 5 (by omega));have f5:=hR.out.ms.frozenAt (k * 6+5);simp only [hmC,List.getElem?_cons_zero,List.getElem?_cons_succ] at g5
   have hsz:=hR.out.below.size
   clear hku h0 hmem HC HCV
   have hn0:¬ W.heap.size=g:=by omega
   have hn1:¬ g=W.heap.size:=by omega
   have hn2:¬ g=wr.heap.size:=by omega
   have hn3:¬ wr.heap.size=g:=by omega
   have hWlt:W.heap.size<wr.heap.size:=by omega
   have hWg:W.heap.size<wr.heap.size+1:=by omega
   have hn4:¬ W.heap.size=wr.heap.size:=by omega
   obtain ⟨Wm,hWm⟩:∃ x,x=wr.alloc (.cells #[.string m.nm,.string m.ds,.int .i64 m.fl,.int .i64 m.lo,.int .i64 m.st,.slice ua un uc] 48):=⟨_,rfl⟩
   have HWB:Hid (Bw wr Wm):=by rw [hWm];exact (Below.refl _ _).alloc (Nat.le_refl _) _
   have HWE:Hid (Wm=wr.alloc (.cells #[.string m.nm,.string m.ds,.int .i64 m.fl,.int .i64 m.lo,.int .i64 m.st,.slice ua un uc] 48)):=hWm
   have hWm0:Wm.heap[wr.heap.size]?=some (.cells #[.string m.nm,.string m.ds,.int .i64 m.fl,.int .i64 m.lo,.int .i64 m.st,.slice ua un uc] 48 (0,0)):=by rw [hWm];exact heap_alloc_new wr _
   have hWms:Wm.heap.size=wr.heap.size+1:=by rw [hWm];simp
   clear hWm
   go_wp2
   rw [← HWE.out]
   have m0:=cell_of_row Wm wr.heap.size 0 _ _ _ hWm0
   have my0:=frozen_of_row Wm wr.heap.size 0 _ _ hWm0
   have m1:=cell_of_row Wm wr.heap.size 1 _ _ _ hWm0
   have my1:=frozen_of_row Wm wr.heap.size 1 _ _ hWm0
   have m2:=cell_of_row Wm wr.heap.size 2 _ _ _ hWm0
   have my2:=frozen_of_row Wm wr.heap.size 2 _ _ hWm0
   have m3:=cell_of_row Wm wr.heap.size 3 _ _ _ hWm0
   have my3:=frozen_of_row Wm wr.heap.size 3 _ _ hWm0
   have m4:=cell_of_row Wm wr.heap.size 4 _ _ _ hWm0
   have my4:=frozen_of_row Wm wr.heap.size 4 _ _ hWm0
   have m5:=cell_of_row Wm wr.heap.size 5 _ _ _ hWm0
   have my5:=frozen_of_row Wm wr.heap.size 5 _ _ hWm0
   simp only [List.getElem?_toArray,List.getElem?_cons_zero,List.getElem?_cons_succ] at m0 m1 m2 m3 m4 m5
   have hz5:Wm.cell? ⟨W.heap.size,5,none⟩=some (.slice (some ⟨g,0,none⟩) M capm):=(HWB.out.cell (p:=⟨W.heap.size,5,none⟩) hWlt).trans c5
   clear c0 c1 c2 c3 c4 c5 y0 y1 y2 y3 y4 y5 g0 g1 g2 g3 g4 g5 f0 f1 f2 f3 f4 f5
   go_region_held3 (fun w'=>w'.cell? ⟨W.heap.size,5,none⟩=some (.slice (some ⟨g,0,none⟩) M capm)∧w'.cell? ⟨wr.heap.size,0,none⟩=some (.string m.nm)∧w'.cell? ⟨wr.heap.size,1,none⟩=some (.string m.ds)∧w'.cell? ⟨wr.heap.size,2,none⟩=some (.int .i64 m.fl)∧w'.cell? ⟨wr.heap.size,3,none⟩=some (.int .i64 m.lo)∧w'.cell? ⟨wr.heap.size,4,none⟩=some (.int .i64 m.st)∧w'.cell? ⟨wr.heap.size,5,none⟩=some (.slice ua un uc)) (go_keep)
    (first
     | (go_at_call 41;refine (HC1.out _ (Zj hR.out.below HWB.out.drew)).mono ?_;rintro e w4 ⟨v',rfl,hown,hb⟩;obtain ⟨ax,cx,rfl⟩:=ownv hown;have B4:Hid (Bw wr w4):=HWB.out.drew.trans (hb.mono (by simp;omega));have O4:Hid (w4.ownsRow (W.heap.size+2) 56 7 (.slice ax m.n cx) m.n m.xs):=Go.Joins.ownsRow_le hown (by simp;omega);have q5:=(hb.cell (p:=⟨W.heap.size,5,none⟩) (by simp;omega)).trans hz5;have hw4:=(hb.block wr.heap.size (by simp;omega)).trans hWm0;clear m0 m1 m2 m3 m4 m5 my0 my1 my2 my3 my4 my5;have m0:=cell_of_row w4 wr.heap.size 0 _ _ _ hw4;have my0:=frozen_of_row w4 wr.heap.size 0 _ _ hw4;have m1:=cell_of_row w4 wr.heap.size 1 _ _ _ hw4;have my1:=frozen_of_row w4 wr.heap.size 1 _ _ hw4;have m2:=cell_of_row w4 wr.heap.size 2 _ _ _ hw4;have my2:=frozen_of_row w4 wr.heap.size 2 _ _ hw4;have m3:=cell_of_row w4 wr.heap.size 3 _ _ _ hw4;have my3:=frozen_of_row w4 wr.heap.size 3 _ _ hw4;have m4:=cell_of_row w4 wr.heap.size 4 _ _ _ hw4;have my4:=frozen_of_row w4 wr.heap.size 4 _ _ hw4;have m5:=cell_of_row w4 wr.heap.size 5 _ _ _ hw4;have my5:=frozen_of_row w4 wr.heap.size 5 _ _ hw4;simp only [List.getElem?_toArray,List.getElem?_cons_zero,List.getElem?_cons_succ] at m0 m1 m2 m3 m4 m5;clear hw4;have M4:=Zi (Zi hR.out.ms HWB.out.drew) hb;have k0:w4.cell? ⟨g,k * 6,none⟩=some (.string m.nm):=(M4.cellAt (k * 6+0) (by omega)).trans (Zp qm k _ HKU.out 0 (by omega));have l0:=M4.frozenAt (k * 6);have k1:w4.cell? ⟨g,k * 6+1,none⟩=some (.string m.ds):=(M4.cellAt (k * 6+1) (by omega)).trans (Zp qm k _ HKU.out 1 (by omega));have l1:=M4.frozenAt (k * 6+1);have k2:w4.cell? ⟨g,k * 6+2,none⟩=some (.int .i64 m.fl):=(M4.cellAt (k * 6+2) (by omega)).trans (Zp qm k _ HKU.out 2 (by omega));have l2:=M4.frozenAt (k * 6+2);have k3:w4.cell? ⟨g,k * 6+3,none⟩=some (.int .i64 m.lo):=(M4.cellAt (k * 6+3) (by omega)).trans (Zp qm k _ HKU.out 3 (by omega));have l3:=M4.frozenAt (k * 6+3);have k4:w4.cell? ⟨g,k * 6+4,none⟩=some (.int .i64 m.st):=(M4.cellAt (k * 6+4) (by omega)).trans (Zp qm k _ HKU.out 4 (by omega));have l4:=M4.frozenAt (k * 6+4);have k5:w4.cell? ⟨g,k * 6+5,none⟩=some (.slice ua un uc):=(M4.cellAt (k * 6+5) (by omega)).trans (Zp qm k _ HKU.out 5 (by omega));have l5:=M4.frozenAt (k * 6+5);clear hown hb HC1 M4 hz5))
   go_wp2
   go_roundw
   case rel=>exact ⟨k+1,_,by go_num,by omega,hR.out.next HKU.out B4.out O4.out⟩
   case measure=>simp [intOf];omega
  ·have h1:=hR.out.b1
   have d0:=cell_of_row wr (W.heap.size+1) 0 _ _ _ h1
   have e0:=frozen_of_row wr (W.heap.size+1) 0 _ _ h1
   have d1:=cell_of_row wr (W.heap.size+1) 1 _ _ _ h1
   have e1:=frozen_of_row wr (W.heap.size+1) 1 _ _ h1
   have d2:=cell_of_row wr (W.heap.size+1) 2 _ _ _ h1
   have e2:=frozen_of_row wr (W.heap.size+1) 2 _ _ h1
   have d3:=cell_of_row wr (W.heap.size+1) 3 _ _ _ h1
   have e3:=frozen_of_row wr (W.heap.size+1) 3 _ _ h1
   have d4:=cell_of_row wr (W.heap.size+1) 4 _ _ _ h1
   have e4:=frozen_of_row wr (W.heap.size+1) 4 _ _ h1
   have d5:=cell_of_row wr (W.heap.size+1) 5 _ _ _ h1
   have e5:=frozen_of_row wr (W.heap.size+1) 5 _ _ h1
   simp only [List.getElem?_toArray,List.getElem?_cons_zero,List.getElem?_cons_succ] at d0 d1 d2 d3 d4 d5
   have hkk:¬ (k:Int)<(M:Int):=by omega
   clear h0 h1
   go_wp2
   have hR6:=hR.out
   refine bodyPost_ret (v:=.agg #[.string nm,.string su,.slice ai ni capi,.int .i64 fl,.int .i64 ld,.slice am M capm]) (by simp [results,Tryz.results37,go_sem, *]) rfl ⟨_,_,rfl,qm,⟨?_,?_,?_⟩,hR6.eq,?_⟩
   ·refine Go.Joins.ownsRow_le (base:=W.heap.size+2) ?_ (by omega)
    repeat (refine ownsRow_setCell_below ?_ (by simp) _)
    exact hR6.ifs
   ·refine Go.Joins.ownsRow_le (base:=W.heap.size+2) ?_ (by omega)
    repeat (refine ownsRow_setCell_below ?_ (by simp) _)
    rw [hR6.len]
    exact hR6.ms
   ·intro p hp
    obtain ⟨j,hj⟩:=List.getElem?_of_mem hp
    have hjl:=(List.getElem?_eq_some_iff.1 hj).1
    rw [hR6.len] at hjl
    refine Go.Joins.ownsRow_le (base:=W.heap.size+2) ?_ (by omega)
    repeat (refine ownsRow_setCell_below ?_ (by simp) _)
    exact hR6.old j p hj (by omega)
   ·repeat (refine Below.setCell ?_ (by simp) _)
    exact hR6.below
theorem Ziy (nm su:ByteArray) (fl ld:Int) (vi vm:Value) (ni:Nat) (xi:List Value) (pm:List (HM×Value)) (W:World) (hi:Rds W vi ni 1 xi) (hi1:∀ u∈xi,u.oneCell'=true) (hni:ni≤1000000)
 (hm:Rds W vm pm.length 6 (Zm pm)) (hnm:pm.length≤1000000) (hc:∀ p∈pm,Rds W p.2 p.1.n 7 p.1.xs∧(∀ u∈p.1.xs,u.oneCell'=true)∧p.1.n≤1000000) :
 Calls Tryz.prog 37 #[.agg #[.string nm,.string su,vi,.int .i64 fl,.int .i64 ld,vm]] W fun e w'=>∃ vi' vm' qm,e=.returned (.agg #[.string nm,.string su,vi',.int .i64 fl,.int .i64 ld,vm'])∧OwnC w' W.heap.size vi' ni xi vm' qm∧qm.map Prod.fst=pm.map Prod.fst∧Bw W w' :=
 Zbq nm su fl ld vi vm ni xi pm W (.inl hi) hi1 hni (.inl hm) hnm (fun p hp=>⟨.inl (hc p hp).1,(hc p hp).2⟩)
def numV (n:Nat):Value:=.int .i64 (n:Int)
def Zg (cl:List Nat):List Nat→List Nat
 | []=>cl
 | i::r=>Zg (if cl.contains i then cl else cl++[i]) r
theorem Zf6 (cl a:List Nat) (i:Nat):Zg cl (a++[i])=(if (Zg cl a).contains i then Zg cl a else Zg cl a++[i]):=by
 induction a generalizing cl with
 | nil=>rfl
 | cons x a ih=>exact ih _
theorem Yu (cl a:List Nat):(Zg cl a).length≤cl.length+a.length:=by
 induction a generalizing cl with
 | nil=>exact Nat.le_refl _
 | cons x a ih =>
   refine Nat.le_trans (ih _) ?_
   split
   ·rw [List.length_cons];omega
   ·rw [List.length_append,List.length_cons,List.length_cons,List.length_nil];omega
def Jz (n:Nat) (cl:List Nat):List Value:=(List.range n).map fun i=>.bool (cl.contains i)
theorem Zbz (n:Nat) (cl:List Nat) (i:Nat) (h:i<n):(Jz n cl)[i]?=some (.bool (cl.contains i)):=by
 rw [Jz,List.getElem?_map,List.getElem?_range h];rfl
theorem seen_set (n:Nat) (cl:List Nat) (i:Nat) (h:i<n):(Jz n cl).set i (.bool true)=Jz n (cl++[i]):=by
 refine List.ext_getElem? fun j=>?_
 rw [List.getElem?_set]
 by_cases hj:j<n
 ·rw [Zbz n _ j hj]
  split
  ·rename_i e;subst e;rw [if_pos (by rw [Jz,List.length_map,List.length_range];exact h),Zbz n _ i h,show (cl++[i]).contains i=true by rw [List.contains_iff_mem];simp]
  ·rename_i e;rw [Zbz n _ j hj];have e2:¬ j=i:=fun e3=>e e3.symm;simp [e2]
 ·rw [List.getElem?_eq_none (by rw [Jz,List.length_map,List.length_range];omega:(Jz n (cl++[i])).length≤j)]
  split
  ·rename_i e;omega
  ·exact List.getElem?_eq_none (by rw [Jz,List.length_map,List.length_range];omega)
structure GSt (w:World) (N bs bc gs n:Nat) (vc:Value) (cl:List Nat):Prop where
 hs:w.heap[bs]?=some (.cells #[.slice (some ⟨gs,0,none⟩) n n] 110 (0,0))
 hg:w.heap[gs]?=some (.cells (Jz n cl).toArray 4 (0,0))
 hc:w.heap[bc]?=some (.cells #[vc] 57 (0,0))
 own:w.ownsRow N 3 1 vc cl.length (cl.map numV)
 ls:N≤bs
 lc:N≤bc
 lg:N≤gs
theorem GSt.next {wr w5:World} {N bs bc gs n id:Nat} {ve v':Value} {ce:List Nat} {o:Obj} (h:GSt wr N bs bc gs n ve ce) (hid:id<n) (hg:((wr.setCell ⟨gs,id,none⟩ (.bool true)).alloc o).grownBy w5 ve.ownBlock) (ho:w5.ownsRow N 3 1 v' (ce.length+1) (ce.map numV++[.int .i64 (id:Int)])) :
 wr.heap.size≤w5.heap.size∧(∀ k<wr.heap.size,k≠gs→some k≠ve.ownBlock→w5.heap[k]?=wr.heap[k]?)∧w5.heap[bc]?=some (.cells #[ve] 57 (0,0))∧GSt (w5.setCell ⟨bc,0,none⟩ v') N bs bc gs n v' (ce++[id])∧∀ W,Below N W wr→Below N W (w5.setCell ⟨bc,0,none⟩ v'):=by
 have hsz:=hg.size
 simp at hsz
 have kinds:∀ {b:Nat} {cs:Array Value} {t:TypeId},wr.heap[b]?=some (.cells cs t (0,0))→3≠t→some b≠ve.ownBlock:=fun {b cs t} hb ht=>by
  rcases Ze h.own hb ht with e|e
  ·rw [e];simp
  ·exact fun e2=>e e2.symm
 have lt:∀ {b:Nat} {x:Obj},wr.heap[b]?=some x→b<wr.heap.size:=fun hb=>(Array.getElem?_eq_some_iff.1 hb).1
 have keep:∀ k<wr.heap.size,k≠gs→some k≠ve.ownBlock→w5.heap[k]?=wr.heap[k]?:=fun k hk hne h2=>by
  rw [hg.block k (by simp;omega) h2,heap_alloc_old _ _ (by simp;exact hk),heap_setCell_other _ _ _ _ hne]
 have ngs1:bs≠gs:=fun e=>by have:=h.hs;rw [e,h.hg] at this;simp at this
 have ngs2:bc≠gs:=fun e=>by have:=h.hc;rw [e,h.hg] at this;simp at this
 have nbb:bs≠bc:=fun e=>by have:=h.hs;rw [e,h.hc] at this;simp at this
 have hbc:=(keep bc (lt h.hc) ngs2 (kinds h.hc (by decide))).trans h.hc
 have hbs:=(keep bs (lt h.hs) ngs1 (kinds h.hs (by decide))).trans h.hs
 have hgs:w5.heap[gs]?=some (.cells (Jz n (ce++[id])).toArray 4 (0,0)):=by
  rw [hg.block gs (by simp;have:=lt h.hg;omega) (kinds h.hg (by decide)),heap_alloc_old _ _ (by simp;exact lt h.hg),heap_setCell_same wr gs id _ 4 _ h.hg,List.setIfInBounds_toArray,seen_set n ce id hid]
 refine ⟨by omega,keep,hbc,?_,fun W hB=>(((hB.setCell (p:=⟨gs,id,none⟩) h.lg _).alloc (by simp;have:=lt h.hs;have:=h.ls;omega) o).grown hg (by simp;have:=lt h.hs;have:=h.ls;omega) (fun k hk=>(h.own.lt k hk).1)).setCell (p:=⟨bc,0,none⟩) h.lc _⟩
 refine ⟨(heap_setCell_other _ _ _ _ nbb).trans hbs,(heap_setCell_other _ _ _ _ (fun e=>ngs2 e.symm)).trans hgs,heap_setCell_same w5 bc 0 _ 57 _ hbc,?_,h.ls,h.lc,h.lg⟩
 have e1:(ce++[id]).map numV=ce.map numV++[.int .i64 (id:Int)]:=by rw [List.map_append];rfl
 rw [e1,List.length_append,List.length_singleton]
 exact ho.kept (Zn w5 bc 0 v') (Ze ho hbc (by decide))
theorem Ze9 (bs bc gs n N:Nat) (vc:Value) (cl:List Nat) (v:Value) (ids:List Nat) (W:World) (hG:GSt W N bs bc gs n vc cl) (hv:Rds W v ids.length 1 (ids.map numV)) (hk:∀ bk o cap,v=.slice (some ⟨bk,o,none⟩) ids.length cap→(∃ cs,W.heap[bk]?=some (.cells cs 3 (0,0)))∧vc.ownBlock≠some bk)
 (hlt:∀ i∈ids,i<n) (_hn:n≤1000000) (hr:cl.length+ids.length≤1000000) :
 Calls Tryz.prog 69 #[v,.pointer (some ⟨bs,0,none⟩),.pointer (some ⟨bc,0,none⟩)] W fun e w'=>e=.returned (.tuple #[])∧(∃ vc',GSt w' N bs bc gs n vc' (Zg cl ids))∧Below N W w':=by
 obtain ⟨L,hL⟩:∃ L,ids.length=L:=⟨_,rfl⟩
 have HL:Hid (ids.length=L):=hL
 have hvs:∃ a c,v=.slice a L c:=by
  rcases hv.val with ⟨e,e2⟩|⟨_,_,c,e,_⟩
  ·rw [← hL,e2];exact ⟨_,_,e⟩
  ·rw [← hL];exact ⟨_,_,e⟩
 have HV:Hid (Rds W v ids.length 1 (ids.map numV)):=hv
 have HK:Hid (∀ bk o cap,v=.slice (some ⟨bk,o,none⟩) ids.length cap→(∃ cs,W.heap[bk]?=some (.cells cs 3 (0,0)))∧vc.ownBlock≠some bk):=hk
 have HLT:Hid (∀ i∈ids,i<n):=hlt
 obtain ⟨av,cv,rfl⟩:=hvs
 have HG:Hid (GSt W N bs bc gs n vc cl):=hG
 obtain ⟨i0,hi,hz0,hz1,hz2⟩:=info_parts Tryz.hinfo3
 rw [hL] at hr
 clear hL hv hk hlt hG
 go_enter Tryz.func69,Tryz.ntmps69
 go_wp2
 have HS0:Hid (∀ bk o cap,(Value.slice av L cv)=.slice (some ⟨bk,o,none⟩) L cap→vc.ownBlock≠some bk∧W.heap[bk]?=W.heap[bk]?):=fun bk o cap e=>⟨(HK.out bk o cap (by rw [HL.out];exact e)).2,rfl⟩
 go_loopw [8] (fun kv wr=>∃ (k:Nat) (ve:Value),kv=.int .i64 k∧k≤L∧Hid (GSt wr N bs bc gs n ve (Zg cl (ids.take k)))∧Hid (∀ bk o cap,(Value.slice av L cv)=.slice (some ⟨bk,o,none⟩) L cap→ve.ownBlock≠some bk∧wr.heap[bk]?=W.heap[bk]?)∧Hid (Below N W wr)) (fun kv _=>L - (intOf kv).toNat)
 case atStart=>exact ⟨0,vc,rfl,Nat.zero_le _,HG,HS0,Below.refl _ _⟩
 case round =>
  obtain ⟨k,ve,rfl,hk,hG,hS,hB⟩:=hrel
  clear HG HS0
  by_cases hlt:k<L
  ·obtain ⟨id,hid⟩:∃ p,ids[k]?=some p:=⟨_,List.getElem?_eq_getElem (by rw [HL.out];exact hlt)⟩
   have hidn:=HLT.out id (List.mem_of_getElem? hid)
   have hcl:=Yu cl (ids.take k)
   rw [List.length_take] at hcl
   have hnext:ids.take (k+1)=ids.take k++[id]:=by
    obtain ⟨h1,h2⟩:=List.getElem?_eq_some_iff.1 hid
    rw [List.take_add_one,hid];rfl
   obtain ⟨bk,o,rfl,hbk,hcell⟩:∃ bk o,av=some ⟨bk,o,none⟩∧bk<W.heap.size∧W.cell? ⟨bk,o+k,none⟩=some (.int .i64 (id:Int)):=by
    rcases HV.out.val with ⟨_,e2⟩|⟨bk,o,c,e,_,_,h3,h4⟩
    ·rw [HL.out] at e2;omega
    ·simp only [Value.slice.injEq] at e
     exact ⟨bk,o,e.1,h3,h4 k _ (by rw [List.getElem?_map,hid];rfl)⟩
   obtain ⟨hnb,hsame⟩:=hS.out bk o cv rfl
   obtain ⟨⟨cs3,hkind⟩,_⟩:=HK.out bk o cv (by rw [HL.out])
   have hrd:wr.cell? ⟨bk,o+k,none⟩=some (.int .i64 (id:Int)):=(World.cell?_of_block hsame).trans hcell
   have NX:Hid (Zg cl (ids.take (k+1))=if (Zg cl (ids.take k)).contains id then Zg cl (ids.take k) else Zg cl (ids.take k)++[id]):=by rw [Hid,hnext,Zf6]
   have HSM:Hid (wr.heap[bk]?=W.heap[bk]?):=hsame
   have HKD:Hid (W.heap[bk]?=some (.cells cs3 3 (0,0))):=hkind
   generalize Zg cl (ids.take k)=ce at *
   have h1:=hG.out.hs
   have h2:=hG.out.hg
   have h3:=hG.out.hc
   have s0:=cell_of_row wr bs 0 _ _ _ h1
   have q0:=cell_of_row wr gs id _ _ _ h2
   have qf:=frozen_of_row wr gs id _ _ h2
   have t0:=cell_of_row wr bc 0 _ _ _ h3
   have tf:=frozen_of_row wr bc 0 _ _ h3
   rw [List.getElem?_toArray,Zbz n ce id hidn] at q0
   simp only [List.getElem?_toArray,List.getElem?_cons_zero] at s0 t0
   have bne1:¬ bs=gs:=fun e=>by rw [e,h2] at h1;simp at h1
   have bne2:¬ bc=gs:=fun e=>by rw [e,h2] at h3;simp at h3
   have bne3:¬ bs=bc:=fun e=>by rw [e,h3] at h1;simp at h1
   obtain ⟨ae,ce2,rfl⟩:=ownv hG.out.own
   have hWs:N≤wr.heap.size:=Nat.le_trans hG.out.ls (Nat.le_of_lt (Array.getElem?_eq_some_iff.1 h1).1)
   have hidI:(id:Int)<(n:Int):=by omega
   clear hid hnext hcell hkind hsame h1 h2 h3
   cases hq:ce.contains id with
   | true =>
     rw [hq] at q0
     have E1:Hid (Zg cl (ids.take (k+1))=ce):=by rw [Hid,NX.out,hq];rfl
     clear NX hq
     go_wp2
     go_roundw
     case rel=>exact ⟨k+1,_,by go_num,by omega,by rw [E1.out];exact hG,hS,hB⟩
     case measure=>simp [intOf];omega
   | false =>
     rw [hq] at q0
     have E1:Hid (Zg cl (ids.take (k+1))=ce++[id]):=by rw [Hid,NX.out,hq];rfl
     clear NX hq
     have O1:Hid ((wr.setCell ⟨gs,id,none⟩ (.bool true)).ownsRow N 3 1 (.slice ae ce.length ce2) ce.length (ce.map numV)):=hG.out.own.kept (Zn wr gs id _) (Ze hG.out.own hG.out.hg (by decide))
     go_wp2_with (at_builtin;refine wpList_append_own_at _ rfl _ _ 57 rfl N 3 i0 (.int .i64 0) 1 8 Tryz.underlying57 hi hz0 hz1 hz2 rfl (by decide) (.slice ae ce.length ce2) ce.length (ce.map numV) rfl (O1.out.alloc _) ⟨wr.heap.size,0,none⟩ 1 1 [.int .i64 (id:Int)] rfl rfl ?c1 ?c2 ?c3 ?c4 ?c5 ?_)
     case c1=>intro j u hj;rw [addr_add];cases j with
      | zero=>simp at hj;subst hj;simp [go_sem]
      | succ j=>simp at hj
     case c2=>intro u hu;simp at hu;subst hu;rfl
     case c3=>unfold maxLen;omega
     case c4=>omega
     case c5=>simp;omega
     ·intro v' w5 hown' hgrow _ hloc
      obtain ⟨av',cv',rfl⟩:=ownv hown'
      obtain ⟨q1,q2,q3,q4,q5⟩:=hG.out.next hidn hgrow hown'
      have z0:=cell_of_row w5 bc 0 _ _ _ q3
      have zf:=frozen_of_row w5 bc 0 _ _ q3
      simp only [List.getElem?_toArray,List.getElem?_cons_zero] at z0
      have Q3:Hid _:=q3
      have QG:Hid (GSt (w5.setCell ⟨bc,0,none⟩ (.slice av' (ce.length+1) cv')) N bs bc gs n (.slice av' (ce.length+1) cv') (ce++[id])):=q4
      have HGRX:Hid (wr.heap.size≤w5.heap.size∧∀ k<wr.heap.size,k≠gs→some k≠(Value.slice ae ce.length ce2).ownBlock→w5.heap[k]?=wr.heap[k]?):=⟨q1,q2⟩
      have hw5:=q5 W hB.out
      have hbk2:bk<wr.heap.size:=(Array.getElem?_eq_some_iff.1 (HSM.out.trans HKD.out)).1
      have hbc3:bk≠bc:=fun e=>by have h9:=hG.out.hc;rw [← e,HSM.out,HKD.out] at h9;simp at h9
      have hgs3:bk≠gs:=fun e=>by have h9:=hG.out.hg;rw [← e,HSM.out,HKD.out] at h9;simp at h9
      have HSX:Hid (∀ bk' o' cap,(Value.slice (some ⟨bk,o,none⟩) L cv)=.slice (some ⟨bk',o',none⟩) L cap→(Value.slice av' (ce.length+1) cv').ownBlock≠some bk'∧(w5.setCell ⟨bc,0,none⟩ (.slice av' (ce.length+1) cv')).heap[bk']?=W.heap[bk']?):=by
       intro bk' o' cap e
       simp only [Value.slice.injEq,Option.some.injEq,Addr.mk.injEq] at e
       obtain ⟨⟨rfl,rfl,_⟩,_,_⟩:=e
       refine ⟨?_,((heap_setCell_other _ _ _ _ hbc3).trans (q2 bk hbk2 hgs3 (fun e=>hnb e.symm))).trans HSM.out⟩
       rcases hloc with e|e
       ·rw [e];exact hnb
       ·rw [e];simp;omega
      have HB5:Hid (Below N W (w5.setCell ⟨bc,0,none⟩ (.slice av' (ce.length+1) cv'))):=hw5
      clear q1 q2 q3 q4 q5 hown' hgrow hloc O1 hw5
      go_wp2
      go_roundw
      case rel=>exact ⟨k+1,_,by go_num,by omega,by rw [E1.out];exact QG,HSX,HB5⟩
      case measure=>simp [intOf];omega
  ·have hkk:¬ (k:Int)<(L:Int):=by omega
   have hkL:ids.take k=ids:=List.take_of_length_le (by rw [HL.out];omega)
   rw [hkL] at hG
   go_wp2
   exact bodyPost_end (results_none rfl _ _ _) rfl ⟨rfl,⟨_,hG.out⟩,hB.out⟩
end Go.Proofs.YtkoogmegdfpopaaGreat
