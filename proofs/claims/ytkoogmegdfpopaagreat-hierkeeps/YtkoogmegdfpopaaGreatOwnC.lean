import Derived.Test.YtkoogmegdfpopaaGreatCodeL
set_option maxHeartbeats 8000000
set_option maxRecDepth 100000
namespace Go.Proofs.YtkoogmegdfpopaaGreat
open Go.RowKit
def opB (op:Int):Bool:=decide (0<op)&&decide (op<41)
theorem Zfn (op:Int) (r:Bool) (hr:opB op=r) (w:World):Calls Tryz.prog 154 #[.int .i64 op] w fun e w'=>e=.returned (.bool r)∧w'=w:=by
 have HR:Hid (r=(decide (0<op)&&decide (op<41))):=hr.symm
 clear hr
 go_enter Tryz.func154,Tryz.ntmps154
 go_wp2
 all_goals
  go_ret
  exact ⟨Za (by rw [HR.out];first|(simp [*];done)|(simp [*];omega)),rfl⟩
theorem Zc (op:Int) (w:World):Calls Tryz.prog 142 #[.int .i64 op] w fun e w'=>e=.returned (.int .i64 (opdI op))∧w'=w:=by
 by_cases h:op<1∨40<op
 ·have HO:Hid (opdI op=-1):=by rw [Hid,opdI,if_pos h]
  have HB:Hid (∀ w,_):=Zfn op false (by unfold opB;rw [Bool.and_eq_false_iff];rcases h with h|h;exact .inl (decide_eq_false (by omega));exact .inr (decide_eq_false (by omega)))
  have hk:∀ k:Int,1≤k→k≤40→(op == k)=false:=fun k h1 h2=>by rw [beq_eq_false_iff_ne];omega
  have e1:=hk 1 (by omega) (by omega);have e2:=hk 2 (by omega) (by omega);have e3:=hk 3 (by omega) (by omega);have e4:=hk 4 (by omega) (by omega);have e5:=hk 5 (by omega) (by omega);have e11:=hk 11 (by omega) (by omega);have e12:=hk 12 (by omega) (by omega);have e13:=hk 13 (by omega) (by omega);have e14:=hk 14 (by omega) (by omega);have e15:=hk 15 (by omega) (by omega);have e16:=hk 16 (by omega) (by omega);have e17:=hk 17 (by omega) (by omega);have e18:=hk 18 (by omega) (by omega);have e22:=hk 22 (by omega) (by omega);have e30:=hk 30 (by omega) (by omega);have e31:=hk 31 (by omega) (by omega);have e23:=hk 23 (by omega) (by omega);have e24:=hk 24 (by omega) (by omega);have e32:=hk 32 (by omega) (by omega);have e33:=hk 33 (by omega) (by omega);have e34:=hk 34 (by omega) (by omega);have e35:=hk 35 (by omega) (by omega)
  clear hk h
  go_enter Tryz.func142,Tryz.ntmps142
  go_wp2_with (go_at_call 154;refine ((HB.out) _).mono ?_;rintro e w1 ⟨rfl,hw1⟩;rw [hw1])
  go_ret
  exact ⟨Zf HO.out.symm,rfl⟩
 ·obtain ⟨k,rfl⟩:∃ k:Nat,op=k:=⟨op.toNat,by omega⟩
  have hk:k=1∨k=2∨k=3∨k=4∨k=5∨k=6∨k=7∨k=8∨k=9∨k=10∨k=11∨k=12∨k=13∨k=14∨k=15∨k=16∨k=17∨k=18∨k=19∨k=20∨k=21∨k=22∨k=23∨k=24∨k=25∨k=26∨k=27∨k=28∨k=29∨k=30∨k=31∨k=32∨k=33∨k=34∨k=35∨k=36∨k=37∨k=38∨k=39∨k=40:=by omega
  clear h
  rcases hk with rfl|rfl|rfl|rfl|rfl|rfl|rfl|rfl|rfl|rfl|rfl|rfl|rfl|rfl|rfl|rfl|rfl|rfl|rfl|rfl|rfl|rfl|rfl|rfl|rfl|rfl|rfl|rfl|rfl|rfl|rfl|rfl|rfl|rfl|rfl|rfl|rfl|rfl|rfl|rfl
  all_goals
   go_enter Tryz.func142,Tryz.ntmps142
   go_wp2_with (go_at_call 154;refine (Zfn _ true (by decide) _).mono ?_;rintro e w1 ⟨rfl,hw1⟩;rw [hw1])
   go_ret
   exact ⟨rfl,rfl⟩
def inB (n l h:Int):Bool:=decide (l≤n)&&decide (n≤h)
theorem Y1 (n l h:Int) (w:World):Calls Tryz.prog 150 #[.int .i64 n,.int .i64 l,.int .i64 h] w fun e w'=>e=.returned (.bool (inB n l h))∧w'=w:=by
 have HR:Hid (inB n l h=(decide (l≤n)&&decide (n≤h))):=rfl
 generalize inB n l h=r at *
 go_enter Tryz.func150,Tryz.ntmps150
 go_wp2
 all_goals
  go_ret
  exact ⟨Za (by rw [HR.out];first|(simp [*];done)|(simp [*];omega)),rfl⟩
def fmB (k n locals size:Int):Bool:=if k=2 then decide (n<locals) else if k=3 then decide (n<size) else true
def ownI (i:Ins):Ins :=
 if opdI i.op=1∨opdI i.op=2∨opdI i.op=3 then ⟨i.op,i.n,⟨#[]⟩,false,⟨#[]⟩,⟨#[]⟩,⟨#[]⟩⟩
 else if opdI i.op=4∨opdI i.op=5∨opdI i.op=6 then ⟨i.op,0,i.t,false,⟨#[]⟩,⟨#[]⟩,⟨#[]⟩⟩
 else if opdI i.op=7 then ⟨i.op,i.n,i.t,false,⟨#[]⟩,⟨#[]⟩,⟨#[]⟩⟩
 else if opdI i.op=8 then ⟨i.op,0,⟨#[]⟩,i.b,i.c,i.m,i.d⟩
 else ⟨i.op,0,⟨#[]⟩,false,⟨#[]⟩,⟨#[]⟩,⟨#[]⟩⟩
theorem Zcb (op n:Int) (hk:opdI op=-1) (t:ByteArray) (b:Bool) (c m d:ByteArray) (w:World):Calls Tryz.prog 140 #[.agg #[.int .i64 op,.int .i64 n,.string t,.bool b,.string c,.string m,.string d]] w fun e w'=>e=.returned (insV (ownI ⟨op,n,t,b,c,m,d⟩))∧Bw w w':=by
 have HO:=Zc op
 rw [hk] at HO
 have HO:Hid (∀ w,_):=HO
 have HR:insV (ownI ⟨op,n,t,b,c,m,d⟩)=.agg #[.int .i64 op,.int .i64 0,.string ⟨#[]⟩,.bool false,.string ⟨#[]⟩,.string ⟨#[]⟩,.string ⟨#[]⟩]:=by unfold ownI;simp only [hk];rfl
 rw [HR]
 clear hk HR
 go_enter Tryz.func140,Tryz.ntmps140
 go_wp2_with (go_at_call 142;refine ((HO.out) _).mono ?_;rintro e w0 ⟨rfl,hw0⟩;rw [hw0];clear hw0 HO)
 refine bodyPost_ret (v:=.agg #[.int .i64 op,.int .i64 0,.string ⟨#[]⟩,.bool false,.string ⟨#[]⟩,.string ⟨#[]⟩,.string ⟨#[]⟩]) (by simp [results,Tryz.results140,go_sem, *]) rfl ⟨rfl,?_⟩
 exact ((Below.refl _ _).alloc (Nat.le_refl _) _).alloc (by simp) _
theorem Zav (op n locals size:Int) (hk:opdI op=-1) (t:ByteArray) (b:Bool) (c m d:ByteArray) (w:World):Calls Tryz.prog 132 #[.agg #[.int .i64 op,.int .i64 n,.string t,.bool b,.string c,.string m,.string d],.int .i64 locals,.int .i64 size] w fun e w'=>e=.returned (.bool (fmB (opdI op) n locals size))∧Bw w w':=by
 have HO:=Zc op
 rw [hk] at HO
 have HO:Hid (∀ w,_):=HO
 have HR:fmB (opdI op) n locals size=true:=by rw [hk];rfl
 rw [HR]
 clear hk HR
 go_enter Tryz.func132,Tryz.ntmps132
 go_wp2_with (go_at_call 142;refine ((HO.out) _).mono ?_;rintro e w0 ⟨rfl,hw0⟩;rw [hw0];clear hw0 HO)
 go_ret
 exact ⟨Za rfl,(Below.refl _ _).alloc (Nat.le_refl _) _⟩
theorem Zgu (op n:Int) (hk:opdI op=0) (t:ByteArray) (b:Bool) (c m d:ByteArray) (w:World):Calls Tryz.prog 140 #[.agg #[.int .i64 op,.int .i64 n,.string t,.bool b,.string c,.string m,.string d]] w fun e w'=>e=.returned (insV (ownI ⟨op,n,t,b,c,m,d⟩))∧Bw w w':=by
 have HO:=Zc op
 rw [hk] at HO
 have HO:Hid (∀ w,_):=HO
 have HR:insV (ownI ⟨op,n,t,b,c,m,d⟩)=.agg #[.int .i64 op,.int .i64 0,.string ⟨#[]⟩,.bool false,.string ⟨#[]⟩,.string ⟨#[]⟩,.string ⟨#[]⟩]:=by unfold ownI;simp only [hk];rfl
 rw [HR]
 clear hk HR
 go_enter Tryz.func140,Tryz.ntmps140
 go_wp2_with (go_at_call 142;refine ((HO.out) _).mono ?_;rintro e w0 ⟨rfl,hw0⟩;rw [hw0];clear hw0 HO)
 refine bodyPost_ret (v:=.agg #[.int .i64 op,.int .i64 0,.string ⟨#[]⟩,.bool false,.string ⟨#[]⟩,.string ⟨#[]⟩,.string ⟨#[]⟩]) (by simp [results,Tryz.results140,go_sem, *]) rfl ⟨rfl,?_⟩
 exact ((Below.refl _ _).alloc (Nat.le_refl _) _).alloc (by simp) _
theorem Zd6 (op n locals size:Int) (hk:opdI op=0) (t:ByteArray) (b:Bool) (c m d:ByteArray) (w:World):Calls Tryz.prog 132 #[.agg #[.int .i64 op,.int .i64 n,.string t,.bool b,.string c,.string m,.string d],.int .i64 locals,.int .i64 size] w fun e w'=>e=.returned (.bool (fmB (opdI op) n locals size))∧Bw w w':=by
 have HO:=Zc op
 rw [hk] at HO
 have HO:Hid (∀ w,_):=HO
 have HR:fmB (opdI op) n locals size=true:=by rw [hk];rfl
 rw [HR]
 clear hk HR
 go_enter Tryz.func132,Tryz.ntmps132
 go_wp2_with (go_at_call 142;refine ((HO.out) _).mono ?_;rintro e w0 ⟨rfl,hw0⟩;rw [hw0];clear hw0 HO)
 go_ret
 exact ⟨Za rfl,(Below.refl _ _).alloc (Nat.le_refl _) _⟩
theorem Zgt (op n:Int) (hk:opdI op=1) (t:ByteArray) (b:Bool) (c m d:ByteArray) (w:World):Calls Tryz.prog 140 #[.agg #[.int .i64 op,.int .i64 n,.string t,.bool b,.string c,.string m,.string d]] w fun e w'=>e=.returned (insV (ownI ⟨op,n,t,b,c,m,d⟩))∧Bw w w':=by
 have HO:=Zc op
 rw [hk] at HO
 have HO:Hid (∀ w,_):=HO
 have HR:insV (ownI ⟨op,n,t,b,c,m,d⟩)=.agg #[.int .i64 op,.int .i64 n,.string ⟨#[]⟩,.bool false,.string ⟨#[]⟩,.string ⟨#[]⟩,.string ⟨#[]⟩]:=by unfold ownI;simp only [hk];rfl
 rw [HR]
 clear hk HR
 go_enter Tryz.func140,Tryz.ntmps140
 go_wp2_with (go_at_call 142;refine ((HO.out) _).mono ?_;rintro e w0 ⟨rfl,hw0⟩;rw [hw0];clear hw0 HO)
 refine bodyPost_ret (v:=.agg #[.int .i64 op,.int .i64 n,.string ⟨#[]⟩,.bool false,.string ⟨#[]⟩,.string ⟨#[]⟩,.string ⟨#[]⟩]) (by simp [results,Tryz.results140,go_sem, *]) rfl ⟨rfl,?_⟩
 exact ((Below.refl _ _).alloc (Nat.le_refl _) _).alloc (by simp) _
theorem Zd5 (op n locals size:Int) (hk:opdI op=1) (t:ByteArray) (b:Bool) (c m d:ByteArray) (w:World):Calls Tryz.prog 132 #[.agg #[.int .i64 op,.int .i64 n,.string t,.bool b,.string c,.string m,.string d],.int .i64 locals,.int .i64 size] w fun e w'=>e=.returned (.bool (fmB (opdI op) n locals size))∧Bw w w':=by
 have HO:=Zc op
 rw [hk] at HO
 have HO:Hid (∀ w,_):=HO
 have HR:fmB (opdI op) n locals size=true:=by rw [hk];rfl
 rw [HR]
 clear hk HR
 go_enter Tryz.func132,Tryz.ntmps132
 go_wp2_with (go_at_call 142;refine ((HO.out) _).mono ?_;rintro e w0 ⟨rfl,hw0⟩;rw [hw0];clear hw0 HO)
 go_ret
 exact ⟨Za rfl,(Below.refl _ _).alloc (Nat.le_refl _) _⟩
theorem Zgs (op n:Int) (hk:opdI op=2) (t:ByteArray) (b:Bool) (c m d:ByteArray) (w:World):Calls Tryz.prog 140 #[.agg #[.int .i64 op,.int .i64 n,.string t,.bool b,.string c,.string m,.string d]] w fun e w'=>e=.returned (insV (ownI ⟨op,n,t,b,c,m,d⟩))∧Bw w w':=by
 have HO:=Zc op
 rw [hk] at HO
 have HO:Hid (∀ w,_):=HO
 have HR:insV (ownI ⟨op,n,t,b,c,m,d⟩)=.agg #[.int .i64 op,.int .i64 n,.string ⟨#[]⟩,.bool false,.string ⟨#[]⟩,.string ⟨#[]⟩,.string ⟨#[]⟩]:=by unfold ownI;simp only [hk];rfl
 rw [HR]
 clear hk HR
 go_enter Tryz.func140,Tryz.ntmps140
 go_wp2_with (go_at_call 142;refine ((HO.out) _).mono ?_;rintro e w0 ⟨rfl,hw0⟩;rw [hw0];clear hw0 HO)
 refine bodyPost_ret (v:=.agg #[.int .i64 op,.int .i64 n,.string ⟨#[]⟩,.bool false,.string ⟨#[]⟩,.string ⟨#[]⟩,.string ⟨#[]⟩]) (by simp [results,Tryz.results140,go_sem, *]) rfl ⟨rfl,?_⟩
 exact ((Below.refl _ _).alloc (Nat.le_refl _) _).alloc (by simp) _
theorem Zd4 (op n locals size:Int) (hk:opdI op=2) (t:ByteArray) (b:Bool) (c m d:ByteArray) (w:World):Calls Tryz.prog 132 #[.agg #[.int .i64 op,.int .i64 n,.string t,.bool b,.string c,.string m,.string d],.int .i64 locals,.int .i64 size] w fun e w'=>e=.returned (.bool (fmB (opdI op) n locals size))∧Bw w w':=by
 have HO:=Zc op
 rw [hk] at HO
 have HO:Hid (∀ w,_):=HO
 have HR:fmB (opdI op) n locals size=decide (n<locals):=by rw [hk];rfl
 rw [HR]
 clear hk HR
 go_enter Tryz.func132,Tryz.ntmps132
 go_wp2_with (go_at_call 142;refine ((HO.out) _).mono ?_;rintro e w0 ⟨rfl,hw0⟩;rw [hw0];clear hw0 HO)
 go_ret
 exact ⟨Za rfl,(Below.refl _ _).alloc (Nat.le_refl _) _⟩
theorem Zgr (op n:Int) (hk:opdI op=3) (t:ByteArray) (b:Bool) (c m d:ByteArray) (w:World):Calls Tryz.prog 140 #[.agg #[.int .i64 op,.int .i64 n,.string t,.bool b,.string c,.string m,.string d]] w fun e w'=>e=.returned (insV (ownI ⟨op,n,t,b,c,m,d⟩))∧Bw w w':=by
 have HO:=Zc op
 rw [hk] at HO
 have HO:Hid (∀ w,_):=HO
 have HR:insV (ownI ⟨op,n,t,b,c,m,d⟩)=.agg #[.int .i64 op,.int .i64 n,.string ⟨#[]⟩,.bool false,.string ⟨#[]⟩,.string ⟨#[]⟩,.string ⟨#[]⟩]:=by unfold ownI;simp only [hk];rfl
 rw [HR]
 clear hk HR
 go_enter Tryz.func140,Tryz.ntmps140
 go_wp2_with (go_at_call 142;refine ((HO.out) _).mono ?_;rintro e w0 ⟨rfl,hw0⟩;rw [hw0];clear hw0 HO)
 refine bodyPost_ret (v:=.agg #[.int .i64 op,.int .i64 n,.string ⟨#[]⟩,.bool false,.string ⟨#[]⟩,.string ⟨#[]⟩,.string ⟨#[]⟩]) (by simp [results,Tryz.results140,go_sem, *]) rfl ⟨rfl,?_⟩
 exact ((Below.refl _ _).alloc (Nat.le_refl _) _).alloc (by simp) _
theorem Zd3 (op n locals size:Int) (hk:opdI op=3) (t:ByteArray) (b:Bool) (c m d:ByteArray) (w:World):Calls Tryz.prog 132 #[.agg #[.int .i64 op,.int .i64 n,.string t,.bool b,.string c,.string m,.string d],.int .i64 locals,.int .i64 size] w fun e w'=>e=.returned (.bool (fmB (opdI op) n locals size))∧Bw w w':=by
 have HO:=Zc op
 rw [hk] at HO
 have HO:Hid (∀ w,_):=HO
 have HR:fmB (opdI op) n locals size=decide (n<size):=by rw [hk];rfl
 rw [HR]
 clear hk HR
 go_enter Tryz.func132,Tryz.ntmps132
 go_wp2_with (go_at_call 142;refine ((HO.out) _).mono ?_;rintro e w0 ⟨rfl,hw0⟩;rw [hw0];clear hw0 HO)
 go_ret
 exact ⟨Za rfl,(Below.refl _ _).alloc (Nat.le_refl _) _⟩
theorem Zgq (op n:Int) (hk:opdI op=4) (t:ByteArray) (b:Bool) (c m d:ByteArray) (w:World):Calls Tryz.prog 140 #[.agg #[.int .i64 op,.int .i64 n,.string t,.bool b,.string c,.string m,.string d]] w fun e w'=>e=.returned (insV (ownI ⟨op,n,t,b,c,m,d⟩))∧Bw w w':=by
 have HO:=Zc op
 rw [hk] at HO
 have HO:Hid (∀ w,_):=HO
 have HR:insV (ownI ⟨op,n,t,b,c,m,d⟩)=.agg #[.int .i64 op,.int .i64 0,.string t,.bool false,.string ⟨#[]⟩,.string ⟨#[]⟩,.string ⟨#[]⟩]:=by unfold ownI;simp only [hk];rfl
 rw [HR]
 clear hk HR
 go_enter Tryz.func140,Tryz.ntmps140
 go_wp2_with (go_at_call 142;refine ((HO.out) _).mono ?_;rintro e w0 ⟨rfl,hw0⟩;rw [hw0];clear hw0 HO)
 refine bodyPost_ret (v:=.agg #[.int .i64 op,.int .i64 0,.string t,.bool false,.string ⟨#[]⟩,.string ⟨#[]⟩,.string ⟨#[]⟩]) (by simp [results,Tryz.results140,go_sem, *]) rfl ⟨rfl,?_⟩
 exact ((Below.refl _ _).alloc (Nat.le_refl _) _).alloc (by simp) _
theorem Zd2 (op n locals size:Int) (hk:opdI op=4) (t:ByteArray) (b:Bool) (c m d:ByteArray) (w:World):Calls Tryz.prog 132 #[.agg #[.int .i64 op,.int .i64 n,.string t,.bool b,.string c,.string m,.string d],.int .i64 locals,.int .i64 size] w fun e w'=>e=.returned (.bool (fmB (opdI op) n locals size))∧Bw w w':=by
 have HO:=Zc op
 rw [hk] at HO
 have HO:Hid (∀ w,_):=HO
 have HR:fmB (opdI op) n locals size=true:=by rw [hk];rfl
 rw [HR]
 clear hk HR
 go_enter Tryz.func132,Tryz.ntmps132
 go_wp2_with (go_at_call 142;refine ((HO.out) _).mono ?_;rintro e w0 ⟨rfl,hw0⟩;rw [hw0];clear hw0 HO)
 go_ret
 exact ⟨Za rfl,(Below.refl _ _).alloc (Nat.le_refl _) _⟩
theorem Zgp (op n:Int) (hk:opdI op=5) (t:ByteArray) (b:Bool) (c m d:ByteArray) (w:World):Calls Tryz.prog 140 #[.agg #[.int .i64 op,.int .i64 n,.string t,.bool b,.string c,.string m,.string d]] w fun e w'=>e=.returned (insV (ownI ⟨op,n,t,b,c,m,d⟩))∧Bw w w':=by
 have HO:=Zc op
 rw [hk] at HO
 have HO:Hid (∀ w,_):=HO
 have HR:insV (ownI ⟨op,n,t,b,c,m,d⟩)=.agg #[.int .i64 op,.int .i64 0,.string t,.bool false,.string ⟨#[]⟩,.string ⟨#[]⟩,.string ⟨#[]⟩]:=by unfold ownI;simp only [hk];rfl
 rw [HR]
 clear hk HR
 go_enter Tryz.func140,Tryz.ntmps140
 go_wp2_with (go_at_call 142;refine ((HO.out) _).mono ?_;rintro e w0 ⟨rfl,hw0⟩;rw [hw0];clear hw0 HO)
 refine bodyPost_ret (v:=.agg #[.int .i64 op,.int .i64 0,.string t,.bool false,.string ⟨#[]⟩,.string ⟨#[]⟩,.string ⟨#[]⟩]) (by simp [results,Tryz.results140,go_sem, *]) rfl ⟨rfl,?_⟩
 exact ((Below.refl _ _).alloc (Nat.le_refl _) _).alloc (by simp) _
theorem Zd1 (op n locals size:Int) (hk:opdI op=5) (t:ByteArray) (b:Bool) (c m d:ByteArray) (w:World):Calls Tryz.prog 132 #[.agg #[.int .i64 op,.int .i64 n,.string t,.bool b,.string c,.string m,.string d],.int .i64 locals,.int .i64 size] w fun e w'=>e=.returned (.bool (fmB (opdI op) n locals size))∧Bw w w':=by
 have HO:=Zc op
 rw [hk] at HO
 have HO:Hid (∀ w,_):=HO
 have HR:fmB (opdI op) n locals size=true:=by rw [hk];rfl
 rw [HR]
 clear hk HR
 go_enter Tryz.func132,Tryz.ntmps132
 go_wp2_with (go_at_call 142;refine ((HO.out) _).mono ?_;rintro e w0 ⟨rfl,hw0⟩;rw [hw0];clear hw0 HO)
 go_ret
 exact ⟨Za rfl,(Below.refl _ _).alloc (Nat.le_refl _) _⟩
theorem Zgo (op n:Int) (hk:opdI op=6) (t:ByteArray) (b:Bool) (c m d:ByteArray) (w:World):Calls Tryz.prog 140 #[.agg #[.int .i64 op,.int .i64 n,.string t,.bool b,.string c,.string m,.string d]] w fun e w'=>e=.returned (insV (ownI ⟨op,n,t,b,c,m,d⟩))∧Bw w w':=by
 have HO:=Zc op
 rw [hk] at HO
 have HO:Hid (∀ w,_):=HO
 have HR:insV (ownI ⟨op,n,t,b,c,m,d⟩)=.agg #[.int .i64 op,.int .i64 0,.string t,.bool false,.string ⟨#[]⟩,.string ⟨#[]⟩,.string ⟨#[]⟩]:=by unfold ownI;simp only [hk];rfl
 rw [HR]
 clear hk HR
 go_enter Tryz.func140,Tryz.ntmps140
 go_wp2_with (go_at_call 142;refine ((HO.out) _).mono ?_;rintro e w0 ⟨rfl,hw0⟩;rw [hw0];clear hw0 HO)
 refine bodyPost_ret (v:=.agg #[.int .i64 op,.int .i64 0,.string t,.bool false,.string ⟨#[]⟩,.string ⟨#[]⟩,.string ⟨#[]⟩]) (by simp [results,Tryz.results140,go_sem, *]) rfl ⟨rfl,?_⟩
 exact ((Below.refl _ _).alloc (Nat.le_refl _) _).alloc (by simp) _
theorem Zd0 (op n locals size:Int) (hk:opdI op=6) (t:ByteArray) (b:Bool) (c m d:ByteArray) (w:World):Calls Tryz.prog 132 #[.agg #[.int .i64 op,.int .i64 n,.string t,.bool b,.string c,.string m,.string d],.int .i64 locals,.int .i64 size] w fun e w'=>e=.returned (.bool (fmB (opdI op) n locals size))∧Bw w w':=by
 have HO:=Zc op
 rw [hk] at HO
 have HO:Hid (∀ w,_):=HO
 have HR:fmB (opdI op) n locals size=true:=by rw [hk];rfl
 rw [HR]
 clear hk HR
 go_enter Tryz.func132,Tryz.ntmps132
 go_wp2_with (go_at_call 142;refine ((HO.out) _).mono ?_;rintro e w0 ⟨rfl,hw0⟩;rw [hw0];clear hw0 HO)
 go_ret
 exact ⟨Za rfl,(Below.refl _ _).alloc (Nat.le_refl _) _⟩
theorem Zgn (op n:Int) (hk:opdI op=7) (t:ByteArray) (b:Bool) (c m d:ByteArray) (w:World):Calls Tryz.prog 140 #[.agg #[.int .i64 op,.int .i64 n,.string t,.bool b,.string c,.string m,.string d]] w fun e w'=>e=.returned (insV (ownI ⟨op,n,t,b,c,m,d⟩))∧Bw w w':=by
 have HO:=Zc op
 rw [hk] at HO
 have HO:Hid (∀ w,_):=HO
 have HR:insV (ownI ⟨op,n,t,b,c,m,d⟩)=.agg #[.int .i64 op,.int .i64 n,.string t,.bool false,.string ⟨#[]⟩,.string ⟨#[]⟩,.string ⟨#[]⟩]:=by unfold ownI;simp only [hk];rfl
 rw [HR]
 clear hk HR
 go_enter Tryz.func140,Tryz.ntmps140
 go_wp2_with (go_at_call 142;refine ((HO.out) _).mono ?_;rintro e w0 ⟨rfl,hw0⟩;rw [hw0];clear hw0 HO)
 refine bodyPost_ret (v:=.agg #[.int .i64 op,.int .i64 n,.string t,.bool false,.string ⟨#[]⟩,.string ⟨#[]⟩,.string ⟨#[]⟩]) (by simp [results,Tryz.results140,go_sem, *]) rfl ⟨rfl,?_⟩
 exact ((Below.refl _ _).alloc (Nat.le_refl _) _).alloc (by simp) _
theorem Zdz (op n locals size:Int) (hk:opdI op=7) (t:ByteArray) (b:Bool) (c m d:ByteArray) (w:World):Calls Tryz.prog 132 #[.agg #[.int .i64 op,.int .i64 n,.string t,.bool b,.string c,.string m,.string d],.int .i64 locals,.int .i64 size] w fun e w'=>e=.returned (.bool (fmB (opdI op) n locals size))∧Bw w w':=by
 have HO:=Zc op
 rw [hk] at HO
 have HO:Hid (∀ w,_):=HO
 have HR:fmB (opdI op) n locals size=true:=by rw [hk];rfl
 rw [HR]
 clear hk HR
 go_enter Tryz.func132,Tryz.ntmps132
 go_wp2_with (go_at_call 142;refine ((HO.out) _).mono ?_;rintro e w0 ⟨rfl,hw0⟩;rw [hw0];clear hw0 HO)
 go_ret
 exact ⟨Za rfl,(Below.refl _ _).alloc (Nat.le_refl _) _⟩
theorem Zgm (op n:Int) (hk:opdI op=8) (t:ByteArray) (b:Bool) (c m d:ByteArray) (w:World):Calls Tryz.prog 140 #[.agg #[.int .i64 op,.int .i64 n,.string t,.bool b,.string c,.string m,.string d]] w fun e w'=>e=.returned (insV (ownI ⟨op,n,t,b,c,m,d⟩))∧Bw w w':=by
 have HO:=Zc op
 rw [hk] at HO
 have HO:Hid (∀ w,_):=HO
 have HR:insV (ownI ⟨op,n,t,b,c,m,d⟩)=.agg #[.int .i64 op,.int .i64 0,.string ⟨#[]⟩,.bool b,.string c,.string m,.string d]:=by unfold ownI;simp only [hk];rfl
 rw [HR]
 clear hk HR
 go_enter Tryz.func140,Tryz.ntmps140
 go_wp2_with (go_at_call 142;refine ((HO.out) _).mono ?_;rintro e w0 ⟨rfl,hw0⟩;rw [hw0];clear hw0 HO)
 refine bodyPost_ret (v:=.agg #[.int .i64 op,.int .i64 0,.string ⟨#[]⟩,.bool b,.string c,.string m,.string d]) (by simp [results,Tryz.results140,go_sem, *]) rfl ⟨rfl,?_⟩
 exact ((Below.refl _ _).alloc (Nat.le_refl _) _).alloc (by simp) _
theorem Zdy (op n locals size:Int) (hk:opdI op=8) (t:ByteArray) (b:Bool) (c m d:ByteArray) (w:World):Calls Tryz.prog 132 #[.agg #[.int .i64 op,.int .i64 n,.string t,.bool b,.string c,.string m,.string d],.int .i64 locals,.int .i64 size] w fun e w'=>e=.returned (.bool (fmB (opdI op) n locals size))∧Bw w w':=by
 have HO:=Zc op
 rw [hk] at HO
 have HO:Hid (∀ w,_):=HO
 have HR:fmB (opdI op) n locals size=true:=by rw [hk];rfl
 rw [HR]
 clear hk HR
 go_enter Tryz.func132,Tryz.ntmps132
 go_wp2_with (go_at_call 142;refine ((HO.out) _).mono ?_;rintro e w0 ⟨rfl,hw0⟩;rw [hw0];clear hw0 HO)
 go_ret
 exact ⟨Za rfl,(Below.refl _ _).alloc (Nat.le_refl _) _⟩
theorem Zc5 (b:Bool) (c n d:ByteArray) (hc:c.size≤maxLen) (hn:n.size≤maxLen) (hd:d.size≤maxLen) (w:World):Calls Tryz.prog 153 #[.agg #[.bool b,.string c,.string n,.string d]] w fun e w'=>e=.returned (.int .i64 (rckE c.data.toList n.data.toList d.data.toList))∧Bw w w':=by
 have HP:Hid (∀ w,_):=Xn c hc
 have HM:Hid (∀ w,_):=Zbi n hn
 have HD:Hid (∀ w,_):=Xe d hd
 have HR:Hid (rckE c.data.toList n.data.toList d.data.toList=if ((prfE c.data.toList == 0)&&Z3 n.data.toList&&(pdE d.data.toList == 0)) then 0 else 1):=rfl
 clear hc hn hd
 unfold DOut at HD
 generalize rckE c.data.toList n.data.toList d.data.toList=z at *
 generalize prfE c.data.toList=pc at *
 generalize prfT c.data.toList=pt at *
 generalize Z3 n.data.toList=mm at *
 generalize pdE d.data.toList=pd at *
 generalize pdD d.data.toList=dd at *
 obtain ⟨qc,hqc⟩:∃ q,(pc == 0)=q:=⟨_,rfl⟩
 obtain ⟨qd,hqd⟩:∃ q,(pd == 0)=q:=⟨_,rfl⟩
 have hqc2:(pc != 0)=!qc:=by rw [bne,hqc]
 have hqd2:(pd != 0)=!qd:=by rw [bne,hqd]
 rw [hqc,hqd] at HR
 cases qc <;> cases mm <;> cases qd
 all_goals go_enter Tryz.func153,Tryz.ntmps153
 all_goals go_wp2_with (first
  | (go_at_call 151;refine ((HP.out) _).mono ?_;rintro e w1 ⟨rfl,hb1⟩;have hs1:w.heap.size<w1.heap.size:=sqS hb1;have hB1:Hid (Bw w w1):=sqT hb1;have hc12:w1.cell? ⟨w.heap.size,2,none⟩=some (.string n):=(hb1.cell (p:=⟨w.heap.size,2,none⟩) (by first|(simp [*];done)|(simp;omega))).trans (by simp [go_sem, *]);have hc13:w1.cell? ⟨w.heap.size,3,none⟩=some (.string d):=(hb1.cell (p:=⟨w.heap.size,3,none⟩) (by first|(simp [*];done)|(simp;omega))).trans (by simp [go_sem, *]);clear hb1 HP)
  | (go_at_call 92;refine ((HD.out) _).mono ?_;rintro e w2 ⟨v,rfl,ho2,hb2⟩;obtain ⟨v1,v2,rfl⟩:=Zd ho2;clear ho2 HD;have hs2:w.heap.size<w2.heap.size:=sqS hb2;have hB2:Hid (Bw w w2):=Below.step (hB1.out.alloc hB1.out.size _) hb2;have hc22:w2.cell? ⟨w.heap.size,2,none⟩=some (.string n):=(hb2.cell (p:=⟨w.heap.size,2,none⟩) (by first|(simp [*];done)|(simp;omega))).trans (by simp [go_sem, *]);clear hb2)
  | (go_at_call 93;refine ((HM.out) _).mono ?_;rintro e w3 ⟨rfl,hw3⟩;rw [hw3];clear hw3 HM))
 all_goals
  go_ret
  exact ⟨Zf (by rw [HR.out];rfl),hB2.out.alloc hB2.out.size _⟩
def fitB (k n:Int) (t:List UInt8) (r:Bool):Bool :=
 if k=0 then true
 else if k=1 then inB n (-2147483648) 2147483647
 else if k=2 then inB n 0 39
 else if k=3 then inB n 0 199
 else if k=4 then Zk t
 else if k=5 then prfE t == 0
 else if k=6 then (parE t == 0)&&decide ((parT t).1<255)
 else if k=7 then (prfE t == 0)&&inB n 1 (prfT t).1
 else if k=8 then r
 else false
theorem J3 (op n:Int) (hk:opdI op=-1) (t:ByteArray) (b:Bool) (c m d:ByteArray) (w:World):Calls Tryz.prog 141 #[.agg #[.int .i64 op,.int .i64 n,.string t,.bool b,.string c,.string m,.string d]] w fun e w'=>e=.returned (.bool (fitB (opdI op) n t.data.toList (rckB c.data.toList m.data.toList d.data.toList)))∧Bw w w':=by
 have HO:=Zc op
 rw [hk] at HO
 have HO:Hid (∀ w,_):=HO
 have HR:Hid (fitB (opdI op) n t.data.toList (rckB c.data.toList m.data.toList d.data.toList)=false):=by rw [Hid,hk];rfl
 generalize fitB (opdI op) n t.data.toList (rckB c.data.toList m.data.toList d.data.toList)=r at *
 clear hk
 all_goals go_enter Tryz.func141,Tryz.ntmps141
 all_goals go_wp2_with (first
  | (go_at_call 142;refine ((HO.out) _).mono ?_;rintro e w0 ⟨rfl,hw0⟩;rw [hw0];clear hw0 HO))
 all_goals
  go_ret
  exact ⟨Za (by rw [HR.out]),(Below.refl _ _).alloc (Nat.le_refl _) _⟩
theorem Zct (op n:Int) (hk:opdI op=0) (t:ByteArray) (b:Bool) (c m d:ByteArray) (w:World):Calls Tryz.prog 141 #[.agg #[.int .i64 op,.int .i64 n,.string t,.bool b,.string c,.string m,.string d]] w fun e w'=>e=.returned (.bool (fitB (opdI op) n t.data.toList (rckB c.data.toList m.data.toList d.data.toList)))∧Bw w w':=by
 have HO:=Zc op
 rw [hk] at HO
 have HO:Hid (∀ w,_):=HO
 have HR:Hid (fitB (opdI op) n t.data.toList (rckB c.data.toList m.data.toList d.data.toList)=true):=by rw [Hid,hk];rfl
 generalize fitB (opdI op) n t.data.toList (rckB c.data.toList m.data.toList d.data.toList)=r at *
 clear hk
 all_goals go_enter Tryz.func141,Tryz.ntmps141
 all_goals go_wp2_with (first
  | (go_at_call 142;refine ((HO.out) _).mono ?_;rintro e w0 ⟨rfl,hw0⟩;rw [hw0];clear hw0 HO))
 all_goals
  go_ret
  exact ⟨Za (by rw [HR.out]),(Below.refl _ _).alloc (Nat.le_refl _) _⟩
theorem Zcs (op n:Int) (hk:opdI op=1) (t:ByteArray) (b:Bool) (c m d:ByteArray) (w:World):Calls Tryz.prog 141 #[.agg #[.int .i64 op,.int .i64 n,.string t,.bool b,.string c,.string m,.string d]] w fun e w'=>e=.returned (.bool (fitB (opdI op) n t.data.toList (rckB c.data.toList m.data.toList d.data.toList)))∧Bw w w':=by
 have HO:=Zc op
 rw [hk] at HO
 have HO:Hid (∀ w,_):=HO
 have HI:Hid (∀ l h w,_):=Y1 n
 have HR:Hid (fitB (opdI op) n t.data.toList (rckB c.data.toList m.data.toList d.data.toList)=inB n (-2147483648) 2147483647):=by rw [Hid,hk];rfl
 generalize fitB (opdI op) n t.data.toList (rckB c.data.toList m.data.toList d.data.toList)=r at *
 clear hk
 all_goals go_enter Tryz.func141,Tryz.ntmps141
 all_goals go_wp2_with (first
  | (go_at_call 142;refine ((HO.out) _).mono ?_;rintro e w0 ⟨rfl,hw0⟩;rw [hw0];clear hw0 HO)
  | (go_at_call 150;refine ((HI.out) _ _ _).mono ?_;rintro e w1 ⟨rfl,hw1⟩;rw [hw1];clear hw1))
 all_goals
  go_ret
  exact ⟨Za (by rw [HR.out]),(Below.refl _ _).alloc (Nat.le_refl _) _⟩
theorem Zcr (op n:Int) (hk:opdI op=2) (t:ByteArray) (b:Bool) (c m d:ByteArray) (w:World):Calls Tryz.prog 141 #[.agg #[.int .i64 op,.int .i64 n,.string t,.bool b,.string c,.string m,.string d]] w fun e w'=>e=.returned (.bool (fitB (opdI op) n t.data.toList (rckB c.data.toList m.data.toList d.data.toList)))∧Bw w w':=by
 have HO:=Zc op
 rw [hk] at HO
 have HO:Hid (∀ w,_):=HO
 have HI:Hid (∀ l h w,_):=Y1 n
 have HR:Hid (fitB (opdI op) n t.data.toList (rckB c.data.toList m.data.toList d.data.toList)=inB n 0 39):=by rw [Hid,hk];rfl
 generalize fitB (opdI op) n t.data.toList (rckB c.data.toList m.data.toList d.data.toList)=r at *
 clear hk
 all_goals go_enter Tryz.func141,Tryz.ntmps141
 all_goals go_wp2_with (first
  | (go_at_call 142;refine ((HO.out) _).mono ?_;rintro e w0 ⟨rfl,hw0⟩;rw [hw0];clear hw0 HO)
  | (go_at_call 150;refine ((HI.out) _ _ _).mono ?_;rintro e w1 ⟨rfl,hw1⟩;rw [hw1];clear hw1))
 all_goals
  go_ret
  exact ⟨Za (by rw [HR.out]),(Below.refl _ _).alloc (Nat.le_refl _) _⟩
theorem Zcq (op n:Int) (hk:opdI op=3) (t:ByteArray) (b:Bool) (c m d:ByteArray) (w:World):Calls Tryz.prog 141 #[.agg #[.int .i64 op,.int .i64 n,.string t,.bool b,.string c,.string m,.string d]] w fun e w'=>e=.returned (.bool (fitB (opdI op) n t.data.toList (rckB c.data.toList m.data.toList d.data.toList)))∧Bw w w':=by
 have HO:=Zc op
 rw [hk] at HO
 have HO:Hid (∀ w,_):=HO
 have HI:Hid (∀ l h w,_):=Y1 n
 have HR:Hid (fitB (opdI op) n t.data.toList (rckB c.data.toList m.data.toList d.data.toList)=inB n 0 199):=by rw [Hid,hk];rfl
 generalize fitB (opdI op) n t.data.toList (rckB c.data.toList m.data.toList d.data.toList)=r at *
 clear hk
 all_goals go_enter Tryz.func141,Tryz.ntmps141
 all_goals go_wp2_with (first
  | (go_at_call 142;refine ((HO.out) _).mono ?_;rintro e w0 ⟨rfl,hw0⟩;rw [hw0];clear hw0 HO)
  | (go_at_call 150;refine ((HI.out) _ _ _).mono ?_;rintro e w1 ⟨rfl,hw1⟩;rw [hw1];clear hw1))
 all_goals
  go_ret
  exact ⟨Za (by rw [HR.out]),(Below.refl _ _).alloc (Nat.le_refl _) _⟩
theorem Zcp (op n:Int) (hk:opdI op=4) (t:ByteArray) (b:Bool) (c m d:ByteArray) (ht:t.size≤maxLen) (w:World):Calls Tryz.prog 141 #[.agg #[.int .i64 op,.int .i64 n,.string t,.bool b,.string c,.string m,.string d]] w fun e w'=>e=.returned (.bool (fitB (opdI op) n t.data.toList (rckB c.data.toList m.data.toList d.data.toList)))∧Bw w w':=by
 have HO:=Zc op
 rw [hk] at HO
 have HO:Hid (∀ w,_):=HO
 have HV:Hid (∀ w,_):=Y7 t ht
 have HR:Hid (fitB (opdI op) n t.data.toList (rckB c.data.toList m.data.toList d.data.toList)=Zk t.data.toList):=by rw [Hid,hk];rfl
 generalize fitB (opdI op) n t.data.toList (rckB c.data.toList m.data.toList d.data.toList)=r at *
 clear hk
 all_goals go_enter Tryz.func141,Tryz.ntmps141
 all_goals go_wp2_with (first
  | (go_at_call 142;refine ((HO.out) _).mono ?_;rintro e w0 ⟨rfl,hw0⟩;rw [hw0];clear hw0 HO)
  | (go_at_call 70;refine ((HV.out) _).mono ?_;rintro e w1 ⟨rfl,hb1⟩))
 all_goals
  go_ret
  exact ⟨Za (by rw [HR.out]),sqT hb1⟩
theorem Zco (op n:Int) (hk:opdI op=5) (t:ByteArray) (b:Bool) (c m d:ByteArray) (ht:t.size≤maxLen) (w:World):Calls Tryz.prog 141 #[.agg #[.int .i64 op,.int .i64 n,.string t,.bool b,.string c,.string m,.string d]] w fun e w'=>e=.returned (.bool (fitB (opdI op) n t.data.toList (rckB c.data.toList m.data.toList d.data.toList)))∧Bw w w':=by
 have HO:=Zc op
 rw [hk] at HO
 have HO:Hid (∀ w,_):=HO
 have HV:Hid (∀ w,_):=Xn t ht
 have HR:Hid (fitB (opdI op) n t.data.toList (rckB c.data.toList m.data.toList d.data.toList)=(prfE t.data.toList == 0)):=by rw [Hid,hk];rfl
 generalize fitB (opdI op) n t.data.toList (rckB c.data.toList m.data.toList d.data.toList)=r at *
 clear hk
 generalize prfE t.data.toList=pe at *
 generalize prfT t.data.toList=pt at *
 all_goals go_enter Tryz.func141,Tryz.ntmps141
 all_goals go_wp2_with (first
  | (go_at_call 142;refine ((HO.out) _).mono ?_;rintro e w0 ⟨rfl,hw0⟩;rw [hw0];clear hw0 HO)
  | (go_at_call 151;refine ((HV.out) _).mono ?_;rintro e w1 ⟨rfl,hb1⟩;have hB1:Hid (Bw w w1):=sqT hb1;clear hb1))
 all_goals
  go_ret
  exact ⟨Za (by rw [HR.out]),hB1.out.alloc hB1.out.size _⟩
theorem Zcn (op n:Int) (hk:opdI op=6) (t:ByteArray) (b:Bool) (c m d:ByteArray) (ht:t.size≤maxLen) (w:World):Calls Tryz.prog 141 #[.agg #[.int .i64 op,.int .i64 n,.string t,.bool b,.string c,.string m,.string d]] w fun e w'=>e=.returned (.bool (fitB (opdI op) n t.data.toList (rckB c.data.toList m.data.toList d.data.toList)))∧Bw w w':=by
 have HO:=Zc op
 rw [hk] at HO
 have HO:Hid (∀ w,_):=HO
 have HV:Hid (∀ w,_):=Zdf t ht
 have HR:Hid (fitB (opdI op) n t.data.toList (rckB c.data.toList m.data.toList d.data.toList)=((parE t.data.toList == 0)&&decide ((parT t.data.toList).1<255))):=by rw [Hid,hk];rfl
 generalize fitB (opdI op) n t.data.toList (rckB c.data.toList m.data.toList d.data.toList)=r at *
 clear hk
 generalize parE t.data.toList=pe at *
 generalize parT t.data.toList=pt at *
 obtain ⟨q,hq⟩:∃ q,(pe == 0)=q:=⟨_,rfl⟩
 rw [hq] at HR
 cases q
 all_goals go_enter Tryz.func141,Tryz.ntmps141
 all_goals go_wp2_with (first
  | (go_at_call 142;refine ((HO.out) _).mono ?_;rintro e w0 ⟨rfl,hw0⟩;rw [hw0];clear hw0 HO)
  | (go_at_call 152;refine ((HV.out) _).mono ?_;rintro e w1 ⟨rfl,hb1⟩;have hB1:Hid (Bw w w1):=sqT hb1;clear hb1))
 all_goals
  go_ret
  exact ⟨Za (by rw [HR.out];first|(simp;done)|(simp;omega)),hB1.out.alloc hB1.out.size _⟩
theorem Zcm (op n:Int) (hk:opdI op=7) (t:ByteArray) (b:Bool) (c m d:ByteArray) (ht:t.size≤maxLen) (w:World):Calls Tryz.prog 141 #[.agg #[.int .i64 op,.int .i64 n,.string t,.bool b,.string c,.string m,.string d]] w fun e w'=>e=.returned (.bool (fitB (opdI op) n t.data.toList (rckB c.data.toList m.data.toList d.data.toList)))∧Bw w w':=by
 have HO:=Zc op
 rw [hk] at HO
 have HO:Hid (∀ w,_):=HO
 have HV:Hid (∀ w,_):=Xn t ht
 have HI:Hid (∀ l h w,_):=Y1 n
 have HR:Hid (fitB (opdI op) n t.data.toList (rckB c.data.toList m.data.toList d.data.toList)=((prfE t.data.toList == 0)&&inB n 1 (prfT t.data.toList).1)):=by rw [Hid,hk];rfl
 generalize fitB (opdI op) n t.data.toList (rckB c.data.toList m.data.toList d.data.toList)=r at *
 clear hk
 generalize prfE t.data.toList=pe at *
 generalize prfT t.data.toList=pt at *
 obtain ⟨q,hq⟩:∃ q,(pe == 0)=q:=⟨_,rfl⟩
 rw [hq] at HR
 cases q
 all_goals go_enter Tryz.func141,Tryz.ntmps141
 all_goals go_wp2_with (first
  | (go_at_call 142;refine ((HO.out) _).mono ?_;rintro e w0 ⟨rfl,hw0⟩;rw [hw0];clear hw0 HO)
  | (go_at_call 151;refine ((HV.out) _).mono ?_;rintro e w1 ⟨rfl,hb1⟩;have hs1:w.heap.size<w1.heap.size:=sqS hb1;have hB1:Hid (Bw w w1):=sqT hb1;have hc11:w1.cell? ⟨w.heap.size,1,none⟩=some (.int .i64 n):=(hb1.cell (p:=⟨w.heap.size,1,none⟩) (by first|(simp [*];done)|(simp;omega))).trans (by simp [go_sem, *]);clear hb1)
  | (go_at_call 150;refine ((HI.out) _ _ _).mono ?_;rintro e w2 ⟨rfl,hw2⟩;rw [hw2];clear hw2))
 all_goals
  go_ret
  exact ⟨Za (by rw [HR.out];first|(simp;done)|(simp;omega)),hB1.out.alloc hB1.out.size _⟩
theorem Zcl (op n:Int) (hk:opdI op=8) (t:ByteArray) (b:Bool) (c m d:ByteArray) (hc:c.size≤maxLen) (hm:m.size≤maxLen) (hd:d.size≤maxLen) (w:World):Calls Tryz.prog 141 #[.agg #[.int .i64 op,.int .i64 n,.string t,.bool b,.string c,.string m,.string d]] w fun e w'=>e=.returned (.bool (fitB (opdI op) n t.data.toList (rckB c.data.toList m.data.toList d.data.toList)))∧Bw w w':=by
 have HO:=Zc op
 rw [hk] at HO
 have HO:Hid (∀ w,_):=HO
 have HV:Hid (∀ w,_):=Zc5 b c m d hc hm hd
 have HE:Hid (rckE c.data.toList m.data.toList d.data.toList=if rckB c.data.toList m.data.toList d.data.toList then 0 else 1):=rfl
 have HR:Hid (fitB (opdI op) n t.data.toList (rckB c.data.toList m.data.toList d.data.toList)=rckB c.data.toList m.data.toList d.data.toList):=by rw [Hid,hk];rfl
 generalize fitB (opdI op) n t.data.toList (rckB c.data.toList m.data.toList d.data.toList)=r at *
 clear hk
 generalize rckE c.data.toList m.data.toList d.data.toList=re at *
 generalize rckB c.data.toList m.data.toList d.data.toList=rb at *
 cases rb
 all_goals (have he:=HE.out;simp only [if_true,Bool.false_eq_true,if_false] at he;subst he)
 all_goals go_enter Tryz.func141,Tryz.ntmps141
 all_goals go_wp2_with (first
  | (go_at_call 142;refine ((HO.out) _).mono ?_;rintro e w0 ⟨rfl,hw0⟩;rw [hw0];clear hw0 HO)
  | (go_at_call 153;refine ((HV.out) _).mono ?_;rintro e w1 ⟨rfl,hb1⟩;have hB1:Hid (Bw w w1):=sqT hb1;clear hb1))
 all_goals
  go_ret
  exact ⟨Za (by rw [HR.out]),hB1.out⟩
theorem Zau (op n:Int) (t:ByteArray) (b:Bool) (c m d:ByteArray) (ht:t.size≤maxLen) (hc:c.size≤maxLen) (hm:m.size≤maxLen) (hd:d.size≤maxLen) (w:World):Calls Tryz.prog 141 #[.agg #[.int .i64 op,.int .i64 n,.string t,.bool b,.string c,.string m,.string d]] w fun e w'=>e=.returned (.bool (fitB (opdI op) n t.data.toList (rckB c.data.toList m.data.toList d.data.toList)))∧Bw w w':=by
 rcases Xo op with e|e|e|e|e|e|e|e|e|e
 ·exact J3 op n e t b c m d w
 ·exact Zct op n e t b c m d w
 ·exact Zcs op n e t b c m d w
 ·exact Zcr op n e t b c m d w
 ·exact Zcq op n e t b c m d w
 ·exact Zcp op n e t b c m d ht w
 ·exact Zco op n e t b c m d ht w
 ·exact Zcn op n e t b c m d ht w
 ·exact Zcm op n e t b c m d ht w
 ·exact Zcl op n e t b c m d hc hm hd w
theorem Zdh (op n:Int) (t:ByteArray) (b:Bool) (c m d:ByteArray) (w:World):Calls Tryz.prog 140 #[.agg #[.int .i64 op,.int .i64 n,.string t,.bool b,.string c,.string m,.string d]] w fun e w'=>e=.returned (insV (ownI ⟨op,n,t,b,c,m,d⟩))∧Bw w w':=by
 rcases Xo op with e|e|e|e|e|e|e|e|e|e
 ·exact Zcb op n e t b c m d w
 ·exact Zgu op n e t b c m d w
 ·exact Zgt op n e t b c m d w
 ·exact Zgs op n e t b c m d w
 ·exact Zgr op n e t b c m d w
 ·exact Zgq op n e t b c m d w
 ·exact Zgp op n e t b c m d w
 ·exact Zgo op n e t b c m d w
 ·exact Zgn op n e t b c m d w
 ·exact Zgm op n e t b c m d w
theorem Y6 (op n locals size:Int) (t:ByteArray) (b:Bool) (c m d:ByteArray) (w:World):Calls Tryz.prog 132 #[.agg #[.int .i64 op,.int .i64 n,.string t,.bool b,.string c,.string m,.string d],.int .i64 locals,.int .i64 size] w fun e w'=>e=.returned (.bool (fmB (opdI op) n locals size))∧Bw w w':=by
 rcases Xo op with e|e|e|e|e|e|e|e|e|e
 ·exact Zav op n locals size e t b c m d w
 ·exact Zd6 op n locals size e t b c m d w
 ·exact Zd5 op n locals size e t b c m d w
 ·exact Zd4 op n locals size e t b c m d w
 ·exact Zd3 op n locals size e t b c m d w
 ·exact Zd2 op n locals size e t b c m d w
 ·exact Zd1 op n locals size e t b c m d w
 ·exact Zd0 op n locals size e t b c m d w
 ·exact Zdz op n locals size e t b c m d w
 ·exact Zdy op n locals size e t b c m d w
theorem eq_str (d:Nat) (a b:ByteArray) (w:World):(Op.equalIn (d+1) 9 (.string a) (.string b)).run Tryz.prog w=.ok (a == b) w:=by
 simp [Op.equalIn,run_underlying Tryz.underlying9,go_sem]
theorem eq_int (d:Nat) (a b:Int) (w:World):(Op.equalIn (d+1) 3 (.int .i64 a) (.int .i64 b)).run Tryz.prog w=.ok (a == b) w:=by
 simp [Op.equalIn,run_underlying Tryz.underlying3,go_sem]
theorem eq_bool (d:Nat) (a b:Bool) (w:World):(Op.equalIn (d+1) 4 (.bool a) (.bool b)).run Tryz.prog w=.ok (a == b) w:=by
 simp [Op.equalIn,run_underlying Tryz.underlying4,go_sem]
theorem str_eq (a b:ByteArray):(a == b)=(a.toList == b.toList):=by
 obtain ⟨a⟩:=a
 obtain ⟨b⟩:=b
 have h:((⟨a⟩:ByteArray) == ⟨b⟩)=(a == b):=rfl
 rw [Lib.toList_data,Lib.toList_data,h,Bool.eq_iff_iff,beq_iff_eq,beq_iff_eq]
 exact ⟨fun h=>by rw [h],fun h=>Array.toList_inj.1 h⟩
theorem eq_ref (d:Nat) (b1:Bool) (c1 n1 d1:ByteArray) (b2:Bool) (c2 n2 d2:ByteArray) (w:World):(Op.equalIn (d+1+1) 54 (.agg #[.bool b1,.string c1,.string n1,.string d1]) (.agg #[.bool b2,.string c2,.string n2,.string d2])).run Tryz.prog w=.ok (Z2 b1 c1 n1 d1 b2 c2 n2 d2) w:=by
 rw [Op.equalIn]
 simp [run_underlying Tryz.underlying54,go_sem,part,eq_str,eq_bool]
 unfold Z2
 rw [← str_eq,← str_eq,← str_eq]
 generalize (c1 == c2)=x
 generalize (n1 == n2)=y
 generalize (d1 == d2)=z
 cases b1 <;> cases b2 <;> cases x <;> cases y <;> cases z <;> rfl
theorem eq_ins (a b:Ins) (w:World):(Op.equal 56 (insV a) (insV b)).run Tryz.prog w=.ok (Qm a b) w:=by
 have h:(Op.equalIn (9997+1+1+1) 56 (insV a) (insV b)).run Tryz.prog w=.ok (Qm a b) w:=by
  rw [Op.equalIn]
  simp [run_underlying Tryz.underlying56,go_sem,part,eq_str,eq_int,eq_ref,insV,insC]
  unfold Qm
  rw [← str_eq]
  generalize Z2 a.b a.c a.m a.d b.b b.c b.m b.d=x
  generalize (a.t == b.t)=y
  by_cases h1:a.op=b.op <;> by_cases h2:a.n=b.n <;> cases x <;> cases y <;> simp [h1,h2]
 exact h
theorem Zfu (x:ByteArray):(x.toList == (⟨#[]⟩:ByteArray).toList)=x.toList.isEmpty:=by
 have:(⟨#[]⟩:ByteArray).toList=[]:=by rw [Lib.toList_data]
 rw [this]
 cases x.toList <;> rfl
theorem r_none (b:Bool) (c m d:ByteArray):Z2 b c m d false ⟨#[]⟩ ⟨#[]⟩ ⟨#[]⟩=Z5 b c m d:=by
 unfold Z2 Z5
 rw [Zfu,Zfu,Zfu]
 cases b <;> rfl
theorem r_self (b:Bool) (c m d:ByteArray):Z2 b c m d b c m d=true:=by
 unfold Z2;simp
theorem ick_own (i:Ins):ickI i=if Qm i (ownI i)&&fitB (opdI i.op) i.n i.t.data.toList (rckB i.c.data.toList i.m.data.toList i.d.data.toList) then 0 else 1:=by
 unfold ickI ickE
 congr 2
 unfold insB fitB ownI Qm inB
 generalize rckB i.c.data.toList i.m.data.toList i.d.data.toList=r
 rcases Xo i.op with e|e|e|e|e|e|e|e|e|e
 all_goals simp only [e,Int.reduceEq,Int.reduceNeg,reduceIte,or_false,or_true,Zfu,r_none,r_self,beq_self_eq_true,Bool.true_and,Bool.and_true,Bool.and_false]
 all_goals generalize Z5 i.b i.c i.m i.d=z
 all_goals generalize i.t.toList.isEmpty=te
 ·generalize (i.n == 0)=x
  cases x <;> cases z <;> cases te <;> rfl
 ·cases z <;> cases te <;> simp
 ·have:decide (i.n<40)=decide (i.n≤39):=by rw [decide_eq_decide];omega
  rw [this];cases z <;> cases te <;> simp
 ·have:decide (i.n<200)=decide (i.n≤199):=by rw [decide_eq_decide];omega
  rw [this];cases z <;> cases te <;> simp
 ·generalize (i.n == 0)=x
  cases x <;> cases z <;> simp
 ·generalize (i.n == 0)=x
  cases x <;> cases z <;> simp
 ·generalize (i.n == 0)=x
  cases x <;> cases z <;> simp
 ·cases z <;> simp [Bool.and_assoc]
theorem Zi3 (op n:Int) (t:ByteArray) (b:Bool) (c m d:ByteArray) (ht:t.size≤maxLen) (hc:c.size≤maxLen) (hm:m.size≤maxLen) (hd:d.size≤maxLen) (w:World):Calls Tryz.prog 131 #[.agg #[.int .i64 op,.int .i64 n,.string t,.bool b,.string c,.string m,.string d]] w fun e w'=>e=.returned (.int .i64 (ickE op n t b c m d))∧Bw w w':=by
 have HR:Hid (ickE op n t b c m d=if Qm ⟨op,n,t,b,c,m,d⟩ (ownI ⟨op,n,t,b,c,m,d⟩)&&fitB (opdI op) n t.data.toList (rckB c.data.toList m.data.toList d.data.toList) then 0 else 1):=ick_own ⟨op,n,t,b,c,m,d⟩
 have HQ:∀ w,(Op.equal 56 (.agg #[.int .i64 op,.int .i64 n,.string t,.bool b,.string c,.string m,.string d]) (insV (ownI ⟨op,n,t,b,c,m,d⟩))).run Tryz.prog w=.ok (Qm ⟨op,n,t,b,c,m,d⟩ (ownI ⟨op,n,t,b,c,m,d⟩)) w:=eq_ins ⟨op,n,t,b,c,m,d⟩ _
 obtain ⟨BX,hBX⟩:∃ BX,BX=w.alloc (.cells #[.int .i64 op,.int .i64 n,.string t,.bool b,.string c,.string m,.string d] 56):=⟨_,rfl⟩
 have HP:Hid (∀ w',Hid (Below (w.heap.size+1) BX w')→Calls Tryz.prog 140 #[.agg #[.int .i64 op,.int .i64 n,.string t,.bool b,.string c,.string m,.string d]] w' fun e w''=>e=.returned (insV (ownI ⟨op,n,t,b,c,m,d⟩))∧Hid (Below (w.heap.size+1) BX w'')) :=
  fun w' h=>(Zdh op n t b c m d w').mono fun e w'' ⟨he,hb⟩=>⟨he,h.out.trans (hb.mono (by have:=h.out.size;rw [hBX] at this;simpa using this))⟩
 have HF:Hid (∀ w',Hid (Below (w.heap.size+1) BX w')→Calls Tryz.prog 141 #[.agg #[.int .i64 op,.int .i64 n,.string t,.bool b,.string c,.string m,.string d]] w' fun e w''=>e=.returned (.bool (fitB (opdI op) n t.data.toList (rckB c.data.toList m.data.toList d.data.toList)))∧Hid (Below (w.heap.size+1) BX w'')) :=
  fun w' h=>(Zau op n t b c m d ht hc hm hd w').mono fun e w'' ⟨he,hb⟩=>⟨he,h.out.trans (hb.mono (by have:=h.out.size;rw [hBX] at this;simpa using this))⟩
 obtain ⟨σ,V,V1,V2⟩:∃ (σ:Type) (V:σ→World),Hid (∀ s,Hid (Below (w.heap.size+1) BX (V s)))∧Hid (∀ w',Hid (Below (w.heap.size+1) BX w')→∃ s,w'=V s) :=
  ⟨{w' // Hid (Below (w.heap.size+1) BX w')},Subtype.val,fun s=>s.2,fun w q=>⟨⟨w,q⟩,rfl⟩⟩
 have T0:Hid (Below (w.heap.size+1) BX BX.drew):=(Below.refl _ _).drew
 have hne:Nonempty σ:=(V2.out _ T0).elim fun s _=>⟨s⟩
 subst hBX
 have q0:∀ s,(V s).cell? ⟨w.heap.size,0,none⟩=some (.int .i64 op):=fun s=>((V1.out s).out.cell (p:=⟨w.heap.size,0,none⟩) (by simp)).trans (by simp [go_sem])
 have q1:∀ s,(V s).cell? ⟨w.heap.size,1,none⟩=some (.int .i64 n):=fun s=>((V1.out s).out.cell (p:=⟨w.heap.size,1,none⟩) (by simp)).trans (by simp [go_sem])
 have q2:∀ s,(V s).cell? ⟨w.heap.size,2,none⟩=some (.string t):=fun s=>((V1.out s).out.cell (p:=⟨w.heap.size,2,none⟩) (by simp)).trans (by simp [go_sem])
 have q3:∀ s,(V s).cell? ⟨w.heap.size,3,none⟩=some (.bool b):=fun s=>((V1.out s).out.cell (p:=⟨w.heap.size,3,none⟩) (by simp)).trans (by simp [go_sem])
 have q4:∀ s,(V s).cell? ⟨w.heap.size,4,none⟩=some (.string c):=fun s=>((V1.out s).out.cell (p:=⟨w.heap.size,4,none⟩) (by simp)).trans (by simp [go_sem])
 have q5:∀ s,(V s).cell? ⟨w.heap.size,5,none⟩=some (.string m):=fun s=>((V1.out s).out.cell (p:=⟨w.heap.size,5,none⟩) (by simp)).trans (by simp [go_sem])
 have q6:∀ s,(V s).cell? ⟨w.heap.size,6,none⟩=some (.string d):=fun s=>((V1.out s).out.cell (p:=⟨w.heap.size,6,none⟩) (by simp)).trans (by simp [go_sem])
 have HB:Hid (∀ s,Bw w (V s)):=fun s=>((Below.refl w.heap.size w).alloc (Nat.le_refl _) _).trans ((V1.out s).out.mono (by omega))
 generalize ickE op n t b c m d=z at *
 generalize fitB (opdI op) n t.data.toList (rckB c.data.toList m.data.toList d.data.toList)=fb at *
 generalize hgo:Qm ⟨op,n,t,b,c,m,d⟩ (ownI ⟨op,n,t,b,c,m,d⟩)=sb at *
 clear hgo
 generalize hO:insV (ownI ⟨op,n,t,b,c,m,d⟩)=O at *
 obtain ⟨cs,rfl⟩:∃ cs,O=.agg cs:=⟨_,hO.symm⟩
 have G1:∀ w,(eqGuard .neq 56 (.tmp 3) (.tmp 5) (.agg #[.int .i64 op,.int .i64 n,.string t,.bool b,.string c,.string m,.string d]) (.agg cs)).run Tryz.prog w=.ok () w:=fun w=>by
  simp [eqGuard,go_sem]
 have G2:∀ w,(binOp .neq 56 (.agg #[.int .i64 op,.int .i64 n,.string t,.bool b,.string c,.string m,.string d]) (.agg cs)).run Tryz.prog w=.ok (.bool (!sb)) w:=fun w=>by
  simp [binOp,HQ,go_sem]
 clear hO ht hc hm hd HQ
 cases sb <;> cases fb
 all_goals go_enter Tryz.func131,Tryz.ntmps131
 all_goals go_wp2
 all_goals refine Zl (C:=fun w'=>∃ s,w'=V s) (by kernel_rfl) (by kernel_rfl) (V2.out _ T0) ?_
 all_goals repeat (go_big_quiet_step (first
  | (go_at_call 140;exact (HP.out _ (V1.out _)).mono fun e w'' z=>⟨z.1,V2.out _ z.2⟩)
  | (go_at_call 141;exact (HF.out _ (V1.out _)).mono fun e w'' z=>⟨z.1,V2.out _ z.2⟩)))
 all_goals refine wpQuiet_nil ?_
 all_goals intro w9 hw9
 all_goals obtain ⟨s9,rfl⟩:=hw9
 all_goals go_wp2
 all_goals
  go_ret
  exact ⟨Zf (by rw [HR.out];rfl),HB.out _⟩
end Go.Proofs.YtkoogmegdfpopaaGreat
