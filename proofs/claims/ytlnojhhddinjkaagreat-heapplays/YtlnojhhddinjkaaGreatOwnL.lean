import Derived.Test.YtlnojhhddinjkaaGreatCodeL
set_option maxHeartbeats 8000000
set_option maxRecDepth 100000
namespace Go.Proofs.YtlnojhhddinjkaaGreat
open Go.RowKit
def opB (op:Int):Bool:=decide (0<op)&&decide (op<41)
theorem Zhb (op:Int) (r:Bool) (hr:opB op=r) (w:World):Calls Tryz.prog 216 #[.int .i64 op] w fun e w'=>e=.returned (.bool r)∧w'=w:=by
 have HR:Hid (r=(decide (0<op)&&decide (op<41))):=hr.symm
 clear hr
 go_enter Tryz.func216,Tryz.ntmps216
 go_wp2
 all_goals
  go_ret
  exact ⟨Zb (by rw [HR.out];first|(simp [*];done)|(simp [*];omega)),rfl⟩
theorem Zf (op:Int) (w:World):Calls Tryz.prog 203 #[.int .i64 op] w fun e w'=>e=.returned (.int .i64 (opdI op))∧w'=w:=by
 by_cases h:op<1∨40<op
 ·have HO:Hid (opdI op=-1):=by rw [Hid,opdI,if_pos h]
  have HB:Hid (∀ w,_):=Zhb op false (by unfold opB;rw [Bool.and_eq_false_iff];rcases h with h|h;exact .inl (decide_eq_false (by omega));exact .inr (decide_eq_false (by omega)))
  have hk:∀ k:Int,1≤k→k≤40→(op == k)=false:=fun k h1 h2=>by rw [beq_eq_false_iff_ne];omega
  have e1:=hk 1 (by omega) (by omega);have e2:=hk 2 (by omega) (by omega);have e3:=hk 3 (by omega) (by omega);have e4:=hk 4 (by omega) (by omega);have e5:=hk 5 (by omega) (by omega);have e11:=hk 11 (by omega) (by omega);have e12:=hk 12 (by omega) (by omega);have e13:=hk 13 (by omega) (by omega);have e14:=hk 14 (by omega) (by omega);have e15:=hk 15 (by omega) (by omega);have e16:=hk 16 (by omega) (by omega);have e17:=hk 17 (by omega) (by omega);have e18:=hk 18 (by omega) (by omega);have e22:=hk 22 (by omega) (by omega);have e30:=hk 30 (by omega) (by omega);have e31:=hk 31 (by omega) (by omega);have e23:=hk 23 (by omega) (by omega);have e24:=hk 24 (by omega) (by omega);have e32:=hk 32 (by omega) (by omega);have e33:=hk 33 (by omega) (by omega);have e34:=hk 34 (by omega) (by omega);have e35:=hk 35 (by omega) (by omega)
  clear hk h
  go_enter Tryz.func203,Tryz.ntmps203
  go_wp2_with (go_at_call 216;refine ((HB.out) _).mono ?_;rintro e w1 ⟨rfl,hw1⟩;rw [hw1])
  go_ret
  exact ⟨Ze HO.out.symm,rfl⟩
 ·obtain ⟨k,rfl⟩:∃ k:Nat,op=k:=⟨op.toNat,by omega⟩
  have hk:k=1∨k=2∨k=3∨k=4∨k=5∨k=6∨k=7∨k=8∨k=9∨k=10∨k=11∨k=12∨k=13∨k=14∨k=15∨k=16∨k=17∨k=18∨k=19∨k=20∨k=21∨k=22∨k=23∨k=24∨k=25∨k=26∨k=27∨k=28∨k=29∨k=30∨k=31∨k=32∨k=33∨k=34∨k=35∨k=36∨k=37∨k=38∨k=39∨k=40:=by omega
  clear h
  rcases hk with rfl|rfl|rfl|rfl|rfl|rfl|rfl|rfl|rfl|rfl|rfl|rfl|rfl|rfl|rfl|rfl|rfl|rfl|rfl|rfl|rfl|rfl|rfl|rfl|rfl|rfl|rfl|rfl|rfl|rfl|rfl|rfl|rfl|rfl|rfl|rfl|rfl|rfl|rfl|rfl
  all_goals
   go_enter Tryz.func203,Tryz.ntmps203
   go_wp2_with (go_at_call 216;refine (Zhb _ true (by decide) _).mono ?_;rintro e w1 ⟨rfl,hw1⟩;rw [hw1])
   go_ret
   exact ⟨rfl,rfl⟩
def inB (n l h:Int):Bool:=decide (l≤n)&&decide (n≤h)
theorem Y8 (n l h:Int) (w:World):Calls Tryz.prog 212 #[.int .i64 n,.int .i64 l,.int .i64 h] w fun e w'=>e=.returned (.bool (inB n l h))∧w'=w:=by
 have HR:Hid (inB n l h=(decide (l≤n)&&decide (n≤h))):=rfl
 generalize inB n l h=r at *
 go_enter Tryz.func212,Tryz.ntmps212
 go_wp2
 all_goals
  go_ret
  exact ⟨Zb (by rw [HR.out];first|(simp [*];done)|(simp [*];omega)),rfl⟩
def fmB (k n locals size:Int):Bool:=if k=2 then decide (n<locals) else if k=3 then decide (n<size) else true
def ownI (i:Ins):Ins :=
 if opdI i.op=1∨opdI i.op=2∨opdI i.op=3 then ⟨i.op,i.n,⟨#[]⟩,false,⟨#[]⟩,⟨#[]⟩,⟨#[]⟩⟩
 else if opdI i.op=4∨opdI i.op=5∨opdI i.op=6 then ⟨i.op,0,i.t,false,⟨#[]⟩,⟨#[]⟩,⟨#[]⟩⟩
 else if opdI i.op=7 then ⟨i.op,i.n,i.t,false,⟨#[]⟩,⟨#[]⟩,⟨#[]⟩⟩
 else if opdI i.op=8 then ⟨i.op,0,⟨#[]⟩,i.b,i.c,i.m,i.d⟩
 else ⟨i.op,0,⟨#[]⟩,false,⟨#[]⟩,⟨#[]⟩,⟨#[]⟩⟩
theorem Zc4 (op n:Int) (hk:opdI op=-1) (t:ByteArray) (b:Bool) (c m d:ByteArray) (w:World):Calls Tryz.prog 201 #[.agg #[.int .i64 op,.int .i64 n,.string t,.bool b,.string c,.string m,.string d]] w fun e w'=>e=.returned (insV (ownI ⟨op,n,t,b,c,m,d⟩))∧Bw w w':=by
 have HO:=Zf op
 rw [hk] at HO
 have HO:Hid (∀ w,_):=HO
 have HR:insV (ownI ⟨op,n,t,b,c,m,d⟩)=.agg #[.int .i64 op,.int .i64 0,.string ⟨#[]⟩,.bool false,.string ⟨#[]⟩,.string ⟨#[]⟩,.string ⟨#[]⟩]:=by unfold ownI;simp only [hk];rfl
 rw [HR]
 clear hk HR
 go_enter Tryz.func201,Tryz.ntmps201
 go_wp2_with (go_at_call 203;refine ((HO.out) _).mono ?_;rintro e w0 ⟨rfl,hw0⟩;rw [hw0];clear hw0 HO)
 refine bodyPost_ret (v:=.agg #[.int .i64 op,.int .i64 0,.string ⟨#[]⟩,.bool false,.string ⟨#[]⟩,.string ⟨#[]⟩,.string ⟨#[]⟩]) (by simp [results,Tryz.results201,go_sem, *]) rfl ⟨rfl,?_⟩
 exact ((Below.refl _ _).alloc (Nat.le_refl _) _).alloc (by simp) _
theorem Zbj (op n locals size:Int) (hk:opdI op=-1) (t:ByteArray) (b:Bool) (c m d:ByteArray) (w:World):Calls Tryz.prog 192 #[.agg #[.int .i64 op,.int .i64 n,.string t,.bool b,.string c,.string m,.string d],.int .i64 locals,.int .i64 size] w fun e w'=>e=.returned (.bool (fmB (opdI op) n locals size))∧Bw w w':=by
 have HO:=Zf op
 rw [hk] at HO
 have HO:Hid (∀ w,_):=HO
 have HR:fmB (opdI op) n locals size=true:=by rw [hk];rfl
 rw [HR]
 clear hk HR
 go_enter Tryz.func192,Tryz.ntmps192
 go_wp2_with (go_at_call 203;refine ((HO.out) _).mono ?_;rintro e w0 ⟨rfl,hw0⟩;rw [hw0];clear hw0 HO)
 go_ret
 exact ⟨Zb rfl,(Below.refl _ _).alloc (Nat.le_refl _) _⟩
theorem Zik (op n:Int) (hk:opdI op=0) (t:ByteArray) (b:Bool) (c m d:ByteArray) (w:World):Calls Tryz.prog 201 #[.agg #[.int .i64 op,.int .i64 n,.string t,.bool b,.string c,.string m,.string d]] w fun e w'=>e=.returned (insV (ownI ⟨op,n,t,b,c,m,d⟩))∧Bw w w':=by
 have HO:=Zf op
 rw [hk] at HO
 have HO:Hid (∀ w,_):=HO
 have HR:insV (ownI ⟨op,n,t,b,c,m,d⟩)=.agg #[.int .i64 op,.int .i64 0,.string ⟨#[]⟩,.bool false,.string ⟨#[]⟩,.string ⟨#[]⟩,.string ⟨#[]⟩]:=by unfold ownI;simp only [hk];rfl
 rw [HR]
 clear hk HR
 go_enter Tryz.func201,Tryz.ntmps201
 go_wp2_with (go_at_call 203;refine ((HO.out) _).mono ?_;rintro e w0 ⟨rfl,hw0⟩;rw [hw0];clear hw0 HO)
 refine bodyPost_ret (v:=.agg #[.int .i64 op,.int .i64 0,.string ⟨#[]⟩,.bool false,.string ⟨#[]⟩,.string ⟨#[]⟩,.string ⟨#[]⟩]) (by simp [results,Tryz.results201,go_sem, *]) rfl ⟨rfl,?_⟩
 exact ((Below.refl _ _).alloc (Nat.le_refl _) _).alloc (by simp) _
theorem Zfa (op n locals size:Int) (hk:opdI op=0) (t:ByteArray) (b:Bool) (c m d:ByteArray) (w:World):Calls Tryz.prog 192 #[.agg #[.int .i64 op,.int .i64 n,.string t,.bool b,.string c,.string m,.string d],.int .i64 locals,.int .i64 size] w fun e w'=>e=.returned (.bool (fmB (opdI op) n locals size))∧Bw w w':=by
 have HO:=Zf op
 rw [hk] at HO
 have HO:Hid (∀ w,_):=HO
 have HR:fmB (opdI op) n locals size=true:=by rw [hk];rfl
 rw [HR]
 clear hk HR
 go_enter Tryz.func192,Tryz.ntmps192
 go_wp2_with (go_at_call 203;refine ((HO.out) _).mono ?_;rintro e w0 ⟨rfl,hw0⟩;rw [hw0];clear hw0 HO)
 go_ret
 exact ⟨Zb rfl,(Below.refl _ _).alloc (Nat.le_refl _) _⟩
theorem Zij (op n:Int) (hk:opdI op=1) (t:ByteArray) (b:Bool) (c m d:ByteArray) (w:World):Calls Tryz.prog 201 #[.agg #[.int .i64 op,.int .i64 n,.string t,.bool b,.string c,.string m,.string d]] w fun e w'=>e=.returned (insV (ownI ⟨op,n,t,b,c,m,d⟩))∧Bw w w':=by
 have HO:=Zf op
 rw [hk] at HO
 have HO:Hid (∀ w,_):=HO
 have HR:insV (ownI ⟨op,n,t,b,c,m,d⟩)=.agg #[.int .i64 op,.int .i64 n,.string ⟨#[]⟩,.bool false,.string ⟨#[]⟩,.string ⟨#[]⟩,.string ⟨#[]⟩]:=by unfold ownI;simp only [hk];rfl
 rw [HR]
 clear hk HR
 go_enter Tryz.func201,Tryz.ntmps201
 go_wp2_with (go_at_call 203;refine ((HO.out) _).mono ?_;rintro e w0 ⟨rfl,hw0⟩;rw [hw0];clear hw0 HO)
 refine bodyPost_ret (v:=.agg #[.int .i64 op,.int .i64 n,.string ⟨#[]⟩,.bool false,.string ⟨#[]⟩,.string ⟨#[]⟩,.string ⟨#[]⟩]) (by simp [results,Tryz.results201,go_sem, *]) rfl ⟨rfl,?_⟩
 exact ((Below.refl _ _).alloc (Nat.le_refl _) _).alloc (by simp) _
theorem Ze9 (op n locals size:Int) (hk:opdI op=1) (t:ByteArray) (b:Bool) (c m d:ByteArray) (w:World):Calls Tryz.prog 192 #[.agg #[.int .i64 op,.int .i64 n,.string t,.bool b,.string c,.string m,.string d],.int .i64 locals,.int .i64 size] w fun e w'=>e=.returned (.bool (fmB (opdI op) n locals size))∧Bw w w':=by
 have HO:=Zf op
 rw [hk] at HO
 have HO:Hid (∀ w,_):=HO
 have HR:fmB (opdI op) n locals size=true:=by rw [hk];rfl
 rw [HR]
 clear hk HR
 go_enter Tryz.func192,Tryz.ntmps192
 go_wp2_with (go_at_call 203;refine ((HO.out) _).mono ?_;rintro e w0 ⟨rfl,hw0⟩;rw [hw0];clear hw0 HO)
 go_ret
 exact ⟨Zb rfl,(Below.refl _ _).alloc (Nat.le_refl _) _⟩
theorem Zii (op n:Int) (hk:opdI op=2) (t:ByteArray) (b:Bool) (c m d:ByteArray) (w:World):Calls Tryz.prog 201 #[.agg #[.int .i64 op,.int .i64 n,.string t,.bool b,.string c,.string m,.string d]] w fun e w'=>e=.returned (insV (ownI ⟨op,n,t,b,c,m,d⟩))∧Bw w w':=by
 have HO:=Zf op
 rw [hk] at HO
 have HO:Hid (∀ w,_):=HO
 have HR:insV (ownI ⟨op,n,t,b,c,m,d⟩)=.agg #[.int .i64 op,.int .i64 n,.string ⟨#[]⟩,.bool false,.string ⟨#[]⟩,.string ⟨#[]⟩,.string ⟨#[]⟩]:=by unfold ownI;simp only [hk];rfl
 rw [HR]
 clear hk HR
 go_enter Tryz.func201,Tryz.ntmps201
 go_wp2_with (go_at_call 203;refine ((HO.out) _).mono ?_;rintro e w0 ⟨rfl,hw0⟩;rw [hw0];clear hw0 HO)
 refine bodyPost_ret (v:=.agg #[.int .i64 op,.int .i64 n,.string ⟨#[]⟩,.bool false,.string ⟨#[]⟩,.string ⟨#[]⟩,.string ⟨#[]⟩]) (by simp [results,Tryz.results201,go_sem, *]) rfl ⟨rfl,?_⟩
 exact ((Below.refl _ _).alloc (Nat.le_refl _) _).alloc (by simp) _
theorem Ze8 (op n locals size:Int) (hk:opdI op=2) (t:ByteArray) (b:Bool) (c m d:ByteArray) (w:World):Calls Tryz.prog 192 #[.agg #[.int .i64 op,.int .i64 n,.string t,.bool b,.string c,.string m,.string d],.int .i64 locals,.int .i64 size] w fun e w'=>e=.returned (.bool (fmB (opdI op) n locals size))∧Bw w w':=by
 have HO:=Zf op
 rw [hk] at HO
 have HO:Hid (∀ w,_):=HO
 have HR:fmB (opdI op) n locals size=decide (n<locals):=by rw [hk];rfl
 rw [HR]
 clear hk HR
 go_enter Tryz.func192,Tryz.ntmps192
 go_wp2_with (go_at_call 203;refine ((HO.out) _).mono ?_;rintro e w0 ⟨rfl,hw0⟩;rw [hw0];clear hw0 HO)
 go_ret
 exact ⟨Zb rfl,(Below.refl _ _).alloc (Nat.le_refl _) _⟩
theorem Zih (op n:Int) (hk:opdI op=3) (t:ByteArray) (b:Bool) (c m d:ByteArray) (w:World):Calls Tryz.prog 201 #[.agg #[.int .i64 op,.int .i64 n,.string t,.bool b,.string c,.string m,.string d]] w fun e w'=>e=.returned (insV (ownI ⟨op,n,t,b,c,m,d⟩))∧Bw w w':=by
 have HO:=Zf op
 rw [hk] at HO
 have HO:Hid (∀ w,_):=HO
 have HR:insV (ownI ⟨op,n,t,b,c,m,d⟩)=.agg #[.int .i64 op,.int .i64 n,.string ⟨#[]⟩,.bool false,.string ⟨#[]⟩,.string ⟨#[]⟩,.string ⟨#[]⟩]:=by unfold ownI;simp only [hk];rfl
 rw [HR]
 clear hk HR
 go_enter Tryz.func201,Tryz.ntmps201
 go_wp2_with (go_at_call 203;refine ((HO.out) _).mono ?_;rintro e w0 ⟨rfl,hw0⟩;rw [hw0];clear hw0 HO)
 refine bodyPost_ret (v:=.agg #[.int .i64 op,.int .i64 n,.string ⟨#[]⟩,.bool false,.string ⟨#[]⟩,.string ⟨#[]⟩,.string ⟨#[]⟩]) (by simp [results,Tryz.results201,go_sem, *]) rfl ⟨rfl,?_⟩
 exact ((Below.refl _ _).alloc (Nat.le_refl _) _).alloc (by simp) _
theorem Ze7 (op n locals size:Int) (hk:opdI op=3) (t:ByteArray) (b:Bool) (c m d:ByteArray) (w:World):Calls Tryz.prog 192 #[.agg #[.int .i64 op,.int .i64 n,.string t,.bool b,.string c,.string m,.string d],.int .i64 locals,.int .i64 size] w fun e w'=>e=.returned (.bool (fmB (opdI op) n locals size))∧Bw w w':=by
 have HO:=Zf op
 rw [hk] at HO
 have HO:Hid (∀ w,_):=HO
 have HR:fmB (opdI op) n locals size=decide (n<size):=by rw [hk];rfl
 rw [HR]
 clear hk HR
 go_enter Tryz.func192,Tryz.ntmps192
 go_wp2_with (go_at_call 203;refine ((HO.out) _).mono ?_;rintro e w0 ⟨rfl,hw0⟩;rw [hw0];clear hw0 HO)
 go_ret
 exact ⟨Zb rfl,(Below.refl _ _).alloc (Nat.le_refl _) _⟩
theorem Zig (op n:Int) (hk:opdI op=4) (t:ByteArray) (b:Bool) (c m d:ByteArray) (w:World):Calls Tryz.prog 201 #[.agg #[.int .i64 op,.int .i64 n,.string t,.bool b,.string c,.string m,.string d]] w fun e w'=>e=.returned (insV (ownI ⟨op,n,t,b,c,m,d⟩))∧Bw w w':=by
 have HO:=Zf op
 rw [hk] at HO
 have HO:Hid (∀ w,_):=HO
 have HR:insV (ownI ⟨op,n,t,b,c,m,d⟩)=.agg #[.int .i64 op,.int .i64 0,.string t,.bool false,.string ⟨#[]⟩,.string ⟨#[]⟩,.string ⟨#[]⟩]:=by unfold ownI;simp only [hk];rfl
 rw [HR]
 clear hk HR
 go_enter Tryz.func201,Tryz.ntmps201
 go_wp2_with (go_at_call 203;refine ((HO.out) _).mono ?_;rintro e w0 ⟨rfl,hw0⟩;rw [hw0];clear hw0 HO)
 refine bodyPost_ret (v:=.agg #[.int .i64 op,.int .i64 0,.string t,.bool false,.string ⟨#[]⟩,.string ⟨#[]⟩,.string ⟨#[]⟩]) (by simp [results,Tryz.results201,go_sem, *]) rfl ⟨rfl,?_⟩
 exact ((Below.refl _ _).alloc (Nat.le_refl _) _).alloc (by simp) _
theorem Ze6 (op n locals size:Int) (hk:opdI op=4) (t:ByteArray) (b:Bool) (c m d:ByteArray) (w:World):Calls Tryz.prog 192 #[.agg #[.int .i64 op,.int .i64 n,.string t,.bool b,.string c,.string m,.string d],.int .i64 locals,.int .i64 size] w fun e w'=>e=.returned (.bool (fmB (opdI op) n locals size))∧Bw w w':=by
 have HO:=Zf op
 rw [hk] at HO
 have HO:Hid (∀ w,_):=HO
 have HR:fmB (opdI op) n locals size=true:=by rw [hk];rfl
 rw [HR]
 clear hk HR
 go_enter Tryz.func192,Tryz.ntmps192
 go_wp2_with (go_at_call 203;refine ((HO.out) _).mono ?_;rintro e w0 ⟨rfl,hw0⟩;rw [hw0];clear hw0 HO)
 go_ret
 exact ⟨Zb rfl,(Below.refl _ _).alloc (Nat.le_refl _) _⟩
theorem Zif (op n:Int) (hk:opdI op=5) (t:ByteArray) (b:Bool) (c m d:ByteArray) (w:World):Calls Tryz.prog 201 #[.agg #[.int .i64 op,.int .i64 n,.string t,.bool b,.string c,.string m,.string d]] w fun e w'=>e=.returned (insV (ownI ⟨op,n,t,b,c,m,d⟩))∧Bw w w':=by
 have HO:=Zf op
 rw [hk] at HO
 have HO:Hid (∀ w,_):=HO
 have HR:insV (ownI ⟨op,n,t,b,c,m,d⟩)=.agg #[.int .i64 op,.int .i64 0,.string t,.bool false,.string ⟨#[]⟩,.string ⟨#[]⟩,.string ⟨#[]⟩]:=by unfold ownI;simp only [hk];rfl
 rw [HR]
 clear hk HR
 go_enter Tryz.func201,Tryz.ntmps201
 go_wp2_with (go_at_call 203;refine ((HO.out) _).mono ?_;rintro e w0 ⟨rfl,hw0⟩;rw [hw0];clear hw0 HO)
 refine bodyPost_ret (v:=.agg #[.int .i64 op,.int .i64 0,.string t,.bool false,.string ⟨#[]⟩,.string ⟨#[]⟩,.string ⟨#[]⟩]) (by simp [results,Tryz.results201,go_sem, *]) rfl ⟨rfl,?_⟩
 exact ((Below.refl _ _).alloc (Nat.le_refl _) _).alloc (by simp) _
theorem Ze5 (op n locals size:Int) (hk:opdI op=5) (t:ByteArray) (b:Bool) (c m d:ByteArray) (w:World):Calls Tryz.prog 192 #[.agg #[.int .i64 op,.int .i64 n,.string t,.bool b,.string c,.string m,.string d],.int .i64 locals,.int .i64 size] w fun e w'=>e=.returned (.bool (fmB (opdI op) n locals size))∧Bw w w':=by
 have HO:=Zf op
 rw [hk] at HO
 have HO:Hid (∀ w,_):=HO
 have HR:fmB (opdI op) n locals size=true:=by rw [hk];rfl
 rw [HR]
 clear hk HR
 go_enter Tryz.func192,Tryz.ntmps192
 go_wp2_with (go_at_call 203;refine ((HO.out) _).mono ?_;rintro e w0 ⟨rfl,hw0⟩;rw [hw0];clear hw0 HO)
 go_ret
 exact ⟨Zb rfl,(Below.refl _ _).alloc (Nat.le_refl _) _⟩
theorem Zie (op n:Int) (hk:opdI op=6) (t:ByteArray) (b:Bool) (c m d:ByteArray) (w:World):Calls Tryz.prog 201 #[.agg #[.int .i64 op,.int .i64 n,.string t,.bool b,.string c,.string m,.string d]] w fun e w'=>e=.returned (insV (ownI ⟨op,n,t,b,c,m,d⟩))∧Bw w w':=by
 have HO:=Zf op
 rw [hk] at HO
 have HO:Hid (∀ w,_):=HO
 have HR:insV (ownI ⟨op,n,t,b,c,m,d⟩)=.agg #[.int .i64 op,.int .i64 0,.string t,.bool false,.string ⟨#[]⟩,.string ⟨#[]⟩,.string ⟨#[]⟩]:=by unfold ownI;simp only [hk];rfl
 rw [HR]
 clear hk HR
 go_enter Tryz.func201,Tryz.ntmps201
 go_wp2_with (go_at_call 203;refine ((HO.out) _).mono ?_;rintro e w0 ⟨rfl,hw0⟩;rw [hw0];clear hw0 HO)
 refine bodyPost_ret (v:=.agg #[.int .i64 op,.int .i64 0,.string t,.bool false,.string ⟨#[]⟩,.string ⟨#[]⟩,.string ⟨#[]⟩]) (by simp [results,Tryz.results201,go_sem, *]) rfl ⟨rfl,?_⟩
 exact ((Below.refl _ _).alloc (Nat.le_refl _) _).alloc (by simp) _
theorem Ze4 (op n locals size:Int) (hk:opdI op=6) (t:ByteArray) (b:Bool) (c m d:ByteArray) (w:World):Calls Tryz.prog 192 #[.agg #[.int .i64 op,.int .i64 n,.string t,.bool b,.string c,.string m,.string d],.int .i64 locals,.int .i64 size] w fun e w'=>e=.returned (.bool (fmB (opdI op) n locals size))∧Bw w w':=by
 have HO:=Zf op
 rw [hk] at HO
 have HO:Hid (∀ w,_):=HO
 have HR:fmB (opdI op) n locals size=true:=by rw [hk];rfl
 rw [HR]
 clear hk HR
 go_enter Tryz.func192,Tryz.ntmps192
 go_wp2_with (go_at_call 203;refine ((HO.out) _).mono ?_;rintro e w0 ⟨rfl,hw0⟩;rw [hw0];clear hw0 HO)
 go_ret
 exact ⟨Zb rfl,(Below.refl _ _).alloc (Nat.le_refl _) _⟩
theorem Zid (op n:Int) (hk:opdI op=7) (t:ByteArray) (b:Bool) (c m d:ByteArray) (w:World):Calls Tryz.prog 201 #[.agg #[.int .i64 op,.int .i64 n,.string t,.bool b,.string c,.string m,.string d]] w fun e w'=>e=.returned (insV (ownI ⟨op,n,t,b,c,m,d⟩))∧Bw w w':=by
 have HO:=Zf op
 rw [hk] at HO
 have HO:Hid (∀ w,_):=HO
 have HR:insV (ownI ⟨op,n,t,b,c,m,d⟩)=.agg #[.int .i64 op,.int .i64 n,.string t,.bool false,.string ⟨#[]⟩,.string ⟨#[]⟩,.string ⟨#[]⟩]:=by unfold ownI;simp only [hk];rfl
 rw [HR]
 clear hk HR
 go_enter Tryz.func201,Tryz.ntmps201
 go_wp2_with (go_at_call 203;refine ((HO.out) _).mono ?_;rintro e w0 ⟨rfl,hw0⟩;rw [hw0];clear hw0 HO)
 refine bodyPost_ret (v:=.agg #[.int .i64 op,.int .i64 n,.string t,.bool false,.string ⟨#[]⟩,.string ⟨#[]⟩,.string ⟨#[]⟩]) (by simp [results,Tryz.results201,go_sem, *]) rfl ⟨rfl,?_⟩
 exact ((Below.refl _ _).alloc (Nat.le_refl _) _).alloc (by simp) _
theorem Ze3 (op n locals size:Int) (hk:opdI op=7) (t:ByteArray) (b:Bool) (c m d:ByteArray) (w:World):Calls Tryz.prog 192 #[.agg #[.int .i64 op,.int .i64 n,.string t,.bool b,.string c,.string m,.string d],.int .i64 locals,.int .i64 size] w fun e w'=>e=.returned (.bool (fmB (opdI op) n locals size))∧Bw w w':=by
 have HO:=Zf op
 rw [hk] at HO
 have HO:Hid (∀ w,_):=HO
 have HR:fmB (opdI op) n locals size=true:=by rw [hk];rfl
 rw [HR]
 clear hk HR
 go_enter Tryz.func192,Tryz.ntmps192
 go_wp2_with (go_at_call 203;refine ((HO.out) _).mono ?_;rintro e w0 ⟨rfl,hw0⟩;rw [hw0];clear hw0 HO)
 go_ret
 exact ⟨Zb rfl,(Below.refl _ _).alloc (Nat.le_refl _) _⟩
theorem Zic (op n:Int) (hk:opdI op=8) (t:ByteArray) (b:Bool) (c m d:ByteArray) (w:World):Calls Tryz.prog 201 #[.agg #[.int .i64 op,.int .i64 n,.string t,.bool b,.string c,.string m,.string d]] w fun e w'=>e=.returned (insV (ownI ⟨op,n,t,b,c,m,d⟩))∧Bw w w':=by
 have HO:=Zf op
 rw [hk] at HO
 have HO:Hid (∀ w,_):=HO
 have HR:insV (ownI ⟨op,n,t,b,c,m,d⟩)=.agg #[.int .i64 op,.int .i64 0,.string ⟨#[]⟩,.bool b,.string c,.string m,.string d]:=by unfold ownI;simp only [hk];rfl
 rw [HR]
 clear hk HR
 go_enter Tryz.func201,Tryz.ntmps201
 go_wp2_with (go_at_call 203;refine ((HO.out) _).mono ?_;rintro e w0 ⟨rfl,hw0⟩;rw [hw0];clear hw0 HO)
 refine bodyPost_ret (v:=.agg #[.int .i64 op,.int .i64 0,.string ⟨#[]⟩,.bool b,.string c,.string m,.string d]) (by simp [results,Tryz.results201,go_sem, *]) rfl ⟨rfl,?_⟩
 exact ((Below.refl _ _).alloc (Nat.le_refl _) _).alloc (by simp) _
theorem Ze2 (op n locals size:Int) (hk:opdI op=8) (t:ByteArray) (b:Bool) (c m d:ByteArray) (w:World):Calls Tryz.prog 192 #[.agg #[.int .i64 op,.int .i64 n,.string t,.bool b,.string c,.string m,.string d],.int .i64 locals,.int .i64 size] w fun e w'=>e=.returned (.bool (fmB (opdI op) n locals size))∧Bw w w':=by
 have HO:=Zf op
 rw [hk] at HO
 have HO:Hid (∀ w,_):=HO
 have HR:fmB (opdI op) n locals size=true:=by rw [hk];rfl
 rw [HR]
 clear hk HR
 go_enter Tryz.func192,Tryz.ntmps192
 go_wp2_with (go_at_call 203;refine ((HO.out) _).mono ?_;rintro e w0 ⟨rfl,hw0⟩;rw [hw0];clear hw0 HO)
 go_ret
 exact ⟨Zb rfl,(Below.refl _ _).alloc (Nat.le_refl _) _⟩
theorem Zd2 (b:Bool) (c n d:ByteArray) (hc:c.size≤maxLen) (hn:n.size≤maxLen) (hd:d.size≤maxLen) (w:World):Calls Tryz.prog 215 #[.agg #[.bool b,.string c,.string n,.string d]] w fun e w'=>e=.returned (.int .i64 (rckE c.data.toList n.data.toList d.data.toList))∧Bw w w':=by
 have HP:Hid (∀ w,_):=X6 c hc
 have HM:Hid (∀ w,_):=Zb8 n hn
 have HD:Hid (∀ w,_):=Xl d hd
 have HR:Hid (rckE c.data.toList n.data.toList d.data.toList=if ((prfE c.data.toList == 0)&&Z2 n.data.toList&&(pdE d.data.toList == 0)) then 0 else 1):=rfl
 clear hc hn hd
 unfold DOut at HD
 generalize rckE c.data.toList n.data.toList d.data.toList=z at *
 generalize prfE c.data.toList=pc at *
 generalize prfT c.data.toList=pt at *
 generalize Z2 n.data.toList=mm at *
 generalize pdE d.data.toList=pd at *
 generalize pdD d.data.toList=dd at *
 obtain ⟨qc,hqc⟩:∃ q,(pc == 0)=q:=⟨_,rfl⟩
 obtain ⟨qd,hqd⟩:∃ q,(pd == 0)=q:=⟨_,rfl⟩
 have hqc2:(pc != 0)=!qc:=by rw [bne,hqc]
 have hqd2:(pd != 0)=!qd:=by rw [bne,hqd]
 rw [hqc,hqd] at HR
 cases qc <;> cases mm <;> cases qd
 all_goals go_enter Tryz.func215,Tryz.ntmps215
 all_goals go_wp2_with (first
  | (go_at_call 213;refine ((HP.out) _).mono ?_;rintro e w1 ⟨rfl,hb1⟩;have hs1:w.heap.size<w1.heap.size:=sqS hb1;have hB1:Hid (Bw w w1):=sqT hb1;have hc12:w1.cell? ⟨w.heap.size,2,none⟩=some (.string n):=(hb1.cell (p:=⟨w.heap.size,2,none⟩) (by first|(simp [*];done)|(simp;omega))).trans (by simp [go_sem, *]);have hc13:w1.cell? ⟨w.heap.size,3,none⟩=some (.string d):=(hb1.cell (p:=⟨w.heap.size,3,none⟩) (by first|(simp [*];done)|(simp;omega))).trans (by simp [go_sem, *]);clear hb1 HP)
  | (go_at_call 149;refine ((HD.out) _).mono ?_;rintro e w2 ⟨v,rfl,ho2,hb2⟩;obtain ⟨v1,v2,rfl⟩:=Zh ho2;clear ho2 HD;have hs2:w.heap.size<w2.heap.size:=sqS hb2;have hB2:Hid (Bw w w2):=Below.step (hB1.out.alloc hB1.out.size _) hb2;have hc22:w2.cell? ⟨w.heap.size,2,none⟩=some (.string n):=(hb2.cell (p:=⟨w.heap.size,2,none⟩) (by first|(simp [*];done)|(simp;omega))).trans (by simp [go_sem, *]);clear hb2)
  | (go_at_call 150;refine ((HM.out) _).mono ?_;rintro e w3 ⟨rfl,hw3⟩;rw [hw3];clear hw3 HM))
 all_goals
  go_ret
  exact ⟨Ze (by rw [HR.out];rfl),hB2.out.alloc hB2.out.size _⟩
def fitB (k n:Int) (t:List UInt8) (r:Bool):Bool :=
 if k=0 then true
 else if k=1 then inB n (-2147483648) 2147483647
 else if k=2 then inB n 0 39
 else if k=3 then inB n 0 199
 else if k=4 then Zj t
 else if k=5 then prfE t == 0
 else if k=6 then (parE t == 0)&&decide ((parT t).1<255)
 else if k=7 then (prfE t == 0)&&inB n 1 (prfT t).1
 else if k=8 then r
 else false
theorem Zas (op n:Int) (hk:opdI op=-1) (t:ByteArray) (b:Bool) (c m d:ByteArray) (w:World):Calls Tryz.prog 202 #[.agg #[.int .i64 op,.int .i64 n,.string t,.bool b,.string c,.string m,.string d]] w fun e w'=>e=.returned (.bool (fitB (opdI op) n t.data.toList (rckB c.data.toList m.data.toList d.data.toList)))∧Bw w w':=by
 have HO:=Zf op
 rw [hk] at HO
 have HO:Hid (∀ w,_):=HO
 have HR:Hid (fitB (opdI op) n t.data.toList (rckB c.data.toList m.data.toList d.data.toList)=false):=by rw [Hid,hk];rfl
 generalize fitB (opdI op) n t.data.toList (rckB c.data.toList m.data.toList d.data.toList)=r at *
 clear hk
 all_goals go_enter Tryz.func202,Tryz.ntmps202
 all_goals go_wp2_with (first
  | (go_at_call 203;refine ((HO.out) _).mono ?_;rintro e w0 ⟨rfl,hw0⟩;rw [hw0];clear hw0 HO))
 all_goals
  go_ret
  exact ⟨Zb (by rw [HR.out]),(Below.refl _ _).alloc (Nat.le_refl _) _⟩
theorem Zdn (op n:Int) (hk:opdI op=0) (t:ByteArray) (b:Bool) (c m d:ByteArray) (w:World):Calls Tryz.prog 202 #[.agg #[.int .i64 op,.int .i64 n,.string t,.bool b,.string c,.string m,.string d]] w fun e w'=>e=.returned (.bool (fitB (opdI op) n t.data.toList (rckB c.data.toList m.data.toList d.data.toList)))∧Bw w w':=by
 have HO:=Zf op
 rw [hk] at HO
 have HO:Hid (∀ w,_):=HO
 have HR:Hid (fitB (opdI op) n t.data.toList (rckB c.data.toList m.data.toList d.data.toList)=true):=by rw [Hid,hk];rfl
 generalize fitB (opdI op) n t.data.toList (rckB c.data.toList m.data.toList d.data.toList)=r at *
 clear hk
 all_goals go_enter Tryz.func202,Tryz.ntmps202
 all_goals go_wp2_with (first
  | (go_at_call 203;refine ((HO.out) _).mono ?_;rintro e w0 ⟨rfl,hw0⟩;rw [hw0];clear hw0 HO))
 all_goals
  go_ret
  exact ⟨Zb (by rw [HR.out]),(Below.refl _ _).alloc (Nat.le_refl _) _⟩
theorem Zdm (op n:Int) (hk:opdI op=1) (t:ByteArray) (b:Bool) (c m d:ByteArray) (w:World):Calls Tryz.prog 202 #[.agg #[.int .i64 op,.int .i64 n,.string t,.bool b,.string c,.string m,.string d]] w fun e w'=>e=.returned (.bool (fitB (opdI op) n t.data.toList (rckB c.data.toList m.data.toList d.data.toList)))∧Bw w w':=by
 have HO:=Zf op
 rw [hk] at HO
 have HO:Hid (∀ w,_):=HO
 have HI:Hid (∀ l h w,_):=Y8 n
 have HR:Hid (fitB (opdI op) n t.data.toList (rckB c.data.toList m.data.toList d.data.toList)=inB n (-2147483648) 2147483647):=by rw [Hid,hk];rfl
 generalize fitB (opdI op) n t.data.toList (rckB c.data.toList m.data.toList d.data.toList)=r at *
 clear hk
 all_goals go_enter Tryz.func202,Tryz.ntmps202
 all_goals go_wp2_with (first
  | (go_at_call 203;refine ((HO.out) _).mono ?_;rintro e w0 ⟨rfl,hw0⟩;rw [hw0];clear hw0 HO)
  | (go_at_call 212;refine ((HI.out) _ _ _).mono ?_;rintro e w1 ⟨rfl,hw1⟩;rw [hw1];clear hw1))
 all_goals
  go_ret
  exact ⟨Zb (by rw [HR.out]),(Below.refl _ _).alloc (Nat.le_refl _) _⟩
theorem Zdl (op n:Int) (hk:opdI op=2) (t:ByteArray) (b:Bool) (c m d:ByteArray) (w:World):Calls Tryz.prog 202 #[.agg #[.int .i64 op,.int .i64 n,.string t,.bool b,.string c,.string m,.string d]] w fun e w'=>e=.returned (.bool (fitB (opdI op) n t.data.toList (rckB c.data.toList m.data.toList d.data.toList)))∧Bw w w':=by
 have HO:=Zf op
 rw [hk] at HO
 have HO:Hid (∀ w,_):=HO
 have HI:Hid (∀ l h w,_):=Y8 n
 have HR:Hid (fitB (opdI op) n t.data.toList (rckB c.data.toList m.data.toList d.data.toList)=inB n 0 39):=by rw [Hid,hk];rfl
 generalize fitB (opdI op) n t.data.toList (rckB c.data.toList m.data.toList d.data.toList)=r at *
 clear hk
 all_goals go_enter Tryz.func202,Tryz.ntmps202
 all_goals go_wp2_with (first
  | (go_at_call 203;refine ((HO.out) _).mono ?_;rintro e w0 ⟨rfl,hw0⟩;rw [hw0];clear hw0 HO)
  | (go_at_call 212;refine ((HI.out) _ _ _).mono ?_;rintro e w1 ⟨rfl,hw1⟩;rw [hw1];clear hw1))
 all_goals
  go_ret
  exact ⟨Zb (by rw [HR.out]),(Below.refl _ _).alloc (Nat.le_refl _) _⟩
theorem Zdk (op n:Int) (hk:opdI op=3) (t:ByteArray) (b:Bool) (c m d:ByteArray) (w:World):Calls Tryz.prog 202 #[.agg #[.int .i64 op,.int .i64 n,.string t,.bool b,.string c,.string m,.string d]] w fun e w'=>e=.returned (.bool (fitB (opdI op) n t.data.toList (rckB c.data.toList m.data.toList d.data.toList)))∧Bw w w':=by
 have HO:=Zf op
 rw [hk] at HO
 have HO:Hid (∀ w,_):=HO
 have HI:Hid (∀ l h w,_):=Y8 n
 have HR:Hid (fitB (opdI op) n t.data.toList (rckB c.data.toList m.data.toList d.data.toList)=inB n 0 199):=by rw [Hid,hk];rfl
 generalize fitB (opdI op) n t.data.toList (rckB c.data.toList m.data.toList d.data.toList)=r at *
 clear hk
 all_goals go_enter Tryz.func202,Tryz.ntmps202
 all_goals go_wp2_with (first
  | (go_at_call 203;refine ((HO.out) _).mono ?_;rintro e w0 ⟨rfl,hw0⟩;rw [hw0];clear hw0 HO)
  | (go_at_call 212;refine ((HI.out) _ _ _).mono ?_;rintro e w1 ⟨rfl,hw1⟩;rw [hw1];clear hw1))
 all_goals
  go_ret
  exact ⟨Zb (by rw [HR.out]),(Below.refl _ _).alloc (Nat.le_refl _) _⟩
theorem Zdj (op n:Int) (hk:opdI op=4) (t:ByteArray) (b:Bool) (c m d:ByteArray) (ht:t.size≤maxLen) (w:World):Calls Tryz.prog 202 #[.agg #[.int .i64 op,.int .i64 n,.string t,.bool b,.string c,.string m,.string d]] w fun e w'=>e=.returned (.bool (fitB (opdI op) n t.data.toList (rckB c.data.toList m.data.toList d.data.toList)))∧Bw w w':=by
 have HO:=Zf op
 rw [hk] at HO
 have HO:Hid (∀ w,_):=HO
 have HV:Hid (∀ w,_):=Yx t ht
 have HR:Hid (fitB (opdI op) n t.data.toList (rckB c.data.toList m.data.toList d.data.toList)=Zj t.data.toList):=by rw [Hid,hk];rfl
 generalize fitB (opdI op) n t.data.toList (rckB c.data.toList m.data.toList d.data.toList)=r at *
 clear hk
 all_goals go_enter Tryz.func202,Tryz.ntmps202
 all_goals go_wp2_with (first
  | (go_at_call 203;refine ((HO.out) _).mono ?_;rintro e w0 ⟨rfl,hw0⟩;rw [hw0];clear hw0 HO)
  | (go_at_call 122;refine ((HV.out) _).mono ?_;rintro e w1 ⟨rfl,hb1⟩))
 all_goals
  go_ret
  exact ⟨Zb (by rw [HR.out]),sqT hb1⟩
theorem Zdi (op n:Int) (hk:opdI op=5) (t:ByteArray) (b:Bool) (c m d:ByteArray) (ht:t.size≤maxLen) (w:World):Calls Tryz.prog 202 #[.agg #[.int .i64 op,.int .i64 n,.string t,.bool b,.string c,.string m,.string d]] w fun e w'=>e=.returned (.bool (fitB (opdI op) n t.data.toList (rckB c.data.toList m.data.toList d.data.toList)))∧Bw w w':=by
 have HO:=Zf op
 rw [hk] at HO
 have HO:Hid (∀ w,_):=HO
 have HV:Hid (∀ w,_):=X6 t ht
 have HR:Hid (fitB (opdI op) n t.data.toList (rckB c.data.toList m.data.toList d.data.toList)=(prfE t.data.toList == 0)):=by rw [Hid,hk];rfl
 generalize fitB (opdI op) n t.data.toList (rckB c.data.toList m.data.toList d.data.toList)=r at *
 clear hk
 generalize prfE t.data.toList=pe at *
 generalize prfT t.data.toList=pt at *
 all_goals go_enter Tryz.func202,Tryz.ntmps202
 all_goals go_wp2_with (first
  | (go_at_call 203;refine ((HO.out) _).mono ?_;rintro e w0 ⟨rfl,hw0⟩;rw [hw0];clear hw0 HO)
  | (go_at_call 213;refine ((HV.out) _).mono ?_;rintro e w1 ⟨rfl,hb1⟩;have hB1:Hid (Bw w w1):=sqT hb1;clear hb1))
 all_goals
  go_ret
  exact ⟨Zb (by rw [HR.out]),hB1.out.alloc hB1.out.size _⟩
theorem Zdh (op n:Int) (hk:opdI op=6) (t:ByteArray) (b:Bool) (c m d:ByteArray) (ht:t.size≤maxLen) (w:World):Calls Tryz.prog 202 #[.agg #[.int .i64 op,.int .i64 n,.string t,.bool b,.string c,.string m,.string d]] w fun e w'=>e=.returned (.bool (fitB (opdI op) n t.data.toList (rckB c.data.toList m.data.toList d.data.toList)))∧Bw w w':=by
 have HO:=Zf op
 rw [hk] at HO
 have HO:Hid (∀ w,_):=HO
 have HV:Hid (∀ w,_):=Zed t ht
 have HR:Hid (fitB (opdI op) n t.data.toList (rckB c.data.toList m.data.toList d.data.toList)=((parE t.data.toList == 0)&&decide ((parT t.data.toList).1<255))):=by rw [Hid,hk];rfl
 generalize fitB (opdI op) n t.data.toList (rckB c.data.toList m.data.toList d.data.toList)=r at *
 clear hk
 generalize parE t.data.toList=pe at *
 generalize parT t.data.toList=pt at *
 obtain ⟨q,hq⟩:∃ q,(pe == 0)=q:=⟨_,rfl⟩
 rw [hq] at HR
 cases q
 all_goals go_enter Tryz.func202,Tryz.ntmps202
 all_goals go_wp2_with (first
  | (go_at_call 203;refine ((HO.out) _).mono ?_;rintro e w0 ⟨rfl,hw0⟩;rw [hw0];clear hw0 HO)
  | (go_at_call 214;refine ((HV.out) _).mono ?_;rintro e w1 ⟨rfl,hb1⟩;have hB1:Hid (Bw w w1):=sqT hb1;clear hb1))
 all_goals
  go_ret
  exact ⟨Zb (by rw [HR.out];first|(simp;done)|(simp;omega)),hB1.out.alloc hB1.out.size _⟩
theorem Zdg (op n:Int) (hk:opdI op=7) (t:ByteArray) (b:Bool) (c m d:ByteArray) (ht:t.size≤maxLen) (w:World):Calls Tryz.prog 202 #[.agg #[.int .i64 op,.int .i64 n,.string t,.bool b,.string c,.string m,.string d]] w fun e w'=>e=.returned (.bool (fitB (opdI op) n t.data.toList (rckB c.data.toList m.data.toList d.data.toList)))∧Bw w w':=by
 have HO:=Zf op
 rw [hk] at HO
 have HO:Hid (∀ w,_):=HO
 have HV:Hid (∀ w,_):=X6 t ht
 have HI:Hid (∀ l h w,_):=Y8 n
 have HR:Hid (fitB (opdI op) n t.data.toList (rckB c.data.toList m.data.toList d.data.toList)=((prfE t.data.toList == 0)&&inB n 1 (prfT t.data.toList).1)):=by rw [Hid,hk];rfl
 generalize fitB (opdI op) n t.data.toList (rckB c.data.toList m.data.toList d.data.toList)=r at *
 clear hk
 generalize prfE t.data.toList=pe at *
 generalize prfT t.data.toList=pt at *
 obtain ⟨q,hq⟩:∃ q,(pe == 0)=q:=⟨_,rfl⟩
 rw [hq] at HR
 cases q
 all_goals go_enter Tryz.func202,Tryz.ntmps202
 all_goals go_wp2_with (first
  | (go_at_call 203;refine ((HO.out) _).mono ?_;rintro e w0 ⟨rfl,hw0⟩;rw [hw0];clear hw0 HO)
  | (go_at_call 213;refine ((HV.out) _).mono ?_;rintro e w1 ⟨rfl,hb1⟩;have hs1:w.heap.size<w1.heap.size:=sqS hb1;have hB1:Hid (Bw w w1):=sqT hb1;have hc11:w1.cell? ⟨w.heap.size,1,none⟩=some (.int .i64 n):=(hb1.cell (p:=⟨w.heap.size,1,none⟩) (by first|(simp [*];done)|(simp;omega))).trans (by simp [go_sem, *]);clear hb1)
  | (go_at_call 212;refine ((HI.out) _ _ _).mono ?_;rintro e w2 ⟨rfl,hw2⟩;rw [hw2];clear hw2))
 all_goals
  go_ret
  exact ⟨Zb (by rw [HR.out];first|(simp;done)|(simp;omega)),hB1.out.alloc hB1.out.size _⟩
theorem Zdf (op n:Int) (hk:opdI op=8) (t:ByteArray) (b:Bool) (c m d:ByteArray) (hc:c.size≤maxLen) (hm:m.size≤maxLen) (hd:d.size≤maxLen) (w:World):Calls Tryz.prog 202 #[.agg #[.int .i64 op,.int .i64 n,.string t,.bool b,.string c,.string m,.string d]] w fun e w'=>e=.returned (.bool (fitB (opdI op) n t.data.toList (rckB c.data.toList m.data.toList d.data.toList)))∧Bw w w':=by
 have HO:=Zf op
 rw [hk] at HO
 have HO:Hid (∀ w,_):=HO
 have HV:Hid (∀ w,_):=Zd2 b c m d hc hm hd
 have HE:Hid (rckE c.data.toList m.data.toList d.data.toList=if rckB c.data.toList m.data.toList d.data.toList then 0 else 1):=rfl
 have HR:Hid (fitB (opdI op) n t.data.toList (rckB c.data.toList m.data.toList d.data.toList)=rckB c.data.toList m.data.toList d.data.toList):=by rw [Hid,hk];rfl
 generalize fitB (opdI op) n t.data.toList (rckB c.data.toList m.data.toList d.data.toList)=r at *
 clear hk
 generalize rckE c.data.toList m.data.toList d.data.toList=re at *
 generalize rckB c.data.toList m.data.toList d.data.toList=rb at *
 cases rb
 all_goals (have he:=HE.out;simp only [if_true,Bool.false_eq_true,if_false] at he;subst he)
 all_goals go_enter Tryz.func202,Tryz.ntmps202
 all_goals go_wp2_with (first
  | (go_at_call 203;refine ((HO.out) _).mono ?_;rintro e w0 ⟨rfl,hw0⟩;rw [hw0];clear hw0 HO)
  | (go_at_call 215;refine ((HV.out) _).mono ?_;rintro e w1 ⟨rfl,hb1⟩;have hB1:Hid (Bw w w1):=sqT hb1;clear hb1))
 all_goals
  go_ret
  exact ⟨Zb (by rw [HR.out]),hB1.out⟩
theorem Zbi (op n:Int) (t:ByteArray) (b:Bool) (c m d:ByteArray) (ht:t.size≤maxLen) (hc:c.size≤maxLen) (hm:m.size≤maxLen) (hd:d.size≤maxLen) (w:World):Calls Tryz.prog 202 #[.agg #[.int .i64 op,.int .i64 n,.string t,.bool b,.string c,.string m,.string d]] w fun e w'=>e=.returned (.bool (fitB (opdI op) n t.data.toList (rckB c.data.toList m.data.toList d.data.toList)))∧Bw w w':=by
 rcases X8 op with e|e|e|e|e|e|e|e|e|e
 ·exact Zas op n e t b c m d w
 ·exact Zdn op n e t b c m d w
 ·exact Zdm op n e t b c m d w
 ·exact Zdl op n e t b c m d w
 ·exact Zdk op n e t b c m d w
 ·exact Zdj op n e t b c m d ht w
 ·exact Zdi op n e t b c m d ht w
 ·exact Zdh op n e t b c m d ht w
 ·exact Zdg op n e t b c m d ht w
 ·exact Zdf op n e t b c m d hc hm hd w
theorem Zef (op n:Int) (t:ByteArray) (b:Bool) (c m d:ByteArray) (w:World):Calls Tryz.prog 201 #[.agg #[.int .i64 op,.int .i64 n,.string t,.bool b,.string c,.string m,.string d]] w fun e w'=>e=.returned (insV (ownI ⟨op,n,t,b,c,m,d⟩))∧Bw w w':=by
 rcases X8 op with e|e|e|e|e|e|e|e|e|e
 ·exact Zc4 op n e t b c m d w
 ·exact Zik op n e t b c m d w
 ·exact Zij op n e t b c m d w
 ·exact Zii op n e t b c m d w
 ·exact Zih op n e t b c m d w
 ·exact Zig op n e t b c m d w
 ·exact Zif op n e t b c m d w
 ·exact Zie op n e t b c m d w
 ·exact Zid op n e t b c m d w
 ·exact Zic op n e t b c m d w
theorem Xb (op n locals size:Int) (t:ByteArray) (b:Bool) (c m d:ByteArray) (w:World):Calls Tryz.prog 192 #[.agg #[.int .i64 op,.int .i64 n,.string t,.bool b,.string c,.string m,.string d],.int .i64 locals,.int .i64 size] w fun e w'=>e=.returned (.bool (fmB (opdI op) n locals size))∧Bw w w':=by
 rcases X8 op with e|e|e|e|e|e|e|e|e|e
 ·exact Zbj op n locals size e t b c m d w
 ·exact Zfa op n locals size e t b c m d w
 ·exact Ze9 op n locals size e t b c m d w
 ·exact Ze8 op n locals size e t b c m d w
 ·exact Ze7 op n locals size e t b c m d w
 ·exact Ze6 op n locals size e t b c m d w
 ·exact Ze5 op n locals size e t b c m d w
 ·exact Ze4 op n locals size e t b c m d w
 ·exact Ze3 op n locals size e t b c m d w
 ·exact Ze2 op n locals size e t b c m d w
theorem eq_str (d:Nat) (a b:ByteArray) (w:World):(Op.equalIn (d+1) 9 (.string a) (.string b)).run Tryz.prog w=.ok (a == b) w:=by
 simp [Op.equalIn,run_underlying Tryz.underlying9,go_sem]
theorem eq_int (d:Nat) (a b:Int) (w:World):(Op.equalIn (d+1) 3 (.int .i64 a) (.int .i64 b)).run Tryz.prog w=.ok (a == b) w:=by
 simp [Op.equalIn,run_underlying Tryz.underlying3,go_sem]
theorem eq_bool (d:Nat) (a b:Bool) (w:World):(Op.equalIn (d+1) 4 (.bool a) (.bool b)).run Tryz.prog w=.ok (a == b) w:=by
 simp [Op.equalIn,run_underlying Tryz.underlying4,go_sem]
theorem str_eq (a b:ByteArray):(a == b)=(a.toList == b.toList):=by
 obtain ⟨a⟩:=a
 obtain ⟨b⟩:=b
 have h:((⟨a⟩:ByteArray) == ⟨b⟩)=(a == b):=rfl
 rw [Lib.toList_data,Lib.toList_data,h,Bool.eq_iff_iff,beq_iff_eq,beq_iff_eq]
 exact ⟨fun h=>by rw [h],fun h=>Array.toList_inj.1 h⟩
theorem eq_ref (d:Nat) (b1:Bool) (c1 n1 d1:ByteArray) (b2:Bool) (c2 n2 d2:ByteArray) (w:World):(Op.equalIn (d+1+1) 74 (.agg #[.bool b1,.string c1,.string n1,.string d1]) (.agg #[.bool b2,.string c2,.string n2,.string d2])).run Tryz.prog w=.ok (Y6 b1 c1 n1 d1 b2 c2 n2 d2) w:=by
 rw [Op.equalIn]
 simp [run_underlying Tryz.underlying74,go_sem,part,eq_str,eq_bool]
 unfold Y6
 rw [← str_eq,← str_eq,← str_eq]
 generalize (c1 == c2)=x
 generalize (n1 == n2)=y
 generalize (d1 == d2)=z
 cases b1 <;> cases b2 <;> cases x <;> cases y <;> cases z <;> rfl
theorem eq_ins (a b:Ins) (w:World):(Op.equal 76 (insV a) (insV b)).run Tryz.prog w=.ok (Zd1 a b) w:=by
 have h:(Op.equalIn (9997+1+1+1) 76 (insV a) (insV b)).run Tryz.prog w=.ok (Zd1 a b) w:=by
  rw [Op.equalIn]
  simp [run_underlying Tryz.underlying76,go_sem,part,eq_str,eq_int,eq_ref,insV,insC]
  unfold Zd1
  rw [← str_eq]
  generalize Y6 a.b a.c a.m a.d b.b b.c b.m b.d=x
  generalize (a.t == b.t)=y
  by_cases h1:a.op=b.op <;> by_cases h2:a.n=b.n <;> cases x <;> cases y <;> simp [h1,h2]
 exact h
theorem Zhk (x:ByteArray):(x.toList == (⟨#[]⟩:ByteArray).toList)=x.toList.isEmpty:=by
 have:(⟨#[]⟩:ByteArray).toList=[]:=by rw [Lib.toList_data]
 rw [this]
 cases x.toList <;> rfl
theorem r_none (b:Bool) (c m d:ByteArray):Y6 b c m d false ⟨#[]⟩ ⟨#[]⟩ ⟨#[]⟩=Z3 b c m d:=by
 unfold Y6 Z3
 rw [Zhk,Zhk,Zhk]
 cases b <;> rfl
theorem r_self (b:Bool) (c m d:ByteArray):Y6 b c m d b c m d=true:=by
 unfold Y6;simp
theorem ick_own (i:Ins):ickI i=if Zd1 i (ownI i)&&fitB (opdI i.op) i.n i.t.data.toList (rckB i.c.data.toList i.m.data.toList i.d.data.toList) then 0 else 1:=by
 unfold ickI ickE
 congr 2
 unfold insB fitB ownI Zd1 inB
 generalize rckB i.c.data.toList i.m.data.toList i.d.data.toList=r
 rcases X8 i.op with e|e|e|e|e|e|e|e|e|e
 all_goals simp only [e,Int.reduceEq,Int.reduceNeg,reduceIte,or_false,or_true,Zhk,r_none,r_self,beq_self_eq_true,Bool.true_and,Bool.and_true,Bool.and_false]
 all_goals generalize Z3 i.b i.c i.m i.d=z
 all_goals generalize i.t.toList.isEmpty=te
 ·generalize (i.n == 0)=x
  cases x <;> cases z <;> cases te <;> rfl
 ·cases z <;> cases te <;> simp
 ·have:decide (i.n<40)=decide (i.n≤39):=by rw [decide_eq_decide];omega
  rw [this];cases z <;> cases te <;> simp
 ·have:decide (i.n<200)=decide (i.n≤199):=by rw [decide_eq_decide];omega
  rw [this];cases z <;> cases te <;> simp
 ·generalize (i.n == 0)=x
  cases x <;> cases z <;> simp
 ·generalize (i.n == 0)=x
  cases x <;> cases z <;> simp
 ·generalize (i.n == 0)=x
  cases x <;> cases z <;> simp
 ·cases z <;> simp [Bool.and_assoc]
theorem Zk3 (op n:Int) (t:ByteArray) (b:Bool) (c m d:ByteArray) (ht:t.size≤maxLen) (hc:c.size≤maxLen) (hm:m.size≤maxLen) (hd:d.size≤maxLen) (w:World):Calls Tryz.prog 191 #[.agg #[.int .i64 op,.int .i64 n,.string t,.bool b,.string c,.string m,.string d]] w fun e w'=>e=.returned (.int .i64 (ickE op n t b c m d))∧Bw w w':=by
 have HR:Hid (ickE op n t b c m d=if Zd1 ⟨op,n,t,b,c,m,d⟩ (ownI ⟨op,n,t,b,c,m,d⟩)&&fitB (opdI op) n t.data.toList (rckB c.data.toList m.data.toList d.data.toList) then 0 else 1):=ick_own ⟨op,n,t,b,c,m,d⟩
 have HQ:∀ w,(Op.equal 76 (.agg #[.int .i64 op,.int .i64 n,.string t,.bool b,.string c,.string m,.string d]) (insV (ownI ⟨op,n,t,b,c,m,d⟩))).run Tryz.prog w=.ok (Zd1 ⟨op,n,t,b,c,m,d⟩ (ownI ⟨op,n,t,b,c,m,d⟩)) w:=eq_ins ⟨op,n,t,b,c,m,d⟩ _
 obtain ⟨BX,hBX⟩:∃ BX,BX=w.alloc (.cells #[.int .i64 op,.int .i64 n,.string t,.bool b,.string c,.string m,.string d] 76):=⟨_,rfl⟩
 have HP:Hid (∀ w',Hid (Below (w.heap.size+1) BX w')→Calls Tryz.prog 201 #[.agg #[.int .i64 op,.int .i64 n,.string t,.bool b,.string c,.string m,.string d]] w' fun e w''=>e=.returned (insV (ownI ⟨op,n,t,b,c,m,d⟩))∧Hid (Below (w.heap.size+1) BX w'')) :=
  fun w' h=>(Zef op n t b c m d w').mono fun e w'' ⟨he,hb⟩=>⟨he,h.out.trans (hb.mono (by have:=h.out.size;rw [hBX] at this;simpa using this))⟩
 have HF:Hid (∀ w',Hid (Below (w.heap.size+1) BX w')→Calls Tryz.prog 202 #[.agg #[.int .i64 op,.int .i64 n,.string t,.bool b,.string c,.string m,.string d]] w' fun e w''=>e=.returned (.bool (fitB (opdI op) n t.data.toList (rckB c.data.toList m.data.toList d.data.toList)))∧Hid (Below (w.heap.size+1) BX w'')) :=
  fun w' h=>(Zbi op n t b c m d ht hc hm hd w').mono fun e w'' ⟨he,hb⟩=>⟨he,h.out.trans (hb.mono (by have:=h.out.size;rw [hBX] at this;simpa using this))⟩
 obtain ⟨σ,V,V1,V2⟩:∃ (σ:Type) (V:σ→World),Hid (∀ s,Hid (Below (w.heap.size+1) BX (V s)))∧Hid (∀ w',Hid (Below (w.heap.size+1) BX w')→∃ s,w'=V s) :=
  ⟨{w' // Hid (Below (w.heap.size+1) BX w')},Subtype.val,fun s=>s.2,fun w q=>⟨⟨w,q⟩,rfl⟩⟩
 have T0:Hid (Below (w.heap.size+1) BX BX.drew):=(Below.refl _ _).drew
 have hne:Nonempty σ:=(V2.out _ T0).elim fun s _=>⟨s⟩
 subst hBX
 have q0:∀ s,(V s).cell? ⟨w.heap.size,0,none⟩=some (.int .i64 op):=fun s=>((V1.out s).out.cell (p:=⟨w.heap.size,0,none⟩) (by simp)).trans (by simp [go_sem])
 have q1:∀ s,(V s).cell? ⟨w.heap.size,1,none⟩=some (.int .i64 n):=fun s=>((V1.out s).out.cell (p:=⟨w.heap.size,1,none⟩) (by simp)).trans (by simp [go_sem])
 have q2:∀ s,(V s).cell? ⟨w.heap.size,2,none⟩=some (.string t):=fun s=>((V1.out s).out.cell (p:=⟨w.heap.size,2,none⟩) (by simp)).trans (by simp [go_sem])
 have q3:∀ s,(V s).cell? ⟨w.heap.size,3,none⟩=some (.bool b):=fun s=>((V1.out s).out.cell (p:=⟨w.heap.size,3,none⟩) (by simp)).trans (by simp [go_sem])
 have q4:∀ s,(V s).cell? ⟨w.heap.size,4,none⟩=some (.string c):=fun s=>((V1.out s).out.cell (p:=⟨w.heap.size,4,none⟩) (by simp)).trans (by simp [go_sem])
 have q5:∀ s,(V s).cell? ⟨w.heap.size,5,none⟩=some (.string m):=fun s=>((V1.out s).out.cell (p:=⟨w.heap.size,5,none⟩) (by simp)).trans (by simp [go_sem])
 have q6:∀ s,(V s).cell? ⟨w.heap.size,6,none⟩=some (.string d):=fun s=>((V1.out s).out.cell (p:=⟨w.heap.size,6,none⟩) (by simp)).trans (by simp [go_sem])
 have HB:Hid (∀ s,Bw w (V s)):=fun s=>((Below.refl w.heap.size w).alloc (Nat.le_refl _) _).trans ((V1.out s).out.mono (by omega))
 generalize ickE op n t b c m d=z at *
 generalize fitB (opdI op) n t.data.toList (rckB c.data.toList m.data.toList d.data.toList)=fb at *
 generalize hgo:Zd1 ⟨op,n,t,b,c,m,d⟩ (ownI ⟨op,n,t,b,c,m,d⟩)=sb at *
 clear hgo
 generalize hO:insV (ownI ⟨op,n,t,b,c,m,d⟩)=O at *
 obtain ⟨cs,rfl⟩:∃ cs,O=.agg cs:=⟨_,hO.symm⟩
 have G1:∀ w,(eqGuard .neq 76 (.tmp 3) (.tmp 5) (.agg #[.int .i64 op,.int .i64 n,.string t,.bool b,.string c,.string m,.string d]) (.agg cs)).run Tryz.prog w=.ok () w:=fun w=>by
  simp [eqGuard,go_sem]
 have G2:∀ w,(binOp .neq 76 (.agg #[.int .i64 op,.int .i64 n,.string t,.bool b,.string c,.string m,.string d]) (.agg cs)).run Tryz.prog w=.ok (.bool (!sb)) w:=fun w=>by
  simp [binOp,HQ,go_sem]
 clear hO ht hc hm hd HQ
 cases sb <;> cases fb
 all_goals go_enter Tryz.func191,Tryz.ntmps191
 all_goals go_wp2
 all_goals refine Zc (C:=fun w'=>∃ s,w'=V s) (by kernel_rfl) (by kernel_rfl) (V2.out _ T0) ?_
 all_goals repeat (go_big_quiet_step (first
  | (go_at_call 201;exact (HP.out _ (V1.out _)).mono fun e w'' z=>⟨z.1,V2.out _ z.2⟩)
  | (go_at_call 202;exact (HF.out _ (V1.out _)).mono fun e w'' z=>⟨z.1,V2.out _ z.2⟩)))
 all_goals refine wpQuiet_nil ?_
 all_goals intro w9 hw9
 all_goals obtain ⟨s9,rfl⟩:=hw9
 all_goals go_wp2
 all_goals
  go_ret
  exact ⟨Ze (by rw [HR.out];rfl),HB.out _⟩
theorem bad_own (locals len:Int) (i:Ins):badI locals len i=((ickI i != 0)||!fmB (opdI i.op) i.n locals len):=by
 unfold badI fmB
 by_cases h2:opdI i.op=2
 ·rw [h2]
  have:decide (locals≤i.n)=!decide (i.n<locals):=by rw [Bool.eq_iff_iff];simp
  simp [this]
 ·by_cases h3:opdI i.op=3
  ·rw [h3]
   have:decide (len≤i.n)=!decide (i.n<len):=by rw [Bool.eq_iff_iff];simp
   simp [this]
  ·have e2:(opdI i.op == 2)=false:=by simpa using h2
   have e3:(opdI i.op == 3)=false:=by simpa using h3
   simp [h2,h3,e2,e3]
theorem Zfe (v:Value) (l:List Ins) (locals:Int) (W:World) (h:IsInss W v l) (hok:∀ i∈l,Zgm i):Calls Tryz.prog 178 #[v,.int .i64 locals] W fun e w'=>e=.returned (.int .i64 (allE l locals))∧Bw W w':=by
 obtain ⟨ao,cap,rfl,h1,h2,h3⟩:=h
 obtain ⟨N,hN⟩:∃ N,l.length=N:=⟨_,rfl⟩
 unfold maxLen at h2
 have HE:Hid (allE l locals=if N<1∨200<N then 1 else if l.any (badI locals N) then 1 else 0):=by rw [Hid,allE,hN]
 rw [hN] at h1 ⊢
 have HN1:Hid (l.length=N):=hN
 have HA:Hid _:=h3
 have HOK:Hid _:=hok
 clear hN h3 hok
 by_cases hlen:N<1∨200<N
 ·have HZ:Hid (allE l locals=1):=by rw [Hid,HE.out,if_pos hlen]
  clear HE HA HOK HN1
  rcases hlen with hlen|hlen
  ·have hlen2:((N:Int) == 0)=true:=by rw [beq_iff_eq];omega
   go_enter Tryz.func178,Tryz.ntmps178
   go_wp2
   go_ret
   exact ⟨Ze HZ.out.symm,Below.refl _ _⟩
  ·have hlen2:((N:Int) == 0)=false:=by rw [beq_eq_false_iff_ne];omega
   have hlen3:(200:Int)<N:=by omega
   go_enter Tryz.func178,Tryz.ntmps178
   go_wp2
   go_ret
   exact ⟨Ze HZ.out.symm,Below.refl _ _⟩
 ·have hlo:1≤N:=by omega
  have hhi:N≤200:=by omega
  have HE2:Hid (allE l locals=if l.any (badI locals N) then 1 else 0):=by rw [Hid,HE.out,if_neg hlen]
  have hlen2:((N:Int) == 0)=false:=by rw [beq_eq_false_iff_ne];omega
  have hlen3:¬ (200:Int)<N:=by omega
  clear HE hlen
  go_enter Tryz.func178,Tryz.ntmps178
  go_wp2
  go_loopw [17] (fun iv wr=>∃ i:Nat,iv=.int .i64 i∧i≤N∧Hid (Bw W wr)∧Hid ((l.drop i).any (badI locals N)=l.any (badI locals N))) (fun iv _=>N - (intOf iv).toNat)
  case atStart=>exact ⟨0,rfl,Nat.zero_le _,Below.refl _ _,rfl⟩
  case round =>
   obtain ⟨i,rfl,hi,hb,hs⟩:=hrel
   by_cases hlt:i<N
   ·obtain ⟨bk,o,hao,hbk,hc⟩:=HA.out (by intro e;have:=HN1.out;rw [e] at this;simp at this;omega)
    obtain ⟨x,hx⟩:∃ x,l[i]?=some x:=⟨_,List.getElem?_eq_getElem (by rw [HN1.out];exact hlt)⟩
    subst hao
    have hst:=any_at (p:=badI locals N) i x hx
    rw [hs.out] at hst
    have hcx:=hc i x hx
    obtain ⟨k1,k2,k3,k4⟩:=HOK.out x (List.mem_of_getElem? hx)
    have HC:=Zk3 x.op x.n x.t x.b x.c x.m x.d k1 k2 k3 k4
    have HF:=Xb x.op x.n locals N x.t x.b x.c x.m x.d
    have hbad:badI locals N x=((ickE x.op x.n x.t x.b x.c x.m x.d != 0)||!fmB (opdI x.op) x.n locals N):=bad_own locals N x
    have h01:=ick_01 x.op x.n x.t x.b x.c x.m x.d
    obtain ⟨xo,xn,xt,xb,xc,xm,xd⟩:=x
    simp only at HC HF hbad h01
    generalize ickE xo xn xt xb xc xm xd=ck at *
    generalize badI locals N _=bad at *
    generalize fmB (opdI xo) xn locals N=fb at *
    obtain ⟨p0,p1,p2,p3,p4,p5,p6⟩:=hcx.keep hb.out hbk
    simp only at p0 p1 p2 p3 p4 p5 p6
    have hbk2:bk<wr.heap.size:=Nat.lt_of_lt_of_le hbk hb.out.size
    have HC:Hid (∀ w,_):=HC
    have HF:Hid (∀ w,_):=HF
    clear hc hcx HA HOK hx k1 k2 k3 k4 hs
    rcases h01 with rfl|rfl
    ·have g0:((0:Int) != 0)=false:=rfl
     cases fb with
     | false =>
       have HG:Hid (allE l locals=1):=by rw [Hid,HE2.out,hst,show bad=true by rw [hbad];simp];rfl
       clear hst hbad HE2
       go_wp2_with (first
        | (go_at_call 191;refine (HC.out _).mono ?_;rintro e w1 ⟨rfl,hb1⟩;have hs1:wr.heap.size<w1.heap.size:=sqS hb1;obtain ⟨c0,c1,c2,c3,c4,c5⟩:=sqX hb1 wr.heap.size (.int .i64 xo) (.int .i64 xn) (.string xt) (.bool xb) (.string xc) (.string xm);have c6:=sqA hb1 wr.heap.size 6 (.string xd);have hB1:Hid (Bw W w1):=Below.step (hb.out.alloc hb.out.size _) hb1;clear hb1 HC)
        | (go_at_call 192;refine (HF.out _).mono ?_;rintro e w2 ⟨rfl,hb2⟩;have hB2:Hid (Bw W w2):=hB1.out.trans (hb2.mono hB1.out.size);clear hb2 HF))
       go_ret
       exact ⟨Ze HG.out.symm,hB2.out⟩
     | true =>
       have HG:Hid ((l.drop (i+1)).any (badI locals N)=l.any (badI locals N)):=by rw [Hid,hst,show bad=false by rw [hbad];simp];simp
       clear hst hbad HE2
       go_wp2_with (first
        | (go_at_call 191;refine (HC.out _).mono ?_;rintro e w1 ⟨rfl,hb1⟩;have hs1:wr.heap.size<w1.heap.size:=sqS hb1;obtain ⟨c0,c1,c2,c3,c4,c5⟩:=sqX hb1 wr.heap.size (.int .i64 xo) (.int .i64 xn) (.string xt) (.bool xb) (.string xc) (.string xm);have c6:=sqA hb1 wr.heap.size 6 (.string xd);have hB1:Hid (Bw W w1):=Below.step (hb.out.alloc hb.out.size _) hb1;clear hb1 HC)
        | (go_at_call 192;refine (HF.out _).mono ?_;rintro e w2 ⟨rfl,hb2⟩;have hB2:Hid (Bw W w2):=hB1.out.trans (hb2.mono hB1.out.size);clear hb2 HF))
       go_roundw
       case rel=>exact ⟨i+1,by go_num,by omega,hB2,HG⟩
       case measure=>simp [intOf];omega
    ·have g0:((1:Int) != 0)=true:=rfl
     have HG:Hid (allE l locals=1):=by rw [Hid,HE2.out,hst,show bad=true by rw [hbad];simp];rfl
     clear hst hbad HE2
     go_wp2_with (first
      | (go_at_call 191;refine (HC.out _).mono ?_;rintro e w1 ⟨rfl,hb1⟩;have hs1:wr.heap.size<w1.heap.size:=sqS hb1;obtain ⟨c0,c1,c2,c3,c4,c5⟩:=sqX hb1 wr.heap.size (.int .i64 xo) (.int .i64 xn) (.string xt) (.bool xb) (.string xc) (.string xm);have c6:=sqA hb1 wr.heap.size 6 (.string xd);have hB1:Hid (Bw W w1):=Below.step (hb.out.alloc hb.out.size _) hb1;clear hb1 HC)
      | (go_at_call 192;refine (HF.out _).mono ?_;rintro e w2 ⟨rfl,hb2⟩;have hB2:Hid (Bw W w2):=hB1.out.trans (hb2.mono hB1.out.size);clear hb2 HF))
     go_ret
     exact ⟨Ze HG.out.symm,hB1.out⟩
   ·have HG:Hid (allE l locals=0):=by
     rw [Hid,HE2.out,← hs.out,List.drop_of_length_le (by rw [HN1.out];omega)];rfl
    clear HA HOK hs HE2
    go_wp2
    go_ret
    exact ⟨Ze HG.out.symm,hb.out⟩
end Go.Proofs.YtlnojhhddinjkaaGreat
