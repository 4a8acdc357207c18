import Derived.Test.YtmafkabjjibcbaaGreatAcE
set_option maxHeartbeats 4000000
set_option maxRecDepth 100000
namespace Go.Proofs.YtmafkabjjibcbaaGreat
open Go.RowKit Go.Maps
def stB (f:Int):Bool:=bits .and .i64 f 8 != 0
def freB (f:Int) (n:ByteArray):Bool:=!stB f&&!(n.toList == [60,105,110,105,116,62])
theorem Zc9 (b:Nat) (xn xd:ByteArray) (xf xl xs:Int) (xa:Option Addr) (xk xo:Nat) (xc xi:Int) (W:World):Calls Tryz.prog 178 #[.agg #[.string xn,.string xd,.int .i64 xf,.int .i64 xl,.int .i64 xs,.slice xa xk xo,.int .i64 xc,.int .i64 xi,.pointer (some ⟨b,0,none⟩)]] W fun e w'=>e=.returned (.bool (stB xf))∧Bw W w':=by
 go_enter Tryz.func178,Tryz.ntmps178
 go_wp2
 go_ret
 exact ⟨retB (by simp [stB]),sqR⟩
theorem Zh7 (b:Nat) (xn xd:ByteArray) (xf xl xs:Int) (xa:Option Addr) (xk xo:Nat) (xc xi:Int) (W:World):Calls Tryz.prog 232 #[.agg #[.string xn,.string xd,.int .i64 xf,.int .i64 xl,.int .i64 xs,.slice xa xk xo,.int .i64 xc,.int .i64 xi,.pointer (some ⟨b,0,none⟩)]] W fun e w'=>e=.returned (.bool (freB xf xn))∧Bw W w':=by
 have HS:Hid (∀ w:World,Calls Tryz.prog 178 #[.agg #[.string xn,.string xd,.int .i64 xf,.int .i64 xl,.int .i64 xs,.slice xa xk xo,.int .i64 xc,.int .i64 xi,.pointer (some ⟨b,0,none⟩)]] w fun e w'=>e=.returned (.bool (stB xf))∧Bw w w'):=fun w=>Zc9 b xn xd xf xl xs xa xk xo xc xi w
 unfold freB
 generalize stB xf=S at *
 cases S
 all_goals
  have BB:Hid (Bw W W):=Below.refl _ _
  go_enter Tryz.func232,Tryz.ntmps232
  go_wp2_with (first
   | (go_at_call 178;refine (HS.out _).mono ?_;rintro e w1 ⟨rfl,hb⟩;have qd:w1.heap[W.heap.size]?=some (.cells #[.string xn,.string xd,.int .i64 xf,.int .i64 xl,.int .i64 xs,.slice xa xk xo,.int .i64 xc,.int .i64 xi,.pointer (some ⟨b,0,none⟩)] 171 (0,0)):=(hb.block (W.heap.size) (by first|omega|(simp;try omega))).trans (by first|exact qB.out|exact Zg qB.out|exact Zg (Zg qB.out)|exact Za _ _ rfl|exact heap_alloc2_old _ _ _|exact heap_alloc2_new _ _ _|exact Zg (Za _ _ rfl)|exact Zg (Zg (Za _ _ rfl))|exact Za _ _ (by simp;done));(try clear qB qL qN q0 q1 q2 q3 q4 q5 q6 q7 q8 qf0 qf1 qf2 qf3 qf4 qf5 qf6 qf7 qf8);have qB:Hid (w1.heap[W.heap.size]?=some (.cells #[.string xn,.string xd,.int .i64 xf,.int .i64 xl,.int .i64 xs,.slice xa xk xo,.int .i64 xc,.int .i64 xi,.pointer (some ⟨b,0,none⟩)] 171 (0,0))):=qd;have q0:w1.cell? ⟨W.heap.size,0,none⟩=some (.string xn):=(cell_of_row w1 (W.heap.size) 0 _ _ _ qd).trans rfl;have qf0:=frozen_of_row w1 (W.heap.size) 0 _ _ qd;have q1:w1.cell? ⟨W.heap.size,1,none⟩=some (.string xd):=(cell_of_row w1 (W.heap.size) 1 _ _ _ qd).trans rfl;have qf1:=frozen_of_row w1 (W.heap.size) 1 _ _ qd;have q2:w1.cell? ⟨W.heap.size,2,none⟩=some (.int .i64 xf):=(cell_of_row w1 (W.heap.size) 2 _ _ _ qd).trans rfl;have qf2:=frozen_of_row w1 (W.heap.size) 2 _ _ qd;have q3:w1.cell? ⟨W.heap.size,3,none⟩=some (.int .i64 xl):=(cell_of_row w1 (W.heap.size) 3 _ _ _ qd).trans rfl;have qf3:=frozen_of_row w1 (W.heap.size) 3 _ _ qd;have q4:w1.cell? ⟨W.heap.size,4,none⟩=some (.int .i64 xs):=(cell_of_row w1 (W.heap.size) 4 _ _ _ qd).trans rfl;have qf4:=frozen_of_row w1 (W.heap.size) 4 _ _ qd;have q5:w1.cell? ⟨W.heap.size,5,none⟩=some (.slice xa xk xo):=(cell_of_row w1 (W.heap.size) 5 _ _ _ qd).trans rfl;have qf5:=frozen_of_row w1 (W.heap.size) 5 _ _ qd;have q6:w1.cell? ⟨W.heap.size,6,none⟩=some (.int .i64 xc):=(cell_of_row w1 (W.heap.size) 6 _ _ _ qd).trans rfl;have qf6:=frozen_of_row w1 (W.heap.size) 6 _ _ qd;have q7:w1.cell? ⟨W.heap.size,7,none⟩=some (.int .i64 xi):=(cell_of_row w1 (W.heap.size) 7 _ _ _ qd).trans rfl;have qf7:=frozen_of_row w1 (W.heap.size) 7 _ _ qd;have q8:w1.cell? ⟨W.heap.size,8,none⟩=some (.pointer (some ⟨b,0,none⟩)):=(cell_of_row w1 (W.heap.size) 8 _ _ _ qd).trans rfl;have qf8:=frozen_of_row w1 (W.heap.size) 8 _ _ qd;have qL:W.heap.size<w1.heap.size:=(Array.getElem?_eq_some_iff.1 qd).1;have qN:¬ W.heap.size=w1.heap.size:=(by omega);clear qd;have BB2:Bw W w1:=Zb sqR hb;clear BB;have BB:Hid (Bw W w1):=BB2;clear BB2 hb;clear HS))
  all_goals go_ret
  all_goals exact ⟨retB (by simp [*]),(by repeat (first|exact BB.out|exact Below.refl _ _|refine Below.setCell ?_ (by simp;try omega) _|refine Below.alloc ?_ (by have:=BB.out.size;simp;try omega) _|refine Below.drew ?_))⟩
theorem is_c (b:Nat) (xn xd:ByteArray) (xf xl xs:Int) (xa:Option Addr) (xk xo:Nat) (xc xi:Int) (yn yd:ByteArray) (yf yl ys:Int) (ya:Option Addr) (yk yo:Nat) (yc yi:Int) (W:World):Calls Tryz.prog 177 #[.agg #[.string xn,.string xd,.int .i64 xf,.int .i64 xl,.int .i64 xs,.slice xa xk xo,.int .i64 xc,.int .i64 xi,.pointer (some ⟨b,0,none⟩)],.agg #[.string yn,.string yd,.int .i64 yf,.int .i64 yl,.int .i64 ys,.slice ya yk yo,.int .i64 yc,.int .i64 yi,.pointer (some ⟨b,0,none⟩)]] W fun e w'=>e=.returned (.bool ((xc == yc)&&(xi == yi)))∧Bw W w':=by
 go_enter Tryz.func177,Tryz.ntmps177
 go_wp2
 all_goals go_ret
 all_goals exact ⟨retB (by simp [*]),sqR⟩
def bloB (ps:List Plc) (c a:Int):Bool:=!(c == a)&&!ifcI ps c&&extI ps c a
theorem Zlg {b:Nat} {ps:List Plc} {W:World} (h:WAt b ps W) (hi:WI ps) (xn xd:ByteArray) (xf xl xs:Int) (xa:Option Addr) (xk xo:Nat) (xc xi:Int) (yn yd:ByteArray) (yf yl ys:Int) (ya:Option Addr) (yk yo:Nat) (yc yi:Int):Calls Tryz.prog 233 #[.agg #[.string xn,.string xd,.int .i64 xf,.int .i64 xl,.int .i64 xs,.slice xa xk xo,.int .i64 xc,.int .i64 xi,.pointer (some ⟨b,0,none⟩)],.agg #[.string yn,.string yd,.int .i64 yf,.int .i64 yl,.int .i64 ys,.slice ya yk yo,.int .i64 yc,.int .i64 yi,.pointer (some ⟨b,0,none⟩)]] W fun e w'=>e=.returned (.bool (bloB ps xc yc))∧Bw W w':=by
 have HI:Hid (∀ w,Bw W w→Calls Tryz.prog 116 #[.pointer (some ⟨b,0,none⟩),.int .i64 xc] w fun e w'=>e=.returned (.bool (ifcI ps xc))∧Bw w w'):=fun w hb=>Qm (h.below hb) xc
 have HE:Hid (∀ w,Bw W w→Calls Tryz.prog 132 #[.pointer (some ⟨b,0,none⟩),.int .i64 xc,.int .i64 yc] w fun e w'=>e=.returned (.bool (extI ps xc yc))∧Bw w w'):=fun w hb=>Zgl (h.below hb) hi xc yc
 unfold bloB
 generalize ifcI ps xc=I at *
 generalize extI ps xc yc=E at *
 clear h hi
 cases hz:(xc == yc)
 all_goals cases I
 all_goals
  have BB:Hid (Bw W W):=Below.refl _ _
  go_enter Tryz.func233,Tryz.ntmps233
  go_wp2
  go_region
  go_wp2_with (first
   | (go_at_call 116;refine (HI.out _ sqR).mono ?_;rintro e w1 ⟨rfl,hb⟩;have qd:w1.heap[W.heap.size]?=some (.cells #[.string xn,.string xd,.int .i64 xf,.int .i64 xl,.int .i64 xs,.slice xa xk xo,.int .i64 xc,.int .i64 xi,.pointer (some ⟨b,0,none⟩)] 171 (0,0)):=(hb.block (W.heap.size) (by first|omega|(simp;try omega))).trans (by first|exact qB.out|exact Zg qB.out|exact Zg (Zg qB.out)|exact Za _ _ rfl|exact heap_alloc2_old _ _ _|exact heap_alloc2_new _ _ _|exact Zg (Za _ _ rfl)|exact Zg (Zg (Za _ _ rfl))|exact Za _ _ (by simp;done));(try clear qB qL qN q0 q1 q2 q3 q4 q5 q6 q7 q8 qf0 qf1 qf2 qf3 qf4 qf5 qf6 qf7 qf8);have qB:Hid (w1.heap[W.heap.size]?=some (.cells #[.string xn,.string xd,.int .i64 xf,.int .i64 xl,.int .i64 xs,.slice xa xk xo,.int .i64 xc,.int .i64 xi,.pointer (some ⟨b,0,none⟩)] 171 (0,0))):=qd;have q0:w1.cell? ⟨W.heap.size,0,none⟩=some (.string xn):=(cell_of_row w1 (W.heap.size) 0 _ _ _ qd).trans rfl;have qf0:=frozen_of_row w1 (W.heap.size) 0 _ _ qd;have q1:w1.cell? ⟨W.heap.size,1,none⟩=some (.string xd):=(cell_of_row w1 (W.heap.size) 1 _ _ _ qd).trans rfl;have qf1:=frozen_of_row w1 (W.heap.size) 1 _ _ qd;have q2:w1.cell? ⟨W.heap.size,2,none⟩=some (.int .i64 xf):=(cell_of_row w1 (W.heap.size) 2 _ _ _ qd).trans rfl;have qf2:=frozen_of_row w1 (W.heap.size) 2 _ _ qd;have q3:w1.cell? ⟨W.heap.size,3,none⟩=some (.int .i64 xl):=(cell_of_row w1 (W.heap.size) 3 _ _ _ qd).trans rfl;have qf3:=frozen_of_row w1 (W.heap.size) 3 _ _ qd;have q4:w1.cell? ⟨W.heap.size,4,none⟩=some (.int .i64 xs):=(cell_of_row w1 (W.heap.size) 4 _ _ _ qd).trans rfl;have qf4:=frozen_of_row w1 (W.heap.size) 4 _ _ qd;have q5:w1.cell? ⟨W.heap.size,5,none⟩=some (.slice xa xk xo):=(cell_of_row w1 (W.heap.size) 5 _ _ _ qd).trans rfl;have qf5:=frozen_of_row w1 (W.heap.size) 5 _ _ qd;have q6:w1.cell? ⟨W.heap.size,6,none⟩=some (.int .i64 xc):=(cell_of_row w1 (W.heap.size) 6 _ _ _ qd).trans rfl;have qf6:=frozen_of_row w1 (W.heap.size) 6 _ _ qd;have q7:w1.cell? ⟨W.heap.size,7,none⟩=some (.int .i64 xi):=(cell_of_row w1 (W.heap.size) 7 _ _ _ qd).trans rfl;have qf7:=frozen_of_row w1 (W.heap.size) 7 _ _ qd;have q8:w1.cell? ⟨W.heap.size,8,none⟩=some (.pointer (some ⟨b,0,none⟩)):=(cell_of_row w1 (W.heap.size) 8 _ _ _ qd).trans rfl;have qf8:=frozen_of_row w1 (W.heap.size) 8 _ _ qd;have qL:W.heap.size<w1.heap.size:=(Array.getElem?_eq_some_iff.1 qd).1;have qN:¬ W.heap.size=w1.heap.size:=(by omega);clear qd;have BB2:Bw W w1:=Zb sqR hb;clear BB;have BB:Hid (Bw W w1):=BB2;clear BB2 hb;clear HI)
   | (go_at_call 132;refine (HE.out _ BB.out).mono ?_;rintro e w2 ⟨rfl,hb⟩;have BB2:Bw W w2:=Zb BB.out hb;clear BB;have BB:Hid (Bw W w2):=BB2;clear BB2 hb;clear HE))
  all_goals go_ret
  all_goals first
   | (exfalso;rename_i hq;rw [hq] at hz;simp at hz;done)
   | (exfalso;rename_i hq;exact hq (by simpa using hz))
   | exact ⟨retB (by simp [*]),(by repeat (first|exact BB.out|exact Below.refl _ _|refine Below.setCell ?_ (by simp;try omega) _|refine Below.alloc ?_ (by have:=BB.out.size;simp;try omega) _|refine Below.drew ?_))⟩
def reaB (ps:List Plc) (c a f:Int):Bool:=if Y6 f=2 then false else if ifcI ps a then true else if Y6 f=1 then true else if Y6 f=4 then true else spI ps c a
theorem Zkl {b:Nat} {ps:List Plc} {W:World} (h:WAt b ps W) (hi:WI ps) (xn xd:ByteArray) (xf xl xs:Int) (xa:Option Addr) (xk xo:Nat) (xc xi:Int) (yn yd:ByteArray) (yf yl ys:Int) (ya:Option Addr) (yk yo:Nat) (yc yi:Int):Calls Tryz.prog 235 #[.agg #[.string xn,.string xd,.int .i64 xf,.int .i64 xl,.int .i64 xs,.slice xa xk xo,.int .i64 xc,.int .i64 xi,.pointer (some ⟨b,0,none⟩)],.agg #[.string yn,.string yd,.int .i64 yf,.int .i64 yl,.int .i64 ys,.slice ya yk yo,.int .i64 yc,.int .i64 yi,.pointer (some ⟨b,0,none⟩)]] W fun e w'=>e=.returned (.bool (reaB ps xc yc yf))∧Bw W w':=by
 have HI:Hid (∀ w,Bw W w→Calls Tryz.prog 116 #[.pointer (some ⟨b,0,none⟩),.int .i64 yc] w fun e w'=>e=.returned (.bool (ifcI ps yc))∧Bw w w'):=fun w hb=>Qm (h.below hb) yc
 have HP:Hid (∀ w,Bw W w→Calls Tryz.prog 272 #[.pointer (some ⟨b,0,none⟩),.int .i64 xc,.int .i64 yc] w fun e w'=>e=.returned (.bool (spI ps xc yc))∧Bw w w'):=fun w hb=>samePk_c (h.below hb) hi.nm xc yc
 have HO:Hid (∀ w:World,Calls Tryz.prog 234 #[.int .i64 yf] w fun e w'=>e=.returned (.int .i64 (Y6 yf))∧w'=w):=fun w=>open_c yf w
 have ho:=Zc3 yf
 unfold reaB
 generalize ifcI ps yc=I at *
 generalize spI ps xc yc=E at *
 generalize Y6 yf=O at *
 clear h hi
 rcases ho with rfl|rfl|rfl|rfl
 all_goals cases I
 all_goals
  have BB:Hid (Bw W W):=Below.refl _ _
  go_enter Tryz.func235,Tryz.ntmps235
  go_wp2_with (first
   | (go_at_call 234;refine (HO.out _).mono ?_;rintro e w9 ⟨rfl,hw9⟩;rw [hw9];clear hw9 w9 HO)
   | (go_at_call 116;refine (HI.out _ sqR).mono ?_;rintro e w1 ⟨rfl,hb⟩;have qd:w1.heap[W.heap.size]?=some (.cells #[.string xn,.string xd,.int .i64 xf,.int .i64 xl,.int .i64 xs,.slice xa xk xo,.int .i64 xc,.int .i64 xi,.pointer (some ⟨b,0,none⟩)] 171 (0,0)):=(hb.block (W.heap.size) (by first|omega|(simp;try omega))).trans (by first|exact qB.out|exact Zg qB.out|exact Zg (Zg qB.out)|exact Za _ _ rfl|exact heap_alloc2_old _ _ _|exact heap_alloc2_new _ _ _|exact Zg (Za _ _ rfl)|exact Zg (Zg (Za _ _ rfl))|exact Za _ _ (by simp;done));(try clear qB qL qN q0 q1 q2 q3 q4 q5 q6 q7 q8 qf0 qf1 qf2 qf3 qf4 qf5 qf6 qf7 qf8);have qB:Hid (w1.heap[W.heap.size]?=some (.cells #[.string xn,.string xd,.int .i64 xf,.int .i64 xl,.int .i64 xs,.slice xa xk xo,.int .i64 xc,.int .i64 xi,.pointer (some ⟨b,0,none⟩)] 171 (0,0))):=qd;have q0:w1.cell? ⟨W.heap.size,0,none⟩=some (.string xn):=(cell_of_row w1 (W.heap.size) 0 _ _ _ qd).trans rfl;have qf0:=frozen_of_row w1 (W.heap.size) 0 _ _ qd;have q1:w1.cell? ⟨W.heap.size,1,none⟩=some (.string xd):=(cell_of_row w1 (W.heap.size) 1 _ _ _ qd).trans rfl;have qf1:=frozen_of_row w1 (W.heap.size) 1 _ _ qd;have q2:w1.cell? ⟨W.heap.size,2,none⟩=some (.int .i64 xf):=(cell_of_row w1 (W.heap.size) 2 _ _ _ qd).trans rfl;have qf2:=frozen_of_row w1 (W.heap.size) 2 _ _ qd;have q3:w1.cell? ⟨W.heap.size,3,none⟩=some (.int .i64 xl):=(cell_of_row w1 (W.heap.size) 3 _ _ _ qd).trans rfl;have qf3:=frozen_of_row w1 (W.heap.size) 3 _ _ qd;have q4:w1.cell? ⟨W.heap.size,4,none⟩=some (.int .i64 xs):=(cell_of_row w1 (W.heap.size) 4 _ _ _ qd).trans rfl;have qf4:=frozen_of_row w1 (W.heap.size) 4 _ _ qd;have q5:w1.cell? ⟨W.heap.size,5,none⟩=some (.slice xa xk xo):=(cell_of_row w1 (W.heap.size) 5 _ _ _ qd).trans rfl;have qf5:=frozen_of_row w1 (W.heap.size) 5 _ _ qd;have q6:w1.cell? ⟨W.heap.size,6,none⟩=some (.int .i64 xc):=(cell_of_row w1 (W.heap.size) 6 _ _ _ qd).trans rfl;have qf6:=frozen_of_row w1 (W.heap.size) 6 _ _ qd;have q7:w1.cell? ⟨W.heap.size,7,none⟩=some (.int .i64 xi):=(cell_of_row w1 (W.heap.size) 7 _ _ _ qd).trans rfl;have qf7:=frozen_of_row w1 (W.heap.size) 7 _ _ qd;have q8:w1.cell? ⟨W.heap.size,8,none⟩=some (.pointer (some ⟨b,0,none⟩)):=(cell_of_row w1 (W.heap.size) 8 _ _ _ qd).trans rfl;have qf8:=frozen_of_row w1 (W.heap.size) 8 _ _ qd;have qL:W.heap.size<w1.heap.size:=(Array.getElem?_eq_some_iff.1 qd).1;have qN:¬ W.heap.size=w1.heap.size:=(by omega);clear qd;have rd:w1.heap[W.heap.size+1]?=some (.cells #[.string yn,.string yd,.int .i64 yf,.int .i64 yl,.int .i64 ys,.slice ya yk yo,.int .i64 yc,.int .i64 yi,.pointer (some ⟨b,0,none⟩)] 171 (0,0)):=(hb.block (W.heap.size+1) (by first|omega|(simp;try omega))).trans (by first|exact rB.out|exact Zg rB.out|exact Zg (Zg rB.out)|exact Za _ _ rfl|exact heap_alloc2_old _ _ _|exact heap_alloc2_new _ _ _|exact Zg (Za _ _ rfl)|exact Zg (Zg (Za _ _ rfl))|exact Za _ _ (by simp;done));(try clear rB rL rN r0 r1 r2 r3 r4 r5 r6 r7 r8 rf0 rf1 rf2 rf3 rf4 rf5 rf6 rf7 rf8);have rB:Hid (w1.heap[W.heap.size+1]?=some (.cells #[.string yn,.string yd,.int .i64 yf,.int .i64 yl,.int .i64 ys,.slice ya yk yo,.int .i64 yc,.int .i64 yi,.pointer (some ⟨b,0,none⟩)] 171 (0,0))):=rd;have r0:w1.cell? ⟨W.heap.size+1,0,none⟩=some (.string yn):=(cell_of_row w1 (W.heap.size+1) 0 _ _ _ rd).trans rfl;have rf0:=frozen_of_row w1 (W.heap.size+1) 0 _ _ rd;have r1:w1.cell? ⟨W.heap.size+1,1,none⟩=some (.string yd):=(cell_of_row w1 (W.heap.size+1) 1 _ _ _ rd).trans rfl;have rf1:=frozen_of_row w1 (W.heap.size+1) 1 _ _ rd;have r2:w1.cell? ⟨W.heap.size+1,2,none⟩=some (.int .i64 yf):=(cell_of_row w1 (W.heap.size+1) 2 _ _ _ rd).trans rfl;have rf2:=frozen_of_row w1 (W.heap.size+1) 2 _ _ rd;have r3:w1.cell? ⟨W.heap.size+1,3,none⟩=some (.int .i64 yl):=(cell_of_row w1 (W.heap.size+1) 3 _ _ _ rd).trans rfl;have rf3:=frozen_of_row w1 (W.heap.size+1) 3 _ _ rd;have r4:w1.cell? ⟨W.heap.size+1,4,none⟩=some (.int .i64 ys):=(cell_of_row w1 (W.heap.size+1) 4 _ _ _ rd).trans rfl;have rf4:=frozen_of_row w1 (W.heap.size+1) 4 _ _ rd;have r5:w1.cell? ⟨W.heap.size+1,5,none⟩=some (.slice ya yk yo):=(cell_of_row w1 (W.heap.size+1) 5 _ _ _ rd).trans rfl;have rf5:=frozen_of_row w1 (W.heap.size+1) 5 _ _ rd;have r6:w1.cell? ⟨W.heap.size+1,6,none⟩=some (.int .i64 yc):=(cell_of_row w1 (W.heap.size+1) 6 _ _ _ rd).trans rfl;have rf6:=frozen_of_row w1 (W.heap.size+1) 6 _ _ rd;have r7:w1.cell? ⟨W.heap.size+1,7,none⟩=some (.int .i64 yi):=(cell_of_row w1 (W.heap.size+1) 7 _ _ _ rd).trans rfl;have rf7:=frozen_of_row w1 (W.heap.size+1) 7 _ _ rd;have r8:w1.cell? ⟨W.heap.size+1,8,none⟩=some (.pointer (some ⟨b,0,none⟩)):=(cell_of_row w1 (W.heap.size+1) 8 _ _ _ rd).trans rfl;have rf8:=frozen_of_row w1 (W.heap.size+1) 8 _ _ rd;have rL:W.heap.size+1<w1.heap.size:=(Array.getElem?_eq_some_iff.1 rd).1;have rN:¬ W.heap.size+1=w1.heap.size:=(by omega);clear rd;have BB2:Bw W w1:=Zb sqR hb;clear BB;have BB:Hid (Bw W w1):=BB2;clear BB2 hb;clear HI)
   | (go_at_call 272;refine (HP.out _ BB.out).mono ?_;rintro e w2 ⟨rfl,hb⟩;have BB2:Bw W w2:=Zb BB.out hb;clear BB;have BB:Hid (Bw W w2):=BB2;clear BB2 hb;clear HP))
  all_goals go_ret
  all_goals exact ⟨retB (by simp [*]),(by repeat (first|exact BB.out|exact Below.refl _ _|refine Below.setCell ?_ (by simp;try omega) _|refine Below.alloc ?_ (by have:=BB.out.size;simp;try omega) _|refine Below.drew ?_))⟩
def plnB (ps:List Plc) (xn xd:ByteArray) (xf xc:Int) (yn yd:ByteArray) (yf yc:Int):Bool:=freB xf xn&&freB yf yn&&(xn.toList == yn.toList)&&(xd.toList == yd.toList)&&bloB ps xc yc&&!(Y6 xf == 2)&&reaB ps xc yc yf
theorem plain_c {b:Nat} {ps:List Plc} {W:World} (h:WAt b ps W) (hi:WI ps) (xn xd:ByteArray) (xf xl xs:Int) (xa:Option Addr) (xk xo:Nat) (xc xi:Int) (yn yd:ByteArray) (yf yl ys:Int) (ya:Option Addr) (yk yo:Nat) (yc yi:Int):Calls Tryz.prog 180 #[.agg #[.string xn,.string xd,.int .i64 xf,.int .i64 xl,.int .i64 xs,.slice xa xk xo,.int .i64 xc,.int .i64 xi,.pointer (some ⟨b,0,none⟩)],.agg #[.string yn,.string yd,.int .i64 yf,.int .i64 yl,.int .i64 ys,.slice ya yk yo,.int .i64 yc,.int .i64 yi,.pointer (some ⟨b,0,none⟩)]] W fun e w'=>e=.returned (.bool (plnB ps xn xd xf xc yn yd yf yc))∧Bw W w':=by
 have HF:Hid (∀ w:World,Calls Tryz.prog 232 #[.agg #[.string xn,.string xd,.int .i64 xf,.int .i64 xl,.int .i64 xs,.slice xa xk xo,.int .i64 xc,.int .i64 xi,.pointer (some ⟨b,0,none⟩)]] w fun e w'=>e=.returned (.bool (freB xf xn))∧Bw w w'):=fun w=>Zh7 b xn xd xf xl xs xa xk xo xc xi w
 have HG:Hid (∀ w:World,Calls Tryz.prog 232 #[.agg #[.string yn,.string yd,.int .i64 yf,.int .i64 yl,.int .i64 ys,.slice ya yk yo,.int .i64 yc,.int .i64 yi,.pointer (some ⟨b,0,none⟩)]] w fun e w'=>e=.returned (.bool (freB yf yn))∧Bw w w'):=fun w=>Zh7 b yn yd yf yl ys ya yk yo yc yi w
 have HL:Hid (∀ w,Bw W w→Calls Tryz.prog 233 #[.agg #[.string xn,.string xd,.int .i64 xf,.int .i64 xl,.int .i64 xs,.slice xa xk xo,.int .i64 xc,.int .i64 xi,.pointer (some ⟨b,0,none⟩)],.agg #[.string yn,.string yd,.int .i64 yf,.int .i64 yl,.int .i64 ys,.slice ya yk yo,.int .i64 yc,.int .i64 yi,.pointer (some ⟨b,0,none⟩)]] w fun e w'=>e=.returned (.bool (bloB ps xc yc))∧Bw w w'):=fun w hb=>Zlg (h.below hb) hi xn xd xf xl xs xa xk xo xc xi yn yd yf yl ys ya yk yo yc yi
 have HR:Hid (∀ w,Bw W w→Calls Tryz.prog 235 #[.agg #[.string xn,.string xd,.int .i64 xf,.int .i64 xl,.int .i64 xs,.slice xa xk xo,.int .i64 xc,.int .i64 xi,.pointer (some ⟨b,0,none⟩)],.agg #[.string yn,.string yd,.int .i64 yf,.int .i64 yl,.int .i64 ys,.slice ya yk yo,.int .i64 yc,.int .i64 yi,.pointer (some ⟨b,0,none⟩)]] w fun e w'=>e=.returned (.bool (reaB ps xc yc yf))∧Bw w w'):=fun w hb=>Zkl (h.below hb) hi xn xd xf xl xs xa xk xo xc xi yn yd yf yl ys ya yk yo yc yi
 have HO:Hid (∀ w:World,Calls Tryz.prog 234 #[.int .i64 xf] w fun e w'=>e=.returned (.int .i64 (Y6 xf))∧w'=w):=fun w=>open_c xf w
 unfold plnB
 generalize freB xf xn=A1 at *
 generalize freB yf yn=A2 at *
 generalize bloB ps xc yc=A3 at *
 generalize reaB ps xc yc yf=A4 at *
 generalize Y6 xf=O at *
 clear h hi
 cases A1
 case' true=>cases A2
 case' true.true=>cases hn:(xn.toList == yn.toList)
 case' true.true.true=>cases hd:(xd.toList == yd.toList)
 case' true.true.true.true=>cases A3
 case' true.true.true.true.true=>cases ho:(O == 2)
 all_goals
  have BB:Hid (Bw W W):=Below.refl _ _
  go_enter Tryz.func180,Tryz.ntmps180
  go_wp2_with (first
   | (go_at_call 232;refine (HF.out _).mono ?_;rintro e w1 ⟨rfl,hb⟩;have qd:w1.heap[W.heap.size]?=some (.cells #[.string xn,.string xd,.int .i64 xf,.int .i64 xl,.int .i64 xs,.slice xa xk xo,.int .i64 xc,.int .i64 xi,.pointer (some ⟨b,0,none⟩)] 171 (0,0)):=(hb.block (W.heap.size) (by first|omega|(simp;try omega))).trans (by first|exact qB.out|exact Zg qB.out|exact Zg (Zg qB.out)|exact Za _ _ rfl|exact heap_alloc2_old _ _ _|exact heap_alloc2_new _ _ _|exact Zg (Za _ _ rfl)|exact Zg (Zg (Za _ _ rfl))|exact Za _ _ (by simp;done));(try clear qB qL qN q0 q1 q2 q3 q4 q5 q6 q7 q8 qf0 qf1 qf2 qf3 qf4 qf5 qf6 qf7 qf8);have qB:Hid (w1.heap[W.heap.size]?=some (.cells #[.string xn,.string xd,.int .i64 xf,.int .i64 xl,.int .i64 xs,.slice xa xk xo,.int .i64 xc,.int .i64 xi,.pointer (some ⟨b,0,none⟩)] 171 (0,0))):=qd;have q0:w1.cell? ⟨W.heap.size,0,none⟩=some (.string xn):=(cell_of_row w1 (W.heap.size) 0 _ _ _ qd).trans rfl;have qf0:=frozen_of_row w1 (W.heap.size) 0 _ _ qd;have q1:w1.cell? ⟨W.heap.size,1,none⟩=some (.string xd):=(cell_of_row w1 (W.heap.size) 1 _ _ _ qd).trans rfl;have qf1:=frozen_of_row w1 (W.heap.size) 1 _ _ qd;have q2:w1.cell? ⟨W.heap.size,2,none⟩=some (.int .i64 xf):=(cell_of_row w1 (W.heap.size) 2 _ _ _ qd).trans rfl;have qf2:=frozen_of_row w1 (W.heap.size) 2 _ _ qd;have q3:w1.cell? ⟨W.heap.size,3,none⟩=some (.int .i64 xl):=(cell_of_row w1 (W.heap.size) 3 _ _ _ qd).trans rfl;have qf3:=frozen_of_row w1 (W.heap.size) 3 _ _ qd;have q4:w1.cell? ⟨W.heap.size,4,none⟩=some (.int .i64 xs):=(cell_of_row w1 (W.heap.size) 4 _ _ _ qd).trans rfl;have qf4:=frozen_of_row w1 (W.heap.size) 4 _ _ qd;have q5:w1.cell? ⟨W.heap.size,5,none⟩=some (.slice xa xk xo):=(cell_of_row w1 (W.heap.size) 5 _ _ _ qd).trans rfl;have qf5:=frozen_of_row w1 (W.heap.size) 5 _ _ qd;have q6:w1.cell? ⟨W.heap.size,6,none⟩=some (.int .i64 xc):=(cell_of_row w1 (W.heap.size) 6 _ _ _ qd).trans rfl;have qf6:=frozen_of_row w1 (W.heap.size) 6 _ _ qd;have q7:w1.cell? ⟨W.heap.size,7,none⟩=some (.int .i64 xi):=(cell_of_row w1 (W.heap.size) 7 _ _ _ qd).trans rfl;have qf7:=frozen_of_row w1 (W.heap.size) 7 _ _ qd;have q8:w1.cell? ⟨W.heap.size,8,none⟩=some (.pointer (some ⟨b,0,none⟩)):=(cell_of_row w1 (W.heap.size) 8 _ _ _ qd).trans rfl;have qf8:=frozen_of_row w1 (W.heap.size) 8 _ _ qd;have qL:W.heap.size<w1.heap.size:=(Array.getElem?_eq_some_iff.1 qd).1;have qN:¬ W.heap.size=w1.heap.size:=(by omega);clear qd;have rd:w1.heap[W.heap.size+1]?=some (.cells #[.string yn,.string yd,.int .i64 yf,.int .i64 yl,.int .i64 ys,.slice ya yk yo,.int .i64 yc,.int .i64 yi,.pointer (some ⟨b,0,none⟩)] 171 (0,0)):=(hb.block (W.heap.size+1) (by first|omega|(simp;try omega))).trans (by first|exact rB.out|exact Zg rB.out|exact Zg (Zg rB.out)|exact Za _ _ rfl|exact heap_alloc2_old _ _ _|exact heap_alloc2_new _ _ _|exact Zg (Za _ _ rfl)|exact Zg (Zg (Za _ _ rfl))|exact Za _ _ (by simp;done));(try clear rB rL rN r0 r1 r2 r3 r4 r5 r6 r7 r8 rf0 rf1 rf2 rf3 rf4 rf5 rf6 rf7 rf8);have rB:Hid (w1.heap[W.heap.size+1]?=some (.cells #[.string yn,.string yd,.int .i64 yf,.int .i64 yl,.int .i64 ys,.slice ya yk yo,.int .i64 yc,.int .i64 yi,.pointer (some ⟨b,0,none⟩)] 171 (0,0))):=rd;have r0:w1.cell? ⟨W.heap.size+1,0,none⟩=some (.string yn):=(cell_of_row w1 (W.heap.size+1) 0 _ _ _ rd).trans rfl;have rf0:=frozen_of_row w1 (W.heap.size+1) 0 _ _ rd;have r1:w1.cell? ⟨W.heap.size+1,1,none⟩=some (.string yd):=(cell_of_row w1 (W.heap.size+1) 1 _ _ _ rd).trans rfl;have rf1:=frozen_of_row w1 (W.heap.size+1) 1 _ _ rd;have r2:w1.cell? ⟨W.heap.size+1,2,none⟩=some (.int .i64 yf):=(cell_of_row w1 (W.heap.size+1) 2 _ _ _ rd).trans rfl;have rf2:=frozen_of_row w1 (W.heap.size+1) 2 _ _ rd;have r3:w1.cell? ⟨W.heap.size+1,3,none⟩=some (.int .i64 yl):=(cell_of_row w1 (W.heap.size+1) 3 _ _ _ rd).trans rfl;have rf3:=frozen_of_row w1 (W.heap.size+1) 3 _ _ rd;have r4:w1.cell? ⟨W.heap.size+1,4,none⟩=some (.int .i64 ys):=(cell_of_row w1 (W.heap.size+1) 4 _ _ _ rd).trans rfl;have rf4:=frozen_of_row w1 (W.heap.size+1) 4 _ _ rd;have r5:w1.cell? ⟨W.heap.size+1,5,none⟩=some (.slice ya yk yo):=(cell_of_row w1 (W.heap.size+1) 5 _ _ _ rd).trans rfl;have rf5:=frozen_of_row w1 (W.heap.size+1) 5 _ _ rd;have r6:w1.cell? ⟨W.heap.size+1,6,none⟩=some (.int .i64 yc):=(cell_of_row w1 (W.heap.size+1) 6 _ _ _ rd).trans rfl;have rf6:=frozen_of_row w1 (W.heap.size+1) 6 _ _ rd;have r7:w1.cell? ⟨W.heap.size+1,7,none⟩=some (.int .i64 yi):=(cell_of_row w1 (W.heap.size+1) 7 _ _ _ rd).trans rfl;have rf7:=frozen_of_row w1 (W.heap.size+1) 7 _ _ rd;have r8:w1.cell? ⟨W.heap.size+1,8,none⟩=some (.pointer (some ⟨b,0,none⟩)):=(cell_of_row w1 (W.heap.size+1) 8 _ _ _ rd).trans rfl;have rf8:=frozen_of_row w1 (W.heap.size+1) 8 _ _ rd;have rL:W.heap.size+1<w1.heap.size:=(Array.getElem?_eq_some_iff.1 rd).1;have rN:¬ W.heap.size+1=w1.heap.size:=(by omega);clear rd;have BB2:Bw W w1:=Zb sqR hb;clear BB;have BB:Hid (Bw W w1):=BB2;clear BB2 hb;clear HF)
   | (go_at_call 232;refine (HG.out _).mono ?_;rintro e w2 ⟨rfl,hb⟩;have qd:w2.heap[W.heap.size]?=some (.cells #[.string xn,.string xd,.int .i64 xf,.int .i64 xl,.int .i64 xs,.slice xa xk xo,.int .i64 xc,.int .i64 xi,.pointer (some ⟨b,0,none⟩)] 171 (0,0)):=(hb.block (W.heap.size) (by first|omega|(simp;try omega))).trans (by first|exact qB.out|exact Zg qB.out|exact Zg (Zg qB.out)|exact Za _ _ rfl|exact heap_alloc2_old _ _ _|exact heap_alloc2_new _ _ _|exact Zg (Za _ _ rfl)|exact Zg (Zg (Za _ _ rfl))|exact Za _ _ (by simp;done));(try clear qB qL qN q0 q1 q2 q3 q4 q5 q6 q7 q8 qf0 qf1 qf2 qf3 qf4 qf5 qf6 qf7 qf8);have qB:Hid (w2.heap[W.heap.size]?=some (.cells #[.string xn,.string xd,.int .i64 xf,.int .i64 xl,.int .i64 xs,.slice xa xk xo,.int .i64 xc,.int .i64 xi,.pointer (some ⟨b,0,none⟩)] 171 (0,0))):=qd;have q0:w2.cell? ⟨W.heap.size,0,none⟩=some (.string xn):=(cell_of_row w2 (W.heap.size) 0 _ _ _ qd).trans rfl;have qf0:=frozen_of_row w2 (W.heap.size) 0 _ _ qd;have q1:w2.cell? ⟨W.heap.size,1,none⟩=some (.string xd):=(cell_of_row w2 (W.heap.size) 1 _ _ _ qd).trans rfl;have qf1:=frozen_of_row w2 (W.heap.size) 1 _ _ qd;have q2:w2.cell? ⟨W.heap.size,2,none⟩=some (.int .i64 xf):=(cell_of_row w2 (W.heap.size) 2 _ _ _ qd).trans rfl;have qf2:=frozen_of_row w2 (W.heap.size) 2 _ _ qd;have q3:w2.cell? ⟨W.heap.size,3,none⟩=some (.int .i64 xl):=(cell_of_row w2 (W.heap.size) 3 _ _ _ qd).trans rfl;have qf3:=frozen_of_row w2 (W.heap.size) 3 _ _ qd;have q4:w2.cell? ⟨W.heap.size,4,none⟩=some (.int .i64 xs):=(cell_of_row w2 (W.heap.size) 4 _ _ _ qd).trans rfl;have qf4:=frozen_of_row w2 (W.heap.size) 4 _ _ qd;have q5:w2.cell? ⟨W.heap.size,5,none⟩=some (.slice xa xk xo):=(cell_of_row w2 (W.heap.size) 5 _ _ _ qd).trans rfl;have qf5:=frozen_of_row w2 (W.heap.size) 5 _ _ qd;have q6:w2.cell? ⟨W.heap.size,6,none⟩=some (.int .i64 xc):=(cell_of_row w2 (W.heap.size) 6 _ _ _ qd).trans rfl;have qf6:=frozen_of_row w2 (W.heap.size) 6 _ _ qd;have q7:w2.cell? ⟨W.heap.size,7,none⟩=some (.int .i64 xi):=(cell_of_row w2 (W.heap.size) 7 _ _ _ qd).trans rfl;have qf7:=frozen_of_row w2 (W.heap.size) 7 _ _ qd;have q8:w2.cell? ⟨W.heap.size,8,none⟩=some (.pointer (some ⟨b,0,none⟩)):=(cell_of_row w2 (W.heap.size) 8 _ _ _ qd).trans rfl;have qf8:=frozen_of_row w2 (W.heap.size) 8 _ _ qd;have qL:W.heap.size<w2.heap.size:=(Array.getElem?_eq_some_iff.1 qd).1;have qN:¬ W.heap.size=w2.heap.size:=(by omega);clear qd;have rd:w2.heap[W.heap.size+1]?=some (.cells #[.string yn,.string yd,.int .i64 yf,.int .i64 yl,.int .i64 ys,.slice ya yk yo,.int .i64 yc,.int .i64 yi,.pointer (some ⟨b,0,none⟩)] 171 (0,0)):=(hb.block (W.heap.size+1) (by first|omega|(simp;try omega))).trans (by first|exact rB.out|exact Zg rB.out|exact Zg (Zg rB.out)|exact Za _ _ rfl|exact heap_alloc2_old _ _ _|exact heap_alloc2_new _ _ _|exact Zg (Za _ _ rfl)|exact Zg (Zg (Za _ _ rfl))|exact Za _ _ (by simp;done));(try clear rB rL rN r0 r1 r2 r3 r4 r5 r6 r7 r8 rf0 rf1 rf2 rf3 rf4 rf5 rf6 rf7 rf8);have rB:Hid (w2.heap[W.heap.size+1]?=some (.cells #[.string yn,.string yd,.int .i64 yf,.int .i64 yl,.int .i64 ys,.slice ya yk yo,.int .i64 yc,.int .i64 yi,.pointer (some ⟨b,0,none⟩)] 171 (0,0))):=rd;have r0:w2.cell? ⟨W.heap.size+1,0,none⟩=some (.string yn):=(cell_of_row w2 (W.heap.size+1) 0 _ _ _ rd).trans rfl;have rf0:=frozen_of_row w2 (W.heap.size+1) 0 _ _ rd;have r1:w2.cell? ⟨W.heap.size+1,1,none⟩=some (.string yd):=(cell_of_row w2 (W.heap.size+1) 1 _ _ _ rd).trans rfl;have rf1:=frozen_of_row w2 (W.heap.size+1) 1 _ _ rd;have r2:w2.cell? ⟨W.heap.size+1,2,none⟩=some (.int .i64 yf):=(cell_of_row w2 (W.heap.size+1) 2 _ _ _ rd).trans rfl;have rf2:=frozen_of_row w2 (W.heap.size+1) 2 _ _ rd;have r3:w2.cell? ⟨W.heap.size+1,3,none⟩=some (.int .i64 yl):=(cell_of_row w2 (W.heap.size+1) 3 _ _ _ rd).trans rfl;have rf3:=frozen_of_row w2 (W.heap.size+1) 3 _ _ rd;have r4:w2.cell? ⟨W.heap.size+1,4,none⟩=some (.int .i64 ys):=(cell_of_row w2 (W.heap.size+1) 4 _ _ _ rd).trans rfl;have rf4:=frozen_of_row w2 (W.heap.size+1) 4 _ _ rd;have r5:w2.cell? ⟨W.heap.size+1,5,none⟩=some (.slice ya yk yo):=(cell_of_row w2 (W.heap.size+1) 5 _ _ _ rd).trans rfl;have rf5:=frozen_of_row w2 (W.heap.size+1) 5 _ _ rd;have r6:w2.cell? ⟨W.heap.size+1,6,none⟩=some (.int .i64 yc):=(cell_of_row w2 (W.heap.size+1) 6 _ _ _ rd).trans rfl;have rf6:=frozen_of_row w2 (W.heap.size+1) 6 _ _ rd;have r7:w2.cell? ⟨W.heap.size+1,7,none⟩=some (.int .i64 yi):=(cell_of_row w2 (W.heap.size+1) 7 _ _ _ rd).trans rfl;have rf7:=frozen_of_row w2 (W.heap.size+1) 7 _ _ rd;have r8:w2.cell? ⟨W.heap.size+1,8,none⟩=some (.pointer (some ⟨b,0,none⟩)):=(cell_of_row w2 (W.heap.size+1) 8 _ _ _ rd).trans rfl;have rf8:=frozen_of_row w2 (W.heap.size+1) 8 _ _ rd;have rL:W.heap.size+1<w2.heap.size:=(Array.getElem?_eq_some_iff.1 rd).1;have rN:¬ W.heap.size+1=w2.heap.size:=(by omega);clear rd;have BB2:Bw W w2:=Zb BB.out hb;clear BB;have BB:Hid (Bw W w2):=BB2;clear BB2 hb;clear HG)
   | (go_at_call 233;refine (HL.out _ BB.out).mono ?_;rintro e w3 ⟨rfl,hb⟩;have qd:w3.heap[W.heap.size]?=some (.cells #[.string xn,.string xd,.int .i64 xf,.int .i64 xl,.int .i64 xs,.slice xa xk xo,.int .i64 xc,.int .i64 xi,.pointer (some ⟨b,0,none⟩)] 171 (0,0)):=(hb.block (W.heap.size) (by first|omega|(simp;try omega))).trans (by first|exact qB.out|exact Zg qB.out|exact Zg (Zg qB.out)|exact Za _ _ rfl|exact heap_alloc2_old _ _ _|exact heap_alloc2_new _ _ _|exact Zg (Za _ _ rfl)|exact Zg (Zg (Za _ _ rfl))|exact Za _ _ (by simp;done));(try clear qB qL qN q0 q1 q2 q3 q4 q5 q6 q7 q8 qf0 qf1 qf2 qf3 qf4 qf5 qf6 qf7 qf8);have qB:Hid (w3.heap[W.heap.size]?=some (.cells #[.string xn,.string xd,.int .i64 xf,.int .i64 xl,.int .i64 xs,.slice xa xk xo,.int .i64 xc,.int .i64 xi,.pointer (some ⟨b,0,none⟩)] 171 (0,0))):=qd;have q0:w3.cell? ⟨W.heap.size,0,none⟩=some (.string xn):=(cell_of_row w3 (W.heap.size) 0 _ _ _ qd).trans rfl;have qf0:=frozen_of_row w3 (W.heap.size) 0 _ _ qd;have q1:w3.cell? ⟨W.heap.size,1,none⟩=some (.string xd):=(cell_of_row w3 (W.heap.size) 1 _ _ _ qd).trans rfl;have qf1:=frozen_of_row w3 (W.heap.size) 1 _ _ qd;have q2:w3.cell? ⟨W.heap.size,2,none⟩=some (.int .i64 xf):=(cell_of_row w3 (W.heap.size) 2 _ _ _ qd).trans rfl;have qf2:=frozen_of_row w3 (W.heap.size) 2 _ _ qd;have q3:w3.cell? ⟨W.heap.size,3,none⟩=some (.int .i64 xl):=(cell_of_row w3 (W.heap.size) 3 _ _ _ qd).trans rfl;have qf3:=frozen_of_row w3 (W.heap.size) 3 _ _ qd;have q4:w3.cell? ⟨W.heap.size,4,none⟩=some (.int .i64 xs):=(cell_of_row w3 (W.heap.size) 4 _ _ _ qd).trans rfl;have qf4:=frozen_of_row w3 (W.heap.size) 4 _ _ qd;have q5:w3.cell? ⟨W.heap.size,5,none⟩=some (.slice xa xk xo):=(cell_of_row w3 (W.heap.size) 5 _ _ _ qd).trans rfl;have qf5:=frozen_of_row w3 (W.heap.size) 5 _ _ qd;have q6:w3.cell? ⟨W.heap.size,6,none⟩=some (.int .i64 xc):=(cell_of_row w3 (W.heap.size) 6 _ _ _ qd).trans rfl;have qf6:=frozen_of_row w3 (W.heap.size) 6 _ _ qd;have q7:w3.cell? ⟨W.heap.size,7,none⟩=some (.int .i64 xi):=(cell_of_row w3 (W.heap.size) 7 _ _ _ qd).trans rfl;have qf7:=frozen_of_row w3 (W.heap.size) 7 _ _ qd;have q8:w3.cell? ⟨W.heap.size,8,none⟩=some (.pointer (some ⟨b,0,none⟩)):=(cell_of_row w3 (W.heap.size) 8 _ _ _ qd).trans rfl;have qf8:=frozen_of_row w3 (W.heap.size) 8 _ _ qd;have qL:W.heap.size<w3.heap.size:=(Array.getElem?_eq_some_iff.1 qd).1;have qN:¬ W.heap.size=w3.heap.size:=(by omega);clear qd;have rd:w3.heap[W.heap.size+1]?=some (.cells #[.string yn,.string yd,.int .i64 yf,.int .i64 yl,.int .i64 ys,.slice ya yk yo,.int .i64 yc,.int .i64 yi,.pointer (some ⟨b,0,none⟩)] 171 (0,0)):=(hb.block (W.heap.size+1) (by first|omega|(simp;try omega))).trans (by first|exact rB.out|exact Zg rB.out|exact Zg (Zg rB.out)|exact Za _ _ rfl|exact heap_alloc2_old _ _ _|exact heap_alloc2_new _ _ _|exact Zg (Za _ _ rfl)|exact Zg (Zg (Za _ _ rfl))|exact Za _ _ (by simp;done));(try clear rB rL rN r0 r1 r2 r3 r4 r5 r6 r7 r8 rf0 rf1 rf2 rf3 rf4 rf5 rf6 rf7 rf8);have rB:Hid (w3.heap[W.heap.size+1]?=some (.cells #[.string yn,.string yd,.int .i64 yf,.int .i64 yl,.int .i64 ys,.slice ya yk yo,.int .i64 yc,.int .i64 yi,.pointer (some ⟨b,0,none⟩)] 171 (0,0))):=rd;have r0:w3.cell? ⟨W.heap.size+1,0,none⟩=some (.string yn):=(cell_of_row w3 (W.heap.size+1) 0 _ _ _ rd).trans rfl;have rf0:=frozen_of_row w3 (W.heap.size+1) 0 _ _ rd;have r1:w3.cell? ⟨W.heap.size+1,1,none⟩=some (.string yd):=(cell_of_row w3 (W.heap.size+1) 1 _ _ _ rd).trans rfl;have rf1:=frozen_of_row w3 (W.heap.size+1) 1 _ _ rd;have r2:w3.cell? ⟨W.heap.size+1,2,none⟩=some (.int .i64 yf):=(cell_of_row w3 (W.heap.size+1) 2 _ _ _ rd).trans rfl;have rf2:=frozen_of_row w3 (W.heap.size+1) 2 _ _ rd;have r3:w3.cell? ⟨W.heap.size+1,3,none⟩=some (.int .i64 yl):=(cell_of_row w3 (W.heap.size+1) 3 _ _ _ rd).trans rfl;have rf3:=frozen_of_row w3 (W.heap.size+1) 3 _ _ rd;have r4:w3.cell? ⟨W.heap.size+1,4,none⟩=some (.int .i64 ys):=(cell_of_row w3 (W.heap.size+1) 4 _ _ _ rd).trans rfl;have rf4:=frozen_of_row w3 (W.heap.size+1) 4 _ _ rd;have r5:w3.cell? ⟨W.heap.size+1,5,none⟩=some (.slice ya yk yo):=(cell_of_row w3 (W.heap.size+1) 5 _ _ _ rd).trans rfl;have rf5:=frozen_of_row w3 (W.heap.size+1) 5 _ _ rd;have r6:w3.cell? ⟨W.heap.size+1,6,none⟩=some (.int .i64 yc):=(cell_of_row w3 (W.heap.size+1) 6 _ _ _ rd).trans rfl;have rf6:=frozen_of_row w3 (W.heap.size+1) 6 _ _ rd;have r7:w3.cell? ⟨W.heap.size+1,7,none⟩=some (.int .i64 yi):=(cell_of_row w3 (W.heap.size+1) 7 _ _ _ rd).trans rfl;have rf7:=frozen_of_row w3 (W.heap.size+1) 7 _ _ rd;have r8:w3.cell? ⟨W.heap.size+1,8,none⟩=some (.pointer (some ⟨b,0,none⟩)):=(cell_of_row w3 (W.heap.size+1) 8 _ _ _ rd).trans rfl;have rf8:=frozen_of_row w3 (W.heap.size+1) 8 _ _ rd;have rL:W.heap.size+1<w3.heap.size:=(Array.getElem?_eq_some_iff.1 rd).1;have rN:¬ W.heap.size+1=w3.heap.size:=(by omega);clear rd;have BB2:Bw W w3:=Zb BB.out hb;clear BB;have BB:Hid (Bw W w3):=BB2;clear BB2 hb;clear HL)
   | (go_at_call 234;refine (HO.out _).mono ?_;rintro e w9 ⟨rfl,hw9⟩;rw [hw9];clear hw9 w9 HO)
   | (go_at_call 235;refine (HR.out _ BB.out).mono ?_;rintro e w4 ⟨rfl,hb⟩;have BB2:Bw W w4:=Zb BB.out hb;clear BB;have BB:Hid (Bw W w4):=BB2;clear BB2 hb;clear HR))
  all_goals go_ret
  all_goals exact ⟨retB (by simp [*]),(by repeat (first|exact BB.out|exact Below.refl _ _|refine Below.setCell ?_ (by simp;try omega) _|refine Below.alloc ?_ (by have:=BB.out.size;simp;try omega) _|refine Below.drew ?_))⟩
theorem kp2 {V w:World} {N n:Nat} {t:TypeId} {a0 a1:Value} (hb:Below N V w) (hn:n<N:=by first|omega|(simp;try omega)) (h:V.heap[n]?=some (.cells #[a0,a1] t (0,0)):=by first|exact Hid.out (by assumption)|exact Zg (Hid.out (by assumption))|exact Zg (Zg (Hid.out (by assumption)))|exact Za _ _ rfl|exact Zg (Za _ _ rfl)|exact Zg (Zg (Za _ _ rfl))|exact Za _ _ (by simp;done)):Hid (w.heap[n]?=some (.cells #[a0,a1] t (0,0)))∧w.cell? ⟨n,0,none⟩=some a0∧w.cell? ⟨n,1,none⟩=some a1∧(∀ k,w.frozen? ⟨n,k,none⟩=false)∧n<w.heap.size∧¬ n=w.heap.size:=by
 have h2:=(hb.block n hn).trans h
 obtain ⟨c0,c1,f,l⟩:=rw2 h2
 exact ⟨h2,c0,c1,f,l,by omega⟩
theorem kp6 {V w:World} {N n:Nat} {t:TypeId} {a0 a1 a2 a3 a4 a5:Value} (hb:Below N V w) (hn:n<N:=by first|omega|(simp;try omega)) (h:V.heap[n]?=some (.cells #[a0,a1,a2,a3,a4,a5] t (0,0)):=by first|exact Hid.out (by assumption)|exact Zg (Hid.out (by assumption))|exact Zg (Zg (Hid.out (by assumption)))|exact Za _ _ rfl|exact Zg (Za _ _ rfl)|exact Zg (Zg (Za _ _ rfl))|exact Za _ _ (by simp;done)):Hid (w.heap[n]?=some (.cells #[a0,a1,a2,a3,a4,a5] t (0,0)))∧w.cell? ⟨n,0,none⟩=some a0∧w.cell? ⟨n,1,none⟩=some a1∧w.cell? ⟨n,2,none⟩=some a2∧w.cell? ⟨n,3,none⟩=some a3∧w.cell? ⟨n,4,none⟩=some a4∧w.cell? ⟨n,5,none⟩=some a5∧(∀ k,w.frozen? ⟨n,k,none⟩=false)∧n<w.heap.size∧¬ n=w.heap.size:=by
 have h2:=(hb.block n hn).trans h
 obtain ⟨c0,c1,c2,c3,c4,c5,f,l⟩:=rw6 h2
 exact ⟨h2,c0,c1,c2,c3,c4,c5,f,l,by omega⟩
theorem Zez {ps:List Plc} (hi:WI ps) {k:Nat} (hk:k<ps.length):(chL (ps.map nd) k).length≤1000000:=by
 have:=Zmf hi.wo k (by simpa using hk)
 have:=hi.hi
 omega
theorem wi_cl {ps:List Plc} (hW:WI ps) {j:Nat} {r:Plc} (hr:ps[j]?=some r):r.cl.length≤ps.length:=by
 have hj:=(List.getElem?_eq_some_iff.1 hr).1
 have e:clO (ps.map nd) j=r.cl:=by rw [clO,nd_at' hr];rfl
 refine Zt _ _ (by rw [← e];exact J7 hW.wo j) (fun i hi=>?_)
 rw [← e] at hi
 have:=(Yh hW.wo hi).1
 omega
def FndF (ps:List Plc) (nm ds:ByteArray) (m:Int×Int):Prop:=∃ x,Zm ps m.1 m.2=some x∧x.nm.toList=nm.toList∧x.ds.toList=ds.toList
theorem J5 {ps:List Plc} {c:Int} {nm ds:ByteArray} (h:(fndI ps c nm ds).2=0):FndF ps nm ds (c,(fndI ps c nm ds).1)∧∃ (k:Nat) (q:Plc),c=(k:Int)∧ps[k]?=some q:=by
 rcases Zl ps c with ⟨h1,h2⟩|⟨k,q,rfl,h2,h1⟩
 ·rw [fndI,h1] at h;exact absurd h (by show ¬ (3:Int)=0;decide)
 ·have e:fndI ps k nm ds=if Z8 nm ds q.c.ms 0<0 then (0,6) else (Z8 nm ds q.c.ms 0,0):=by rw [fndI,h1]
  refine ⟨?_,k,q,rfl,h2⟩
  rw [e] at h ⊢
  rcases Qb nm ds q.c.ms 0 with e2|⟨j,x,e2,hj,hn,hd⟩
  ·rw [e2,if_pos (by decide)] at h;exact absurd h (by decide)
  ·rw [e2,if_neg (by omega)]
   refine ⟨x,?_,hn,hd⟩
   rw [Zm,h1]
   show Y2 q ((0+j:Nat):Int)=some x
   rw [Y2,if_pos (Int.natCast_nonneg _)]
   simpa using hj
structure P9 where
 nm:ByteArray
 ds:ByteArray
 fl:Int
 lo:Int
 st:Int
 sa:Option Addr
 sk:Nat
 so:Nat
 c:Int
 i:Int
def P9.id (x:P9):Int×Int:=(x.c,x.i)
def P9.cells (b:Nat) (x:P9):List Value:=[.string x.nm,.string x.ds,.int .i64 x.fl,.int .i64 x.lo,.int .i64 x.st,.slice x.sa x.sk x.so,.int .i64 x.c,.int .i64 x.i,.pointer (some ⟨b,0,none⟩)]
def P9.agg (b:Nat) (x:P9):Value:=.agg #[.string x.nm,.string x.ds,.int .i64 x.fl,.int .i64 x.lo,.int .i64 x.st,.slice x.sa x.sk x.so,.int .i64 x.c,.int .i64 x.i,.pointer (some ⟨b,0,none⟩)]
def Zx (b:Nat) (l:List P9):List Value:=l.flatMap (P9.cells b)
theorem P9.cells_len (b:Nat) (x:P9):(x.cells b).length=9:=rfl
theorem Xh (b:Nat) (l r:List P9):Zx b (l++r)=Zx b l++Zx b r:=List.flatMap_append
theorem Z4 (b:Nat) (x:P9) (r:List P9):Zx b (x::r)=x.cells b++Zx b r:=rfl
theorem Za2 (b:Nat):∀ l:List P9,(Zx b l).length=l.length * 9
 | []=>rfl
 | x::r=>by rw [Z4,List.length_append,Za2 b r,P9.cells_len,List.length_cons];omega
theorem Y4 (b:Nat):∀ (l:List P9) (i:Nat) (x:P9) (j:Nat),l[i]?=some x→j<9→(Zx b l)[i * 9+j]?=(x.cells b)[j]?
 | [],_,_,_,h,_=>by simp at h
 | y::r,0,x,j,h,hj=>by
   simp only [List.getElem?_cons_zero,Option.some.injEq] at h
   subst h
   rw [Z4,Nat.zero_mul,Nat.zero_add,List.getElem?_append_left (by rw [P9.cells_len];exact hj)]
 | y::r,i+1,x,j,h,hj=>by
   rw [List.getElem?_cons_succ] at h
   rw [Z4,List.getElem?_append_right (by rw [P9.cells_len];omega),P9.cells_len,show (i+1) * 9+j - 9=i * 9+j by omega]
   exact Y4 b r i x j h hj
theorem Xe (b:Nat):∀ (k:Nat) (l:List P9),(Zx b l).take (k * 9)=Zx b (l.take k)
 | 0,l=>by simp [Zx]
 | k+1,[]=>by simp [Zx]
 | k+1,x::r=>by
   rw [List.take_succ_cons,Z4,Z4,← Xe b k r,List.take_append,P9.cells_len,show (k+1) * 9 - 9=k * 9 by omega,List.take_of_length_le (by rw [P9.cells_len];omega)]
theorem Qz (b:Nat):∀ (k:Nat) (l:List P9),(Zx b l).drop (k * 9)=Zx b (l.drop k)
 | 0,l=>by simp
 | k+1,[]=>by simp [Zx]
 | k+1,x::r=>by
   rw [List.drop_succ_cons,Z4,← Qz b k r,List.drop_append,P9.cells_len,show (k+1) * 9 - 9=k * 9 by omega,List.drop_of_length_le (by rw [P9.cells_len];omega),List.nil_append]
theorem J6 (b:Nat) (l:List P9):∀ u∈Zx b l,u.oneCell'=true:=by
 intro u hu
 rw [Zx,List.mem_flatMap] at hu
 obtain ⟨x,_,hx⟩:=hu
 simp only [P9.cells,List.mem_cons,List.not_mem_nil,or_false] at hx
 rcases hx with rfl|rfl|rfl|rfl|rfl|rfl|rfl|rfl|rfl <;> rfl
def OkP (ps:List Plc) (x:P9):Prop:=∃ m,Zm ps x.c x.i=some m∧x.nm=m.nm∧x.ds=m.ds∧x.fl=m.fl
def eqI (c a:Int×Int):Bool:=(c.1 == a.1)&&(c.2 == a.2)
theorem Zaw {c a:Int×Int}:eqI c a=true↔c=a:=by
 obtain ⟨c1,c2⟩:=c;obtain ⟨a1,a2⟩:=a;simp [eqI]
def plI (ps:List Plc) (c a:Int×Int):Bool:=match Zm ps c.1 c.2,Zm ps a.1 a.2 with
 | some x,some y=>plnB ps x.nm x.ds x.fl c.1 y.nm y.ds y.fl a.1
 | _,_=>false
def stI (ps:List Plc) (c:Int×Int):Bool:=match Zm ps c.1 c.2 with
 | some x=>stB x.fl
 | none=>false
theorem OkP.pl {ps:List Plc} {x y:P9} (hx:OkP ps x) (hy:OkP ps y):plnB ps x.nm x.ds x.fl x.c y.nm y.ds y.fl y.c=plI ps x.id y.id:=by
 obtain ⟨m,h1,h2,h3,h4⟩:=hx
 obtain ⟨n,g1,g2,g3,g4⟩:=hy
 simp only [plI,P9.id,h1,g1,h2,h3,h4,g2,g3,g4]
theorem OkP.st {ps:List Plc} {x:P9} (hx:OkP ps x):stB x.fl=stI ps x.id:=by
 obtain ⟨m,h1,_,_,h4⟩:=hx
 simp only [stI,P9.id,h1,h4]
def gth1 (ps:List Plc) (a:Int×Int) (kept:List (Int×Int)) (c:Int×Int):List (Int×Int):=if (eqI c a&&!stI ps c)||kept.any (plI ps c) then kept++[c] else kept
def gthL (ps:List Plc) (a:Int×Int) (l:List (Int×Int)):List (Int×Int):=l.foldl (gth1 ps a) []
theorem Zb6 (ps:List Plc) (a:Int×Int) (l:List (Int×Int)) (c:Int×Int):gthL ps a (l++[c])=gth1 ps a (gthL ps a l) c:=by
 rw [gthL,List.foldl_append];rfl
theorem gthL_len (ps:List Plc) (a:Int×Int) (l:List (Int×Int)):(gthL ps a l).length≤l.length:=by
 have:∀ (l k:List (Int×Int)),(l.foldl (gth1 ps a) k).length≤k.length+l.length:=by
  intro l
  induction l with
  | nil=>intro k;simp
  | cons c r ih =>
    intro k
    rw [List.foldl_cons]
    refine Nat.le_trans (ih _) ?_
    rw [gth1]
    split <;> simp <;> omega
 simpa [gthL] using this l []
def nskL (ps:List Plc) (nm ds:ByteArray) (a:Int):List Nat→List (Int×Int)
 | []=>[]
 | c::r=>if (fndI ps (c:Int) nm ds).2=0∧(c:Int)≠a then ((c:Int),(fndI ps (c:Int) nm ds).1)::nskL ps nm ds a r else nskL ps nm ds a r
theorem Zh2 (ps:List Plc) (nm ds:ByteArray) (a:Int):∀ l r:List Nat,nskL ps nm ds a (l++r)=nskL ps nm ds a l++nskL ps nm ds a r
 | [],r=>rfl
 | c::l,r=>by
   rw [List.cons_append,nskL,nskL,Zh2 ps nm ds a l r]
   split <;> rfl
theorem Zbh (ps:List Plc) (nm ds:ByteArray) (a:Int):∀ l:List Nat,(nskL ps nm ds a l).length≤l.length
 | []=>Nat.le_refl _
 | c::l=>by
   have:=Zbh ps nm ds a l
   rw [nskL]
   split <;> simp <;> omega
def askL (ps:List Plc) (m:HM) (a:Int×Int) (l:List Nat):List (Int×Int):=a::nskL ps m.nm m.ds a.1 l
def lstI (l:List Nat) (G:List (Int×Int)):(Int×Int)×Int:=match G.getLast? with
 | some x=>if (l.map (fun k:Nat=>(k:Int))).contains x.1 then (x,0) else ((0,0),6)
 | none=>((0,0),6)
theorem Zb4 {l:List Nat} {G:List (Int×Int)} {x:Int×Int} (h:G.getLast?=some x):lstI l G=if (l.map (fun k:Nat=>(k:Int))).contains x.1 then (x,0) else ((0,0),6):=by rw [lstI,h]
def firI (ps:List Plc) (r:Int) (a:Int×Int):(Int×Int)×Int:=match Zm ps a.1 a.2,plcI ps r with
 | some m,some _=>lstI (chL (ps.map nd) r.toNat) (gthL ps a (askL ps m a (chL (ps.map nd) r.toNat).reverse))
 | _,_=>((0,0),3)
def ovrI (ps:List Plc) (c a:Int×Int):Bool×Int:=match Zm ps c.1 c.2,Zm ps a.1 a.2 with
 | some _,some m=>((gthL ps a (askL ps m a (chL (ps.map nd) c.1.toNat).reverse)).any (eqI c),0)
 | _,_=>(false,3)
end Go.Proofs.YtmafkabjjibcbaaGreat
