import Derived.Test.YtjbmmmcjegjelaaGreatRfB
import Derived.Test.YtjbmmmcjegjelaaGreatGrA
import Derived.Test.YtjbmmmcjegjelaaGreatMxC
import Derived.Test.YtjbmmmcjegjelaaGreatRfA
import Derived.Test.YtjbmmmcjegjelaaGreatOvQ
import Derived.Lib.SliceRun
import Derived.Test.YtjbmmmcjegjelaaGreatSq
set_option maxHeartbeats 4000000
set_option maxRecDepth 100000
namespace Go.Proofs.YtjbmmmcjegjelaaGreat
open Go.RowKit Go.Maps
def stB (f:Int):Bool:=bits .and .i64 f 8 != 0
def freB (f:Int) (n:ByteArray):Bool:=!stB f&&!(n.toList == [60,105,110,105,116,62])
theorem Zcv (b:Nat) (xn xd:ByteArray) (xf xl xs:Int) (xa:Option Addr) (xk xo:Nat) (xc xi:Int) (W:World):Calls Tryz.prog 168 #[.agg #[.string xn,.string xd,.int .i64 xf,.int .i64 xl,.int .i64 xs,.slice xa xk xo,.int .i64 xc,.int .i64 xi,.pointer (some ⟨b,0,none⟩)]] W fun e w'=>e=.returned (.bool (stB xf))∧Below W.heap.size W w':=by
  go_enter Tryz.func168,Tryz.ntmps168
  go_wp2
  go_ret
  exact ⟨retB (by simp [stB]),sqR⟩
theorem Zhy (b:Nat) (xn xd:ByteArray) (xf xl xs:Int) (xa:Option Addr) (xk xo:Nat) (xc xi:Int) (W:World):Calls Tryz.prog 182 #[.agg #[.string xn,.string xd,.int .i64 xf,.int .i64 xl,.int .i64 xs,.slice xa xk xo,.int .i64 xc,.int .i64 xi,.pointer (some ⟨b,0,none⟩)]] W fun e w'=>e=.returned (.bool (freB xf xn))∧Below W.heap.size W w':=by
  have HS:Hid (∀ w:World,Calls Tryz.prog 168 #[.agg #[.string xn,.string xd,.int .i64 xf,.int .i64 xl,.int .i64 xs,.slice xa xk xo,.int .i64 xc,.int .i64 xi,.pointer (some ⟨b,0,none⟩)]] w fun e w'=>e=.returned (.bool (stB xf))∧Below w.heap.size w w'):=fun w=>Zcv b xn xd xf xl xs xa xk xo xc xi w
  unfold freB
  generalize stB xf=S at *
  cases S
  all_goals
    have BB:Hid (Below W.heap.size W W):=Below.refl _ _
    go_enter Tryz.func182,Tryz.ntmps182
    go_wp2_with (first
      | (go_at_call 168;refine (HS.out _).mono ?_;rintro e w1 ⟨rfl,hb⟩;have qd:w1.heap[W.heap.size]?=some (.cells #[.string xn,.string xd,.int .i64 xf,.int .i64 xl,.int .i64 xs,.slice xa xk xo,.int .i64 xc,.int .i64 xi,.pointer (some ⟨b,0,none⟩)] 181 (0,0)):=(hb.block (W.heap.size) (by first|omega|(simp;try omega))).trans (by first|exact qB.out|exact Zj qB.out|exact Zj (Zj qB.out)|exact Ze _ _ rfl|exact heap_alloc2_old _ _ _|exact heap_alloc2_new _ _ _|exact Zj (Ze _ _ rfl)|exact Zj (Zj (Ze _ _ rfl))|exact Ze _ _ (by simp;done));(try clear qB qL qN q0 q1 q2 q3 q4 q5 q6 q7 q8 qf0 qf1 qf2 qf3 qf4 qf5 qf6 qf7 qf8);have qB:Hid (w1.heap[W.heap.size]?=some (.cells #[.string xn,.string xd,.int .i64 xf,.int .i64 xl,.int .i64 xs,.slice xa xk xo,.int .i64 xc,.int .i64 xi,.pointer (some ⟨b,0,none⟩)] 181 (0,0))):=qd;have q0:w1.cell? ⟨W.heap.size,0,none⟩=some (.string xn):=(cell_of_row w1 (W.heap.size) 0 _ _ _ qd).trans rfl;have qf0:=frozen_of_row w1 (W.heap.size) 0 _ _ qd;have q1:w1.cell? ⟨W.heap.size,1,none⟩=some (.string xd):=(cell_of_row w1 (W.heap.size) 1 _ _ _ qd).trans rfl;have qf1:=frozen_of_row w1 (W.heap.size) 1 _ _ qd;have q2:w1.cell? ⟨W.heap.size,2,none⟩=some (.int .i64 xf):=(cell_of_row w1 (W.heap.size) 2 _ _ _ qd).trans rfl;have qf2:=frozen_of_row w1 (W.heap.size) 2 _ _ qd;have q3:w1.cell? ⟨W.heap.size,3,none⟩=some (.int .i64 xl):=(cell_of_row w1 (W.heap.size) 3 _ _ _ qd).trans rfl;have qf3:=frozen_of_row w1 (W.heap.size) 3 _ _ qd;have q4:w1.cell? ⟨W.heap.size,4,none⟩=some (.int .i64 xs):=(cell_of_row w1 (W.heap.size) 4 _ _ _ qd).trans rfl;have qf4:=frozen_of_row w1 (W.heap.size) 4 _ _ qd;have q5:w1.cell? ⟨W.heap.size,5,none⟩=some (.slice xa xk xo):=(cell_of_row w1 (W.heap.size) 5 _ _ _ qd).trans rfl;have qf5:=frozen_of_row w1 (W.heap.size) 5 _ _ qd;have q6:w1.cell? ⟨W.heap.size,6,none⟩=some (.int .i64 xc):=(cell_of_row w1 (W.heap.size) 6 _ _ _ qd).trans rfl;have qf6:=frozen_of_row w1 (W.heap.size) 6 _ _ qd;have q7:w1.cell? ⟨W.heap.size,7,none⟩=some (.int .i64 xi):=(cell_of_row w1 (W.heap.size) 7 _ _ _ qd).trans rfl;have qf7:=frozen_of_row w1 (W.heap.size) 7 _ _ qd;have q8:w1.cell? ⟨W.heap.size,8,none⟩=some (.pointer (some ⟨b,0,none⟩)):=(cell_of_row w1 (W.heap.size) 8 _ _ _ qd).trans rfl;have qf8:=frozen_of_row w1 (W.heap.size) 8 _ _ qd;have qL:W.heap.size<w1.heap.size:=(Array.getElem?_eq_some_iff.1 qd).1;have qN:¬ W.heap.size=w1.heap.size:=(by omega);clear qd;have BB2:Below W.heap.size W w1:=Zc sqR hb;clear BB;have BB:Hid (Below W.heap.size W w1):=BB2;clear BB2 hb;clear HS))
    all_goals go_ret
    all_goals exact ⟨retB (by simp [*]),(by repeat (first|exact BB.out|exact Below.refl _ _|refine Below.setCell ?_ (by simp;try omega) _|refine Below.alloc ?_ (by have:=BB.out.size;simp;try omega) _|refine Below.drew ?_))⟩
theorem is_c (b:Nat) (xn xd:ByteArray) (xf xl xs:Int) (xa:Option Addr) (xk xo:Nat) (xc xi:Int) (yn yd:ByteArray) (yf yl ys:Int) (ya:Option Addr) (yk yo:Nat) (yc yi:Int) (W:World):Calls Tryz.prog 167 #[.agg #[.string xn,.string xd,.int .i64 xf,.int .i64 xl,.int .i64 xs,.slice xa xk xo,.int .i64 xc,.int .i64 xi,.pointer (some ⟨b,0,none⟩)],.agg #[.string yn,.string yd,.int .i64 yf,.int .i64 yl,.int .i64 ys,.slice ya yk yo,.int .i64 yc,.int .i64 yi,.pointer (some ⟨b,0,none⟩)]] W fun e w'=>e=.returned (.bool ((xc == yc)&&(xi == yi)))∧Below W.heap.size W w':=by
  go_enter Tryz.func167,Tryz.ntmps167
  go_wp2
  all_goals go_ret
  all_goals exact ⟨retB (by simp [*]),sqR⟩
def bloB (ps:List Plc) (c a:Int):Bool:=!(c == a)&&!ifcI ps c&&extI ps c a
theorem Zk6 {b:Nat} {ps:List Plc} {W:World} (h:WAt b ps W) (hi:WI ps) (xn xd:ByteArray) (xf xl xs:Int) (xa:Option Addr) (xk xo:Nat) (xc xi:Int) (yn yd:ByteArray) (yf yl ys:Int) (ya:Option Addr) (yk yo:Nat) (yc yi:Int):Calls Tryz.prog 183 #[.agg #[.string xn,.string xd,.int .i64 xf,.int .i64 xl,.int .i64 xs,.slice xa xk xo,.int .i64 xc,.int .i64 xi,.pointer (some ⟨b,0,none⟩)],.agg #[.string yn,.string yd,.int .i64 yf,.int .i64 yl,.int .i64 ys,.slice ya yk yo,.int .i64 yc,.int .i64 yi,.pointer (some ⟨b,0,none⟩)]] W fun e w'=>e=.returned (.bool (bloB ps xc yc))∧Below W.heap.size W w':=by
  have HI:Hid (∀ w,Below W.heap.size W w→Calls Tryz.prog 30 #[.pointer (some ⟨b,0,none⟩),.int .i64 xc] w fun e w'=>e=.returned (.bool (ifcI ps xc))∧Below w.heap.size w w'):=fun w hb=>Zbi (h.below hb) xc
  have HE:Hid (∀ w,Below W.heap.size W w→Calls Tryz.prog 37 #[.pointer (some ⟨b,0,none⟩),.int .i64 xc,.int .i64 yc] w fun e w'=>e=.returned (.bool (extI ps xc yc))∧Below w.heap.size w w'):=fun w hb=>Zlm (h.below hb) hi xc yc
  unfold bloB
  generalize ifcI ps xc=I at *
  generalize extI ps xc yc=E at *
  clear h hi
  cases hz:(xc == yc)
  all_goals cases I
  all_goals
    have BB:Hid (Below W.heap.size W W):=Below.refl _ _
    go_enter Tryz.func183,Tryz.ntmps183
    go_wp2
    go_region
    go_wp2_with (first
      | (go_at_call 30;refine (HI.out _ sqR).mono ?_;rintro e w1 ⟨rfl,hb⟩;have qd:w1.heap[W.heap.size]?=some (.cells #[.string xn,.string xd,.int .i64 xf,.int .i64 xl,.int .i64 xs,.slice xa xk xo,.int .i64 xc,.int .i64 xi,.pointer (some ⟨b,0,none⟩)] 181 (0,0)):=(hb.block (W.heap.size) (by first|omega|(simp;try omega))).trans (by first|exact qB.out|exact Zj qB.out|exact Zj (Zj qB.out)|exact Ze _ _ rfl|exact heap_alloc2_old _ _ _|exact heap_alloc2_new _ _ _|exact Zj (Ze _ _ rfl)|exact Zj (Zj (Ze _ _ rfl))|exact Ze _ _ (by simp;done));(try clear qB qL qN q0 q1 q2 q3 q4 q5 q6 q7 q8 qf0 qf1 qf2 qf3 qf4 qf5 qf6 qf7 qf8);have qB:Hid (w1.heap[W.heap.size]?=some (.cells #[.string xn,.string xd,.int .i64 xf,.int .i64 xl,.int .i64 xs,.slice xa xk xo,.int .i64 xc,.int .i64 xi,.pointer (some ⟨b,0,none⟩)] 181 (0,0))):=qd;have q0:w1.cell? ⟨W.heap.size,0,none⟩=some (.string xn):=(cell_of_row w1 (W.heap.size) 0 _ _ _ qd).trans rfl;have qf0:=frozen_of_row w1 (W.heap.size) 0 _ _ qd;have q1:w1.cell? ⟨W.heap.size,1,none⟩=some (.string xd):=(cell_of_row w1 (W.heap.size) 1 _ _ _ qd).trans rfl;have qf1:=frozen_of_row w1 (W.heap.size) 1 _ _ qd;have q2:w1.cell? ⟨W.heap.size,2,none⟩=some (.int .i64 xf):=(cell_of_row w1 (W.heap.size) 2 _ _ _ qd).trans rfl;have qf2:=frozen_of_row w1 (W.heap.size) 2 _ _ qd;have q3:w1.cell? ⟨W.heap.size,3,none⟩=some (.int .i64 xl):=(cell_of_row w1 (W.heap.size) 3 _ _ _ qd).trans rfl;have qf3:=frozen_of_row w1 (W.heap.size) 3 _ _ qd;have q4:w1.cell? ⟨W.heap.size,4,none⟩=some (.int .i64 xs):=(cell_of_row w1 (W.heap.size) 4 _ _ _ qd).trans rfl;have qf4:=frozen_of_row w1 (W.heap.size) 4 _ _ qd;have q5:w1.cell? ⟨W.heap.size,5,none⟩=some (.slice xa xk xo):=(cell_of_row w1 (W.heap.size) 5 _ _ _ qd).trans rfl;have qf5:=frozen_of_row w1 (W.heap.size) 5 _ _ qd;have q6:w1.cell? ⟨W.heap.size,6,none⟩=some (.int .i64 xc):=(cell_of_row w1 (W.heap.size) 6 _ _ _ qd).trans rfl;have qf6:=frozen_of_row w1 (W.heap.size) 6 _ _ qd;have q7:w1.cell? ⟨W.heap.size,7,none⟩=some (.int .i64 xi):=(cell_of_row w1 (W.heap.size) 7 _ _ _ qd).trans rfl;have qf7:=frozen_of_row w1 (W.heap.size) 7 _ _ qd;have q8:w1.cell? ⟨W.heap.size,8,none⟩=some (.pointer (some ⟨b,0,none⟩)):=(cell_of_row w1 (W.heap.size) 8 _ _ _ qd).trans rfl;have qf8:=frozen_of_row w1 (W.heap.size) 8 _ _ qd;have qL:W.heap.size<w1.heap.size:=(Array.getElem?_eq_some_iff.1 qd).1;have qN:¬ W.heap.size=w1.heap.size:=(by omega);clear qd;have BB2:Below W.heap.size W w1:=Zc sqR hb;clear BB;have BB:Hid (Below W.heap.size W w1):=BB2;clear BB2 hb;clear HI)
      | (go_at_call 37;refine (HE.out _ BB.out).mono ?_;rintro e w2 ⟨rfl,hb⟩;have BB2:Below W.heap.size W w2:=Zc BB.out hb;clear BB;have BB:Hid (Below W.heap.size W w2):=BB2;clear BB2 hb;clear HE))
    all_goals go_ret
    all_goals first
      | (exfalso;rename_i hq;rw [hq] at hz;simp at hz;done)
      | (exfalso;rename_i hq;exact hq (by simpa using hz))
      | exact ⟨retB (by simp [*]),(by repeat (first|exact BB.out|exact Below.refl _ _|refine Below.setCell ?_ (by simp;try omega) _|refine Below.alloc ?_ (by have:=BB.out.size;simp;try omega) _|refine Below.drew ?_))⟩
def reaB (ps:List Plc) (c a f:Int):Bool:=if Y3 f=2 then false else if ifcI ps a then true else if Y3 f=1 then true else if Y3 f=4 then true else spI ps c a
theorem Zkb {b:Nat} {ps:List Plc} {W:World} (h:WAt b ps W) (hi:WI ps) (xn xd:ByteArray) (xf xl xs:Int) (xa:Option Addr) (xk xo:Nat) (xc xi:Int) (yn yd:ByteArray) (yf yl ys:Int) (ya:Option Addr) (yk yo:Nat) (yc yi:Int):Calls Tryz.prog 185 #[.agg #[.string xn,.string xd,.int .i64 xf,.int .i64 xl,.int .i64 xs,.slice xa xk xo,.int .i64 xc,.int .i64 xi,.pointer (some ⟨b,0,none⟩)],.agg #[.string yn,.string yd,.int .i64 yf,.int .i64 yl,.int .i64 ys,.slice ya yk yo,.int .i64 yc,.int .i64 yi,.pointer (some ⟨b,0,none⟩)]] W fun e w'=>e=.returned (.bool (reaB ps xc yc yf))∧Below W.heap.size W w':=by
  have HI:Hid (∀ w,Below W.heap.size W w→Calls Tryz.prog 30 #[.pointer (some ⟨b,0,none⟩),.int .i64 yc] w fun e w'=>e=.returned (.bool (ifcI ps yc))∧Below w.heap.size w w'):=fun w hb=>Zbi (h.below hb) yc
  have HP:Hid (∀ w,Below W.heap.size W w→Calls Tryz.prog 197 #[.pointer (some ⟨b,0,none⟩),.int .i64 xc,.int .i64 yc] w fun e w'=>e=.returned (.bool (spI ps xc yc))∧Below w.heap.size w w'):=fun w hb=>samePk_c (h.below hb) hi.nm xc yc
  have HO:Hid (∀ w:World,Calls Tryz.prog 184 #[.int .i64 yf] w fun e w'=>e=.returned (.int .i64 (Y3 yf))∧w'=w):=fun w=>open_c yf w
  have ho:=Zcp yf
  unfold reaB
  generalize ifcI ps yc=I at *
  generalize spI ps xc yc=E at *
  generalize Y3 yf=O at *
  clear h hi
  rcases ho with rfl|rfl|rfl|rfl
  all_goals cases I
  all_goals
    have BB:Hid (Below W.heap.size W W):=Below.refl _ _
    go_enter Tryz.func185,Tryz.ntmps185
    go_wp2_with (first
      | (go_at_call 184;refine (HO.out _).mono ?_;rintro e w9 ⟨rfl,hw9⟩;rw [hw9];clear hw9 w9 HO)
      | (go_at_call 30;refine (HI.out _ sqR).mono ?_;rintro e w1 ⟨rfl,hb⟩;have qd:w1.heap[W.heap.size]?=some (.cells #[.string xn,.string xd,.int .i64 xf,.int .i64 xl,.int .i64 xs,.slice xa xk xo,.int .i64 xc,.int .i64 xi,.pointer (some ⟨b,0,none⟩)] 181 (0,0)):=(hb.block (W.heap.size) (by first|omega|(simp;try omega))).trans (by first|exact qB.out|exact Zj qB.out|exact Zj (Zj qB.out)|exact Ze _ _ rfl|exact heap_alloc2_old _ _ _|exact heap_alloc2_new _ _ _|exact Zj (Ze _ _ rfl)|exact Zj (Zj (Ze _ _ rfl))|exact Ze _ _ (by simp;done));(try clear qB qL qN q0 q1 q2 q3 q4 q5 q6 q7 q8 qf0 qf1 qf2 qf3 qf4 qf5 qf6 qf7 qf8);have qB:Hid (w1.heap[W.heap.size]?=some (.cells #[.string xn,.string xd,.int .i64 xf,.int .i64 xl,.int .i64 xs,.slice xa xk xo,.int .i64 xc,.int .i64 xi,.pointer (some ⟨b,0,none⟩)] 181 (0,0))):=qd;have q0:w1.cell? ⟨W.heap.size,0,none⟩=some (.string xn):=(cell_of_row w1 (W.heap.size) 0 _ _ _ qd).trans rfl;have qf0:=frozen_of_row w1 (W.heap.size) 0 _ _ qd;have q1:w1.cell? ⟨W.heap.size,1,none⟩=some (.string xd):=(cell_of_row w1 (W.heap.size) 1 _ _ _ qd).trans rfl;have qf1:=frozen_of_row w1 (W.heap.size) 1 _ _ qd;have q2:w1.cell? ⟨W.heap.size,2,none⟩=some (.int .i64 xf):=(cell_of_row w1 (W.heap.size) 2 _ _ _ qd).trans rfl;have qf2:=frozen_of_row w1 (W.heap.size) 2 _ _ qd;have q3:w1.cell? ⟨W.heap.size,3,none⟩=some (.int .i64 xl):=(cell_of_row w1 (W.heap.size) 3 _ _ _ qd).trans rfl;have qf3:=frozen_of_row w1 (W.heap.size) 3 _ _ qd;have q4:w1.cell? ⟨W.heap.size,4,none⟩=some (.int .i64 xs):=(cell_of_row w1 (W.heap.size) 4 _ _ _ qd).trans rfl;have qf4:=frozen_of_row w1 (W.heap.size) 4 _ _ qd;have q5:w1.cell? ⟨W.heap.size,5,none⟩=some (.slice xa xk xo):=(cell_of_row w1 (W.heap.size) 5 _ _ _ qd).trans rfl;have qf5:=frozen_of_row w1 (W.heap.size) 5 _ _ qd;have q6:w1.cell? ⟨W.heap.size,6,none⟩=some (.int .i64 xc):=(cell_of_row w1 (W.heap.size) 6 _ _ _ qd).trans rfl;have qf6:=frozen_of_row w1 (W.heap.size) 6 _ _ qd;have q7:w1.cell? ⟨W.heap.size,7,none⟩=some (.int .i64 xi):=(cell_of_row w1 (W.heap.size) 7 _ _ _ qd).trans rfl;have qf7:=frozen_of_row w1 (W.heap.size) 7 _ _ qd;have q8:w1.cell? ⟨W.heap.size,8,none⟩=some (.pointer (some ⟨b,0,none⟩)):=(cell_of_row w1 (W.heap.size) 8 _ _ _ qd).trans rfl;have qf8:=frozen_of_row w1 (W.heap.size) 8 _ _ qd;have qL:W.heap.size<w1.heap.size:=(Array.getElem?_eq_some_iff.1 qd).1;have qN:¬ W.heap.size=w1.heap.size:=(by omega);clear qd;have rd:w1.heap[W.heap.size+1]?=some (.cells #[.string yn,.string yd,.int .i64 yf,.int .i64 yl,.int .i64 ys,.slice ya yk yo,.int .i64 yc,.int .i64 yi,.pointer (some ⟨b,0,none⟩)] 181 (0,0)):=(hb.block (W.heap.size+1) (by first|omega|(simp;try omega))).trans (by first|exact rB.out|exact Zj rB.out|exact Zj (Zj rB.out)|exact Ze _ _ rfl|exact heap_alloc2_old _ _ _|exact heap_alloc2_new _ _ _|exact Zj (Ze _ _ rfl)|exact Zj (Zj (Ze _ _ rfl))|exact Ze _ _ (by simp;done));(try clear rB rL rN r0 r1 r2 r3 r4 r5 r6 r7 r8 rf0 rf1 rf2 rf3 rf4 rf5 rf6 rf7 rf8);have rB:Hid (w1.heap[W.heap.size+1]?=some (.cells #[.string yn,.string yd,.int .i64 yf,.int .i64 yl,.int .i64 ys,.slice ya yk yo,.int .i64 yc,.int .i64 yi,.pointer (some ⟨b,0,none⟩)] 181 (0,0))):=rd;have r0:w1.cell? ⟨W.heap.size+1,0,none⟩=some (.string yn):=(cell_of_row w1 (W.heap.size+1) 0 _ _ _ rd).trans rfl;have rf0:=frozen_of_row w1 (W.heap.size+1) 0 _ _ rd;have r1:w1.cell? ⟨W.heap.size+1,1,none⟩=some (.string yd):=(cell_of_row w1 (W.heap.size+1) 1 _ _ _ rd).trans rfl;have rf1:=frozen_of_row w1 (W.heap.size+1) 1 _ _ rd;have r2:w1.cell? ⟨W.heap.size+1,2,none⟩=some (.int .i64 yf):=(cell_of_row w1 (W.heap.size+1) 2 _ _ _ rd).trans rfl;have rf2:=frozen_of_row w1 (W.heap.size+1) 2 _ _ rd;have r3:w1.cell? ⟨W.heap.size+1,3,none⟩=some (.int .i64 yl):=(cell_of_row w1 (W.heap.size+1) 3 _ _ _ rd).trans rfl;have rf3:=frozen_of_row w1 (W.heap.size+1) 3 _ _ rd;have r4:w1.cell? ⟨W.heap.size+1,4,none⟩=some (.int .i64 ys):=(cell_of_row w1 (W.heap.size+1) 4 _ _ _ rd).trans rfl;have rf4:=frozen_of_row w1 (W.heap.size+1) 4 _ _ rd;have r5:w1.cell? ⟨W.heap.size+1,5,none⟩=some (.slice ya yk yo):=(cell_of_row w1 (W.heap.size+1) 5 _ _ _ rd).trans rfl;have rf5:=frozen_of_row w1 (W.heap.size+1) 5 _ _ rd;have r6:w1.cell? ⟨W.heap.size+1,6,none⟩=some (.int .i64 yc):=(cell_of_row w1 (W.heap.size+1) 6 _ _ _ rd).trans rfl;have rf6:=frozen_of_row w1 (W.heap.size+1) 6 _ _ rd;have r7:w1.cell? ⟨W.heap.size+1,7,none⟩=some (.int .i64 yi):=(cell_of_row w1 (W.heap.size+1) 7 _ _ _ rd).trans rfl;have rf7:=frozen_of_row w1 (W.heap.size+1) 7 _ _ rd;have r8:w1.cell? ⟨W.heap.size+1,8,none⟩=some (.pointer (some ⟨b,0,none⟩)):=(cell_of_row w1 (W.heap.size+1) 8 _ _ _ rd).trans rfl;have rf8:=frozen_of_row w1 (W.heap.size+1) 8 _ _ rd;have rL:W.heap.size+1<w1.heap.size:=(Array.getElem?_eq_some_iff.1 rd).1;have rN:¬ W.heap.size+1=w1.heap.size:=(by omega);clear rd;have BB2:Below W.heap.size W w1:=Zc sqR hb;clear BB;have BB:Hid (Below W.heap.size W w1):=BB2;clear BB2 hb;clear HI)
      | (go_at_call 197;refine (HP.out _ BB.out).mono ?_;rintro e w2 ⟨rfl,hb⟩;have BB2:Below W.heap.size W w2:=Zc BB.out hb;clear BB;have BB:Hid (Below W.heap.size W w2):=BB2;clear BB2 hb;clear HP))
    all_goals go_ret
    all_goals exact ⟨retB (by simp [*]),(by repeat (first|exact BB.out|exact Below.refl _ _|refine Below.setCell ?_ (by simp;try omega) _|refine Below.alloc ?_ (by have:=BB.out.size;simp;try omega) _|refine Below.drew ?_))⟩
def plnB (ps:List Plc) (xn xd:ByteArray) (xf xc:Int) (yn yd:ByteArray) (yf yc:Int):Bool:=freB xf xn&&freB yf yn&&(xn.toList == yn.toList)&&(xd.toList == yd.toList)&&bloB ps xc yc&&!(Y3 xf == 2)&&reaB ps xc yc yf
theorem plain_c {b:Nat} {ps:List Plc} {W:World} (h:WAt b ps W) (hi:WI ps) (xn xd:ByteArray) (xf xl xs:Int) (xa:Option Addr) (xk xo:Nat) (xc xi:Int) (yn yd:ByteArray) (yf yl ys:Int) (ya:Option Addr) (yk yo:Nat) (yc yi:Int):Calls Tryz.prog 170 #[.agg #[.string xn,.string xd,.int .i64 xf,.int .i64 xl,.int .i64 xs,.slice xa xk xo,.int .i64 xc,.int .i64 xi,.pointer (some ⟨b,0,none⟩)],.agg #[.string yn,.string yd,.int .i64 yf,.int .i64 yl,.int .i64 ys,.slice ya yk yo,.int .i64 yc,.int .i64 yi,.pointer (some ⟨b,0,none⟩)]] W fun e w'=>e=.returned (.bool (plnB ps xn xd xf xc yn yd yf yc))∧Below W.heap.size W w':=by
  have HF:Hid (∀ w:World,Calls Tryz.prog 182 #[.agg #[.string xn,.string xd,.int .i64 xf,.int .i64 xl,.int .i64 xs,.slice xa xk xo,.int .i64 xc,.int .i64 xi,.pointer (some ⟨b,0,none⟩)]] w fun e w'=>e=.returned (.bool (freB xf xn))∧Below w.heap.size w w'):=fun w=>Zhy b xn xd xf xl xs xa xk xo xc xi w
  have HG:Hid (∀ w:World,Calls Tryz.prog 182 #[.agg #[.string yn,.string yd,.int .i64 yf,.int .i64 yl,.int .i64 ys,.slice ya yk yo,.int .i64 yc,.int .i64 yi,.pointer (some ⟨b,0,none⟩)]] w fun e w'=>e=.returned (.bool (freB yf yn))∧Below w.heap.size w w'):=fun w=>Zhy b yn yd yf yl ys ya yk yo yc yi w
  have HL:Hid (∀ w,Below W.heap.size W w→Calls Tryz.prog 183 #[.agg #[.string xn,.string xd,.int .i64 xf,.int .i64 xl,.int .i64 xs,.slice xa xk xo,.int .i64 xc,.int .i64 xi,.pointer (some ⟨b,0,none⟩)],.agg #[.string yn,.string yd,.int .i64 yf,.int .i64 yl,.int .i64 ys,.slice ya yk yo,.int .i64 yc,.int .i64 yi,.pointer (some ⟨b,0,none⟩)]] w fun e w'=>e=.returned (.bool (bloB ps xc yc))∧Below w.heap.size w w'):=fun w hb=>Zk6 (h.below hb) hi xn xd xf xl xs xa xk xo xc xi yn yd yf yl ys ya yk yo yc yi
  have HR:Hid (∀ w,Below W.heap.size W w→Calls Tryz.prog 185 #[.agg #[.string xn,.string xd,.int .i64 xf,.int .i64 xl,.int .i64 xs,.slice xa xk xo,.int .i64 xc,.int .i64 xi,.pointer (some ⟨b,0,none⟩)],.agg #[.string yn,.string yd,.int .i64 yf,.int .i64 yl,.int .i64 ys,.slice ya yk yo,.int .i64 yc,.int .i64 yi,.pointer (some ⟨b,0,none⟩)]] w fun e w'=>e=.returned (.bool (reaB ps xc yc yf))∧Below w.heap.size w w'):=fun w hb=>Zkb (h.below hb) hi xn xd xf xl xs xa xk xo xc xi yn yd yf yl ys ya yk yo yc yi
  have HO:Hid (∀ w:World,Calls Tryz.prog 184 #[.int .i64 xf] w fun e w'=>e=.returned (.int .i64 (Y3 xf))∧w'=w):=fun w=>open_c xf w
  unfold plnB
  generalize freB xf xn=A1 at *
  generalize freB yf yn=A2 at *
  generalize bloB ps xc yc=A3 at *
  generalize reaB ps xc yc yf=A4 at *
  generalize Y3 xf=O at *
  clear h hi
  cases A1
  case' true=>cases A2
  case' true.true=>cases hn:(xn.toList == yn.toList)
  case' true.true.true=>cases hd:(xd.toList == yd.toList)
  case' true.true.true.true=>cases A3
  case' true.true.true.true.true=>cases ho:(O == 2)
  all_goals
    have BB:Hid (Below W.heap.size W W):=Below.refl _ _
    go_enter Tryz.func170,Tryz.ntmps170
    go_wp2_with (first
      | (go_at_call 182;refine (HF.out _).mono ?_;rintro e w1 ⟨rfl,hb⟩;have qd:w1.heap[W.heap.size]?=some (.cells #[.string xn,.string xd,.int .i64 xf,.int .i64 xl,.int .i64 xs,.slice xa xk xo,.int .i64 xc,.int .i64 xi,.pointer (some ⟨b,0,none⟩)] 181 (0,0)):=(hb.block (W.heap.size) (by first|omega|(simp;try omega))).trans (by first|exact qB.out|exact Zj qB.out|exact Zj (Zj qB.out)|exact Ze _ _ rfl|exact heap_alloc2_old _ _ _|exact heap_alloc2_new _ _ _|exact Zj (Ze _ _ rfl)|exact Zj (Zj (Ze _ _ rfl))|exact Ze _ _ (by simp;done));(try clear qB qL qN q0 q1 q2 q3 q4 q5 q6 q7 q8 qf0 qf1 qf2 qf3 qf4 qf5 qf6 qf7 qf8);have qB:Hid (w1.heap[W.heap.size]?=some (.cells #[.string xn,.string xd,.int .i64 xf,.int .i64 xl,.int .i64 xs,.slice xa xk xo,.int .i64 xc,.int .i64 xi,.pointer (some ⟨b,0,none⟩)] 181 (0,0))):=qd;have q0:w1.cell? ⟨W.heap.size,0,none⟩=some (.string xn):=(cell_of_row w1 (W.heap.size) 0 _ _ _ qd).trans rfl;have qf0:=frozen_of_row w1 (W.heap.size) 0 _ _ qd;have q1:w1.cell? ⟨W.heap.size,1,none⟩=some (.string xd):=(cell_of_row w1 (W.heap.size) 1 _ _ _ qd).trans rfl;have qf1:=frozen_of_row w1 (W.heap.size) 1 _ _ qd;have q2:w1.cell? ⟨W.heap.size,2,none⟩=some (.int .i64 xf):=(cell_of_row w1 (W.heap.size) 2 _ _ _ qd).trans rfl;have qf2:=frozen_of_row w1 (W.heap.size) 2 _ _ qd;have q3:w1.cell? ⟨W.heap.size,3,none⟩=some (.int .i64 xl):=(cell_of_row w1 (W.heap.size) 3 _ _ _ qd).trans rfl;have qf3:=frozen_of_row w1 (W.heap.size) 3 _ _ qd;have q4:w1.cell? ⟨W.heap.size,4,none⟩=some (.int .i64 xs):=(cell_of_row w1 (W.heap.size) 4 _ _ _ qd).trans rfl;have qf4:=frozen_of_row w1 (W.heap.size) 4 _ _ qd;have q5:w1.cell? ⟨W.heap.size,5,none⟩=some (.slice xa xk xo):=(cell_of_row w1 (W.heap.size) 5 _ _ _ qd).trans rfl;have qf5:=frozen_of_row w1 (W.heap.size) 5 _ _ qd;have q6:w1.cell? ⟨W.heap.size,6,none⟩=some (.int .i64 xc):=(cell_of_row w1 (W.heap.size) 6 _ _ _ qd).trans rfl;have qf6:=frozen_of_row w1 (W.heap.size) 6 _ _ qd;have q7:w1.cell? ⟨W.heap.size,7,none⟩=some (.int .i64 xi):=(cell_of_row w1 (W.heap.size) 7 _ _ _ qd).trans rfl;have qf7:=frozen_of_row w1 (W.heap.size) 7 _ _ qd;have q8:w1.cell? ⟨W.heap.size,8,none⟩=some (.pointer (some ⟨b,0,none⟩)):=(cell_of_row w1 (W.heap.size) 8 _ _ _ qd).trans rfl;have qf8:=frozen_of_row w1 (W.heap.size) 8 _ _ qd;have qL:W.heap.size<w1.heap.size:=(Array.getElem?_eq_some_iff.1 qd).1;have qN:¬ W.heap.size=w1.heap.size:=(by omega);clear qd;have rd:w1.heap[W.heap.size+1]?=some (.cells #[.string yn,.string yd,.int .i64 yf,.int .i64 yl,.int .i64 ys,.slice ya yk yo,.int .i64 yc,.int .i64 yi,.pointer (some ⟨b,0,none⟩)] 181 (0,0)):=(hb.block (W.heap.size+1) (by first|omega|(simp;try omega))).trans (by first|exact rB.out|exact Zj rB.out|exact Zj (Zj rB.out)|exact Ze _ _ rfl|exact heap_alloc2_old _ _ _|exact heap_alloc2_new _ _ _|exact Zj (Ze _ _ rfl)|exact Zj (Zj (Ze _ _ rfl))|exact Ze _ _ (by simp;done));(try clear rB rL rN r0 r1 r2 r3 r4 r5 r6 r7 r8 rf0 rf1 rf2 rf3 rf4 rf5 rf6 rf7 rf8);have rB:Hid (w1.heap[W.heap.size+1]?=some (.cells #[.string yn,.string yd,.int .i64 yf,.int .i64 yl,.int .i64 ys,.slice ya yk yo,.int .i64 yc,.int .i64 yi,.pointer (some ⟨b,0,none⟩)] 181 (0,0))):=rd;have r0:w1.cell? ⟨W.heap.size+1,0,none⟩=some (.string yn):=(cell_of_row w1 (W.heap.size+1) 0 _ _ _ rd).trans rfl;have rf0:=frozen_of_row w1 (W.heap.size+1) 0 _ _ rd;have r1:w1.cell? ⟨W.heap.size+1,1,none⟩=some (.string yd):=(cell_of_row w1 (W.heap.size+1) 1 _ _ _ rd).trans rfl;have rf1:=frozen_of_row w1 (W.heap.size+1) 1 _ _ rd;have r2:w1.cell? ⟨W.heap.size+1,2,none⟩=some (.int .i64 yf):=(cell_of_row w1 (W.heap.size+1) 2 _ _ _ rd).trans rfl;have rf2:=frozen_of_row w1 (W.heap.size+1) 2 _ _ rd;have r3:w1.cell? ⟨W.heap.size+1,3,none⟩=some (.int .i64 yl):=(cell_of_row w1 (W.heap.size+1) 3 _ _ _ rd).trans rfl;have rf3:=frozen_of_row w1 (W.heap.size+1) 3 _ _ rd;have r4:w1.cell? ⟨W.heap.size+1,4,none⟩=some (.int .i64 ys):=(cell_of_row w1 (W.heap.size+1) 4 _ _ _ rd).trans rfl;have rf4:=frozen_of_row w1 (W.heap.size+1) 4 _ _ rd;have r5:w1.cell? ⟨W.heap.size+1,5,none⟩=some (.slice ya yk yo):=(cell_of_row w1 (W.heap.size+1) 5 _ _ _ rd).trans rfl;have rf5:=frozen_of_row w1 (W.heap.size+1) 5 _ _ rd;have r6:w1.cell? ⟨W.heap.size+1,6,none⟩=some (.int .i64 yc):=(cell_of_row w1 (W.heap.size+1) 6 _ _ _ rd).trans rfl;have rf6:=frozen_of_row w1 (W.heap.size+1) 6 _ _ rd;have r7:w1.cell? ⟨W.heap.size+1,7,none⟩=some (.int .i64 yi):=(cell_of_row w1 (W.heap.size+1) 7 _ _ _ rd).trans rfl;have rf7:=frozen_of_row w1 (W.heap.size+1) 7 _ _ rd;have r8:w1.cell? ⟨W.heap.size+1,8,none⟩=some (.pointer (some ⟨b,0,none⟩)):=(cell_of_row w1 (W.heap.size+1) 8 _ _ _ rd).trans rfl;have rf8:=frozen_of_row w1 (W.heap.size+1) 8 _ _ rd;have rL:W.heap.size+1<w1.heap.size:=(Array.getElem?_eq_some_iff.1 rd).1;have rN:¬ W.heap.size+1=w1.heap.size:=(by omega);clear rd;have BB2:Below W.heap.size W w1:=Zc sqR hb;clear BB;have BB:Hid (Below W.heap.size W w1):=BB2;clear BB2 hb;clear HF)
      | (go_at_call 182;refine (HG.out _).mono ?_;rintro e w2 ⟨rfl,hb⟩;have qd:w2.heap[W.heap.size]?=some (.cells #[.string xn,.string xd,.int .i64 xf,.int .i64 xl,.int .i64 xs,.slice xa xk xo,.int .i64 xc,.int .i64 xi,.pointer (some ⟨b,0,none⟩)] 181 (0,0)):=(hb.block (W.heap.size) (by first|omega|(simp;try omega))).trans (by first|exact qB.out|exact Zj qB.out|exact Zj (Zj qB.out)|exact Ze _ _ rfl|exact heap_alloc2_old _ _ _|exact heap_alloc2_new _ _ _|exact Zj (Ze _ _ rfl)|exact Zj (Zj (Ze _ _ rfl))|exact Ze _ _ (by simp;done));(try clear qB qL qN q0 q1 q2 q3 q4 q5 q6 q7 q8 qf0 qf1 qf2 qf3 qf4 qf5 qf6 qf7 qf8);have qB:Hid (w2.heap[W.heap.size]?=some (.cells #[.string xn,.string xd,.int .i64 xf,.int .i64 xl,.int .i64 xs,.slice xa xk xo,.int .i64 xc,.int .i64 xi,.pointer (some ⟨b,0,none⟩)] 181 (0,0))):=qd;have q0:w2.cell? ⟨W.heap.size,0,none⟩=some (.string xn):=(cell_of_row w2 (W.heap.size) 0 _ _ _ qd).trans rfl;have qf0:=frozen_of_row w2 (W.heap.size) 0 _ _ qd;have q1:w2.cell? ⟨W.heap.size,1,none⟩=some (.string xd):=(cell_of_row w2 (W.heap.size) 1 _ _ _ qd).trans rfl;have qf1:=frozen_of_row w2 (W.heap.size) 1 _ _ qd;have q2:w2.cell? ⟨W.heap.size,2,none⟩=some (.int .i64 xf):=(cell_of_row w2 (W.heap.size) 2 _ _ _ qd).trans rfl;have qf2:=frozen_of_row w2 (W.heap.size) 2 _ _ qd;have q3:w2.cell? ⟨W.heap.size,3,none⟩=some (.int .i64 xl):=(cell_of_row w2 (W.heap.size) 3 _ _ _ qd).trans rfl;have qf3:=frozen_of_row w2 (W.heap.size) 3 _ _ qd;have q4:w2.cell? ⟨W.heap.size,4,none⟩=some (.int .i64 xs):=(cell_of_row w2 (W.heap.size) 4 _ _ _ qd).trans rfl;have qf4:=frozen_of_row w2 (W.heap.size) 4 _ _ qd;have q5:w2.cell? ⟨W.heap.size,5,none⟩=some (.slice xa xk xo):=(cell_of_row w2 (W.heap.size) 5 _ _ _ qd).trans rfl;have qf5:=frozen_of_row w2 (W.heap.size) 5 _ _ qd;have q6:w2.cell? ⟨W.heap.size,6,none⟩=some (.int .i64 xc):=(cell_of_row w2 (W.heap.size) 6 _ _ _ qd).trans rfl;have qf6:=frozen_of_row w2 (W.heap.size) 6 _ _ qd;have q7:w2.cell? ⟨W.heap.size,7,none⟩=some (.int .i64 xi):=(cell_of_row w2 (W.heap.size) 7 _ _ _ qd).trans rfl;have qf7:=frozen_of_row w2 (W.heap.size) 7 _ _ qd;have q8:w2.cell? ⟨W.heap.size,8,none⟩=some (.pointer (some ⟨b,0,none⟩)):=(cell_of_row w2 (W.heap.size) 8 _ _ _ qd).trans rfl;have qf8:=frozen_of_row w2 (W.heap.size) 8 _ _ qd;have qL:W.heap.size<w2.heap.size:=(Array.getElem?_eq_some_iff.1 qd).1;have qN:¬ W.heap.size=w2.heap.size:=(by omega);clear qd;have rd:w2.heap[W.heap.size+1]?=some (.cells #[.string yn,.string yd,.int .i64 yf,.int .i64 yl,.int .i64 ys,.slice ya yk yo,.int .i64 yc,.int .i64 yi,.pointer (some ⟨b,0,none⟩)] 181 (0,0)):=(hb.block (W.heap.size+1) (by first|omega|(simp;try omega))).trans (by first|exact rB.out|exact Zj rB.out|exact Zj (Zj rB.out)|exact Ze _ _ rfl|exact heap_alloc2_old _ _ _|exact heap_alloc2_new _ _ _|exact Zj (Ze _ _ rfl)|exact Zj (Zj (Ze _ _ rfl))|exact Ze _ _ (by simp;done));(try clear rB rL rN r0 r1 r2 r3 r4 r5 r6 r7 r8 rf0 rf1 rf2 rf3 rf4 rf5 rf6 rf7 rf8);have rB:Hid (w2.heap[W.heap.size+1]?=some (.cells #[.string yn,.string yd,.int .i64 yf,.int .i64 yl,.int .i64 ys,.slice ya yk yo,.int .i64 yc,.int .i64 yi,.pointer (some ⟨b,0,none⟩)] 181 (0,0))):=rd;have r0:w2.cell? ⟨W.heap.size+1,0,none⟩=some (.string yn):=(cell_of_row w2 (W.heap.size+1) 0 _ _ _ rd).trans rfl;have rf0:=frozen_of_row w2 (W.heap.size+1) 0 _ _ rd;have r1:w2.cell? ⟨W.heap.size+1,1,none⟩=some (.string yd):=(cell_of_row w2 (W.heap.size+1) 1 _ _ _ rd).trans rfl;have rf1:=frozen_of_row w2 (W.heap.size+1) 1 _ _ rd;have r2:w2.cell? ⟨W.heap.size+1,2,none⟩=some (.int .i64 yf):=(cell_of_row w2 (W.heap.size+1) 2 _ _ _ rd).trans rfl;have rf2:=frozen_of_row w2 (W.heap.size+1) 2 _ _ rd;have r3:w2.cell? ⟨W.heap.size+1,3,none⟩=some (.int .i64 yl):=(cell_of_row w2 (W.heap.size+1) 3 _ _ _ rd).trans rfl;have rf3:=frozen_of_row w2 (W.heap.size+1) 3 _ _ rd;have r4:w2.cell? ⟨W.heap.size+1,4,none⟩=some (.int .i64 ys):=(cell_of_row w2 (W.heap.size+1) 4 _ _ _ rd).trans rfl;have rf4:=frozen_of_row w2 (W.heap.size+1) 4 _ _ rd;have r5:w2.cell? ⟨W.heap.size+1,5,none⟩=some (.slice ya yk yo):=(cell_of_row w2 (W.heap.size+1) 5 _ _ _ rd).trans rfl;have rf5:=frozen_of_row w2 (W.heap.size+1) 5 _ _ rd;have r6:w2.cell? ⟨W.heap.size+1,6,none⟩=some (.int .i64 yc):=(cell_of_row w2 (W.heap.size+1) 6 _ _ _ rd).trans rfl;have rf6:=frozen_of_row w2 (W.heap.size+1) 6 _ _ rd;have r7:w2.cell? ⟨W.heap.size+1,7,none⟩=some (.int .i64 yi):=(cell_of_row w2 (W.heap.size+1) 7 _ _ _ rd).trans rfl;have rf7:=frozen_of_row w2 (W.heap.size+1) 7 _ _ rd;have r8:w2.cell? ⟨W.heap.size+1,8,none⟩=some (.pointer (some ⟨b,0,none⟩)):=(cell_of_row w2 (W.heap.size+1) 8 _ _ _ rd).trans rfl;have rf8:=frozen_of_row w2 (W.heap.size+1) 8 _ _ rd;have rL:W.heap.size+1<w2.heap.size:=(Array.getElem?_eq_some_iff.1 rd).1;have rN:¬ W.heap.size+1=w2.heap.size:=(by omega);clear rd;have BB2:Below W.heap.size W w2:=Zc BB.out hb;clear BB;have BB:Hid (Below W.heap.size W w2):=BB2;clear BB2 hb;clear HG)
      | (go_at_call 183;refine (HL.out _ BB.out).mono ?_;rintro e w3 ⟨rfl,hb⟩;have qd:w3.heap[W.heap.size]?=some (.cells #[.string xn,.string xd,.int .i64 xf,.int .i64 xl,.int .i64 xs,.slice xa xk xo,.int .i64 xc,.int .i64 xi,.pointer (some ⟨b,0,none⟩)] 181 (0,0)):=(hb.block (W.heap.size) (by first|omega|(simp;try omega))).trans (by first|exact qB.out|exact Zj qB.out|exact Zj (Zj qB.out)|exact Ze _ _ rfl|exact heap_alloc2_old _ _ _|exact heap_alloc2_new _ _ _|exact Zj (Ze _ _ rfl)|exact Zj (Zj (Ze _ _ rfl))|exact Ze _ _ (by simp;done));(try clear qB qL qN q0 q1 q2 q3 q4 q5 q6 q7 q8 qf0 qf1 qf2 qf3 qf4 qf5 qf6 qf7 qf8);have qB:Hid (w3.heap[W.heap.size]?=some (.cells #[.string xn,.string xd,.int .i64 xf,.int .i64 xl,.int .i64 xs,.slice xa xk xo,.int .i64 xc,.int .i64 xi,.pointer (some ⟨b,0,none⟩)] 181 (0,0))):=qd;have q0:w3.cell? ⟨W.heap.size,0,none⟩=some (.string xn):=(cell_of_row w3 (W.heap.size) 0 _ _ _ qd).trans rfl;have qf0:=frozen_of_row w3 (W.heap.size) 0 _ _ qd;have q1:w3.cell? ⟨W.heap.size,1,none⟩=some (.string xd):=(cell_of_row w3 (W.heap.size) 1 _ _ _ qd).trans rfl;have qf1:=frozen_of_row w3 (W.heap.size) 1 _ _ qd;have q2:w3.cell? ⟨W.heap.size,2,none⟩=some (.int .i64 xf):=(cell_of_row w3 (W.heap.size) 2 _ _ _ qd).trans rfl;have qf2:=frozen_of_row w3 (W.heap.size) 2 _ _ qd;have q3:w3.cell? ⟨W.heap.size,3,none⟩=some (.int .i64 xl):=(cell_of_row w3 (W.heap.size) 3 _ _ _ qd).trans rfl;have qf3:=frozen_of_row w3 (W.heap.size) 3 _ _ qd;have q4:w3.cell? ⟨W.heap.size,4,none⟩=some (.int .i64 xs):=(cell_of_row w3 (W.heap.size) 4 _ _ _ qd).trans rfl;have qf4:=frozen_of_row w3 (W.heap.size) 4 _ _ qd;have q5:w3.cell? ⟨W.heap.size,5,none⟩=some (.slice xa xk xo):=(cell_of_row w3 (W.heap.size) 5 _ _ _ qd).trans rfl;have qf5:=frozen_of_row w3 (W.heap.size) 5 _ _ qd;have q6:w3.cell? ⟨W.heap.size,6,none⟩=some (.int .i64 xc):=(cell_of_row w3 (W.heap.size) 6 _ _ _ qd).trans rfl;have qf6:=frozen_of_row w3 (W.heap.size) 6 _ _ qd;have q7:w3.cell? ⟨W.heap.size,7,none⟩=some (.int .i64 xi):=(cell_of_row w3 (W.heap.size) 7 _ _ _ qd).trans rfl;have qf7:=frozen_of_row w3 (W.heap.size) 7 _ _ qd;have q8:w3.cell? ⟨W.heap.size,8,none⟩=some (.pointer (some ⟨b,0,none⟩)):=(cell_of_row w3 (W.heap.size) 8 _ _ _ qd).trans rfl;have qf8:=frozen_of_row w3 (W.heap.size) 8 _ _ qd;have qL:W.heap.size<w3.heap.size:=(Array.getElem?_eq_some_iff.1 qd).1;have qN:¬ W.heap.size=w3.heap.size:=(by omega);clear qd;have rd:w3.heap[W.heap.size+1]?=some (.cells #[.string yn,.string yd,.int .i64 yf,.int .i64 yl,.int .i64 ys,.slice ya yk yo,.int .i64 yc,.int .i64 yi,.pointer (some ⟨b,0,none⟩)] 181 (0,0)):=(hb.block (W.heap.size+1) (by first|omega|(simp;try omega))).trans (by first|exact rB.out|exact Zj rB.out|exact Zj (Zj rB.out)|exact Ze _ _ rfl|exact heap_alloc2_old _ _ _|exact heap_alloc2_new _ _ _|exact Zj (Ze _ _ rfl)|exact Zj (Zj (Ze _ _ rfl))|exact Ze _ _ (by simp;done));(try clear rB rL rN r0 r1 r2 r3 r4 r5 r6 r7 r8 rf0 rf1 rf2 rf3 rf4 rf5 rf6 rf7 rf8);have rB:Hid (w3.heap[W.heap.size+1]?=some (.cells #[.string yn,.string yd,.int .i64 yf,.int .i64 yl,.int .i64 ys,.slice ya yk yo,.int .i64 yc,.int .i64 yi,.pointer (some ⟨b,0,none⟩)] 181 (0,0))):=rd;have r0:w3.cell? ⟨W.heap.size+1,0,none⟩=some (.string yn):=(cell_of_row w3 (W.heap.size+1) 0 _ _ _ rd).trans rfl;have rf0:=frozen_of_row w3 (W.heap.size+1) 0 _ _ rd;have r1:w3.cell? ⟨W.heap.size+1,1,none⟩=some (.string yd):=(cell_of_row w3 (W.heap.size+1) 1 _ _ _ rd).trans rfl;have rf1:=frozen_of_row w3 (W.heap.size+1) 1 _ _ rd;have r2:w3.cell? ⟨W.heap.size+1,2,none⟩=some (.int .i64 yf):=(cell_of_row w3 (W.heap.size+1) 2 _ _ _ rd).trans rfl;have rf2:=frozen_of_row w3 (W.heap.size+1) 2 _ _ rd;have r3:w3.cell? ⟨W.heap.size+1,3,none⟩=some (.int .i64 yl):=(cell_of_row w3 (W.heap.size+1) 3 _ _ _ rd).trans rfl;have rf3:=frozen_of_row w3 (W.heap.size+1) 3 _ _ rd;have r4:w3.cell? ⟨W.heap.size+1,4,none⟩=some (.int .i64 ys):=(cell_of_row w3 (W.heap.size+1) 4 _ _ _ rd).trans rfl;have rf4:=frozen_of_row w3 (W.heap.size+1) 4 _ _ rd;have r5:w3.cell? ⟨W.heap.size+1,5,none⟩=some (.slice ya yk yo):=(cell_of_row w3 (W.heap.size+1) 5 _ _ _ rd).trans rfl;have rf5:=frozen_of_row w3 (W.heap.size+1) 5 _ _ rd;have r6:w3.cell? ⟨W.heap.size+1,6,none⟩=some (.int .i64 yc):=(cell_of_row w3 (W.heap.size+1) 6 _ _ _ rd).trans rfl;have rf6:=frozen_of_row w3 (W.heap.size+1) 6 _ _ rd;have r7:w3.cell? ⟨W.heap.size+1,7,none⟩=some (.int .i64 yi):=(cell_of_row w3 (W.heap.size+1) 7 _ _ _ rd).trans rfl;have rf7:=frozen_of_row w3 (W.heap.size+1) 7 _ _ rd;have r8:w3.cell? ⟨W.heap.size+1,8,none⟩=some (.pointer (some ⟨b,0,none⟩)):=(cell_of_row w3 (W.heap.size+1) 8 _ _ _ rd).trans rfl;have rf8:=frozen_of_row w3 (W.heap.size+1) 8 _ _ rd;have rL:W.heap.size+1<w3.heap.size:=(Array.getElem?_eq_some_iff.1 rd).1;have rN:¬ W.heap.size+1=w3.heap.size:=(by omega);clear rd;have BB2:Below W.heap.size W w3:=Zc BB.out hb;clear BB;have BB:Hid (Below W.heap.size W w3):=BB2;clear BB2 hb;clear HL)
      | (go_at_call 184;refine (HO.out _).mono ?_;rintro e w9 ⟨rfl,hw9⟩;rw [hw9];clear hw9 w9 HO)
      | (go_at_call 185;refine (HR.out _ BB.out).mono ?_;rintro e w4 ⟨rfl,hb⟩;have BB2:Below W.heap.size W w4:=Zc BB.out hb;clear BB;have BB:Hid (Below W.heap.size W w4):=BB2;clear BB2 hb;clear HR))
    all_goals go_ret
    all_goals exact ⟨retB (by simp [*]),(by repeat (first|exact BB.out|exact Below.refl _ _|refine Below.setCell ?_ (by simp;try omega) _|refine Below.alloc ?_ (by have:=BB.out.size;simp;try omega) _|refine Below.drew ?_))⟩
structure P9 where
  nm:ByteArray
  ds:ByteArray
  fl:Int
  lo:Int
  st:Int
  sa:Option Addr
  sk:Nat
  so:Nat
  c:Int
  i:Int
def P9.id (x:P9):Int×Int:=(x.c,x.i)
def P9.cells (b:Nat) (x:P9):List Value:=[.string x.nm,.string x.ds,.int .i64 x.fl,.int .i64 x.lo,.int .i64 x.st,.slice x.sa x.sk x.so,.int .i64 x.c,.int .i64 x.i,.pointer (some ⟨b,0,none⟩)]
def P9.agg (b:Nat) (x:P9):Value:=.agg #[.string x.nm,.string x.ds,.int .i64 x.fl,.int .i64 x.lo,.int .i64 x.st,.slice x.sa x.sk x.so,.int .i64 x.c,.int .i64 x.i,.pointer (some ⟨b,0,none⟩)]
def Zu (b:Nat) (l:List P9):List Value:=l.flatMap (P9.cells b)
theorem P9.cells_len (b:Nat) (x:P9):(x.cells b).length=9:=rfl
theorem Xf (b:Nat) (l r:List P9):Zu b (l++r)=Zu b l++Zu b r:=List.flatMap_append
theorem Z1 (b:Nat) (x:P9) (r:List P9):Zu b (x::r)=x.cells b++Zu b r:=rfl
theorem Zal (b:Nat):∀ l:List P9,(Zu b l).length=l.length * 9
  | []=>rfl
  | x::r=>by rw [Z1,List.length_append,Zal b r,P9.cells_len,List.length_cons];omega
theorem Y1 (b:Nat):∀ (l:List P9) (i:Nat) (x:P9) (j:Nat),l[i]?=some x→j<9→(Zu b l)[i * 9+j]?=(x.cells b)[j]?
  | [],_,_,_,h,_=>by simp at h
  | y::r,0,x,j,h,hj=>by
    simp only [List.getElem?_cons_zero,Option.some.injEq] at h
    subst h
    rw [Z1,Nat.zero_mul,Nat.zero_add,List.getElem?_append_left (by rw [P9.cells_len];exact hj)]
  | y::r,i+1,x,j,h,hj=>by
    rw [List.getElem?_cons_succ] at h
    rw [Z1,List.getElem?_append_right (by rw [P9.cells_len];omega),P9.cells_len,show (i+1) * 9+j - 9=i * 9+j by omega]
    exact Y1 b r i x j h hj
theorem Xc (b:Nat):∀ (k:Nat) (l:List P9),(Zu b l).take (k * 9)=Zu b (l.take k)
  | 0,l=>by simp [Zu]
  | k+1,[]=>by simp [Zu]
  | k+1,x::r=>by
    rw [List.take_succ_cons,Z1,Z1,← Xc b k r,List.take_append,P9.cells_len,show (k+1) * 9 - 9=k * 9 by omega,List.take_of_length_le (by rw [P9.cells_len];omega)]
theorem Qo (b:Nat):∀ (k:Nat) (l:List P9),(Zu b l).drop (k * 9)=Zu b (l.drop k)
  | 0,l=>by simp
  | k+1,[]=>by simp [Zu]
  | k+1,x::r=>by
    rw [List.drop_succ_cons,Z1,← Qo b k r,List.drop_append,P9.cells_len,show (k+1) * 9 - 9=k * 9 by omega,List.drop_of_length_le (by rw [P9.cells_len];omega),List.nil_append]
theorem Jt (b:Nat) (l:List P9):∀ u∈Zu b l,u.oneCell'=true:=by
  intro u hu
  rw [Zu,List.mem_flatMap] at hu
  obtain ⟨x,_,hx⟩:=hu
  simp only [P9.cells,List.mem_cons,List.not_mem_nil,or_false] at hx
  rcases hx with rfl|rfl|rfl|rfl|rfl|rfl|rfl|rfl|rfl <;> rfl
def OkP (ps:List Plc) (x:P9):Prop:=∃ m,Zp ps x.c x.i=some m∧x.nm=m.nm∧x.ds=m.ds∧x.fl=m.fl
def eqI (c a:Int×Int):Bool:=(c.1 == a.1)&&(c.2 == a.2)
theorem Zag {c a:Int×Int}:eqI c a=true↔c=a:=by
  obtain ⟨c1,c2⟩:=c;obtain ⟨a1,a2⟩:=a;simp [eqI]
def plI (ps:List Plc) (c a:Int×Int):Bool:=match Zp ps c.1 c.2,Zp ps a.1 a.2 with
  | some x,some y=>plnB ps x.nm x.ds x.fl c.1 y.nm y.ds y.fl a.1
  | _,_=>false
def stI (ps:List Plc) (c:Int×Int):Bool:=match Zp ps c.1 c.2 with
  | some x=>stB x.fl
  | none=>false
theorem OkP.pl {ps:List Plc} {x y:P9} (hx:OkP ps x) (hy:OkP ps y):plnB ps x.nm x.ds x.fl x.c y.nm y.ds y.fl y.c=plI ps x.id y.id:=by
  obtain ⟨m,h1,h2,h3,h4⟩:=hx
  obtain ⟨n,g1,g2,g3,g4⟩:=hy
  simp only [plI,P9.id,h1,g1,h2,h3,h4,g2,g3,g4]
theorem OkP.st {ps:List Plc} {x:P9} (hx:OkP ps x):stB x.fl=stI ps x.id:=by
  obtain ⟨m,h1,_,_,h4⟩:=hx
  simp only [stI,P9.id,h1,h4]
def gth1 (ps:List Plc) (a:Int×Int) (kept:List (Int×Int)) (c:Int×Int):List (Int×Int):=if (eqI c a&&!stI ps c)||kept.any (plI ps c) then kept++[c] else kept
def gthL (ps:List Plc) (a:Int×Int) (l:List (Int×Int)):List (Int×Int):=l.foldl (gth1 ps a) []
theorem Zbm (ps:List Plc) (a:Int×Int) (l:List (Int×Int)) (c:Int×Int):gthL ps a (l++[c])=gth1 ps a (gthL ps a l) c:=by
  rw [gthL,List.foldl_append];rfl
theorem gthL_len (ps:List Plc) (a:Int×Int) (l:List (Int×Int)):(gthL ps a l).length≤l.length:=by
  have:∀ (l k:List (Int×Int)),(l.foldl (gth1 ps a) k).length≤k.length+l.length:=by
    intro l
    induction l with
    | nil=>intro k;simp
    | cons c r ih =>
      intro k
      rw [List.foldl_cons]
      refine Nat.le_trans (ih _) ?_
      rw [gth1]
      split <;> simp <;> omega
  simpa [gthL] using this l []
def nskL (ps:List Plc) (nm ds:ByteArray) (a:Int):List Nat→List (Int×Int)
  | []=>[]
  | c::r=>if (fndI ps (c:Int) nm ds).2=0∧(c:Int)≠a then ((c:Int),(fndI ps (c:Int) nm ds).1)::nskL ps nm ds a r else nskL ps nm ds a r
theorem Zhs (ps:List Plc) (nm ds:ByteArray) (a:Int):∀ l r:List Nat,nskL ps nm ds a (l++r)=nskL ps nm ds a l++nskL ps nm ds a r
  | [],r=>rfl
  | c::l,r=>by
    rw [List.cons_append,nskL,nskL,Zhs ps nm ds a l r]
    split <;> rfl
theorem Za0 (ps:List Plc) (nm ds:ByteArray) (a:Int):∀ l:List Nat,(nskL ps nm ds a l).length≤l.length
  | []=>Nat.le_refl _
  | c::l=>by
    have:=Za0 ps nm ds a l
    rw [nskL]
    split <;> simp <;> omega
def askL (ps:List Plc) (m:HM) (a:Int×Int) (l:List Nat):List (Int×Int):=a::nskL ps m.nm m.ds a.1 l
def lstI (l:List Nat) (G:List (Int×Int)):(Int×Int)×Int:=match G.getLast? with
  | some x=>if (l.map (fun k:Nat=>(k:Int))).contains x.1 then (x,0) else ((0,0),6)
  | none=>((0,0),6)
theorem Zfe {l:List Nat} {G:List (Int×Int)} {x:Int×Int} (h:G.getLast?=some x):lstI l G=if (l.map (fun k:Nat=>(k:Int))).contains x.1 then (x,0) else ((0,0),6):=by rw [lstI,h]
def firI (ps:List Plc) (r:Int) (a:Int×Int):(Int×Int)×Int:=match Zp ps a.1 a.2,plcI ps r with
  | some m,some _=>lstI (chL (ps.map nd) r.toNat) (gthL ps a (askL ps m a (chL (ps.map nd) r.toNat).reverse))
  | _,_=>((0,0),3)
def ovrI (ps:List Plc) (c a:Int×Int):Bool×Int:=match Zp ps c.1 c.2,Zp ps a.1 a.2 with
  | some _,some m=>((gthL ps a (askL ps m a (chL (ps.map nd) c.1.toNat).reverse)).any (eqI c),0)
  | _,_=>(false,3)
theorem row9 {w:World} {n:Nat} {t:TypeId} {a0 a1 a2 a3 a4 a5 a6 a7 a8:Value} (h:w.heap[n]?=some (.cells #[a0,a1,a2,a3,a4,a5,a6,a7,a8] t (0,0))):w.cell? ⟨n,0,none⟩=some a0∧w.cell? ⟨n,1,none⟩=some a1∧w.cell? ⟨n,2,none⟩=some a2∧w.cell? ⟨n,3,none⟩=some a3∧w.cell? ⟨n,4,none⟩=some a4∧w.cell? ⟨n,5,none⟩=some a5∧w.cell? ⟨n,6,none⟩=some a6∧w.cell? ⟨n,7,none⟩=some a7∧w.cell? ⟨n,8,none⟩=some a8∧n<w.heap.size :=
  ⟨(cell_of_row w n 0 _ _ _ h).trans rfl,(cell_of_row w n 1 _ _ _ h).trans rfl,(cell_of_row w n 2 _ _ _ h).trans rfl,(cell_of_row w n 3 _ _ _ h).trans rfl,(cell_of_row w n 4 _ _ _ h).trans rfl,(cell_of_row w n 5 _ _ _ h).trans rfl,(cell_of_row w n 6 _ _ _ h).trans rfl,(cell_of_row w n 7 _ _ _ h).trans rfl,(cell_of_row w n 8 _ _ _ h).trans rfl,(Array.getElem?_eq_some_iff.1 h).1⟩
theorem J6 {w:World} {N g n cap b:Nat} {l:List P9} (h:w.ownsRow N 181 9 (.slice (some ⟨g,0,none⟩) n cap) n (Zu b l)) {i:Nat} {x:P9} (hx:l[i]?=some x):w.cell? ⟨g,i * 9,none⟩=some (.string x.nm)∧w.cell? ⟨g,i * 9+1,none⟩=some (.string x.ds)∧w.cell? ⟨g,i * 9+2,none⟩=some (.int .i64 x.fl)∧w.cell? ⟨g,i * 9+3,none⟩=some (.int .i64 x.lo)∧w.cell? ⟨g,i * 9+4,none⟩=some (.int .i64 x.st)∧w.cell? ⟨g,i * 9+5,none⟩=some (.slice x.sa x.sk x.so)∧w.cell? ⟨g,i * 9+6,none⟩=some (.int .i64 x.c)∧w.cell? ⟨g,i * 9+7,none⟩=some (.int .i64 x.i)∧w.cell? ⟨g,i * 9+8,none⟩=some (.pointer (some ⟨b,0,none⟩))∧g<w.heap.size:=by
  have hl:l.length=n:=by have:=h.1;rw [Zal] at this;omega
  have hi:=(List.getElem?_eq_some_iff.1 hx).1
  have c0:w.cell? ⟨g,i * 9,none⟩=some (.string x.nm):=(h.cellAt (i * 9) (by omega)).trans (Y1 b l i x 0 hx (by omega))
  exact ⟨c0,(h.cellAt (i * 9+1) (by omega)).trans (Y1 b l i x 1 hx (by omega)),(h.cellAt (i * 9+2) (by omega)).trans (Y1 b l i x 2 hx (by omega)),(h.cellAt (i * 9+3) (by omega)).trans (Y1 b l i x 3 hx (by omega)),(h.cellAt (i * 9+4) (by omega)).trans (Y1 b l i x 4 hx (by omega)),(h.cellAt (i * 9+5) (by omega)).trans (Y1 b l i x 5 hx (by omega)),(h.cellAt (i * 9+6) (by omega)).trans (Y1 b l i x 6 hx (by omega)),(h.cellAt (i * 9+7) (by omega)).trans (Y1 b l i x 7 hx (by omega)),(h.cellAt (i * 9+8) (by omega)).trans (Y1 b l i x 8 hx (by omega)),World.block_lt_of_cell? w _ c0⟩
theorem Zj2 {w:World} {N e s g cap n i:Nat} {xs:List Value} (h:w.ownsRow N e s (.slice (some ⟨g,0,none⟩) n cap) n xs) (hi:i≤n):w.ownsRow N e s (.slice (some ⟨g,0,none⟩) i cap) i (xs.take (i * s)):=by
  have hm:i * s≤n * s:=Nat.mul_le_mul_right _ hi
  refine ⟨by rw [List.length_take,h.1];omega,?_⟩
  rcases h.2 with ⟨e,_⟩|⟨g',cap',cur,e,h1,h2,h3,h4,h5,h6⟩
  · simp at e
  · simp only [Value.slice.injEq,Option.some.injEq,Addr.mk.injEq,and_true,true_and] at e
    obtain ⟨rfl,rfl⟩:=e
    exact .inr ⟨g,cap,cur,rfl,h1,h2,by omega,h4,h5,by rw [← h6,List.take_take,Nat.min_eq_left hm]⟩
def idxG (p:P9→Bool):List P9→Nat→Int
  | [],_=>-1
  | m::r,k=>if p m then (k:Int) else idxG p r (k+1)
theorem idxG_at {p:P9→Bool} {l:List P9} (k:Nat) (x:P9) (h:l[k]?=some x):idxG p (l.drop k) k=if p x then (k:Int) else idxG p (l.drop (k+1)) (k+1):=by
  obtain ⟨h1,h2⟩:=List.getElem?_eq_some_iff.1 h
  rw [List.drop_eq_getElem_cons h1,h2,idxG]
theorem Zh2 (p:P9→Bool):∀ (l:List P9) (k:Nat),(idxG p l k=-1∧l.any p=false)∨∃ j:Nat,idxG p l k=(j:Int)∧l.any p=true
  | [],_=>.inl ⟨rfl,rfl⟩
  | m::r,k=>by
    rw [idxG]
    cases e:p m with
    | true=>exact .inr ⟨k,by simp,by simp [e]⟩
    | false =>
      rcases Zh2 p r (k+1) with ⟨h,h2⟩|⟨j,h,h2⟩
      · exact .inl ⟨by simpa using h,by simp [e,h2]⟩
      · exact .inr ⟨j,by simpa using h,by simp [h2]⟩
theorem idx9_any (g:Nat) (eg:∀ args w,(callFunc g args).run Tryz.prog w=.ok (.enter g args) w) (R:Value) (p:P9→Bool) (N b:Nat) (l:List P9) (v:Value) (W:World) (h:W.ownsRow N 181 9 v l.length (Zu b l)) (hn:l.length≤1000000) (hp:∀ x∈l,∀ w,Below W.heap.size W w→Calls Tryz.prog g #[R,x.agg b] w fun e w'=>e=.returned (.bool (p x))∧Below w.heap.size w w') :
    Calls Tryz.prog 181 #[v,.func (.func g) #[R] #[]] W fun e w'=>e=.returned (.int .i64 (idxG p l 0))∧Below W.heap.size W w':=by
  obtain ⟨ao,cap,rfl⟩:=ownv h
  obtain ⟨K,hK⟩:∃ K,l.length=K:=⟨_,rfl⟩
  have HA:Hid (W.ownsRow N 181 9 (.slice ao l.length cap) l.length (Zu b l)):=h
  have HK:Hid (l.length=K):=hK
  have HP:Hid (∀ x∈l,∀ w,Below W.heap.size W w→Calls Tryz.prog g #[R,x.agg b] w fun e w'=>e=.returned (.bool (p x))∧Below w.heap.size w w'):=hp
  rw [hK] at hn ⊢
  clear hK h hp
  go_enter Tryz.func181,Tryz.ntmps181
  go_wp2
  go_loopw [8] (fun iv wr=>∃ i:Nat,iv=.int .i64 i∧i≤K∧Hid (Below W.heap.size W wr)∧Hid (idxG p (l.drop i) i=idxG p l 0)) (fun iv _=>K - (intOf iv).toNat)
  case atStart=>exact ⟨0,rfl,Nat.zero_le _,Below.refl _ _,rfl⟩
  case round =>
    obtain ⟨i,rfl,hi,hb,hs⟩:=hrel
    by_cases hlt:i<K
    · have hlq:i<l.length:=by rw [HK.out];exact hlt
      obtain ⟨x,hx⟩:∃ x,l[i]?=some x:=⟨_,List.getElem?_eq_getElem hlq⟩
      obtain ⟨gm,cm,hform⟩:=Go.Joins.ownsRow_form HA.out (by omega)
      have hrow:=HA.out
      rw [hform] at hrow
      obtain ⟨e0,e1,e2,e3,e4,e5,e6,e7,e8,_⟩:=J6 (Za hrow hb.out) hx
      injection hform with hao _ hcap
      subst hao hcap
      have hst:=idxG_at (p:=p) i x hx
      rw [hs.out] at hst
      have HC:Hid (Calls Tryz.prog g #[R,x.agg b] wr fun e w'=>e=.returned (.bool (p x))∧Below wr.heap.size wr w'):=HP.out x (List.mem_of_getElem? hx) wr hb.out
      generalize p x=q at *
      obtain ⟨xn,xd,xf,xl,xs,xa,xk,xo,xc,xi⟩:=x
      simp only [P9.agg] at e0 e1 e2 e3 e4 e5 e6 e7 e8 HC
      clear hs HA hx hrow hlq HP
      cases q with
      | true =>
        have HZ:Hid (idxG p l 0=(i:Int)):=by rw [Hid,hst];rfl
        clear hst
        go_wp2_with (go_at_fn g;refine (HC.out).mono ?_;rintro e w1 ⟨rfl,hb1⟩)
        go_ret
        exact ⟨Zg HZ.out.symm,Below.step hb.out hb1⟩
      | false =>
        have HZ:Hid (idxG p (l.drop (i+1)) (i+1)=idxG p l 0):=by rw [Hid,hst];rfl
        clear hst
        go_wp2_with (go_at_fn g;refine (HC.out).mono ?_;rintro e w1 ⟨rfl,hb1⟩;have hb2:Hid (Below W.heap.size W w1):=Below.step hb.out hb1;clear hb1)
        go_roundw
        case rel=>exact ⟨i+1,by go_num,by omega,hb2,HZ⟩
        case measure=>simp [intOf];omega
    · have e:i=K:=by omega
      subst e
      have HZ:Hid (idxG p l 0=-1):=by rw [Hid,← hs.out,List.drop_of_length_le (by rw [HK.out];exact Nat.le_refl _)];rfl
      clear hs HA HP
      go_wp2
      go_ret
      exact ⟨Zg HZ.out.symm,hb.out⟩
theorem con9_any (g:Nat) (eg:∀ args w,(callFunc g args).run Tryz.prog w=.ok (.enter g args) w) (R:Value) (p:P9→Bool) (N b:Nat) (l:List P9) (v:Value) (W:World) (h:W.ownsRow N 181 9 v l.length (Zu b l)) (hn:l.length≤1000000) (hp:∀ x∈l,∀ w,Below W.heap.size W w→Calls Tryz.prog g #[R,x.agg b] w fun e w'=>e=.returned (.bool (p x))∧Below w.heap.size w w') :
    Calls Tryz.prog 169 #[v,.func (.func g) #[R] #[]] W fun e w'=>e=.returned (.bool (l.any p))∧Below W.heap.size W w':=by
  have HI:Hid (Calls Tryz.prog 181 #[v,.func (.func g) #[R] #[]] W fun e w'=>e=.returned (.int .i64 (idxG p l 0))∧Below W.heap.size W w'):=idx9_any g eg R p N b l v W h hn hp
  rcases Zh2 p l 0 with ⟨e,e2⟩|⟨j,e,e2⟩
  all_goals
    rw [e] at HI
    rw [e2]
    obtain ⟨ao,cap,rfl⟩:=ownv h
    clear h hp e e2
    go_enter Tryz.func169,Tryz.ntmps169
    go_wp2_with (go_at_call 181;refine HI.out.mono ?_;rintro e w1 ⟨rfl,hb⟩;have B1:Hid (Below W.heap.size W w1):=hb;clear hb HI)
    exact bodyPost_ret (results_tmp rfl _ _ _) rfl ⟨rfl,B1.out⟩
end Go.Proofs.YtjbmmmcjegjelaaGreat
