import Derived.Test.YtenpnkkkjjdccaaGreatMxF
import Derived.Test.YtenpnkkkjjdccaaGreatSiT
import Derived.Test.YtenpnkkkjjdccaaGreatSiG
set_option maxRecDepth 100000
namespace Go.Proofs.YtenpnkkkjjdccaaGreat
open Go.RowKit Go.Maps
set_option maxHeartbeats 4000000 in
theorem ws7_0 (ps:List Plc) (W:World) (v:Value) (d k1 k2:Int) (n ds:ByteArray) (fN:Int→ByteArray) (fF fE:Int→Int)
    (HB:Hid (∀ w:World,Below W.heap.size W w→Calls Tryz.prog 6 #[v] w fun e w'=>(∃ b,e=.returned (.pointer (some ⟨b,0,none⟩))∧WAt b ps w')∧Below w.heap.size w w'))
    (HCl:Hid (∀ (x:Int) b w,WAt b ps w→Calls Tryz.prog 7 #[.pointer (some ⟨b,0,none⟩),.int .i64 x] w fun e w'=>(∃ su a1 n1 c1 ld a2 n2 c2,e=.returned (.tuple #[.agg #[.string (fN x),.string su,.slice a1 n1 c1,.int .i64 (fF x),.int .i64 ld,.slice a2 n2 c2],.int .i64 (fE x)]))∧Below w.heap.size w w'))
    (h0:¬ fE d=0) :
    Calls Tryz.prog 3 #[v,.int .i64 d,.int .i64 k1,.int .i64 k2,.string n,.string ds] W fun e w'=>e=.returned (.bool true)∧Below W.heap.size W w':=by
  have HA:Hid (∀ w:World,Calls Tryz.prog 5 #[] w fun e w'=>e=.returned (.bool true)∧Below w.heap.size w w'):=awakeT_c
  have B0:Hid (Below W.heap.size W W):=Below.refl _ _
  have HC1:Hid (∀ b w,WAt b ps w→Calls Tryz.prog 7 #[.pointer (some ⟨b,0,none⟩),.int .i64 d] w fun e w'=>(∃ su a1 n1 c1 ld a2 n2 c2,e=.returned (.tuple #[.agg #[.string (fN d),.string su,.slice a1 n1 c1,.int .i64 (fF d),.int .i64 ld,.slice a2 n2 c2],.int .i64 (fE d)]))∧Below w.heap.size w w'):=HCl.out d
  have HC2:Hid (∀ b w,WAt b ps w→Calls Tryz.prog 7 #[.pointer (some ⟨b,0,none⟩),.int .i64 k1] w fun e w'=>(∃ su a1 n1 c1 ld a2 n2 c2,e=.returned (.tuple #[.agg #[.string (fN k1),.string su,.slice a1 n1 c1,.int .i64 (fF k1),.int .i64 ld,.slice a2 n2 c2],.int .i64 (fE k1)]))∧Below w.heap.size w w'):=HCl.out k1
  have HC3:Hid (∀ b w,WAt b ps w→Calls Tryz.prog 7 #[.pointer (some ⟨b,0,none⟩),.int .i64 k2] w fun e w'=>(∃ su a1 n1 c1 ld a2 n2 c2,e=.returned (.tuple #[.agg #[.string (fN k2),.string su,.slice a1 n1 c1,.int .i64 (fF k2),.int .i64 ld,.slice a2 n2 c2],.int .i64 (fE k2)]))∧Below w.heap.size w w'):=HCl.out k2
  clear HCl
  have g0:(fE d == 0)=false:=by simpa using h0
  go_enter Tryz.func3,Tryz.ntmps3
  go_wp2_with (first
    | (go_at_call 5;refine (HA.out _).mono ?_;rintro e w1 ⟨rfl,hb⟩;have B1:Hid (Below W.heap.size W w1):=hb;clear hb HA)
    | (go_at_call 6;refine (HB.out _ B1.out).mono ?_;rintro e w2 ⟨⟨b,rfl,hw⟩,hb⟩;have H2:Hid (WAt b ps w2):=hw;have B2:Hid (Below W.heap.size W w2):=bstep B1.out hb;clear hw hb HB B1)
    | (go_at_call 7;refine (HC1.out _ _ H2.out).mono ?_;rintro e w3 ⟨⟨su3,a3,n3,c3,l3,p3,q3,t3,rfl⟩,hb⟩;have B3:Hid (Below w2.heap.size w2 w3):=hb;clear hb HC1)
    | (go_at_call 7;refine (HC2.out _ _ (H2.out.below (B3.out.alloc B3.out.size _))).mono ?_;rintro e w4 ⟨⟨su4,a4,n4,c4,l4,p4,q4,t4,rfl⟩,hb⟩;have D4:Hid (w4.heap[w3.heap.size]?=some (.cells #[.string (fN d),.string su3,.slice a3 n3 c3,.int .i64 (fF d),.int .i64 l3,.slice p3 q3 t3] 29 (0,0))):=(hb.block w3.heap.size (by simp)).trans (halloc1 _ _);have B4:Hid (Below w2.heap.size w2 w4):=bstep (B3.out.alloc B3.out.size _) hb;clear hb HC2 B3)
    | (go_at_call 7;refine (HC3.out _ _ (H2.out.below (B4.out.alloc B4.out.size _))).mono ?_;rintro e w5 ⟨⟨su5,a5,n5,c5,l5,p5,q5,t5,rfl⟩,hb⟩;have D5:Hid (w5.heap[w3.heap.size]?=some (.cells #[.string (fN d),.string su3,.slice a3 n3 c3,.int .i64 (fF d),.int .i64 l3,.slice p3 q3 t3] 29 (0,0))∧w5.heap[w4.heap.size]?=some (.cells #[.string (fN k1),.string su4,.slice a4 n4 c4,.int .i64 (fF k1),.int .i64 l4,.slice p4 q4 t4] 29 (0,0))):=⟨(hb.block w3.heap.size (by have:=lt_of_blk D4.out;simp;omega)).trans (hkeep D4.out),(hb.block w4.heap.size (by simp)).trans (halloc1 _ _)⟩;have f5:w5.cell? ⟨w3.heap.size,3,none⟩=some (.int .i64 (fF d)):=(cell_of_row w5 _ 3 _ _ _ D5.out.1).trans rfl;have z5:w3.heap.size<w5.heap.size:=lt_of_blk D5.out.1;have B5:Hid (Below w2.heap.size w2 w5):=bstep (B4.out.alloc B4.out.size _) hb;clear hb HC3 B4 D4))
  go_ret
  exact ⟨rfl,bstep B2.out (B5.out.alloc B5.out.size _)⟩
set_option maxHeartbeats 4000000 in
theorem ws7_1 (ps:List Plc) (W:World) (v:Value) (d k1 k2:Int) (n ds:ByteArray) (fN:Int→ByteArray) (fF fE:Int→Int)
    (HB:Hid (∀ w:World,Below W.heap.size W w→Calls Tryz.prog 6 #[v] w fun e w'=>(∃ b,e=.returned (.pointer (some ⟨b,0,none⟩))∧WAt b ps w')∧Below w.heap.size w w'))
    (HCl:Hid (∀ (x:Int) b w,WAt b ps w→Calls Tryz.prog 7 #[.pointer (some ⟨b,0,none⟩),.int .i64 x] w fun e w'=>(∃ su a1 n1 c1 ld a2 n2 c2,e=.returned (.tuple #[.agg #[.string (fN x),.string su,.slice a1 n1 c1,.int .i64 (fF x),.int .i64 ld,.slice a2 n2 c2],.int .i64 (fE x)]))∧Below w.heap.size w w'))
    (h0:fE d=0) (h1:¬ fE k1=0) :
    Calls Tryz.prog 3 #[v,.int .i64 d,.int .i64 k1,.int .i64 k2,.string n,.string ds] W fun e w'=>e=.returned (.bool true)∧Below W.heap.size W w':=by
  have HA:Hid (∀ w:World,Calls Tryz.prog 5 #[] w fun e w'=>e=.returned (.bool true)∧Below w.heap.size w w'):=awakeT_c
  have B0:Hid (Below W.heap.size W W):=Below.refl _ _
  have HC1:Hid (∀ b w,WAt b ps w→Calls Tryz.prog 7 #[.pointer (some ⟨b,0,none⟩),.int .i64 d] w fun e w'=>(∃ su a1 n1 c1 ld a2 n2 c2,e=.returned (.tuple #[.agg #[.string (fN d),.string su,.slice a1 n1 c1,.int .i64 (fF d),.int .i64 ld,.slice a2 n2 c2],.int .i64 (fE d)]))∧Below w.heap.size w w'):=HCl.out d
  have HC2:Hid (∀ b w,WAt b ps w→Calls Tryz.prog 7 #[.pointer (some ⟨b,0,none⟩),.int .i64 k1] w fun e w'=>(∃ su a1 n1 c1 ld a2 n2 c2,e=.returned (.tuple #[.agg #[.string (fN k1),.string su,.slice a1 n1 c1,.int .i64 (fF k1),.int .i64 ld,.slice a2 n2 c2],.int .i64 (fE k1)]))∧Below w.heap.size w w'):=HCl.out k1
  have HC3:Hid (∀ b w,WAt b ps w→Calls Tryz.prog 7 #[.pointer (some ⟨b,0,none⟩),.int .i64 k2] w fun e w'=>(∃ su a1 n1 c1 ld a2 n2 c2,e=.returned (.tuple #[.agg #[.string (fN k2),.string su,.slice a1 n1 c1,.int .i64 (fF k2),.int .i64 ld,.slice a2 n2 c2],.int .i64 (fE k2)]))∧Below w.heap.size w w'):=HCl.out k2
  clear HCl
  have g0:(fE d == 0)=true:=by simpa using h0
  have g1:(fE k1 == 0)=false:=by simpa using h1
  go_enter Tryz.func3,Tryz.ntmps3
  go_wp2_with (first
    | (go_at_call 5;refine (HA.out _).mono ?_;rintro e w1 ⟨rfl,hb⟩;have B1:Hid (Below W.heap.size W w1):=hb;clear hb HA)
    | (go_at_call 6;refine (HB.out _ B1.out).mono ?_;rintro e w2 ⟨⟨b,rfl,hw⟩,hb⟩;have H2:Hid (WAt b ps w2):=hw;have B2:Hid (Below W.heap.size W w2):=bstep B1.out hb;clear hw hb HB B1)
    | (go_at_call 7;refine (HC1.out _ _ H2.out).mono ?_;rintro e w3 ⟨⟨su3,a3,n3,c3,l3,p3,q3,t3,rfl⟩,hb⟩;have B3:Hid (Below w2.heap.size w2 w3):=hb;clear hb HC1)
    | (go_at_call 7;refine (HC2.out _ _ (H2.out.below (B3.out.alloc B3.out.size _))).mono ?_;rintro e w4 ⟨⟨su4,a4,n4,c4,l4,p4,q4,t4,rfl⟩,hb⟩;have D4:Hid (w4.heap[w3.heap.size]?=some (.cells #[.string (fN d),.string su3,.slice a3 n3 c3,.int .i64 (fF d),.int .i64 l3,.slice p3 q3 t3] 29 (0,0))):=(hb.block w3.heap.size (by simp)).trans (halloc1 _ _);have B4:Hid (Below w2.heap.size w2 w4):=bstep (B3.out.alloc B3.out.size _) hb;clear hb HC2 B3)
    | (go_at_call 7;refine (HC3.out _ _ (H2.out.below (B4.out.alloc B4.out.size _))).mono ?_;rintro e w5 ⟨⟨su5,a5,n5,c5,l5,p5,q5,t5,rfl⟩,hb⟩;have D5:Hid (w5.heap[w3.heap.size]?=some (.cells #[.string (fN d),.string su3,.slice a3 n3 c3,.int .i64 (fF d),.int .i64 l3,.slice p3 q3 t3] 29 (0,0))∧w5.heap[w4.heap.size]?=some (.cells #[.string (fN k1),.string su4,.slice a4 n4 c4,.int .i64 (fF k1),.int .i64 l4,.slice p4 q4 t4] 29 (0,0))):=⟨(hb.block w3.heap.size (by have:=lt_of_blk D4.out;simp;omega)).trans (hkeep D4.out),(hb.block w4.heap.size (by simp)).trans (halloc1 _ _)⟩;have f5:w5.cell? ⟨w3.heap.size,3,none⟩=some (.int .i64 (fF d)):=(cell_of_row w5 _ 3 _ _ _ D5.out.1).trans rfl;have z5:w3.heap.size<w5.heap.size:=lt_of_blk D5.out.1;have B5:Hid (Below w2.heap.size w2 w5):=bstep (B4.out.alloc B4.out.size _) hb;clear hb HC3 B4 D4))
  go_ret
  exact ⟨rfl,bstep B2.out (B5.out.alloc B5.out.size _)⟩
set_option maxHeartbeats 4000000 in
theorem ws7_2 (ps:List Plc) (W:World) (v:Value) (d k1 k2:Int) (n ds:ByteArray) (fN:Int→ByteArray) (fF fE:Int→Int)
    (HB:Hid (∀ w:World,Below W.heap.size W w→Calls Tryz.prog 6 #[v] w fun e w'=>(∃ b,e=.returned (.pointer (some ⟨b,0,none⟩))∧WAt b ps w')∧Below w.heap.size w w'))
    (HCl:Hid (∀ (x:Int) b w,WAt b ps w→Calls Tryz.prog 7 #[.pointer (some ⟨b,0,none⟩),.int .i64 x] w fun e w'=>(∃ su a1 n1 c1 ld a2 n2 c2,e=.returned (.tuple #[.agg #[.string (fN x),.string su,.slice a1 n1 c1,.int .i64 (fF x),.int .i64 ld,.slice a2 n2 c2],.int .i64 (fE x)]))∧Below w.heap.size w w'))
    (h0:fE d=0) (h1:fE k1=0) (h2:¬ fE k2=0) :
    Calls Tryz.prog 3 #[v,.int .i64 d,.int .i64 k1,.int .i64 k2,.string n,.string ds] W fun e w'=>e=.returned (.bool true)∧Below W.heap.size W w':=by
  have HA:Hid (∀ w:World,Calls Tryz.prog 5 #[] w fun e w'=>e=.returned (.bool true)∧Below w.heap.size w w'):=awakeT_c
  have B0:Hid (Below W.heap.size W W):=Below.refl _ _
  have HC1:Hid (∀ b w,WAt b ps w→Calls Tryz.prog 7 #[.pointer (some ⟨b,0,none⟩),.int .i64 d] w fun e w'=>(∃ su a1 n1 c1 ld a2 n2 c2,e=.returned (.tuple #[.agg #[.string (fN d),.string su,.slice a1 n1 c1,.int .i64 (fF d),.int .i64 ld,.slice a2 n2 c2],.int .i64 (fE d)]))∧Below w.heap.size w w'):=HCl.out d
  have HC2:Hid (∀ b w,WAt b ps w→Calls Tryz.prog 7 #[.pointer (some ⟨b,0,none⟩),.int .i64 k1] w fun e w'=>(∃ su a1 n1 c1 ld a2 n2 c2,e=.returned (.tuple #[.agg #[.string (fN k1),.string su,.slice a1 n1 c1,.int .i64 (fF k1),.int .i64 ld,.slice a2 n2 c2],.int .i64 (fE k1)]))∧Below w.heap.size w w'):=HCl.out k1
  have HC3:Hid (∀ b w,WAt b ps w→Calls Tryz.prog 7 #[.pointer (some ⟨b,0,none⟩),.int .i64 k2] w fun e w'=>(∃ su a1 n1 c1 ld a2 n2 c2,e=.returned (.tuple #[.agg #[.string (fN k2),.string su,.slice a1 n1 c1,.int .i64 (fF k2),.int .i64 ld,.slice a2 n2 c2],.int .i64 (fE k2)]))∧Below w.heap.size w w'):=HCl.out k2
  clear HCl
  have g0:(fE d == 0)=true:=by simpa using h0
  have g1:(fE k1 == 0)=true:=by simpa using h1
  have g2:(fE k2 == 0)=false:=by simpa using h2
  go_enter Tryz.func3,Tryz.ntmps3
  go_wp2_with (first
    | (go_at_call 5;refine (HA.out _).mono ?_;rintro e w1 ⟨rfl,hb⟩;have B1:Hid (Below W.heap.size W w1):=hb;clear hb HA)
    | (go_at_call 6;refine (HB.out _ B1.out).mono ?_;rintro e w2 ⟨⟨b,rfl,hw⟩,hb⟩;have H2:Hid (WAt b ps w2):=hw;have B2:Hid (Below W.heap.size W w2):=bstep B1.out hb;clear hw hb HB B1)
    | (go_at_call 7;refine (HC1.out _ _ H2.out).mono ?_;rintro e w3 ⟨⟨su3,a3,n3,c3,l3,p3,q3,t3,rfl⟩,hb⟩;have B3:Hid (Below w2.heap.size w2 w3):=hb;clear hb HC1)
    | (go_at_call 7;refine (HC2.out _ _ (H2.out.below (B3.out.alloc B3.out.size _))).mono ?_;rintro e w4 ⟨⟨su4,a4,n4,c4,l4,p4,q4,t4,rfl⟩,hb⟩;have D4:Hid (w4.heap[w3.heap.size]?=some (.cells #[.string (fN d),.string su3,.slice a3 n3 c3,.int .i64 (fF d),.int .i64 l3,.slice p3 q3 t3] 29 (0,0))):=(hb.block w3.heap.size (by simp)).trans (halloc1 _ _);have B4:Hid (Below w2.heap.size w2 w4):=bstep (B3.out.alloc B3.out.size _) hb;clear hb HC2 B3)
    | (go_at_call 7;refine (HC3.out _ _ (H2.out.below (B4.out.alloc B4.out.size _))).mono ?_;rintro e w5 ⟨⟨su5,a5,n5,c5,l5,p5,q5,t5,rfl⟩,hb⟩;have D5:Hid (w5.heap[w3.heap.size]?=some (.cells #[.string (fN d),.string su3,.slice a3 n3 c3,.int .i64 (fF d),.int .i64 l3,.slice p3 q3 t3] 29 (0,0))∧w5.heap[w4.heap.size]?=some (.cells #[.string (fN k1),.string su4,.slice a4 n4 c4,.int .i64 (fF k1),.int .i64 l4,.slice p4 q4 t4] 29 (0,0))):=⟨(hb.block w3.heap.size (by have:=lt_of_blk D4.out;simp;omega)).trans (hkeep D4.out),(hb.block w4.heap.size (by simp)).trans (halloc1 _ _)⟩;have f5:w5.cell? ⟨w3.heap.size,3,none⟩=some (.int .i64 (fF d)):=(cell_of_row w5 _ 3 _ _ _ D5.out.1).trans rfl;have z5:w3.heap.size<w5.heap.size:=lt_of_blk D5.out.1;have B5:Hid (Below w2.heap.size w2 w5):=bstep (B4.out.alloc B4.out.size _) hb;clear hb HC3 B4 D4))
  go_ret
  exact ⟨rfl,bstep B2.out (B5.out.alloc B5.out.size _)⟩
set_option maxHeartbeats 4000000 in
theorem ws7_3 (ps:List Plc) (W:World) (v:Value) (d k1 k2:Int) (n ds:ByteArray) (fN:Int→ByteArray) (fF fE:Int→Int)
    (HB:Hid (∀ w:World,Below W.heap.size W w→Calls Tryz.prog 6 #[v] w fun e w'=>(∃ b,e=.returned (.pointer (some ⟨b,0,none⟩))∧WAt b ps w')∧Below w.heap.size w w'))
    (HCl:Hid (∀ (x:Int) b w,WAt b ps w→Calls Tryz.prog 7 #[.pointer (some ⟨b,0,none⟩),.int .i64 x] w fun e w'=>(∃ su a1 n1 c1 ld a2 n2 c2,e=.returned (.tuple #[.agg #[.string (fN x),.string su,.slice a1 n1 c1,.int .i64 (fF x),.int .i64 ld,.slice a2 n2 c2],.int .i64 (fE x)]))∧Below w.heap.size w w'))
    (h0:fE d=0) (h1:fE k1=0) (h2:fE k2=0) (h3:(bits .and .i64 (fF d) 32 == 0)=true) :
    Calls Tryz.prog 3 #[v,.int .i64 d,.int .i64 k1,.int .i64 k2,.string n,.string ds] W fun e w'=>e=.returned (.bool true)∧Below W.heap.size W w':=by
  have HA:Hid (∀ w:World,Calls Tryz.prog 5 #[] w fun e w'=>e=.returned (.bool true)∧Below w.heap.size w w'):=awakeT_c
  have B0:Hid (Below W.heap.size W W):=Below.refl _ _
  have HC1:Hid (∀ b w,WAt b ps w→Calls Tryz.prog 7 #[.pointer (some ⟨b,0,none⟩),.int .i64 d] w fun e w'=>(∃ su a1 n1 c1 ld a2 n2 c2,e=.returned (.tuple #[.agg #[.string (fN d),.string su,.slice a1 n1 c1,.int .i64 (fF d),.int .i64 ld,.slice a2 n2 c2],.int .i64 (fE d)]))∧Below w.heap.size w w'):=HCl.out d
  have HC2:Hid (∀ b w,WAt b ps w→Calls Tryz.prog 7 #[.pointer (some ⟨b,0,none⟩),.int .i64 k1] w fun e w'=>(∃ su a1 n1 c1 ld a2 n2 c2,e=.returned (.tuple #[.agg #[.string (fN k1),.string su,.slice a1 n1 c1,.int .i64 (fF k1),.int .i64 ld,.slice a2 n2 c2],.int .i64 (fE k1)]))∧Below w.heap.size w w'):=HCl.out k1
  have HC3:Hid (∀ b w,WAt b ps w→Calls Tryz.prog 7 #[.pointer (some ⟨b,0,none⟩),.int .i64 k2] w fun e w'=>(∃ su a1 n1 c1 ld a2 n2 c2,e=.returned (.tuple #[.agg #[.string (fN k2),.string su,.slice a1 n1 c1,.int .i64 (fF k2),.int .i64 ld,.slice a2 n2 c2],.int .i64 (fE k2)]))∧Below w.heap.size w w'):=HCl.out k2
  clear HCl
  have g0:(fE d == 0)=true:=by simpa using h0
  have g1:(fE k1 == 0)=true:=by simpa using h1
  have g2:(fE k2 == 0)=true:=by simpa using h2
  go_enter Tryz.func3,Tryz.ntmps3
  go_wp2_with (first
    | (go_at_call 5;refine (HA.out _).mono ?_;rintro e w1 ⟨rfl,hb⟩;have B1:Hid (Below W.heap.size W w1):=hb;clear hb HA)
    | (go_at_call 6;refine (HB.out _ B1.out).mono ?_;rintro e w2 ⟨⟨b,rfl,hw⟩,hb⟩;have H2:Hid (WAt b ps w2):=hw;have B2:Hid (Below W.heap.size W w2):=bstep B1.out hb;clear hw hb HB B1)
    | (go_at_call 7;refine (HC1.out _ _ H2.out).mono ?_;rintro e w3 ⟨⟨su3,a3,n3,c3,l3,p3,q3,t3,rfl⟩,hb⟩;have B3:Hid (Below w2.heap.size w2 w3):=hb;clear hb HC1)
    | (go_at_call 7;refine (HC2.out _ _ (H2.out.below (B3.out.alloc B3.out.size _))).mono ?_;rintro e w4 ⟨⟨su4,a4,n4,c4,l4,p4,q4,t4,rfl⟩,hb⟩;have D4:Hid (w4.heap[w3.heap.size]?=some (.cells #[.string (fN d),.string su3,.slice a3 n3 c3,.int .i64 (fF d),.int .i64 l3,.slice p3 q3 t3] 29 (0,0))):=(hb.block w3.heap.size (by simp)).trans (halloc1 _ _);have B4:Hid (Below w2.heap.size w2 w4):=bstep (B3.out.alloc B3.out.size _) hb;clear hb HC2 B3)
    | (go_at_call 7;refine (HC3.out _ _ (H2.out.below (B4.out.alloc B4.out.size _))).mono ?_;rintro e w5 ⟨⟨su5,a5,n5,c5,l5,p5,q5,t5,rfl⟩,hb⟩;have D5:Hid (w5.heap[w3.heap.size]?=some (.cells #[.string (fN d),.string su3,.slice a3 n3 c3,.int .i64 (fF d),.int .i64 l3,.slice p3 q3 t3] 29 (0,0))∧w5.heap[w4.heap.size]?=some (.cells #[.string (fN k1),.string su4,.slice a4 n4 c4,.int .i64 (fF k1),.int .i64 l4,.slice p4 q4 t4] 29 (0,0))):=⟨(hb.block w3.heap.size (by have:=lt_of_blk D4.out;simp;omega)).trans (hkeep D4.out),(hb.block w4.heap.size (by simp)).trans (halloc1 _ _)⟩;have f5:w5.cell? ⟨w3.heap.size,3,none⟩=some (.int .i64 (fF d)):=(cell_of_row w5 _ 3 _ _ _ D5.out.1).trans rfl;have z5:w3.heap.size<w5.heap.size:=lt_of_blk D5.out.1;have B5:Hid (Below w2.heap.size w2 w5):=bstep (B4.out.alloc B4.out.size _) hb;clear hb HC3 B4 D4))
  go_ret
  exact ⟨rfl,bstep B2.out (B5.out.alloc B5.out.size _)⟩
set_option maxHeartbeats 4000000 in
theorem ws7_4 (ps:List Plc) (W:World) (v:Value) (d k1 k2:Int) (n ds:ByteArray) (fN:Int→ByteArray) (fF fE:Int→Int)
    (HB:Hid (∀ w:World,Below W.heap.size W w→Calls Tryz.prog 6 #[v] w fun e w'=>(∃ b,e=.returned (.pointer (some ⟨b,0,none⟩))∧WAt b ps w')∧Below w.heap.size w w'))
    (HCl:Hid (∀ (x:Int) b w,WAt b ps w→Calls Tryz.prog 7 #[.pointer (some ⟨b,0,none⟩),.int .i64 x] w fun e w'=>(∃ su a1 n1 c1 ld a2 n2 c2,e=.returned (.tuple #[.agg #[.string (fN x),.string su,.slice a1 n1 c1,.int .i64 (fF x),.int .i64 ld,.slice a2 n2 c2],.int .i64 (fE x)]))∧Below w.heap.size w w'))
    (h0:fE d=0) (h1:fE k1=0) (h2:fE k2=0) (h3:(bits .and .i64 (fF d) 32 == 0)=false) (h4:k1=d) :
    Calls Tryz.prog 3 #[v,.int .i64 d,.int .i64 k1,.int .i64 k2,.string n,.string ds] W fun e w'=>e=.returned (.bool true)∧Below W.heap.size W w':=by
  obtain rfl:d=k1:=h4.symm
  have HA:Hid (∀ w:World,Calls Tryz.prog 5 #[] w fun e w'=>e=.returned (.bool true)∧Below w.heap.size w w'):=awakeT_c
  have B0:Hid (Below W.heap.size W W):=Below.refl _ _
  have HC1:Hid (∀ b w,WAt b ps w→Calls Tryz.prog 7 #[.pointer (some ⟨b,0,none⟩),.int .i64 d] w fun e w'=>(∃ su a1 n1 c1 ld a2 n2 c2,e=.returned (.tuple #[.agg #[.string (fN d),.string su,.slice a1 n1 c1,.int .i64 (fF d),.int .i64 ld,.slice a2 n2 c2],.int .i64 (fE d)]))∧Below w.heap.size w w'):=HCl.out d
  have HC2:Hid (∀ b w,WAt b ps w→Calls Tryz.prog 7 #[.pointer (some ⟨b,0,none⟩),.int .i64 d] w fun e w'=>(∃ su a1 n1 c1 ld a2 n2 c2,e=.returned (.tuple #[.agg #[.string (fN d),.string su,.slice a1 n1 c1,.int .i64 (fF d),.int .i64 ld,.slice a2 n2 c2],.int .i64 (fE d)]))∧Below w.heap.size w w'):=HCl.out d
  have HC3:Hid (∀ b w,WAt b ps w→Calls Tryz.prog 7 #[.pointer (some ⟨b,0,none⟩),.int .i64 k2] w fun e w'=>(∃ su a1 n1 c1 ld a2 n2 c2,e=.returned (.tuple #[.agg #[.string (fN k2),.string su,.slice a1 n1 c1,.int .i64 (fF k2),.int .i64 ld,.slice a2 n2 c2],.int .i64 (fE k2)]))∧Below w.heap.size w w'):=HCl.out k2
  clear HCl
  have g0:(fE d == 0)=true:=by simpa using h0
  have g1:(fE d == 0)=true:=by simpa using h1
  have g2:(fE k2 == 0)=true:=by simpa using h2
  go_enter Tryz.func3,Tryz.ntmps3
  go_wp2_with (first
    | (go_at_call 5;refine (HA.out _).mono ?_;rintro e w1 ⟨rfl,hb⟩;have B1:Hid (Below W.heap.size W w1):=hb;clear hb HA)
    | (go_at_call 6;refine (HB.out _ B1.out).mono ?_;rintro e w2 ⟨⟨b,rfl,hw⟩,hb⟩;have H2:Hid (WAt b ps w2):=hw;have B2:Hid (Below W.heap.size W w2):=bstep B1.out hb;clear hw hb HB B1)
    | (go_at_call 7;refine (HC1.out _ _ H2.out).mono ?_;rintro e w3 ⟨⟨su3,a3,n3,c3,l3,p3,q3,t3,rfl⟩,hb⟩;have B3:Hid (Below w2.heap.size w2 w3):=hb;clear hb HC1)
    | (go_at_call 7;refine (HC2.out _ _ (H2.out.below (B3.out.alloc B3.out.size _))).mono ?_;rintro e w4 ⟨⟨su4,a4,n4,c4,l4,p4,q4,t4,rfl⟩,hb⟩;have D4:Hid (w4.heap[w3.heap.size]?=some (.cells #[.string (fN d),.string su3,.slice a3 n3 c3,.int .i64 (fF d),.int .i64 l3,.slice p3 q3 t3] 29 (0,0))):=(hb.block w3.heap.size (by simp)).trans (halloc1 _ _);have B4:Hid (Below w2.heap.size w2 w4):=bstep (B3.out.alloc B3.out.size _) hb;clear hb HC2 B3)
    | (go_at_call 7;refine (HC3.out _ _ (H2.out.below (B4.out.alloc B4.out.size _))).mono ?_;rintro e w5 ⟨⟨su5,a5,n5,c5,l5,p5,q5,t5,rfl⟩,hb⟩;have D5:Hid (w5.heap[w3.heap.size]?=some (.cells #[.string (fN d),.string su3,.slice a3 n3 c3,.int .i64 (fF d),.int .i64 l3,.slice p3 q3 t3] 29 (0,0))∧w5.heap[w4.heap.size]?=some (.cells #[.string (fN d),.string su4,.slice a4 n4 c4,.int .i64 (fF d),.int .i64 l4,.slice p4 q4 t4] 29 (0,0))):=⟨(hb.block w3.heap.size (by have:=lt_of_blk D4.out;simp;omega)).trans (hkeep D4.out),(hb.block w4.heap.size (by simp)).trans (halloc1 _ _)⟩;have f5:w5.cell? ⟨w3.heap.size,3,none⟩=some (.int .i64 (fF d)):=(cell_of_row w5 _ 3 _ _ _ D5.out.1).trans rfl;have z5:w3.heap.size<w5.heap.size:=lt_of_blk D5.out.1;have B5:Hid (Below w2.heap.size w2 w5):=bstep (B4.out.alloc B4.out.size _) hb;clear hb HC3 B4 D4))
  go_ret
  exact ⟨rfl,bstep B2.out (B5.out.alloc B5.out.size _)⟩
set_option maxHeartbeats 4000000 in
theorem ws7_5 (ps:List Plc) (W:World) (v:Value) (d k1 k2:Int) (n ds:ByteArray) (fN:Int→ByteArray) (fF fE:Int→Int)
    (HB:Hid (∀ w:World,Below W.heap.size W w→Calls Tryz.prog 6 #[v] w fun e w'=>(∃ b,e=.returned (.pointer (some ⟨b,0,none⟩))∧WAt b ps w')∧Below w.heap.size w w'))
    (HCl:Hid (∀ (x:Int) b w,WAt b ps w→Calls Tryz.prog 7 #[.pointer (some ⟨b,0,none⟩),.int .i64 x] w fun e w'=>(∃ su a1 n1 c1 ld a2 n2 c2,e=.returned (.tuple #[.agg #[.string (fN x),.string su,.slice a1 n1 c1,.int .i64 (fF x),.int .i64 ld,.slice a2 n2 c2],.int .i64 (fE x)]))∧Below w.heap.size w w'))
    (h0:fE d=0) (h1:fE k1=0) (h2:fE k2=0) (h3:(bits .and .i64 (fF d) 32 == 0)=false) (h4:¬ k1=d) (h5:k2=d) :
    Calls Tryz.prog 3 #[v,.int .i64 d,.int .i64 k1,.int .i64 k2,.string n,.string ds] W fun e w'=>e=.returned (.bool true)∧Below W.heap.size W w':=by
  obtain rfl:d=k2:=h5.symm
  have HA:Hid (∀ w:World,Calls Tryz.prog 5 #[] w fun e w'=>e=.returned (.bool true)∧Below w.heap.size w w'):=awakeT_c
  have B0:Hid (Below W.heap.size W W):=Below.refl _ _
  have HC1:Hid (∀ b w,WAt b ps w→Calls Tryz.prog 7 #[.pointer (some ⟨b,0,none⟩),.int .i64 d] w fun e w'=>(∃ su a1 n1 c1 ld a2 n2 c2,e=.returned (.tuple #[.agg #[.string (fN d),.string su,.slice a1 n1 c1,.int .i64 (fF d),.int .i64 ld,.slice a2 n2 c2],.int .i64 (fE d)]))∧Below w.heap.size w w'):=HCl.out d
  have HC2:Hid (∀ b w,WAt b ps w→Calls Tryz.prog 7 #[.pointer (some ⟨b,0,none⟩),.int .i64 k1] w fun e w'=>(∃ su a1 n1 c1 ld a2 n2 c2,e=.returned (.tuple #[.agg #[.string (fN k1),.string su,.slice a1 n1 c1,.int .i64 (fF k1),.int .i64 ld,.slice a2 n2 c2],.int .i64 (fE k1)]))∧Below w.heap.size w w'):=HCl.out k1
  have HC3:Hid (∀ b w,WAt b ps w→Calls Tryz.prog 7 #[.pointer (some ⟨b,0,none⟩),.int .i64 d] w fun e w'=>(∃ su a1 n1 c1 ld a2 n2 c2,e=.returned (.tuple #[.agg #[.string (fN d),.string su,.slice a1 n1 c1,.int .i64 (fF d),.int .i64 ld,.slice a2 n2 c2],.int .i64 (fE d)]))∧Below w.heap.size w w'):=HCl.out d
  clear HCl
  have g0:(fE d == 0)=true:=by simpa using h0
  have g1:(fE k1 == 0)=true:=by simpa using h1
  have g2:(fE d == 0)=true:=by simpa using h2
  have g4:(k1 == d)=false:=by simpa using h4
  go_enter Tryz.func3,Tryz.ntmps3
  go_wp2_with (first
    | (go_at_call 5;refine (HA.out _).mono ?_;rintro e w1 ⟨rfl,hb⟩;have B1:Hid (Below W.heap.size W w1):=hb;clear hb HA)
    | (go_at_call 6;refine (HB.out _ B1.out).mono ?_;rintro e w2 ⟨⟨b,rfl,hw⟩,hb⟩;have H2:Hid (WAt b ps w2):=hw;have B2:Hid (Below W.heap.size W w2):=bstep B1.out hb;clear hw hb HB B1)
    | (go_at_call 7;refine (HC1.out _ _ H2.out).mono ?_;rintro e w3 ⟨⟨su3,a3,n3,c3,l3,p3,q3,t3,rfl⟩,hb⟩;have B3:Hid (Below w2.heap.size w2 w3):=hb;clear hb HC1)
    | (go_at_call 7;refine (HC2.out _ _ (H2.out.below (B3.out.alloc B3.out.size _))).mono ?_;rintro e w4 ⟨⟨su4,a4,n4,c4,l4,p4,q4,t4,rfl⟩,hb⟩;have D4:Hid (w4.heap[w3.heap.size]?=some (.cells #[.string (fN d),.string su3,.slice a3 n3 c3,.int .i64 (fF d),.int .i64 l3,.slice p3 q3 t3] 29 (0,0))):=(hb.block w3.heap.size (by simp)).trans (halloc1 _ _);have B4:Hid (Below w2.heap.size w2 w4):=bstep (B3.out.alloc B3.out.size _) hb;clear hb HC2 B3)
    | (go_at_call 7;refine (HC3.out _ _ (H2.out.below (B4.out.alloc B4.out.size _))).mono ?_;rintro e w5 ⟨⟨su5,a5,n5,c5,l5,p5,q5,t5,rfl⟩,hb⟩;have D5:Hid (w5.heap[w3.heap.size]?=some (.cells #[.string (fN d),.string su3,.slice a3 n3 c3,.int .i64 (fF d),.int .i64 l3,.slice p3 q3 t3] 29 (0,0))∧w5.heap[w4.heap.size]?=some (.cells #[.string (fN k1),.string su4,.slice a4 n4 c4,.int .i64 (fF k1),.int .i64 l4,.slice p4 q4 t4] 29 (0,0))):=⟨(hb.block w3.heap.size (by have:=lt_of_blk D4.out;simp;omega)).trans (hkeep D4.out),(hb.block w4.heap.size (by simp)).trans (halloc1 _ _)⟩;have f5:w5.cell? ⟨w3.heap.size,3,none⟩=some (.int .i64 (fF d)):=(cell_of_row w5 _ 3 _ _ _ D5.out.1).trans rfl;have z5:w3.heap.size<w5.heap.size:=lt_of_blk D5.out.1;have B5:Hid (Below w2.heap.size w2 w5):=bstep (B4.out.alloc B4.out.size _) hb;clear hb HC3 B4 D4))
  go_ret
  exact ⟨rfl,bstep B2.out (B5.out.alloc B5.out.size _)⟩
set_option maxHeartbeats 4000000 in
theorem ws7_6 (ps:List Plc) (W:World) (v:Value) (d k1 k2:Int) (n ds:ByteArray) (fN:Int→ByteArray) (fF fE:Int→Int)
    (HB:Hid (∀ w:World,Below W.heap.size W w→Calls Tryz.prog 6 #[v] w fun e w'=>(∃ b,e=.returned (.pointer (some ⟨b,0,none⟩))∧WAt b ps w')∧Below w.heap.size w w'))
    (HCl:Hid (∀ (x:Int) b w,WAt b ps w→Calls Tryz.prog 7 #[.pointer (some ⟨b,0,none⟩),.int .i64 x] w fun e w'=>(∃ su a1 n1 c1 ld a2 n2 c2,e=.returned (.tuple #[.agg #[.string (fN x),.string su,.slice a1 n1 c1,.int .i64 (fF x),.int .i64 ld,.slice a2 n2 c2],.int .i64 (fE x)]))∧Below w.heap.size w w'))
    (h0:fE d=0) (h1:fE k1=0) (h2:fE k2=0) (h3:(bits .and .i64 (fF d) 32 == 0)=false) (h4:¬ k1=d) (h5:¬ k2=d) (h6:(n.toList == [60,105,110,105,116,62])=true) :
    Calls Tryz.prog 3 #[v,.int .i64 d,.int .i64 k1,.int .i64 k2,.string n,.string ds] W fun e w'=>e=.returned (.bool true)∧Below W.heap.size W w':=by
  have HA:Hid (∀ w:World,Calls Tryz.prog 5 #[] w fun e w'=>e=.returned (.bool true)∧Below w.heap.size w w'):=awakeT_c
  have B0:Hid (Below W.heap.size W W):=Below.refl _ _
  have HC1:Hid (∀ b w,WAt b ps w→Calls Tryz.prog 7 #[.pointer (some ⟨b,0,none⟩),.int .i64 d] w fun e w'=>(∃ su a1 n1 c1 ld a2 n2 c2,e=.returned (.tuple #[.agg #[.string (fN d),.string su,.slice a1 n1 c1,.int .i64 (fF d),.int .i64 ld,.slice a2 n2 c2],.int .i64 (fE d)]))∧Below w.heap.size w w'):=HCl.out d
  have HC2:Hid (∀ b w,WAt b ps w→Calls Tryz.prog 7 #[.pointer (some ⟨b,0,none⟩),.int .i64 k1] w fun e w'=>(∃ su a1 n1 c1 ld a2 n2 c2,e=.returned (.tuple #[.agg #[.string (fN k1),.string su,.slice a1 n1 c1,.int .i64 (fF k1),.int .i64 ld,.slice a2 n2 c2],.int .i64 (fE k1)]))∧Below w.heap.size w w'):=HCl.out k1
  have HC3:Hid (∀ b w,WAt b ps w→Calls Tryz.prog 7 #[.pointer (some ⟨b,0,none⟩),.int .i64 k2] w fun e w'=>(∃ su a1 n1 c1 ld a2 n2 c2,e=.returned (.tuple #[.agg #[.string (fN k2),.string su,.slice a1 n1 c1,.int .i64 (fF k2),.int .i64 ld,.slice a2 n2 c2],.int .i64 (fE k2)]))∧Below w.heap.size w w'):=HCl.out k2
  clear HCl
  have g0:(fE d == 0)=true:=by simpa using h0
  have g1:(fE k1 == 0)=true:=by simpa using h1
  have g2:(fE k2 == 0)=true:=by simpa using h2
  have g4:(k1 == d)=false:=by simpa using h4
  have g5:(k2 == d)=false:=by simpa using h5
  go_enter Tryz.func3,Tryz.ntmps3
  go_wp2_with (first
    | (go_at_call 5;refine (HA.out _).mono ?_;rintro e w1 ⟨rfl,hb⟩;have B1:Hid (Below W.heap.size W w1):=hb;clear hb HA)
    | (go_at_call 6;refine (HB.out _ B1.out).mono ?_;rintro e w2 ⟨⟨b,rfl,hw⟩,hb⟩;have H2:Hid (WAt b ps w2):=hw;have B2:Hid (Below W.heap.size W w2):=bstep B1.out hb;clear hw hb HB B1)
    | (go_at_call 7;refine (HC1.out _ _ H2.out).mono ?_;rintro e w3 ⟨⟨su3,a3,n3,c3,l3,p3,q3,t3,rfl⟩,hb⟩;have B3:Hid (Below w2.heap.size w2 w3):=hb;clear hb HC1)
    | (go_at_call 7;refine (HC2.out _ _ (H2.out.below (B3.out.alloc B3.out.size _))).mono ?_;rintro e w4 ⟨⟨su4,a4,n4,c4,l4,p4,q4,t4,rfl⟩,hb⟩;have D4:Hid (w4.heap[w3.heap.size]?=some (.cells #[.string (fN d),.string su3,.slice a3 n3 c3,.int .i64 (fF d),.int .i64 l3,.slice p3 q3 t3] 29 (0,0))):=(hb.block w3.heap.size (by simp)).trans (halloc1 _ _);have B4:Hid (Below w2.heap.size w2 w4):=bstep (B3.out.alloc B3.out.size _) hb;clear hb HC2 B3)
    | (go_at_call 7;refine (HC3.out _ _ (H2.out.below (B4.out.alloc B4.out.size _))).mono ?_;rintro e w5 ⟨⟨su5,a5,n5,c5,l5,p5,q5,t5,rfl⟩,hb⟩;have D5:Hid (w5.heap[w3.heap.size]?=some (.cells #[.string (fN d),.string su3,.slice a3 n3 c3,.int .i64 (fF d),.int .i64 l3,.slice p3 q3 t3] 29 (0,0))∧w5.heap[w4.heap.size]?=some (.cells #[.string (fN k1),.string su4,.slice a4 n4 c4,.int .i64 (fF k1),.int .i64 l4,.slice p4 q4 t4] 29 (0,0))):=⟨(hb.block w3.heap.size (by have:=lt_of_blk D4.out;simp;omega)).trans (hkeep D4.out),(hb.block w4.heap.size (by simp)).trans (halloc1 _ _)⟩;have f5:w5.cell? ⟨w3.heap.size,3,none⟩=some (.int .i64 (fF d)):=(cell_of_row w5 _ 3 _ _ _ D5.out.1).trans rfl;have z5:w3.heap.size<w5.heap.size:=lt_of_blk D5.out.1;have B5:Hid (Below w2.heap.size w2 w5):=bstep (B4.out.alloc B4.out.size _) hb;clear hb HC3 B4 D4))
  go_ret
  exact ⟨rfl,bstep B2.out (B5.out.alloc B5.out.size _)⟩
set_option maxHeartbeats 4000000 in
theorem ws9_0 (ps:List Plc) (W:World) (v:Value) (d k1 k2:Int) (n ds:ByteArray) (fN:Int→ByteArray) (fF fE:Int→Int) (fI:Int→Bool) (fX:Int→Int→Bool)
    (HB:Hid (∀ w:World,Below W.heap.size W w→Calls Tryz.prog 6 #[v] w fun e w'=>(∃ b,e=.returned (.pointer (some ⟨b,0,none⟩))∧WAt b ps w')∧Below w.heap.size w w'))
    (HCl:Hid (∀ (x:Int) b w,WAt b ps w→Calls Tryz.prog 7 #[.pointer (some ⟨b,0,none⟩),.int .i64 x] w fun e w'=>(∃ su a1 n1 c1 ld a2 n2 c2,e=.returned (.tuple #[.agg #[.string (fN x),.string su,.slice a1 n1 c1,.int .i64 (fF x),.int .i64 ld,.slice a2 n2 c2],.int .i64 (fE x)]))∧Below w.heap.size w w'))
    (HI:Hid (∀ (x:Int) b w,WAt b ps w→Calls Tryz.prog 8 #[.pointer (some ⟨b,0,none⟩),.int .i64 x] w fun e w'=>e=.returned (.bool (fI x))∧Below w.heap.size w w'))
    (HX:Hid (∀ (x y:Int) b w,WAt b ps w→Calls Tryz.prog 9 #[.pointer (some ⟨b,0,none⟩),.int .i64 x,.int .i64 y] w fun e w'=>e=.returned (.bool (fX x y))∧Below w.heap.size w w'))
    (h0:fE d=0) (h1:fE k1=0) (h2:fE k2=0) (h3:(bits .and .i64 (fF d) 32 == 0)=false) (h4:¬ k1=d) (h5:¬ k2=d) (h6:(n.toList == [60,105,110,105,116,62])=false)
    (c0:fI d=true) :
    Calls Tryz.prog 3 #[v,.int .i64 d,.int .i64 k1,.int .i64 k2,.string n,.string ds] W fun e w'=>e=.returned (.bool true)∧Below W.heap.size W w':=by
  have HA:Hid (∀ w:World,Calls Tryz.prog 5 #[] w fun e w'=>e=.returned (.bool true)∧Below w.heap.size w w'):=awakeT_c
  have B0:Hid (Below W.heap.size W W):=Below.refl _ _
  have HC1:Hid (∀ b w,WAt b ps w→Calls Tryz.prog 7 #[.pointer (some ⟨b,0,none⟩),.int .i64 d] w fun e w'=>(∃ su a1 n1 c1 ld a2 n2 c2,e=.returned (.tuple #[.agg #[.string (fN d),.string su,.slice a1 n1 c1,.int .i64 (fF d),.int .i64 ld,.slice a2 n2 c2],.int .i64 (fE d)]))∧Below w.heap.size w w'):=HCl.out d
  have HC2:Hid (∀ b w,WAt b ps w→Calls Tryz.prog 7 #[.pointer (some ⟨b,0,none⟩),.int .i64 k1] w fun e w'=>(∃ su a1 n1 c1 ld a2 n2 c2,e=.returned (.tuple #[.agg #[.string (fN k1),.string su,.slice a1 n1 c1,.int .i64 (fF k1),.int .i64 ld,.slice a2 n2 c2],.int .i64 (fE k1)]))∧Below w.heap.size w w'):=HCl.out k1
  have HC3:Hid (∀ b w,WAt b ps w→Calls Tryz.prog 7 #[.pointer (some ⟨b,0,none⟩),.int .i64 k2] w fun e w'=>(∃ su a1 n1 c1 ld a2 n2 c2,e=.returned (.tuple #[.agg #[.string (fN k2),.string su,.slice a1 n1 c1,.int .i64 (fF k2),.int .i64 ld,.slice a2 n2 c2],.int .i64 (fE k2)]))∧Below w.heap.size w w'):=HCl.out k2
  clear HCl
  have HI1:Hid (∀ b w,WAt b ps w→Calls Tryz.prog 8 #[.pointer (some ⟨b,0,none⟩),.int .i64 d] w fun e w'=>e=.returned (.bool (fI d))∧Below w.heap.size w w'):=HI.out d
  have HI2:Hid (∀ b w,WAt b ps w→Calls Tryz.prog 8 #[.pointer (some ⟨b,0,none⟩),.int .i64 k1] w fun e w'=>e=.returned (.bool (fI k1))∧Below w.heap.size w w'):=HI.out k1
  have HI3:Hid (∀ b w,WAt b ps w→Calls Tryz.prog 8 #[.pointer (some ⟨b,0,none⟩),.int .i64 k2] w fun e w'=>e=.returned (.bool (fI k2))∧Below w.heap.size w w'):=HI.out k2
  have HX1:Hid (∀ b w,WAt b ps w→Calls Tryz.prog 9 #[.pointer (some ⟨b,0,none⟩),.int .i64 d,.int .i64 k1] w fun e w'=>e=.returned (.bool (fX d k1))∧Below w.heap.size w w'):=HX.out d k1
  have HX2:Hid (∀ b w,WAt b ps w→Calls Tryz.prog 9 #[.pointer (some ⟨b,0,none⟩),.int .i64 d,.int .i64 k2] w fun e w'=>e=.returned (.bool (fX d k2))∧Below w.heap.size w w'):=HX.out d k2
  clear HI HX
  rw [c0] at HI1
  have g0:(fE d == 0)=true:=by simpa using h0
  have g1:(fE k1 == 0)=true:=by simpa using h1
  have g2:(fE k2 == 0)=true:=by simpa using h2
  have g4:(k1 == d)=false:=by simpa using h4
  have g5:(k2 == d)=false:=by simpa using h5
  go_enter Tryz.func3,Tryz.ntmps3
  go_wp2_with (first
    | (go_at_call 5;refine (HA.out _).mono ?_;rintro e w1 ⟨rfl,hb⟩;have B1:Hid (Below W.heap.size W w1):=hb;clear hb HA)
    | (go_at_call 6;refine (HB.out _ B1.out).mono ?_;rintro e w2 ⟨⟨b,rfl,hw⟩,hb⟩;have H2:Hid (WAt b ps w2):=hw;have B2:Hid (Below W.heap.size W w2):=bstep B1.out hb;clear hw hb HB B1)
    | (go_at_call 7;refine (HC1.out _ _ H2.out).mono ?_;rintro e w3 ⟨⟨su3,a3,n3,c3,l3,p3,q3,t3,rfl⟩,hb⟩;have B3:Hid (Below w2.heap.size w2 w3):=hb;clear hb HC1)
    | (go_at_call 7;refine (HC2.out _ _ (H2.out.below (B3.out.alloc B3.out.size _))).mono ?_;rintro e w4 ⟨⟨su4,a4,n4,c4,l4,p4,q4,t4,rfl⟩,hb⟩;have D4:Hid (w4.heap[w3.heap.size]?=some (.cells #[.string (fN d),.string su3,.slice a3 n3 c3,.int .i64 (fF d),.int .i64 l3,.slice p3 q3 t3] 29 (0,0))):=(hb.block w3.heap.size (by simp)).trans (halloc1 _ _);have B4:Hid (Below w2.heap.size w2 w4):=bstep (B3.out.alloc B3.out.size _) hb;clear hb HC2 B3)
    | (go_at_call 7;refine (HC3.out _ _ (H2.out.below (B4.out.alloc B4.out.size _))).mono ?_;rintro e w5 ⟨⟨su5,a5,n5,c5,l5,p5,q5,t5,rfl⟩,hb⟩;have D5:Hid (w5.heap[w3.heap.size]?=some (.cells #[.string (fN d),.string su3,.slice a3 n3 c3,.int .i64 (fF d),.int .i64 l3,.slice p3 q3 t3] 29 (0,0))∧w5.heap[w4.heap.size]?=some (.cells #[.string (fN k1),.string su4,.slice a4 n4 c4,.int .i64 (fF k1),.int .i64 l4,.slice p4 q4 t4] 29 (0,0))):=⟨(hb.block w3.heap.size (by have:=lt_of_blk D4.out;simp;omega)).trans (hkeep D4.out),(hb.block w4.heap.size (by simp)).trans (halloc1 _ _)⟩;have f5:w5.cell? ⟨w3.heap.size,3,none⟩=some (.int .i64 (fF d)):=(cell_of_row w5 _ 3 _ _ _ D5.out.1).trans rfl;have z5:w3.heap.size<w5.heap.size:=lt_of_blk D5.out.1;have B5:Hid (Below w2.heap.size w2 w5):=bstep (B4.out.alloc B4.out.size _) hb;clear hb HC3 B4 D4)
    | (go_at_call 8;refine (HI1.out _ _ (H2.out.below (B5.out.alloc B5.out.size _))).mono ?_;rintro e x0 ⟨rfl,hb⟩;have X0:Hid (Below w2.heap.size w2 x0):=bstep (B5.out.alloc B5.out.size _) hb;clear hb HI1))
  go_ret
  exact ⟨rfl,bstep B2.out X0.out⟩
set_option maxHeartbeats 4000000 in
theorem ws9_1 (ps:List Plc) (W:World) (v:Value) (d k1 k2:Int) (n ds:ByteArray) (fN:Int→ByteArray) (fF fE:Int→Int) (fI:Int→Bool) (fX:Int→Int→Bool)
    (HB:Hid (∀ w:World,Below W.heap.size W w→Calls Tryz.prog 6 #[v] w fun e w'=>(∃ b,e=.returned (.pointer (some ⟨b,0,none⟩))∧WAt b ps w')∧Below w.heap.size w w'))
    (HCl:Hid (∀ (x:Int) b w,WAt b ps w→Calls Tryz.prog 7 #[.pointer (some ⟨b,0,none⟩),.int .i64 x] w fun e w'=>(∃ su a1 n1 c1 ld a2 n2 c2,e=.returned (.tuple #[.agg #[.string (fN x),.string su,.slice a1 n1 c1,.int .i64 (fF x),.int .i64 ld,.slice a2 n2 c2],.int .i64 (fE x)]))∧Below w.heap.size w w'))
    (HI:Hid (∀ (x:Int) b w,WAt b ps w→Calls Tryz.prog 8 #[.pointer (some ⟨b,0,none⟩),.int .i64 x] w fun e w'=>e=.returned (.bool (fI x))∧Below w.heap.size w w'))
    (HX:Hid (∀ (x y:Int) b w,WAt b ps w→Calls Tryz.prog 9 #[.pointer (some ⟨b,0,none⟩),.int .i64 x,.int .i64 y] w fun e w'=>e=.returned (.bool (fX x y))∧Below w.heap.size w w'))
    (h0:fE d=0) (h1:fE k1=0) (h2:fE k2=0) (h3:(bits .and .i64 (fF d) 32 == 0)=false) (h4:¬ k1=d) (h5:¬ k2=d) (h6:(n.toList == [60,105,110,105,116,62])=false)
    (c0:fI d=false) (c1:fI k1=true) :
    Calls Tryz.prog 3 #[v,.int .i64 d,.int .i64 k1,.int .i64 k2,.string n,.string ds] W fun e w'=>e=.returned (.bool true)∧Below W.heap.size W w':=by
  have HA:Hid (∀ w:World,Calls Tryz.prog 5 #[] w fun e w'=>e=.returned (.bool true)∧Below w.heap.size w w'):=awakeT_c
  have B0:Hid (Below W.heap.size W W):=Below.refl _ _
  have HC1:Hid (∀ b w,WAt b ps w→Calls Tryz.prog 7 #[.pointer (some ⟨b,0,none⟩),.int .i64 d] w fun e w'=>(∃ su a1 n1 c1 ld a2 n2 c2,e=.returned (.tuple #[.agg #[.string (fN d),.string su,.slice a1 n1 c1,.int .i64 (fF d),.int .i64 ld,.slice a2 n2 c2],.int .i64 (fE d)]))∧Below w.heap.size w w'):=HCl.out d
  have HC2:Hid (∀ b w,WAt b ps w→Calls Tryz.prog 7 #[.pointer (some ⟨b,0,none⟩),.int .i64 k1] w fun e w'=>(∃ su a1 n1 c1 ld a2 n2 c2,e=.returned (.tuple #[.agg #[.string (fN k1),.string su,.slice a1 n1 c1,.int .i64 (fF k1),.int .i64 ld,.slice a2 n2 c2],.int .i64 (fE k1)]))∧Below w.heap.size w w'):=HCl.out k1
  have HC3:Hid (∀ b w,WAt b ps w→Calls Tryz.prog 7 #[.pointer (some ⟨b,0,none⟩),.int .i64 k2] w fun e w'=>(∃ su a1 n1 c1 ld a2 n2 c2,e=.returned (.tuple #[.agg #[.string (fN k2),.string su,.slice a1 n1 c1,.int .i64 (fF k2),.int .i64 ld,.slice a2 n2 c2],.int .i64 (fE k2)]))∧Below w.heap.size w w'):=HCl.out k2
  clear HCl
  have HI1:Hid (∀ b w,WAt b ps w→Calls Tryz.prog 8 #[.pointer (some ⟨b,0,none⟩),.int .i64 d] w fun e w'=>e=.returned (.bool (fI d))∧Below w.heap.size w w'):=HI.out d
  have HI2:Hid (∀ b w,WAt b ps w→Calls Tryz.prog 8 #[.pointer (some ⟨b,0,none⟩),.int .i64 k1] w fun e w'=>e=.returned (.bool (fI k1))∧Below w.heap.size w w'):=HI.out k1
  have HI3:Hid (∀ b w,WAt b ps w→Calls Tryz.prog 8 #[.pointer (some ⟨b,0,none⟩),.int .i64 k2] w fun e w'=>e=.returned (.bool (fI k2))∧Below w.heap.size w w'):=HI.out k2
  have HX1:Hid (∀ b w,WAt b ps w→Calls Tryz.prog 9 #[.pointer (some ⟨b,0,none⟩),.int .i64 d,.int .i64 k1] w fun e w'=>e=.returned (.bool (fX d k1))∧Below w.heap.size w w'):=HX.out d k1
  have HX2:Hid (∀ b w,WAt b ps w→Calls Tryz.prog 9 #[.pointer (some ⟨b,0,none⟩),.int .i64 d,.int .i64 k2] w fun e w'=>e=.returned (.bool (fX d k2))∧Below w.heap.size w w'):=HX.out d k2
  clear HI HX
  rw [c0] at HI1
  rw [c1] at HI2
  have g0:(fE d == 0)=true:=by simpa using h0
  have g1:(fE k1 == 0)=true:=by simpa using h1
  have g2:(fE k2 == 0)=true:=by simpa using h2
  have g4:(k1 == d)=false:=by simpa using h4
  have g5:(k2 == d)=false:=by simpa using h5
  go_enter Tryz.func3,Tryz.ntmps3
  go_wp2_with (first
    | (go_at_call 5;refine (HA.out _).mono ?_;rintro e w1 ⟨rfl,hb⟩;have B1:Hid (Below W.heap.size W w1):=hb;clear hb HA)
    | (go_at_call 6;refine (HB.out _ B1.out).mono ?_;rintro e w2 ⟨⟨b,rfl,hw⟩,hb⟩;have H2:Hid (WAt b ps w2):=hw;have B2:Hid (Below W.heap.size W w2):=bstep B1.out hb;clear hw hb HB B1)
    | (go_at_call 7;refine (HC1.out _ _ H2.out).mono ?_;rintro e w3 ⟨⟨su3,a3,n3,c3,l3,p3,q3,t3,rfl⟩,hb⟩;have B3:Hid (Below w2.heap.size w2 w3):=hb;clear hb HC1)
    | (go_at_call 7;refine (HC2.out _ _ (H2.out.below (B3.out.alloc B3.out.size _))).mono ?_;rintro e w4 ⟨⟨su4,a4,n4,c4,l4,p4,q4,t4,rfl⟩,hb⟩;have D4:Hid (w4.heap[w3.heap.size]?=some (.cells #[.string (fN d),.string su3,.slice a3 n3 c3,.int .i64 (fF d),.int .i64 l3,.slice p3 q3 t3] 29 (0,0))):=(hb.block w3.heap.size (by simp)).trans (halloc1 _ _);have B4:Hid (Below w2.heap.size w2 w4):=bstep (B3.out.alloc B3.out.size _) hb;clear hb HC2 B3)
    | (go_at_call 7;refine (HC3.out _ _ (H2.out.below (B4.out.alloc B4.out.size _))).mono ?_;rintro e w5 ⟨⟨su5,a5,n5,c5,l5,p5,q5,t5,rfl⟩,hb⟩;have D5:Hid (w5.heap[w3.heap.size]?=some (.cells #[.string (fN d),.string su3,.slice a3 n3 c3,.int .i64 (fF d),.int .i64 l3,.slice p3 q3 t3] 29 (0,0))∧w5.heap[w4.heap.size]?=some (.cells #[.string (fN k1),.string su4,.slice a4 n4 c4,.int .i64 (fF k1),.int .i64 l4,.slice p4 q4 t4] 29 (0,0))):=⟨(hb.block w3.heap.size (by have:=lt_of_blk D4.out;simp;omega)).trans (hkeep D4.out),(hb.block w4.heap.size (by simp)).trans (halloc1 _ _)⟩;have f5:w5.cell? ⟨w3.heap.size,3,none⟩=some (.int .i64 (fF d)):=(cell_of_row w5 _ 3 _ _ _ D5.out.1).trans rfl;have z5:w3.heap.size<w5.heap.size:=lt_of_blk D5.out.1;have B5:Hid (Below w2.heap.size w2 w5):=bstep (B4.out.alloc B4.out.size _) hb;clear hb HC3 B4 D4)
    | (go_at_call 8;refine (HI1.out _ _ (H2.out.below (B5.out.alloc B5.out.size _))).mono ?_;rintro e x0 ⟨rfl,hb⟩;have X0:Hid (Below w2.heap.size w2 x0):=bstep (B5.out.alloc B5.out.size _) hb;clear hb HI1)
    | (go_at_call 8;refine (HI2.out _ _ (H2.out.below X0.out)).mono ?_;rintro e x1 ⟨rfl,hb⟩;have X1:Hid (Below w2.heap.size w2 x1):=bstep X0.out hb;clear hb HI2 X0))
  go_ret
  exact ⟨rfl,bstep B2.out X1.out⟩
set_option maxHeartbeats 4000000 in
theorem ws9_2 (ps:List Plc) (W:World) (v:Value) (d k1 k2:Int) (n ds:ByteArray) (fN:Int→ByteArray) (fF fE:Int→Int) (fI:Int→Bool) (fX:Int→Int→Bool)
    (HB:Hid (∀ w:World,Below W.heap.size W w→Calls Tryz.prog 6 #[v] w fun e w'=>(∃ b,e=.returned (.pointer (some ⟨b,0,none⟩))∧WAt b ps w')∧Below w.heap.size w w'))
    (HCl:Hid (∀ (x:Int) b w,WAt b ps w→Calls Tryz.prog 7 #[.pointer (some ⟨b,0,none⟩),.int .i64 x] w fun e w'=>(∃ su a1 n1 c1 ld a2 n2 c2,e=.returned (.tuple #[.agg #[.string (fN x),.string su,.slice a1 n1 c1,.int .i64 (fF x),.int .i64 ld,.slice a2 n2 c2],.int .i64 (fE x)]))∧Below w.heap.size w w'))
    (HI:Hid (∀ (x:Int) b w,WAt b ps w→Calls Tryz.prog 8 #[.pointer (some ⟨b,0,none⟩),.int .i64 x] w fun e w'=>e=.returned (.bool (fI x))∧Below w.heap.size w w'))
    (HX:Hid (∀ (x y:Int) b w,WAt b ps w→Calls Tryz.prog 9 #[.pointer (some ⟨b,0,none⟩),.int .i64 x,.int .i64 y] w fun e w'=>e=.returned (.bool (fX x y))∧Below w.heap.size w w'))
    (h0:fE d=0) (h1:fE k1=0) (h2:fE k2=0) (h3:(bits .and .i64 (fF d) 32 == 0)=false) (h4:¬ k1=d) (h5:¬ k2=d) (h6:(n.toList == [60,105,110,105,116,62])=false)
    (c0:fI d=false) (c1:fI k1=false) (c2:fI k2=true) :
    Calls Tryz.prog 3 #[v,.int .i64 d,.int .i64 k1,.int .i64 k2,.string n,.string ds] W fun e w'=>e=.returned (.bool true)∧Below W.heap.size W w':=by
  have HA:Hid (∀ w:World,Calls Tryz.prog 5 #[] w fun e w'=>e=.returned (.bool true)∧Below w.heap.size w w'):=awakeT_c
  have B0:Hid (Below W.heap.size W W):=Below.refl _ _
  have HC1:Hid (∀ b w,WAt b ps w→Calls Tryz.prog 7 #[.pointer (some ⟨b,0,none⟩),.int .i64 d] w fun e w'=>(∃ su a1 n1 c1 ld a2 n2 c2,e=.returned (.tuple #[.agg #[.string (fN d),.string su,.slice a1 n1 c1,.int .i64 (fF d),.int .i64 ld,.slice a2 n2 c2],.int .i64 (fE d)]))∧Below w.heap.size w w'):=HCl.out d
  have HC2:Hid (∀ b w,WAt b ps w→Calls Tryz.prog 7 #[.pointer (some ⟨b,0,none⟩),.int .i64 k1] w fun e w'=>(∃ su a1 n1 c1 ld a2 n2 c2,e=.returned (.tuple #[.agg #[.string (fN k1),.string su,.slice a1 n1 c1,.int .i64 (fF k1),.int .i64 ld,.slice a2 n2 c2],.int .i64 (fE k1)]))∧Below w.heap.size w w'):=HCl.out k1
  have HC3:Hid (∀ b w,WAt b ps w→Calls Tryz.prog 7 #[.pointer (some ⟨b,0,none⟩),.int .i64 k2] w fun e w'=>(∃ su a1 n1 c1 ld a2 n2 c2,e=.returned (.tuple #[.agg #[.string (fN k2),.string su,.slice a1 n1 c1,.int .i64 (fF k2),.int .i64 ld,.slice a2 n2 c2],.int .i64 (fE k2)]))∧Below w.heap.size w w'):=HCl.out k2
  clear HCl
  have HI1:Hid (∀ b w,WAt b ps w→Calls Tryz.prog 8 #[.pointer (some ⟨b,0,none⟩),.int .i64 d] w fun e w'=>e=.returned (.bool (fI d))∧Below w.heap.size w w'):=HI.out d
  have HI2:Hid (∀ b w,WAt b ps w→Calls Tryz.prog 8 #[.pointer (some ⟨b,0,none⟩),.int .i64 k1] w fun e w'=>e=.returned (.bool (fI k1))∧Below w.heap.size w w'):=HI.out k1
  have HI3:Hid (∀ b w,WAt b ps w→Calls Tryz.prog 8 #[.pointer (some ⟨b,0,none⟩),.int .i64 k2] w fun e w'=>e=.returned (.bool (fI k2))∧Below w.heap.size w w'):=HI.out k2
  have HX1:Hid (∀ b w,WAt b ps w→Calls Tryz.prog 9 #[.pointer (some ⟨b,0,none⟩),.int .i64 d,.int .i64 k1] w fun e w'=>e=.returned (.bool (fX d k1))∧Below w.heap.size w w'):=HX.out d k1
  have HX2:Hid (∀ b w,WAt b ps w→Calls Tryz.prog 9 #[.pointer (some ⟨b,0,none⟩),.int .i64 d,.int .i64 k2] w fun e w'=>e=.returned (.bool (fX d k2))∧Below w.heap.size w w'):=HX.out d k2
  clear HI HX
  rw [c0] at HI1
  rw [c1] at HI2
  rw [c2] at HI3
  have g0:(fE d == 0)=true:=by simpa using h0
  have g1:(fE k1 == 0)=true:=by simpa using h1
  have g2:(fE k2 == 0)=true:=by simpa using h2
  have g4:(k1 == d)=false:=by simpa using h4
  have g5:(k2 == d)=false:=by simpa using h5
  go_enter Tryz.func3,Tryz.ntmps3
  go_wp2_with (first
    | (go_at_call 5;refine (HA.out _).mono ?_;rintro e w1 ⟨rfl,hb⟩;have B1:Hid (Below W.heap.size W w1):=hb;clear hb HA)
    | (go_at_call 6;refine (HB.out _ B1.out).mono ?_;rintro e w2 ⟨⟨b,rfl,hw⟩,hb⟩;have H2:Hid (WAt b ps w2):=hw;have B2:Hid (Below W.heap.size W w2):=bstep B1.out hb;clear hw hb HB B1)
    | (go_at_call 7;refine (HC1.out _ _ H2.out).mono ?_;rintro e w3 ⟨⟨su3,a3,n3,c3,l3,p3,q3,t3,rfl⟩,hb⟩;have B3:Hid (Below w2.heap.size w2 w3):=hb;clear hb HC1)
    | (go_at_call 7;refine (HC2.out _ _ (H2.out.below (B3.out.alloc B3.out.size _))).mono ?_;rintro e w4 ⟨⟨su4,a4,n4,c4,l4,p4,q4,t4,rfl⟩,hb⟩;have D4:Hid (w4.heap[w3.heap.size]?=some (.cells #[.string (fN d),.string su3,.slice a3 n3 c3,.int .i64 (fF d),.int .i64 l3,.slice p3 q3 t3] 29 (0,0))):=(hb.block w3.heap.size (by simp)).trans (halloc1 _ _);have B4:Hid (Below w2.heap.size w2 w4):=bstep (B3.out.alloc B3.out.size _) hb;clear hb HC2 B3)
    | (go_at_call 7;refine (HC3.out _ _ (H2.out.below (B4.out.alloc B4.out.size _))).mono ?_;rintro e w5 ⟨⟨su5,a5,n5,c5,l5,p5,q5,t5,rfl⟩,hb⟩;have D5:Hid (w5.heap[w3.heap.size]?=some (.cells #[.string (fN d),.string su3,.slice a3 n3 c3,.int .i64 (fF d),.int .i64 l3,.slice p3 q3 t3] 29 (0,0))∧w5.heap[w4.heap.size]?=some (.cells #[.string (fN k1),.string su4,.slice a4 n4 c4,.int .i64 (fF k1),.int .i64 l4,.slice p4 q4 t4] 29 (0,0))):=⟨(hb.block w3.heap.size (by have:=lt_of_blk D4.out;simp;omega)).trans (hkeep D4.out),(hb.block w4.heap.size (by simp)).trans (halloc1 _ _)⟩;have f5:w5.cell? ⟨w3.heap.size,3,none⟩=some (.int .i64 (fF d)):=(cell_of_row w5 _ 3 _ _ _ D5.out.1).trans rfl;have z5:w3.heap.size<w5.heap.size:=lt_of_blk D5.out.1;have B5:Hid (Below w2.heap.size w2 w5):=bstep (B4.out.alloc B4.out.size _) hb;clear hb HC3 B4 D4)
    | (go_at_call 8;refine (HI1.out _ _ (H2.out.below (B5.out.alloc B5.out.size _))).mono ?_;rintro e x0 ⟨rfl,hb⟩;have X0:Hid (Below w2.heap.size w2 x0):=bstep (B5.out.alloc B5.out.size _) hb;clear hb HI1)
    | (go_at_call 8;refine (HI2.out _ _ (H2.out.below X0.out)).mono ?_;rintro e x1 ⟨rfl,hb⟩;have X1:Hid (Below w2.heap.size w2 x1):=bstep X0.out hb;clear hb HI2 X0)
    | (go_at_call 8;refine (HI3.out _ _ (H2.out.below X1.out)).mono ?_;rintro e x2 ⟨rfl,hb⟩;have X2:Hid (Below w2.heap.size w2 x2):=bstep X1.out hb;clear hb HI3 X1))
  go_ret
  exact ⟨rfl,bstep B2.out X2.out⟩
set_option maxHeartbeats 4000000 in
theorem ws9_3 (ps:List Plc) (W:World) (v:Value) (d k1 k2:Int) (n ds:ByteArray) (fN:Int→ByteArray) (fF fE:Int→Int) (fI:Int→Bool) (fX:Int→Int→Bool)
    (HB:Hid (∀ w:World,Below W.heap.size W w→Calls Tryz.prog 6 #[v] w fun e w'=>(∃ b,e=.returned (.pointer (some ⟨b,0,none⟩))∧WAt b ps w')∧Below w.heap.size w w'))
    (HCl:Hid (∀ (x:Int) b w,WAt b ps w→Calls Tryz.prog 7 #[.pointer (some ⟨b,0,none⟩),.int .i64 x] w fun e w'=>(∃ su a1 n1 c1 ld a2 n2 c2,e=.returned (.tuple #[.agg #[.string (fN x),.string su,.slice a1 n1 c1,.int .i64 (fF x),.int .i64 ld,.slice a2 n2 c2],.int .i64 (fE x)]))∧Below w.heap.size w w'))
    (HI:Hid (∀ (x:Int) b w,WAt b ps w→Calls Tryz.prog 8 #[.pointer (some ⟨b,0,none⟩),.int .i64 x] w fun e w'=>e=.returned (.bool (fI x))∧Below w.heap.size w w'))
    (HX:Hid (∀ (x y:Int) b w,WAt b ps w→Calls Tryz.prog 9 #[.pointer (some ⟨b,0,none⟩),.int .i64 x,.int .i64 y] w fun e w'=>e=.returned (.bool (fX x y))∧Below w.heap.size w w'))
    (h0:fE d=0) (h1:fE k1=0) (h2:fE k2=0) (h3:(bits .and .i64 (fF d) 32 == 0)=false) (h4:¬ k1=d) (h5:¬ k2=d) (h6:(n.toList == [60,105,110,105,116,62])=false)
    (c0:fI d=false) (c1:fI k1=false) (c2:fI k2=false) (c3:fX d k1=false) :
    Calls Tryz.prog 3 #[v,.int .i64 d,.int .i64 k1,.int .i64 k2,.string n,.string ds] W fun e w'=>e=.returned (.bool true)∧Below W.heap.size W w':=by
  have HA:Hid (∀ w:World,Calls Tryz.prog 5 #[] w fun e w'=>e=.returned (.bool true)∧Below w.heap.size w w'):=awakeT_c
  have B0:Hid (Below W.heap.size W W):=Below.refl _ _
  have HC1:Hid (∀ b w,WAt b ps w→Calls Tryz.prog 7 #[.pointer (some ⟨b,0,none⟩),.int .i64 d] w fun e w'=>(∃ su a1 n1 c1 ld a2 n2 c2,e=.returned (.tuple #[.agg #[.string (fN d),.string su,.slice a1 n1 c1,.int .i64 (fF d),.int .i64 ld,.slice a2 n2 c2],.int .i64 (fE d)]))∧Below w.heap.size w w'):=HCl.out d
  have HC2:Hid (∀ b w,WAt b ps w→Calls Tryz.prog 7 #[.pointer (some ⟨b,0,none⟩),.int .i64 k1] w fun e w'=>(∃ su a1 n1 c1 ld a2 n2 c2,e=.returned (.tuple #[.agg #[.string (fN k1),.string su,.slice a1 n1 c1,.int .i64 (fF k1),.int .i64 ld,.slice a2 n2 c2],.int .i64 (fE k1)]))∧Below w.heap.size w w'):=HCl.out k1
  have HC3:Hid (∀ b w,WAt b ps w→Calls Tryz.prog 7 #[.pointer (some ⟨b,0,none⟩),.int .i64 k2] w fun e w'=>(∃ su a1 n1 c1 ld a2 n2 c2,e=.returned (.tuple #[.agg #[.string (fN k2),.string su,.slice a1 n1 c1,.int .i64 (fF k2),.int .i64 ld,.slice a2 n2 c2],.int .i64 (fE k2)]))∧Below w.heap.size w w'):=HCl.out k2
  clear HCl
  have HI1:Hid (∀ b w,WAt b ps w→Calls Tryz.prog 8 #[.pointer (some ⟨b,0,none⟩),.int .i64 d] w fun e w'=>e=.returned (.bool (fI d))∧Below w.heap.size w w'):=HI.out d
  have HI2:Hid (∀ b w,WAt b ps w→Calls Tryz.prog 8 #[.pointer (some ⟨b,0,none⟩),.int .i64 k1] w fun e w'=>e=.returned (.bool (fI k1))∧Below w.heap.size w w'):=HI.out k1
  have HI3:Hid (∀ b w,WAt b ps w→Calls Tryz.prog 8 #[.pointer (some ⟨b,0,none⟩),.int .i64 k2] w fun e w'=>e=.returned (.bool (fI k2))∧Below w.heap.size w w'):=HI.out k2
  have HX1:Hid (∀ b w,WAt b ps w→Calls Tryz.prog 9 #[.pointer (some ⟨b,0,none⟩),.int .i64 d,.int .i64 k1] w fun e w'=>e=.returned (.bool (fX d k1))∧Below w.heap.size w w'):=HX.out d k1
  have HX2:Hid (∀ b w,WAt b ps w→Calls Tryz.prog 9 #[.pointer (some ⟨b,0,none⟩),.int .i64 d,.int .i64 k2] w fun e w'=>e=.returned (.bool (fX d k2))∧Below w.heap.size w w'):=HX.out d k2
  clear HI HX
  rw [c0] at HI1
  rw [c1] at HI2
  rw [c2] at HI3
  rw [c3] at HX1
  have g0:(fE d == 0)=true:=by simpa using h0
  have g1:(fE k1 == 0)=true:=by simpa using h1
  have g2:(fE k2 == 0)=true:=by simpa using h2
  have g4:(k1 == d)=false:=by simpa using h4
  have g5:(k2 == d)=false:=by simpa using h5
  go_enter Tryz.func3,Tryz.ntmps3
  go_wp2_with (first
    | (go_at_call 5;refine (HA.out _).mono ?_;rintro e w1 ⟨rfl,hb⟩;have B1:Hid (Below W.heap.size W w1):=hb;clear hb HA)
    | (go_at_call 6;refine (HB.out _ B1.out).mono ?_;rintro e w2 ⟨⟨b,rfl,hw⟩,hb⟩;have H2:Hid (WAt b ps w2):=hw;have B2:Hid (Below W.heap.size W w2):=bstep B1.out hb;clear hw hb HB B1)
    | (go_at_call 7;refine (HC1.out _ _ H2.out).mono ?_;rintro e w3 ⟨⟨su3,a3,n3,c3,l3,p3,q3,t3,rfl⟩,hb⟩;have B3:Hid (Below w2.heap.size w2 w3):=hb;clear hb HC1)
    | (go_at_call 7;refine (HC2.out _ _ (H2.out.below (B3.out.alloc B3.out.size _))).mono ?_;rintro e w4 ⟨⟨su4,a4,n4,c4,l4,p4,q4,t4,rfl⟩,hb⟩;have D4:Hid (w4.heap[w3.heap.size]?=some (.cells #[.string (fN d),.string su3,.slice a3 n3 c3,.int .i64 (fF d),.int .i64 l3,.slice p3 q3 t3] 29 (0,0))):=(hb.block w3.heap.size (by simp)).trans (halloc1 _ _);have B4:Hid (Below w2.heap.size w2 w4):=bstep (B3.out.alloc B3.out.size _) hb;clear hb HC2 B3)
    | (go_at_call 7;refine (HC3.out _ _ (H2.out.below (B4.out.alloc B4.out.size _))).mono ?_;rintro e w5 ⟨⟨su5,a5,n5,c5,l5,p5,q5,t5,rfl⟩,hb⟩;have D5:Hid (w5.heap[w3.heap.size]?=some (.cells #[.string (fN d),.string su3,.slice a3 n3 c3,.int .i64 (fF d),.int .i64 l3,.slice p3 q3 t3] 29 (0,0))∧w5.heap[w4.heap.size]?=some (.cells #[.string (fN k1),.string su4,.slice a4 n4 c4,.int .i64 (fF k1),.int .i64 l4,.slice p4 q4 t4] 29 (0,0))):=⟨(hb.block w3.heap.size (by have:=lt_of_blk D4.out;simp;omega)).trans (hkeep D4.out),(hb.block w4.heap.size (by simp)).trans (halloc1 _ _)⟩;have f5:w5.cell? ⟨w3.heap.size,3,none⟩=some (.int .i64 (fF d)):=(cell_of_row w5 _ 3 _ _ _ D5.out.1).trans rfl;have z5:w3.heap.size<w5.heap.size:=lt_of_blk D5.out.1;have B5:Hid (Below w2.heap.size w2 w5):=bstep (B4.out.alloc B4.out.size _) hb;clear hb HC3 B4 D4)
    | (go_at_call 8;refine (HI1.out _ _ (H2.out.below (B5.out.alloc B5.out.size _))).mono ?_;rintro e x0 ⟨rfl,hb⟩;have X0:Hid (Below w2.heap.size w2 x0):=bstep (B5.out.alloc B5.out.size _) hb;clear hb HI1)
    | (go_at_call 8;refine (HI2.out _ _ (H2.out.below X0.out)).mono ?_;rintro e x1 ⟨rfl,hb⟩;have X1:Hid (Below w2.heap.size w2 x1):=bstep X0.out hb;clear hb HI2 X0)
    | (go_at_call 8;refine (HI3.out _ _ (H2.out.below X1.out)).mono ?_;rintro e x2 ⟨rfl,hb⟩;have X2:Hid (Below w2.heap.size w2 x2):=bstep X1.out hb;clear hb HI3 X1)
    | (go_at_call 9;refine (HX1.out _ _ (H2.out.below X2.out)).mono ?_;rintro e x3 ⟨rfl,hb⟩;have X3:Hid (Below w2.heap.size w2 x3):=bstep X2.out hb;clear hb HX1 X2))
  go_ret
  exact ⟨rfl,bstep B2.out X3.out⟩
set_option maxHeartbeats 4000000 in
theorem ws9_4 (ps:List Plc) (W:World) (v:Value) (d k1 k2:Int) (n ds:ByteArray) (fN:Int→ByteArray) (fF fE:Int→Int) (fI:Int→Bool) (fX:Int→Int→Bool)
    (HB:Hid (∀ w:World,Below W.heap.size W w→Calls Tryz.prog 6 #[v] w fun e w'=>(∃ b,e=.returned (.pointer (some ⟨b,0,none⟩))∧WAt b ps w')∧Below w.heap.size w w'))
    (HCl:Hid (∀ (x:Int) b w,WAt b ps w→Calls Tryz.prog 7 #[.pointer (some ⟨b,0,none⟩),.int .i64 x] w fun e w'=>(∃ su a1 n1 c1 ld a2 n2 c2,e=.returned (.tuple #[.agg #[.string (fN x),.string su,.slice a1 n1 c1,.int .i64 (fF x),.int .i64 ld,.slice a2 n2 c2],.int .i64 (fE x)]))∧Below w.heap.size w w'))
    (HI:Hid (∀ (x:Int) b w,WAt b ps w→Calls Tryz.prog 8 #[.pointer (some ⟨b,0,none⟩),.int .i64 x] w fun e w'=>e=.returned (.bool (fI x))∧Below w.heap.size w w'))
    (HX:Hid (∀ (x y:Int) b w,WAt b ps w→Calls Tryz.prog 9 #[.pointer (some ⟨b,0,none⟩),.int .i64 x,.int .i64 y] w fun e w'=>e=.returned (.bool (fX x y))∧Below w.heap.size w w'))
    (h0:fE d=0) (h1:fE k1=0) (h2:fE k2=0) (h3:(bits .and .i64 (fF d) 32 == 0)=false) (h4:¬ k1=d) (h5:¬ k2=d) (h6:(n.toList == [60,105,110,105,116,62])=false)
    (c0:fI d=false) (c1:fI k1=false) (c2:fI k2=false) (c3:fX d k1=true) (c4:fX d k2=false) :
    Calls Tryz.prog 3 #[v,.int .i64 d,.int .i64 k1,.int .i64 k2,.string n,.string ds] W fun e w'=>e=.returned (.bool true)∧Below W.heap.size W w':=by
  have HA:Hid (∀ w:World,Calls Tryz.prog 5 #[] w fun e w'=>e=.returned (.bool true)∧Below w.heap.size w w'):=awakeT_c
  have B0:Hid (Below W.heap.size W W):=Below.refl _ _
  have HC1:Hid (∀ b w,WAt b ps w→Calls Tryz.prog 7 #[.pointer (some ⟨b,0,none⟩),.int .i64 d] w fun e w'=>(∃ su a1 n1 c1 ld a2 n2 c2,e=.returned (.tuple #[.agg #[.string (fN d),.string su,.slice a1 n1 c1,.int .i64 (fF d),.int .i64 ld,.slice a2 n2 c2],.int .i64 (fE d)]))∧Below w.heap.size w w'):=HCl.out d
  have HC2:Hid (∀ b w,WAt b ps w→Calls Tryz.prog 7 #[.pointer (some ⟨b,0,none⟩),.int .i64 k1] w fun e w'=>(∃ su a1 n1 c1 ld a2 n2 c2,e=.returned (.tuple #[.agg #[.string (fN k1),.string su,.slice a1 n1 c1,.int .i64 (fF k1),.int .i64 ld,.slice a2 n2 c2],.int .i64 (fE k1)]))∧Below w.heap.size w w'):=HCl.out k1
  have HC3:Hid (∀ b w,WAt b ps w→Calls Tryz.prog 7 #[.pointer (some ⟨b,0,none⟩),.int .i64 k2] w fun e w'=>(∃ su a1 n1 c1 ld a2 n2 c2,e=.returned (.tuple #[.agg #[.string (fN k2),.string su,.slice a1 n1 c1,.int .i64 (fF k2),.int .i64 ld,.slice a2 n2 c2],.int .i64 (fE k2)]))∧Below w.heap.size w w'):=HCl.out k2
  clear HCl
  have HI1:Hid (∀ b w,WAt b ps w→Calls Tryz.prog 8 #[.pointer (some ⟨b,0,none⟩),.int .i64 d] w fun e w'=>e=.returned (.bool (fI d))∧Below w.heap.size w w'):=HI.out d
  have HI2:Hid (∀ b w,WAt b ps w→Calls Tryz.prog 8 #[.pointer (some ⟨b,0,none⟩),.int .i64 k1] w fun e w'=>e=.returned (.bool (fI k1))∧Below w.heap.size w w'):=HI.out k1
  have HI3:Hid (∀ b w,WAt b ps w→Calls Tryz.prog 8 #[.pointer (some ⟨b,0,none⟩),.int .i64 k2] w fun e w'=>e=.returned (.bool (fI k2))∧Below w.heap.size w w'):=HI.out k2
  have HX1:Hid (∀ b w,WAt b ps w→Calls Tryz.prog 9 #[.pointer (some ⟨b,0,none⟩),.int .i64 d,.int .i64 k1] w fun e w'=>e=.returned (.bool (fX d k1))∧Below w.heap.size w w'):=HX.out d k1
  have HX2:Hid (∀ b w,WAt b ps w→Calls Tryz.prog 9 #[.pointer (some ⟨b,0,none⟩),.int .i64 d,.int .i64 k2] w fun e w'=>e=.returned (.bool (fX d k2))∧Below w.heap.size w w'):=HX.out d k2
  clear HI HX
  rw [c0] at HI1
  rw [c1] at HI2
  rw [c2] at HI3
  rw [c3] at HX1
  rw [c4] at HX2
  have g0:(fE d == 0)=true:=by simpa using h0
  have g1:(fE k1 == 0)=true:=by simpa using h1
  have g2:(fE k2 == 0)=true:=by simpa using h2
  have g4:(k1 == d)=false:=by simpa using h4
  have g5:(k2 == d)=false:=by simpa using h5
  go_enter Tryz.func3,Tryz.ntmps3
  go_wp2_with (first
    | (go_at_call 5;refine (HA.out _).mono ?_;rintro e w1 ⟨rfl,hb⟩;have B1:Hid (Below W.heap.size W w1):=hb;clear hb HA)
    | (go_at_call 6;refine (HB.out _ B1.out).mono ?_;rintro e w2 ⟨⟨b,rfl,hw⟩,hb⟩;have H2:Hid (WAt b ps w2):=hw;have B2:Hid (Below W.heap.size W w2):=bstep B1.out hb;clear hw hb HB B1)
    | (go_at_call 7;refine (HC1.out _ _ H2.out).mono ?_;rintro e w3 ⟨⟨su3,a3,n3,c3,l3,p3,q3,t3,rfl⟩,hb⟩;have B3:Hid (Below w2.heap.size w2 w3):=hb;clear hb HC1)
    | (go_at_call 7;refine (HC2.out _ _ (H2.out.below (B3.out.alloc B3.out.size _))).mono ?_;rintro e w4 ⟨⟨su4,a4,n4,c4,l4,p4,q4,t4,rfl⟩,hb⟩;have D4:Hid (w4.heap[w3.heap.size]?=some (.cells #[.string (fN d),.string su3,.slice a3 n3 c3,.int .i64 (fF d),.int .i64 l3,.slice p3 q3 t3] 29 (0,0))):=(hb.block w3.heap.size (by simp)).trans (halloc1 _ _);have B4:Hid (Below w2.heap.size w2 w4):=bstep (B3.out.alloc B3.out.size _) hb;clear hb HC2 B3)
    | (go_at_call 7;refine (HC3.out _ _ (H2.out.below (B4.out.alloc B4.out.size _))).mono ?_;rintro e w5 ⟨⟨su5,a5,n5,c5,l5,p5,q5,t5,rfl⟩,hb⟩;have D5:Hid (w5.heap[w3.heap.size]?=some (.cells #[.string (fN d),.string su3,.slice a3 n3 c3,.int .i64 (fF d),.int .i64 l3,.slice p3 q3 t3] 29 (0,0))∧w5.heap[w4.heap.size]?=some (.cells #[.string (fN k1),.string su4,.slice a4 n4 c4,.int .i64 (fF k1),.int .i64 l4,.slice p4 q4 t4] 29 (0,0))):=⟨(hb.block w3.heap.size (by have:=lt_of_blk D4.out;simp;omega)).trans (hkeep D4.out),(hb.block w4.heap.size (by simp)).trans (halloc1 _ _)⟩;have f5:w5.cell? ⟨w3.heap.size,3,none⟩=some (.int .i64 (fF d)):=(cell_of_row w5 _ 3 _ _ _ D5.out.1).trans rfl;have z5:w3.heap.size<w5.heap.size:=lt_of_blk D5.out.1;have B5:Hid (Below w2.heap.size w2 w5):=bstep (B4.out.alloc B4.out.size _) hb;clear hb HC3 B4 D4)
    | (go_at_call 8;refine (HI1.out _ _ (H2.out.below (B5.out.alloc B5.out.size _))).mono ?_;rintro e x0 ⟨rfl,hb⟩;have X0:Hid (Below w2.heap.size w2 x0):=bstep (B5.out.alloc B5.out.size _) hb;clear hb HI1)
    | (go_at_call 8;refine (HI2.out _ _ (H2.out.below X0.out)).mono ?_;rintro e x1 ⟨rfl,hb⟩;have X1:Hid (Below w2.heap.size w2 x1):=bstep X0.out hb;clear hb HI2 X0)
    | (go_at_call 8;refine (HI3.out _ _ (H2.out.below X1.out)).mono ?_;rintro e x2 ⟨rfl,hb⟩;have X2:Hid (Below w2.heap.size w2 x2):=bstep X1.out hb;clear hb HI3 X1)
    | (go_at_call 9;refine (HX1.out _ _ (H2.out.below X2.out)).mono ?_;rintro e x3 ⟨rfl,hb⟩;have X3:Hid (Below w2.heap.size w2 x3):=bstep X2.out hb;clear hb HX1 X2)
    | (go_at_call 9;refine (HX2.out _ _ (H2.out.below X3.out)).mono ?_;rintro e x4 ⟨rfl,hb⟩;have X4:Hid (Below w2.heap.size w2 x4):=bstep X3.out hb;clear hb HX2 X3))
  go_ret
  exact ⟨rfl,bstep B2.out X4.out⟩
end Go.Proofs.YtenpnkkkjjdccaaGreat
