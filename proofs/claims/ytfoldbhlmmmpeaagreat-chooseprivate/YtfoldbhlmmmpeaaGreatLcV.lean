import Derived.Test.YtfoldbhlmmmpeaaGreatChW
import Derived.Test.YtfoldbhlmmmpeaaGreatChA
set_option maxRecDepth 100000
namespace Go.Proofs.YtfoldbhlmmmpeaaGreat
open Go.RowKit Go.Maps
theorem sidp_c (a b:Int) (w:World):Calls Tryz.prog 24 #[.agg #[.int .i64 a,.int .i64 b],.agg #[.int .i64 a,.int .i64 b]] w fun e w'=>e=.returned (.bool true)∧Below w.heap.size w w':=(sameID_c (a,b) (a,b) w).mono fun e w' zz=>⟨by rw [zz.1];simp,zz.2⟩
set_option maxHeartbeats 8000000 in
theorem priv_1 (ps:List Plc) (W:World) (v:Value) (r m1 m2:Int) (HB:Hid (∀ w:World,Below W.heap.size W w→Calls Tryz.prog 36 #[v] w fun e w'=>(∃ b,e=.returned (.pointer (some ⟨b,0,none⟩))∧WAt b ps w')∧Below w.heap.size w w')) (HX:Hid (∀ b w,WAt b ps w→Calls Tryz.prog 28 #[.pointer (some ⟨b,0,none⟩),.agg #[.int .i64 m1,.int .i64 m2]] w fun e w'=>(e=.returned (.tuple #[.agg #[.string ⟨#[]⟩,.string ⟨#[]⟩,.int .i64 0,.int .i64 0,.int .i64 0,.slice none 0 0],.int .i64 3]))∧Below w.heap.size w w')) (HC:Hid (∀ b w,WAt b ps w→Calls Tryz.prog 45 #[.pointer (some ⟨b,0,none⟩),.int .i64 r] w fun e w'=>(∃ ca cn cc ce,e=.returned (.tuple #[.slice ca cn cc,.int .i64 ce]))∧Below w.heap.size w w')):Calls Tryz.prog 14 #[v,.int .i64 r,.agg #[.int .i64 m1,.int .i64 m2]] W fun e w'=>e=.returned (.bool true)∧Below W.heap.size W w':=by
  have HA:Hid (∀ w:World,Calls Tryz.prog 34 #[] w fun e w'=>e=.returned (.bool true)∧Below w.heap.size w w'):=awake12_c
  have BB:Hid (Below W.heap.size W W):=Below.refl _ _
  go_enter Tryz.func14,Tryz.ntmps14
  go_wp2_with (first
    | (go_at_call 34;refine (HA.out _).mono ?_;rintro e w1 ⟨rfl,hb⟩;have mmd:=kp2 (n:=W.heap.size) hb (by first|omega|(simp;try omega)) (halloc1 _ _);(try clear mmB mm0 mm1 mmf mmL mmN);obtain ⟨mmB,mm0,mm1,mmf,mmL,mmN⟩:=mmd;have BB2:Below W.heap.size W w1:=bstep (by repeat (first|refine Below.setCell ?_ (by simp;try omega) _|refine Below.alloc ?_ (by have:=BB.out.size;simp;try omega) _|refine Below.drew ?_|exact BB.out)) hb;clear BB;have BB:Hid (Below W.heap.size W w1):=BB2;clear BB2;clear hb HA)
    | (go_at_call 36;refine (HB.out _ BB.out).mono ?_;rintro e w2 ⟨⟨b,rfl,hw⟩,hb⟩;have HH:Hid (WAt b ps w2):=hw;have mmd:=kp2 (n:=W.heap.size) hb (by first|omega|(simp;try omega)) (mmB.out);(try clear mmB mm0 mm1 mmf mmL mmN);obtain ⟨mmB,mm0,mm1,mmf,mmL,mmN⟩:=mmd;have BB2:Below W.heap.size W w2:=bstep (by repeat (first|refine Below.setCell ?_ (by simp;try omega) _|refine Below.alloc ?_ (by have:=BB.out.size;simp;try omega) _|refine Below.drew ?_|exact BB.out)) hb;clear BB;have BB:Hid (Below W.heap.size W w2):=BB2;clear BB2;clear hb HB hw)
    | (go_at_call 28;refine (HX.out _ _ HH.out).mono ?_;rintro e w3 ⟨rfl,hb⟩;have mmd:=kp2 (n:=W.heap.size) hb (by first|omega|(simp;try omega)) (mmB.out);(try clear mmB mm0 mm1 mmf mmL mmN);obtain ⟨mmB,mm0,mm1,mmf,mmL,mmN⟩:=mmd;have BB2:Below W.heap.size W w3:=bstep (by repeat (first|refine Below.setCell ?_ (by simp;try omega) _|refine Below.alloc ?_ (by have:=BB.out.size;simp;try omega) _|refine Below.drew ?_|exact BB.out)) hb;clear BB;have BB:Hid (Below W.heap.size W w3):=BB2;clear BB2;have HH2:=HH.out.below hb;clear HH;have HH:Hid (WAt b ps w3):=HH2;clear HH2;clear hb HX)
    | (go_at_call 45;refine (HC.out _ _ (HH.out.below ((Below.refl _ _).alloc (Nat.le_refl _) _))).mono ?_;rintro e w4 ⟨⟨ca,cn,cc,ce,rfl⟩,hb⟩;have mmd:=kp2 (n:=W.heap.size) hb (by first|omega|(simp;try omega)) (hkeep mmB.out);(try clear mmB mm0 mm1 mmf mmL mmN);obtain ⟨mmB,mm0,mm1,mmf,mmL,mmN⟩:=mmd;have BB2:Below W.heap.size W w4:=bstep (by repeat (first|refine Below.setCell ?_ (by simp;try omega) _|refine Below.alloc ?_ (by have:=BB.out.size;simp;try omega) _|refine Below.drew ?_|exact BB.out)) hb;clear BB;have BB:Hid (Below W.heap.size W w4):=BB2;clear BB2;have HH2:=(HH.out.below ((Below.refl _ _).alloc (Nat.le_refl _) _)).below hb;clear HH;have HH:Hid (WAt b ps w4):=HH2;clear HH2;clear hb HC))
  all_goals go_ret
  all_goals exact ⟨retB (by simp [*]),(by repeat (first|refine Below.setCell ?_ (by simp;try omega) _|refine Below.alloc ?_ (by have:=BB.out.size;simp;try omega) _|refine Below.drew ?_|exact BB.out))⟩
set_option maxHeartbeats 8000000 in
theorem priv_2 (ps:List Plc) (W:World) (v:Value) (r m1 m2:Int) (xn xd:ByteArray) (xf xl xs:Int) (HB:Hid (∀ w:World,Below W.heap.size W w→Calls Tryz.prog 36 #[v] w fun e w'=>(∃ b,e=.returned (.pointer (some ⟨b,0,none⟩))∧WAt b ps w')∧Below w.heap.size w w')) (HX:Hid (∀ b w,WAt b ps w→Calls Tryz.prog 28 #[.pointer (some ⟨b,0,none⟩),.agg #[.int .i64 m1,.int .i64 m2]] w fun e w'=>(∃ sa sk so,e=.returned (.tuple #[.agg #[.string xn,.string xd,.int .i64 xf,.int .i64 xl,.int .i64 xs,.slice sa sk so],.int .i64 0]))∧Below w.heap.size w w')) (HC:Hid (∀ b w,WAt b ps w→Calls Tryz.prog 45 #[.pointer (some ⟨b,0,none⟩),.int .i64 r] w fun e w'=>(e=.returned (.tuple #[.slice none 0 0,.int .i64 3]))∧Below w.heap.size w w')):Calls Tryz.prog 14 #[v,.int .i64 r,.agg #[.int .i64 m1,.int .i64 m2]] W fun e w'=>e=.returned (.bool true)∧Below W.heap.size W w':=by
  have HA:Hid (∀ w:World,Calls Tryz.prog 34 #[] w fun e w'=>e=.returned (.bool true)∧Below w.heap.size w w'):=awake12_c
  have BB:Hid (Below W.heap.size W W):=Below.refl _ _
  go_enter Tryz.func14,Tryz.ntmps14
  go_wp2_with (first
    | (go_at_call 34;refine (HA.out _).mono ?_;rintro e w1 ⟨rfl,hb⟩;have mmd:=kp2 (n:=W.heap.size) hb (by first|omega|(simp;try omega)) (halloc1 _ _);(try clear mmB mm0 mm1 mmf mmL mmN);obtain ⟨mmB,mm0,mm1,mmf,mmL,mmN⟩:=mmd;have BB2:Below W.heap.size W w1:=bstep (by repeat (first|refine Below.setCell ?_ (by simp;try omega) _|refine Below.alloc ?_ (by have:=BB.out.size;simp;try omega) _|refine Below.drew ?_|exact BB.out)) hb;clear BB;have BB:Hid (Below W.heap.size W w1):=BB2;clear BB2;clear hb HA)
    | (go_at_call 36;refine (HB.out _ BB.out).mono ?_;rintro e w2 ⟨⟨b,rfl,hw⟩,hb⟩;have HH:Hid (WAt b ps w2):=hw;have mmd:=kp2 (n:=W.heap.size) hb (by first|omega|(simp;try omega)) (mmB.out);(try clear mmB mm0 mm1 mmf mmL mmN);obtain ⟨mmB,mm0,mm1,mmf,mmL,mmN⟩:=mmd;have BB2:Below W.heap.size W w2:=bstep (by repeat (first|refine Below.setCell ?_ (by simp;try omega) _|refine Below.alloc ?_ (by have:=BB.out.size;simp;try omega) _|refine Below.drew ?_|exact BB.out)) hb;clear BB;have BB:Hid (Below W.heap.size W w2):=BB2;clear BB2;clear hb HB hw)
    | (go_at_call 28;refine (HX.out _ _ HH.out).mono ?_;rintro e w3 ⟨⟨sa,sk,so,rfl⟩,hb⟩;have mmd:=kp2 (n:=W.heap.size) hb (by first|omega|(simp;try omega)) (mmB.out);(try clear mmB mm0 mm1 mmf mmL mmN);obtain ⟨mmB,mm0,mm1,mmf,mmL,mmN⟩:=mmd;have BB2:Below W.heap.size W w3:=bstep (by repeat (first|refine Below.setCell ?_ (by simp;try omega) _|refine Below.alloc ?_ (by have:=BB.out.size;simp;try omega) _|refine Below.drew ?_|exact BB.out)) hb;clear BB;have BB:Hid (Below W.heap.size W w3):=BB2;clear BB2;have HH2:=HH.out.below hb;clear HH;have HH:Hid (WAt b ps w3):=HH2;clear HH2;clear hb HX)
    | (go_at_call 45;refine (HC.out _ _ (HH.out.below ((Below.refl _ _).alloc (Nat.le_refl _) _))).mono ?_;rintro e w4 ⟨rfl,hb⟩;have mmd:=kp2 (n:=W.heap.size) hb (by first|omega|(simp;try omega)) (hkeep mmB.out);(try clear mmB mm0 mm1 mmf mmL mmN);obtain ⟨mmB,mm0,mm1,mmf,mmL,mmN⟩:=mmd;have BB2:Below W.heap.size W w4:=bstep (by repeat (first|refine Below.setCell ?_ (by simp;try omega) _|refine Below.alloc ?_ (by have:=BB.out.size;simp;try omega) _|refine Below.drew ?_|exact BB.out)) hb;clear BB;have BB:Hid (Below W.heap.size W w4):=BB2;clear BB2;have HH2:=(HH.out.below ((Below.refl _ _).alloc (Nat.le_refl _) _)).below hb;clear HH;have HH:Hid (WAt b ps w4):=HH2;clear HH2;clear hb HC))
  all_goals go_ret
  all_goals exact ⟨retB (by simp [*]),(by repeat (first|refine Below.setCell ?_ (by simp;try omega) _|refine Below.alloc ?_ (by have:=BB.out.size;simp;try omega) _|refine Below.drew ?_|exact BB.out))⟩
set_option maxHeartbeats 8000000 in
theorem priv_3 (ps:List Plc) (W:World) (v:Value) (r m1 m2:Int) (xn xd:ByteArray) (xf xl xs:Int) (l:List Nat) (K:Nat) (_hKb:K≤1000000) (fc:Bool) (hq:fc=true∨(fc=false∧((bits .and .i64 xf 2=0)∨(¬ bits .and .i64 xf 2=0∧(bits .and .i64 xf 8 != 0)=true)))) (HB:Hid (∀ w:World,Below W.heap.size W w→Calls Tryz.prog 36 #[v] w fun e w'=>(∃ b,e=.returned (.pointer (some ⟨b,0,none⟩))∧WAt b ps w')∧Below w.heap.size w w')) (HX:Hid (∀ b w,WAt b ps w→Calls Tryz.prog 28 #[.pointer (some ⟨b,0,none⟩),.agg #[.int .i64 m1,.int .i64 m2]] w fun e w'=>(∃ sa sk so,e=.returned (.tuple #[.agg #[.string xn,.string xd,.int .i64 xf,.int .i64 xl,.int .i64 xs,.slice sa sk so],.int .i64 0]))∧Below w.heap.size w w')) (HC:Hid (∀ b w,WAt b ps w→Calls Tryz.prog 45 #[.pointer (some ⟨b,0,none⟩),.int .i64 r] w fun e w'=>(∃ ca cc,e=.returned (.tuple #[.slice ca K cc,.int .i64 0])∧Rds w' (.slice ca K cc) K 1 (l.map numV))∧Below w.heap.size w w')) (HI:Hid (∀ b w,WAt b ps w→Calls Tryz.prog 44 #[.pointer (some ⟨b,0,none⟩),.int .i64 r] w fun e w'=>(e=.returned (.bool fc))∧Below w.heap.size w w')):Calls Tryz.prog 14 #[v,.int .i64 r,.agg #[.int .i64 m1,.int .i64 m2]] W fun e w'=>e=.returned (.bool true)∧Below W.heap.size W w':=by
  have HA:Hid (∀ w:World,Calls Tryz.prog 34 #[] w fun e w'=>e=.returned (.bool true)∧Below w.heap.size w w'):=awake12_c
  have BB:Hid (Below W.heap.size W W):=Below.refl _ _
  rcases hq with rfl|⟨rfl,hq|⟨hq,hq2⟩⟩
  all_goals
    go_enter Tryz.func14,Tryz.ntmps14
    go_wp2_with (first
      | (go_at_call 34;refine (HA.out _).mono ?_;rintro e w1 ⟨rfl,hb⟩;have mmd:=kp2 (n:=W.heap.size) hb (by first|omega|(simp;try omega)) (halloc1 _ _);(try clear mmB mm0 mm1 mmf mmL mmN);obtain ⟨mmB,mm0,mm1,mmf,mmL,mmN⟩:=mmd;have BB2:Below W.heap.size W w1:=bstep (by repeat (first|refine Below.setCell ?_ (by simp;try omega) _|refine Below.alloc ?_ (by have:=BB.out.size;simp;try omega) _|refine Below.drew ?_|exact BB.out)) hb;clear BB;have BB:Hid (Below W.heap.size W w1):=BB2;clear BB2;clear hb HA)
      | (go_at_call 36;refine (HB.out _ BB.out).mono ?_;rintro e w2 ⟨⟨b,rfl,hw⟩,hb⟩;have HH:Hid (WAt b ps w2):=hw;have mmd:=kp2 (n:=W.heap.size) hb (by first|omega|(simp;try omega)) (mmB.out);(try clear mmB mm0 mm1 mmf mmL mmN);obtain ⟨mmB,mm0,mm1,mmf,mmL,mmN⟩:=mmd;have BB2:Below W.heap.size W w2:=bstep (by repeat (first|refine Below.setCell ?_ (by simp;try omega) _|refine Below.alloc ?_ (by have:=BB.out.size;simp;try omega) _|refine Below.drew ?_|exact BB.out)) hb;clear BB;have BB:Hid (Below W.heap.size W w2):=BB2;clear BB2;clear hb HB hw)
      | (go_at_call 28;refine (HX.out _ _ HH.out).mono ?_;rintro e w3 ⟨⟨sa,sk,so,rfl⟩,hb⟩;have mmd:=kp2 (n:=W.heap.size) hb (by first|omega|(simp;try omega)) (mmB.out);(try clear mmB mm0 mm1 mmf mmL mmN);obtain ⟨mmB,mm0,mm1,mmf,mmL,mmN⟩:=mmd;have BB2:Below W.heap.size W w3:=bstep (by repeat (first|refine Below.setCell ?_ (by simp;try omega) _|refine Below.alloc ?_ (by have:=BB.out.size;simp;try omega) _|refine Below.drew ?_|exact BB.out)) hb;clear BB;have BB:Hid (Below W.heap.size W w3):=BB2;clear BB2;have HH2:=HH.out.below hb;clear HH;have HH:Hid (WAt b ps w3):=HH2;clear HH2;clear hb HX)
      | (go_at_call 45;refine (HC.out _ _ (HH.out.below ((Below.refl _ _).alloc (Nat.le_refl _) _))).mono ?_;rintro e w4 ⟨⟨ca,cc,rfl,hrd⟩,hb⟩;have mmd:=kp2 (n:=W.heap.size) hb (by first|omega|(simp;try omega)) (hkeep mmB.out);(try clear mmB mm0 mm1 mmf mmL mmN);obtain ⟨mmB,mm0,mm1,mmf,mmL,mmN⟩:=mmd;have xmd:=kp6 (n:=w3.heap.size) hb (by first|omega|(simp;try omega)) (halloc1 _ _);(try clear xmB xm0 xm1 xm2 xm3 xm4 xm5 xmf xmL xmN);obtain ⟨xmB,xm0,xm1,xm2,xm3,xm4,xm5,xmf,xmL,xmN⟩:=xmd;have BB2:Below W.heap.size W w4:=bstep (by repeat (first|refine Below.setCell ?_ (by simp;try omega) _|refine Below.alloc ?_ (by have:=BB.out.size;simp;try omega) _|refine Below.drew ?_|exact BB.out)) hb;clear BB;have BB:Hid (Below W.heap.size W w4):=BB2;clear BB2;have HH2:=(HH.out.below ((Below.refl _ _).alloc (Nat.le_refl _) _)).below hb;clear HH;have HH:Hid (WAt b ps w4):=HH2;clear HH2;have D4:Hid (Rds w4 (.slice ca K cc) K 1 (l.map numV)):=hrd;clear hrd;clear hb HC)
      | (go_at_call 44;refine (HI.out _ _ HH.out).mono ?_;rintro e w5 ⟨rfl,hb⟩;have mmd:=kp2 (n:=W.heap.size) hb (by first|omega|(simp;try omega)) (mmB.out);(try clear mmB mm0 mm1 mmf mmL mmN);obtain ⟨mmB,mm0,mm1,mmf,mmL,mmN⟩:=mmd;have xmd:=kp6 (n:=w3.heap.size) hb (by first|omega|(simp;try omega)) (xmB.out);(try clear xmB xm0 xm1 xm2 xm3 xm4 xm5 xmf xmL xmN);obtain ⟨xmB,xm0,xm1,xm2,xm3,xm4,xm5,xmf,xmL,xmN⟩:=xmd;have BB2:Below W.heap.size W w5:=bstep (by repeat (first|refine Below.setCell ?_ (by simp;try omega) _|refine Below.alloc ?_ (by have:=BB.out.size;simp;try omega) _|refine Below.drew ?_|exact BB.out)) hb;clear BB;have BB:Hid (Below W.heap.size W w5):=BB2;clear BB2;have HH2:=HH.out.below hb;clear HH;have HH:Hid (WAt b ps w5):=HH2;clear HH2;clear hb HI))
  all_goals go_ret
  all_goals exact ⟨retB (by simp [*]),(by repeat (first|refine Below.setCell ?_ (by simp;try omega) _|refine Below.alloc ?_ (by have:=BB.out.size;simp;try omega) _|refine Below.drew ?_|exact BB.out))⟩
set_option maxHeartbeats 8000000 in
theorem priv_4 (ps:List Plc) (W:World) (v:Value) (r m1 m2:Int) (xn xd:ByteArray) (xf xl xs:Int) (l:List Nat) (K:Nat) (hKb:K≤1000000) (hK:l.length=K) (v1 v2 v3:Int) (h2:¬ bits .and .i64 xf 2=0) (h8:(bits .and .i64 xf 8 != 0)=false) (e1:v1=m1) (e2:v2=m2) (e3:v3=0) (hin:∃ x∈l,(x:Int)=m1) (HB:Hid (∀ w:World,Below W.heap.size W w→Calls Tryz.prog 36 #[v] w fun e w'=>(∃ b,e=.returned (.pointer (some ⟨b,0,none⟩))∧WAt b ps w')∧Below w.heap.size w w')) (HX:Hid (∀ b w,WAt b ps w→Calls Tryz.prog 28 #[.pointer (some ⟨b,0,none⟩),.agg #[.int .i64 m1,.int .i64 m2]] w fun e w'=>(∃ sa sk so,e=.returned (.tuple #[.agg #[.string xn,.string xd,.int .i64 xf,.int .i64 xl,.int .i64 xs,.slice sa sk so],.int .i64 0]))∧Below w.heap.size w w')) (HC:Hid (∀ b w,WAt b ps w→Calls Tryz.prog 45 #[.pointer (some ⟨b,0,none⟩),.int .i64 r] w fun e w'=>(∃ ca cc,e=.returned (.tuple #[.slice ca K cc,.int .i64 0])∧Rds w' (.slice ca K cc) K 1 (l.map numV))∧Below w.heap.size w w')) (HI:Hid (∀ b w,WAt b ps w→Calls Tryz.prog 44 #[.pointer (some ⟨b,0,none⟩),.int .i64 r] w fun e w'=>(e=.returned (.bool false))∧Below w.heap.size w w')) (HV:Hid (∀ b w,WAt b ps w→Calls Tryz.prog 38 #[.pointer (some ⟨b,0,none⟩),.int .i64 r,.agg #[.int .i64 m1,.int .i64 m2]] w fun e w'=>(e=.returned (.tuple #[.agg #[.int .i64 v1,.int .i64 v2],.int .i64 v3]))∧Below w.heap.size w w')) (HT:Hid (∀ b w,WAt b ps w→Calls Tryz.prog 40 #[.pointer (some ⟨b,0,none⟩),.int .i64 r,.agg #[.int .i64 m1,.int .i64 m2]] w fun e w'=>(e=.returned (.tuple #[.agg #[.int .i64 0,.int .i64 0],.int .i64 23]))∧Below w.heap.size w w')):Calls Tryz.prog 14 #[v,.int .i64 r,.agg #[.int .i64 m1,.int .i64 m2]] W fun e w'=>e=.returned (.bool true)∧Below W.heap.size W w':=by
  subst e1 e2 e3
  have HK:Hid (l.length=K):=hK
  have HIN:Hid (∃ x∈l,(x:Int)=v1):=hin
  clear hK hin
  have HA:Hid (∀ w:World,Calls Tryz.prog 34 #[] w fun e w'=>e=.returned (.bool true)∧Below w.heap.size w w'):=awake12_c
  have BB:Hid (Below W.heap.size W W):=Below.refl _ _
  have HQ:Hid (∀ w:World,Calls Tryz.prog 24 #[.agg #[.int .i64 v1,.int .i64 v2],.agg #[.int .i64 v1,.int .i64 v2]] w fun e w'=>e=.returned (.bool true)∧Below w.heap.size w w'):=fun w=>sidp_c v1 v2 w
  go_enter Tryz.func14,Tryz.ntmps14
  go_wp2_with (first
    | (go_at_call 34;refine (HA.out _).mono ?_;rintro e w1 ⟨rfl,hb⟩;have mmd:=kp2 (n:=W.heap.size) hb (by first|omega|(simp;try omega)) (halloc1 _ _);(try clear mmB mm0 mv1 mmf mmL mmN);obtain ⟨mmB,mm0,mv1,mmf,mmL,mmN⟩:=mmd;have BB2:Below W.heap.size W w1:=bstep (by repeat (first|refine Below.setCell ?_ (by simp;try omega) _|refine Below.alloc ?_ (by have:=BB.out.size;simp;try omega) _|refine Below.drew ?_|exact BB.out)) hb;clear BB;have BB:Hid (Below W.heap.size W w1):=BB2;clear BB2;clear hb HA)
    | (go_at_call 36;refine (HB.out _ BB.out).mono ?_;rintro e w2 ⟨⟨b,rfl,hw⟩,hb⟩;have HH:Hid (WAt b ps w2):=hw;have mmd:=kp2 (n:=W.heap.size) hb (by first|omega|(simp;try omega)) (mmB.out);(try clear mmB mm0 mv1 mmf mmL mmN);obtain ⟨mmB,mm0,mv1,mmf,mmL,mmN⟩:=mmd;have BB2:Below W.heap.size W w2:=bstep (by repeat (first|refine Below.setCell ?_ (by simp;try omega) _|refine Below.alloc ?_ (by have:=BB.out.size;simp;try omega) _|refine Below.drew ?_|exact BB.out)) hb;clear BB;have BB:Hid (Below W.heap.size W w2):=BB2;clear BB2;clear hb HB hw)
    | (go_at_call 28;refine (HX.out _ _ HH.out).mono ?_;rintro e w3 ⟨⟨sa,sk,so,rfl⟩,hb⟩;have mmd:=kp2 (n:=W.heap.size) hb (by first|omega|(simp;try omega)) (mmB.out);(try clear mmB mm0 mv1 mmf mmL mmN);obtain ⟨mmB,mm0,mv1,mmf,mmL,mmN⟩:=mmd;have BB2:Below W.heap.size W w3:=bstep (by repeat (first|refine Below.setCell ?_ (by simp;try omega) _|refine Below.alloc ?_ (by have:=BB.out.size;simp;try omega) _|refine Below.drew ?_|exact BB.out)) hb;clear BB;have BB:Hid (Below W.heap.size W w3):=BB2;clear BB2;have HH2:=HH.out.below hb;clear HH;have HH:Hid (WAt b ps w3):=HH2;clear HH2;clear hb HX)
    | (go_at_call 45;refine (HC.out _ _ (HH.out.below ((Below.refl _ _).alloc (Nat.le_refl _) _))).mono ?_;rintro e w4 ⟨⟨ca,cc,rfl,hrd⟩,hb⟩;have mmd:=kp2 (n:=W.heap.size) hb (by first|omega|(simp;try omega)) (hkeep mmB.out);(try clear mmB mm0 mv1 mmf mmL mmN);obtain ⟨mmB,mm0,mv1,mmf,mmL,mmN⟩:=mmd;have xmd:=kp6 (n:=w3.heap.size) hb (by first|omega|(simp;try omega)) (halloc1 _ _);(try clear xmB xm0 xv1 xv2 xm3 xm4 xm5 xmf xmL xmN);obtain ⟨xmB,xm0,xv1,xv2,xm3,xm4,xm5,xmf,xmL,xmN⟩:=xmd;have BB2:Below W.heap.size W w4:=bstep (by repeat (first|refine Below.setCell ?_ (by simp;try omega) _|refine Below.alloc ?_ (by have:=BB.out.size;simp;try omega) _|refine Below.drew ?_|exact BB.out)) hb;clear BB;have BB:Hid (Below W.heap.size W w4):=BB2;clear BB2;have HH2:=(HH.out.below ((Below.refl _ _).alloc (Nat.le_refl _) _)).below hb;clear HH;have HH:Hid (WAt b ps w4):=HH2;clear HH2;have D4:Hid (Rds w4 (.slice ca K cc) K 1 (l.map numV)):=hrd;clear hrd;clear hb HC)
    | (go_at_call 44;refine (HI.out _ _ HH.out).mono ?_;rintro e w5 ⟨rfl,hb⟩;have mmd:=kp2 (n:=W.heap.size) hb (by first|omega|(simp;try omega)) (mmB.out);(try clear mmB mm0 mv1 mmf mmL mmN);obtain ⟨mmB,mm0,mv1,mmf,mmL,mmN⟩:=mmd;have xmd:=kp6 (n:=w3.heap.size) hb (by first|omega|(simp;try omega)) (xmB.out);(try clear xmB xm0 xv1 xv2 xm3 xm4 xm5 xmf xmL xmN);obtain ⟨xmB,xm0,xv1,xv2,xm3,xm4,xm5,xmf,xmL,xmN⟩:=xmd;have BB2:Below W.heap.size W w5:=bstep (by repeat (first|refine Below.setCell ?_ (by simp;try omega) _|refine Below.alloc ?_ (by have:=BB.out.size;simp;try omega) _|refine Below.drew ?_|exact BB.out)) hb;clear BB;have BB:Hid (Below W.heap.size W w5):=BB2;clear BB2;have HH2:=HH.out.below hb;clear HH;have HH:Hid (WAt b ps w5):=HH2;clear HH2;have D5:Hid (Rds w5 (.slice ca K cc) K 1 (l.map numV)):=D4.out.keep hb;clear D4;clear hb HI)
    | (go_at_call 38;refine (HV.out _ _ HH.out).mono ?_;rintro e w6 ⟨rfl,hb⟩;have mmd:=kp2 (n:=W.heap.size) hb (by first|omega|(simp;try omega)) (mmB.out);(try clear mmB mm0 mv1 mmf mmL mmN);obtain ⟨mmB,mm0,mv1,mmf,mmL,mmN⟩:=mmd;have BB2:Below W.heap.size W w6:=bstep (by repeat (first|refine Below.setCell ?_ (by simp;try omega) _|refine Below.alloc ?_ (by have:=BB.out.size;simp;try omega) _|refine Below.drew ?_|exact BB.out)) hb;clear BB;have BB:Hid (Below W.heap.size W w6):=BB2;clear BB2;have HH2:=HH.out.below hb;clear HH;have HH:Hid (WAt b ps w6):=HH2;clear HH2;have D6:Hid (Rds w6 (.slice ca K cc) K 1 (l.map numV)):=D5.out.keep hb;clear D5;clear hb HV)
    | (go_at_call 40;refine (HT.out _ _ (HH.out.below ((Below.refl _ _).alloc (Nat.le_refl _) _))).mono ?_;rintro e w7 ⟨rfl,hb⟩;have mmd:=kp2 (n:=W.heap.size) hb (by first|omega|(simp;try omega)) (hkeep mmB.out);(try clear mmB mm0 mv1 mmf mmL mmN);obtain ⟨mmB,mm0,mv1,mmf,mmL,mmN⟩:=mmd;have abd:=kp2 (n:=w6.heap.size) hb (by first|omega|(simp;try omega)) (halloc1 _ _);(try clear abB ab0 ab1 abf abL abN);obtain ⟨abB,ab0,ab1,abf,abL,abN⟩:=abd;have BB2:Below W.heap.size W w7:=bstep (by repeat (first|refine Below.setCell ?_ (by simp;try omega) _|refine Below.alloc ?_ (by have:=BB.out.size;simp;try omega) _|refine Below.drew ?_|exact BB.out)) hb;clear BB;have BB:Hid (Below W.heap.size W w7):=BB2;clear BB2;have HH2:=(HH.out.below ((Below.refl _ _).alloc (Nat.le_refl _) _)).below hb;clear HH;have HH:Hid (WAt b ps w7):=HH2;clear HH2;have D7:Hid (Rds w7 (.slice ca K cc) K 1 (l.map numV)):=(D6.out.keep ((Below.refl _ _).alloc (Nat.le_refl _) _)).keep hb;clear D6;clear hb HT))
  go_loopw [16] (fun iv wr=>∃ (i:Nat),iv=.int .i64 i∧i≤K∧Hid (∀ x∈l.take i,(x:Int)≠v1)∧Hid (Below w7.heap.size w7 wr)) (fun iv _=>K - (intOf iv).toNat)
  case atStart=>exact ⟨0,rfl,Nat.zero_le _,(fun x hx=>by simp at hx),(Below.refl _ _).alloc (Nat.le_refl _) _⟩
  case round =>
    obtain ⟨i,rfl,hi,hT,hB⟩:=hrel
    obtain ⟨mrB,mr0,mr1,mrf,mrL,mrN⟩:=kp2 (n:=W.heap.size) hB.out (by omega) mmB.out
    obtain ⟨arB,ar0,ar1,arf,arL,arN⟩:=kp2 (n:=w6.heap.size) hB.out (by omega) abB.out
    have BW:Hid (Below W.heap.size W wr):=bstep BB.out hB.out
    by_cases hlt:i<K
    · have hil:i<l.length:=by rw [HK.out];exact hlt
      obtain ⟨x,hx⟩:∃ x,l[i]?=some x:=⟨_,List.getElem?_eq_getElem hil⟩
      obtain ⟨bk,oo,rfl,hbk,hcr⟩:=rds_num (D7.out.keep hB.out) hx
      have HT2:Hid ((x:Int)≠v1→∀ z∈l.take (i+1),(z:Int)≠v1):=fun hne z hz=>by
        rw [List.take_add_one,hx] at hz
        rcases List.mem_append.1 hz with hz|hz
        · exact hT.out z hz
        · simp at hz;subst hz;exact hne
      have HXM:Hid (x∈l):=List.mem_of_getElem? hx
      clear hx hil
      by_cases he:(x:Int)=v1
      · go_wp2_with fail
        go_region
        go_wp2_with (go_at_call 24;refine (HQ.out _).mono ?_;rintro e w9 ⟨rfl,hb⟩;have BB2:Hid (Below W.heap.size W w9):=bstep (by repeat (first|refine Below.drew ?_|exact BW.out)) hb;clear hb)
        all_goals go_ret
        all_goals exact ⟨retB (by simp [*]),BB2.out⟩
      · go_wp2_with fail
        go_region
        go_wp2
        all_goals go_roundw
        case rel=>exact ⟨i+1,by go_num,by omega,HT2.out he,hB.out.drew⟩
        case measure=>simp [intOf];omega
    · have e:i=K:=by omega
      subst e
      exfalso
      obtain ⟨x,hx,hxe⟩:=HIN.out
      rw [List.take_of_length_le (by rw [HK.out];exact Nat.le_refl _)] at hT
      exact hT.out x hx hxe
set_option maxHeartbeats 8000000 in
theorem priv_5 (ps:List Plc) (W:World) (v:Value) (r m1 m2:Int) (xn xd:ByteArray) (xf xl xs:Int) (l:List Nat) (K:Nat) (hKb:K≤1000000) (hK:l.length=K) (v1 v2 v3:Int) (h2:¬ bits .and .i64 xf 2=0) (h8:(bits .and .i64 xf 8 != 0)=false) (fj:Bool) (e3:v3=24∨v3=23∨(v3=0∧fj=true)) (hno:∀ x∈l,(x:Int)≠m1) (HB:Hid (∀ w:World,Below W.heap.size W w→Calls Tryz.prog 36 #[v] w fun e w'=>(∃ b,e=.returned (.pointer (some ⟨b,0,none⟩))∧WAt b ps w')∧Below w.heap.size w w')) (HX:Hid (∀ b w,WAt b ps w→Calls Tryz.prog 28 #[.pointer (some ⟨b,0,none⟩),.agg #[.int .i64 m1,.int .i64 m2]] w fun e w'=>(∃ sa sk so,e=.returned (.tuple #[.agg #[.string xn,.string xd,.int .i64 xf,.int .i64 xl,.int .i64 xs,.slice sa sk so],.int .i64 0]))∧Below w.heap.size w w')) (HC:Hid (∀ b w,WAt b ps w→Calls Tryz.prog 45 #[.pointer (some ⟨b,0,none⟩),.int .i64 r] w fun e w'=>(∃ ca cc,e=.returned (.tuple #[.slice ca K cc,.int .i64 0])∧Rds w' (.slice ca K cc) K 1 (l.map numV))∧Below w.heap.size w w')) (HI:Hid (∀ b w,WAt b ps w→Calls Tryz.prog 44 #[.pointer (some ⟨b,0,none⟩),.int .i64 r] w fun e w'=>(e=.returned (.bool false))∧Below w.heap.size w w')) (HV:Hid (∀ b w,WAt b ps w→Calls Tryz.prog 38 #[.pointer (some ⟨b,0,none⟩),.int .i64 r,.agg #[.int .i64 m1,.int .i64 m2]] w fun e w'=>(e=.returned (.tuple #[.agg #[.int .i64 v1,.int .i64 v2],.int .i64 v3]))∧Below w.heap.size w w')) (HT:Hid (∀ b w,WAt b ps w→Calls Tryz.prog 40 #[.pointer (some ⟨b,0,none⟩),.int .i64 r,.agg #[.int .i64 m1,.int .i64 m2]] w fun e w'=>(e=.returned (.tuple #[.agg #[.int .i64 0,.int .i64 0],.int .i64 23]))∧Below w.heap.size w w')) (HJ:Hid (∀ b w,WAt b ps w→Calls Tryz.prog 44 #[.pointer (some ⟨b,0,none⟩),.int .i64 v1] w fun e w'=>(e=.returned (.bool fj))∧Below w.heap.size w w')):Calls Tryz.prog 14 #[v,.int .i64 r,.agg #[.int .i64 m1,.int .i64 m2]] W fun e w'=>e=.returned (.bool true)∧Below W.heap.size W w':=by
  have HK:Hid (l.length=K):=hK
  clear hK
  have HA:Hid (∀ w:World,Calls Tryz.prog 34 #[] w fun e w'=>e=.returned (.bool true)∧Below w.heap.size w w'):=awake12_c
  have BB:Hid (Below W.heap.size W W):=Below.refl _ _
  go_enter Tryz.func14,Tryz.ntmps14
  go_wp2_with (first
    | (go_at_call 34;refine (HA.out _).mono ?_;rintro e w1 ⟨rfl,hb⟩;have mmd:=kp2 (n:=W.heap.size) hb (by first|omega|(simp;try omega)) (halloc1 _ _);(try clear mmB mm0 mm1 mmf mmL mmN);obtain ⟨mmB,mm0,mm1,mmf,mmL,mmN⟩:=mmd;have BB2:Below W.heap.size W w1:=bstep (by repeat (first|refine Below.setCell ?_ (by simp;try omega) _|refine Below.alloc ?_ (by have:=BB.out.size;simp;try omega) _|refine Below.drew ?_|exact BB.out)) hb;clear BB;have BB:Hid (Below W.heap.size W w1):=BB2;clear BB2;clear hb HA)
    | (go_at_call 36;refine (HB.out _ BB.out).mono ?_;rintro e w2 ⟨⟨b,rfl,hw⟩,hb⟩;have HH:Hid (WAt b ps w2):=hw;have mmd:=kp2 (n:=W.heap.size) hb (by first|omega|(simp;try omega)) (mmB.out);(try clear mmB mm0 mm1 mmf mmL mmN);obtain ⟨mmB,mm0,mm1,mmf,mmL,mmN⟩:=mmd;have BB2:Below W.heap.size W w2:=bstep (by repeat (first|refine Below.setCell ?_ (by simp;try omega) _|refine Below.alloc ?_ (by have:=BB.out.size;simp;try omega) _|refine Below.drew ?_|exact BB.out)) hb;clear BB;have BB:Hid (Below W.heap.size W w2):=BB2;clear BB2;clear hb HB hw)
    | (go_at_call 28;refine (HX.out _ _ HH.out).mono ?_;rintro e w3 ⟨⟨sa,sk,so,rfl⟩,hb⟩;have mmd:=kp2 (n:=W.heap.size) hb (by first|omega|(simp;try omega)) (mmB.out);(try clear mmB mm0 mm1 mmf mmL mmN);obtain ⟨mmB,mm0,mm1,mmf,mmL,mmN⟩:=mmd;have BB2:Below W.heap.size W w3:=bstep (by repeat (first|refine Below.setCell ?_ (by simp;try omega) _|refine Below.alloc ?_ (by have:=BB.out.size;simp;try omega) _|refine Below.drew ?_|exact BB.out)) hb;clear BB;have BB:Hid (Below W.heap.size W w3):=BB2;clear BB2;have HH2:=HH.out.below hb;clear HH;have HH:Hid (WAt b ps w3):=HH2;clear HH2;clear hb HX)
    | (go_at_call 45;refine (HC.out _ _ (HH.out.below ((Below.refl _ _).alloc (Nat.le_refl _) _))).mono ?_;rintro e w4 ⟨⟨ca,cc,rfl,hrd⟩,hb⟩;have mmd:=kp2 (n:=W.heap.size) hb (by first|omega|(simp;try omega)) (hkeep mmB.out);(try clear mmB mm0 mm1 mmf mmL mmN);obtain ⟨mmB,mm0,mm1,mmf,mmL,mmN⟩:=mmd;have xmd:=kp6 (n:=w3.heap.size) hb (by first|omega|(simp;try omega)) (halloc1 _ _);(try clear xmB xm0 xm1 xm2 xm3 xm4 xm5 xmf xmL xmN);obtain ⟨xmB,xm0,xm1,xm2,xm3,xm4,xm5,xmf,xmL,xmN⟩:=xmd;have BB2:Below W.heap.size W w4:=bstep (by repeat (first|refine Below.setCell ?_ (by simp;try omega) _|refine Below.alloc ?_ (by have:=BB.out.size;simp;try omega) _|refine Below.drew ?_|exact BB.out)) hb;clear BB;have BB:Hid (Below W.heap.size W w4):=BB2;clear BB2;have HH2:=(HH.out.below ((Below.refl _ _).alloc (Nat.le_refl _) _)).below hb;clear HH;have HH:Hid (WAt b ps w4):=HH2;clear HH2;have D4:Hid (Rds w4 (.slice ca K cc) K 1 (l.map numV)):=hrd;clear hrd;clear hb HC)
    | (go_at_call 44;refine (HI.out _ _ HH.out).mono ?_;rintro e w5 ⟨rfl,hb⟩;have mmd:=kp2 (n:=W.heap.size) hb (by first|omega|(simp;try omega)) (mmB.out);(try clear mmB mm0 mm1 mmf mmL mmN);obtain ⟨mmB,mm0,mm1,mmf,mmL,mmN⟩:=mmd;have xmd:=kp6 (n:=w3.heap.size) hb (by first|omega|(simp;try omega)) (xmB.out);(try clear xmB xm0 xm1 xm2 xm3 xm4 xm5 xmf xmL xmN);obtain ⟨xmB,xm0,xm1,xm2,xm3,xm4,xm5,xmf,xmL,xmN⟩:=xmd;have BB2:Below W.heap.size W w5:=bstep (by repeat (first|refine Below.setCell ?_ (by simp;try omega) _|refine Below.alloc ?_ (by have:=BB.out.size;simp;try omega) _|refine Below.drew ?_|exact BB.out)) hb;clear BB;have BB:Hid (Below W.heap.size W w5):=BB2;clear BB2;have HH2:=HH.out.below hb;clear HH;have HH:Hid (WAt b ps w5):=HH2;clear HH2;have D5:Hid (Rds w5 (.slice ca K cc) K 1 (l.map numV)):=D4.out.keep hb;clear D4;clear hb HI)
    | (go_at_call 38;refine (HV.out _ _ HH.out).mono ?_;rintro e w6 ⟨rfl,hb⟩;have mmd:=kp2 (n:=W.heap.size) hb (by first|omega|(simp;try omega)) (mmB.out);(try clear mmB mm0 mm1 mmf mmL mmN);obtain ⟨mmB,mm0,mm1,mmf,mmL,mmN⟩:=mmd;have BB2:Below W.heap.size W w6:=bstep (by repeat (first|refine Below.setCell ?_ (by simp;try omega) _|refine Below.alloc ?_ (by have:=BB.out.size;simp;try omega) _|refine Below.drew ?_|exact BB.out)) hb;clear BB;have BB:Hid (Below W.heap.size W w6):=BB2;clear BB2;have HH2:=HH.out.below hb;clear HH;have HH:Hid (WAt b ps w6):=HH2;clear HH2;have D6:Hid (Rds w6 (.slice ca K cc) K 1 (l.map numV)):=D5.out.keep hb;clear D5;clear hb HV)
    | (go_at_call 40;refine (HT.out _ _ (HH.out.below ((Below.refl _ _).alloc (Nat.le_refl _) _))).mono ?_;rintro e w7 ⟨rfl,hb⟩;have mmd:=kp2 (n:=W.heap.size) hb (by first|omega|(simp;try omega)) (hkeep mmB.out);(try clear mmB mm0 mm1 mmf mmL mmN);obtain ⟨mmB,mm0,mm1,mmf,mmL,mmN⟩:=mmd;have abd:=kp2 (n:=w6.heap.size) hb (by first|omega|(simp;try omega)) (halloc1 _ _);(try clear abB ab0 ab1 abf abL abN);obtain ⟨abB,ab0,ab1,abf,abL,abN⟩:=abd;have BB2:Below W.heap.size W w7:=bstep (by repeat (first|refine Below.setCell ?_ (by simp;try omega) _|refine Below.alloc ?_ (by have:=BB.out.size;simp;try omega) _|refine Below.drew ?_|exact BB.out)) hb;clear BB;have BB:Hid (Below W.heap.size W w7):=BB2;clear BB2;have HH2:=(HH.out.below ((Below.refl _ _).alloc (Nat.le_refl _) _)).below hb;clear HH;have HH:Hid (WAt b ps w7):=HH2;clear HH2;have D7:Hid (Rds w7 (.slice ca K cc) K 1 (l.map numV)):=(D6.out.keep ((Below.refl _ _).alloc (Nat.le_refl _) _)).keep hb;clear D6;clear hb HT))
  go_loopw [16] (fun iv wr=>∃ (i:Nat),iv=.int .i64 i∧i≤K∧Hid (∀ x∈l.take i,(x:Int)≠m1)∧Hid (Below w7.heap.size w7 wr)) (fun iv _=>K - (intOf iv).toNat)
  case atStart=>exact ⟨0,rfl,Nat.zero_le _,(fun x hx=>by simp at hx),(Below.refl _ _).alloc (Nat.le_refl _) _⟩
  case round =>
    obtain ⟨i,rfl,hi,hT,hB⟩:=hrel
    obtain ⟨mrB,mr0,mr1,mrf,mrL,mrN⟩:=kp2 (n:=W.heap.size) hB.out (by omega) mmB.out
    obtain ⟨arB,ar0,ar1,arf,arL,arN⟩:=kp2 (n:=w6.heap.size) hB.out (by omega) abB.out
    have BW:Hid (Below W.heap.size W wr):=bstep BB.out hB.out
    by_cases hlt:i<K
    · have hil:i<l.length:=by rw [HK.out];exact hlt
      obtain ⟨x,hx⟩:∃ x,l[i]?=some x:=⟨_,List.getElem?_eq_getElem hil⟩
      obtain ⟨bk,oo,rfl,hbk,hcr⟩:=rds_num (D7.out.keep hB.out) hx
      have HT2:Hid ((x:Int)≠m1→∀ z∈l.take (i+1),(z:Int)≠m1):=fun hne z hz=>by
        rw [List.take_add_one,hx] at hz
        rcases List.mem_append.1 hz with hz|hz
        · exact hT.out z hz
        · simp at hz;subst hz;exact hne
      have HXM:Hid (x∈l):=List.mem_of_getElem? hx
      clear hx hil
      by_cases he:(x:Int)=m1
      · exact absurd he (hno x HXM.out)
      · go_wp2_with fail
        go_region
        go_wp2
        all_goals go_roundw
        case rel=>exact ⟨i+1,by go_num,by omega,HT2.out he,hB.out.drew⟩
        case measure=>simp [intOf];omega
    · have e:i=K:=by omega
      subst e
      clear hno
      rcases e3 with rfl|rfl|⟨rfl,rfl⟩
      all_goals
        go_wp2_with (go_at_call 44;refine (HJ.out _ _ (HH.out.below (by repeat (first|refine Below.drew ?_|exact hB.out)))).mono ?_;rintro e w9 ⟨rfl,hb⟩;have BB2:Hid (Below W.heap.size W w9):=bstep (by repeat (first|refine Below.drew ?_|exact BW.out)) hb;clear hb)
      all_goals go_ret
      · exact ⟨retB (by simp [*]),BW.out⟩
      · exact ⟨retB (by simp [*]),BW.out⟩
      · exact ⟨retB (by simp [*]),BB2.out⟩
theorem ChoosePrivate_any (v:Value) (l:List Cls) (r m1 m2:Int) (W:World) (h:IsClss W v l):Calls Tryz.prog 14 #[v,.int .i64 r,.agg #[.int .i64 m1,.int .i64 m2]] W fun e w'=>e=.returned (.bool true)∧Below W.heap.size W w':=by
  have hCW:=clss_w h
  have hWI:WI (wld l):=wld_wi l hCW
  have hSM:=sndM_wld l hCW
  have HB:∀ w:World,Below W.heap.size W w→Calls Tryz.prog 36 #[v] w fun e w'=>(∃ b,e=.returned (.pointer (some ⟨b,0,none⟩))∧WAt b (wld l) w')∧Below w.heap.size w w':=fun w hb=>built12_c v l w (clss_keep h hb)
  generalize wld l=ps at *
  have HX:=fun b w (hw:WAt b ps w)=>mth_e hw hWI.pb m1 m2
  cases hx:methI ps m1 m2 with
  | none =>
    rw [hx] at HX
    refine priv_1 ps W v r m1 m2 HB HX (fun b w hw=>?_)
    rcases plcI_cases ps r with ⟨h1,_⟩|⟨k,q,rfl,h2,h1⟩
    · exact (chain_no hw r h1).mono fun e w' zz=>⟨⟨none,0,0,3,zz.1⟩,zz.2⟩
    · obtain ⟨N,mb,vp,pv,hw⟩:=hw
      refine (chain_yes N b mb ps vp pv k (List.getElem?_eq_some_iff.1 h2).1 hWI.wo hWI.hi w hw).mono fun e w' zz=>?_
      obtain ⟨v,rfl,ho,hb⟩:=zz
      obtain ⟨a,c,rfl⟩:=ownv ho
      exact ⟨⟨_,_,_,_,rfl⟩,hb⟩
  | some x =>
    rw [hx] at HX
    rcases plcI_cases ps r with ⟨h1,_⟩|⟨k,q,rfl,h2,h1⟩
    · exact priv_2 ps W v r m1 m2 x.nm x.ds x.fl x.lo x.st HB HX (fun b w hw=>chain_no hw r h1)
    · have HC:∀ b w,WAt b ps w→Calls Tryz.prog 45 #[.pointer (some ⟨b,0,none⟩),.int .i64 (k:Int)] w fun e w'=>(∃ ca cc,e=.returned (.tuple #[.slice ca (chL (ps.map nd) k).length cc,.int .i64 0])∧Rds w' (.slice ca (chL (ps.map nd) k).length cc) (chL (ps.map nd) k).length 1 ((chL (ps.map nd) k).map numV))∧Below w.heap.size w w':=fun b w hw=>by
        obtain ⟨N,mb,vp,pv,hw⟩:=hw
        refine (chain_yes N b mb ps vp pv k (List.getElem?_eq_some_iff.1 h2).1 hWI.wo hWI.hi w hw).mono fun e w' zz=>?_
        obtain ⟨v,rfl,ho,hb⟩:=zz
        obtain ⟨a,c,rfl⟩:=ownv ho
        exact ⟨⟨_,_,rfl,own_rds ho⟩,hb⟩
      have hKb:=chL_len hWI (List.getElem?_eq_some_iff.1 h2).1
      have HI:∀ b w,WAt b ps w→Calls Tryz.prog 44 #[.pointer (some ⟨b,0,none⟩),.int .i64 (k:Int)] w fun e w'=>e=.returned (.bool (ifcI ps (k:Int)))∧Below w.heap.size w w':=fun b w hw=>isIface_c hw _
      cases hi:ifcI ps (k:Int) with
      | true =>
        rw [hi] at HI
        exact priv_3 ps W v k m1 m2 x.nm x.ds x.fl x.lo x.st _ _ hKb true (.inl rfl) HB HX HC HI
      | false =>
        rw [hi] at HI
        by_cases g2:bits .and .i64 x.fl 2=0
        · exact priv_3 ps W v k m1 m2 x.nm x.ds x.fl x.lo x.st _ _ hKb false (.inr ⟨rfl,.inl g2⟩) HB HX HC HI
        · cases g8:(bits .and .i64 x.fl 8 != 0) with
          | true=>exact priv_3 ps W v k m1 m2 x.nm x.ds x.fl x.lo x.st _ _ hKb false (.inr ⟨rfl,.inr ⟨g2,g8⟩⟩) HB HX HC HI
          | false =>
            have hp2:hasI x.fl 2=true:=by rw [hasI];simp [g2]
            obtain ⟨f1,f2,f3⟩:=priv_facts (a:=(m1,m2)) hWI hSM h2 hx hi hp2 g8
            have HT:∀ b w,WAt b ps w→Calls Tryz.prog 40 #[.pointer (some ⟨b,0,none⟩),.int .i64 (k:Int),.agg #[.int .i64 m1,.int .i64 m2]] w fun e w'=>e=.returned (.tuple #[.agg #[.int .i64 0,.int .i64 0],.int .i64 23])∧Below w.heap.size w w':=fun b w hw=>by
              have:=itf_c hw hWI (k:Int) m1 m2
              rw [f1] at this
              exact this
            have HV:∀ b w,WAt b ps w→Calls Tryz.prog 38 #[.pointer (some ⟨b,0,none⟩),.int .i64 (k:Int),.agg #[.int .i64 m1,.int .i64 m2]] w fun e w'=>e=.returned (idE (virI ps (k:Int) (m1,m2)))∧Below w.heap.size w w':=fun b w hw=>vir_c hw hWI (k:Int) m1 m2
            cases hk:((chL (ps.map nd) k).map (fun k:Nat=>(k:Int))).contains m1 with
            | true =>
              have hv:=f2 hk
              rw [List.contains_iff_mem,List.mem_map] at hk
              exact priv_4 ps W v k m1 m2 x.nm x.ds x.fl x.lo x.st _ _ hKb rfl _ _ _ g2 g8 (by rw [hv]) (by rw [hv]) (by rw [hv]) hk HB HX HC HI HV HT
            | false =>
              have hno:∀ x∈chL (ps.map nd) k,(x:Int)≠m1:=fun x hx e=>by
                have:m1∈(chL (ps.map nd) k).map (fun k:Nat=>(k:Int)):=List.mem_map.2 ⟨x,hx,e⟩
                rw [← List.contains_iff_mem,hk] at this
                cases this
              exact priv_5 ps W v k m1 m2 x.nm x.ds x.fl x.lo x.st _ _ hKb rfl _ _ _ g2 g8 (ifcI ps (virI ps (k:Int) (m1,m2)).1.1) (f3 hk) hno HB HX HC HI HV HT (fun b w hw=>isIface_c hw _)
end Go.Proofs.YtfoldbhlmmmpeaaGreat
