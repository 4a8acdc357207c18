import Derived.Test.YtfoldbhlmmmpeaaGreatChW
import Derived.Test.YtfoldbhlmmmpeaaGreatChA
import Derived.Test.YtfoldbhlmmmpeaaGreatHrOi
set_option maxRecDepth 100000
namespace Go.Proofs.YtfoldbhlmmmpeaaGreat
open Go.RowKit Go.Maps
set_option maxHeartbeats 16000000 in
theorem agr_1 (ps:List Plc) (W:World) (v:Value) (r m1 m2:Int) (xn xd:ByteArray) (xf xl xs:Int) (e1 e2:Int) (he:¬ e1=0∨(e1=0∧¬ e2=0)) (HB:Hid (∀ w:World,Below W.heap.size W w→Calls Tryz.prog 36 #[v] w fun e w'=>(∃ b,e=.returned (.pointer (some ⟨b,0,none⟩))∧WAt b ps w')∧Below w.heap.size w w')) (HX:Hid (∀ b w,WAt b ps w→Calls Tryz.prog 28 #[.pointer (some ⟨b,0,none⟩),.agg #[.int .i64 m1,.int .i64 m2]] w fun e w'=>(∃ sa sk so,e=.returned (.tuple #[.agg #[.string xn,.string xd,.int .i64 xf,.int .i64 xl,.int .i64 xs,.slice sa sk so],.int .i64 e1]))∧Below w.heap.size w w')) (HC:Hid (∀ b w,WAt b ps w→Calls Tryz.prog 45 #[.pointer (some ⟨b,0,none⟩),.int .i64 r] w fun e w'=>(∃ cv,e=.returned (.tuple #[cv,.int .i64 e2]))∧Below w.heap.size w w')):Calls Tryz.prog 10 #[v,.int .i64 r,.agg #[.int .i64 m1,.int .i64 m2]] W fun e w'=>e=.returned (.bool true)∧Below W.heap.size W w':=by
  have HA:Hid (∀ w:World,Calls Tryz.prog 34 #[] w fun e w'=>e=.returned (.bool true)∧Below w.heap.size w w'):=awake12_c
  have BB:Hid (Below W.heap.size W W):=Below.refl _ _
  rcases he with he|⟨rfl,he⟩
  all_goals
    go_enter Tryz.func10,Tryz.ntmps10
    go_wp2_with (first
      | (go_at_call 34;refine (HA.out _).mono ?_;rintro e w1 ⟨rfl,hb⟩;have mmd:=kp2 (n:=W.heap.size) hb (by first|omega|(simp;try omega)) (halloc1 _ _);(try clear mmB mm0 mm1 mmf mmL mmN);obtain ⟨mmB,mm0,mm1,mmf,mmL,mmN⟩:=mmd;have BB2:Below W.heap.size W w1:=bstep (by repeat (first|refine Below.setCell ?_ (by simp;try omega) _|refine Below.alloc ?_ (by have:=BB.out.size;simp;try omega) _|refine Below.drew ?_|exact BB.out)) hb;clear BB;have BB:Hid (Below W.heap.size W w1):=BB2;clear BB2;clear hb HA)
      | (go_at_call 36;refine (HB.out _ BB.out).mono ?_;rintro e w2 ⟨⟨b,rfl,hw⟩,hb⟩;have HH:Hid (WAt b ps w2):=hw;have mmd:=kp2 (n:=W.heap.size) hb (by first|omega|(simp;try omega)) (mmB.out);(try clear mmB mm0 mm1 mmf mmL mmN);obtain ⟨mmB,mm0,mm1,mmf,mmL,mmN⟩:=mmd;have BB2:Below W.heap.size W w2:=bstep (by repeat (first|refine Below.setCell ?_ (by simp;try omega) _|refine Below.alloc ?_ (by have:=BB.out.size;simp;try omega) _|refine Below.drew ?_|exact BB.out)) hb;clear BB;have BB:Hid (Below W.heap.size W w2):=BB2;clear BB2;clear hb HB hw)
      | (go_at_call 28;refine (HX.out _ _ HH.out).mono ?_;rintro e w3 ⟨⟨sa1,sk1,so1,rfl⟩,hb⟩;have mmd:=kp2 (n:=W.heap.size) hb (by first|omega|(simp;try omega)) (mmB.out);(try clear mmB mm0 mm1 mmf mmL mmN);obtain ⟨mmB,mm0,mm1,mmf,mmL,mmN⟩:=mmd;have BB2:Below W.heap.size W w3:=bstep (by repeat (first|refine Below.setCell ?_ (by simp;try omega) _|refine Below.alloc ?_ (by have:=BB.out.size;simp;try omega) _|refine Below.drew ?_|exact BB.out)) hb;clear BB;have BB:Hid (Below W.heap.size W w3):=BB2;clear BB2;have HH2:=HH.out.below hb;clear HH;have HH:Hid (WAt b ps w3):=HH2;clear HH2;clear hb HX)
      | (go_at_call 45;refine (HC.out _ _ (HH.out.below ((Below.refl _ _).alloc (Nat.le_refl _) _))).mono ?_;rintro e w4 ⟨⟨cv,rfl⟩,hb⟩;have mmd:=kp2 (n:=W.heap.size) hb (by first|omega|(simp;try omega)) (hkeep mmB.out);(try clear mmB mm0 mm1 mmf mmL mmN);obtain ⟨mmB,mm0,mm1,mmf,mmL,mmN⟩:=mmd;have xxd:=kp6 (n:=w3.heap.size) hb (by first|omega|(simp;try omega)) (halloc1 _ _);(try clear xxB xx0 xx1 xx2 xx3 xx4 xx5 xxf xxL xxN);obtain ⟨xxB,xx0,xx1,xx2,xx3,xx4,xx5,xxf,xxL,xxN⟩:=xxd;have BB2:Below W.heap.size W w4:=bstep (by repeat (first|refine Below.setCell ?_ (by simp;try omega) _|refine Below.alloc ?_ (by have:=BB.out.size;simp;try omega) _|refine Below.drew ?_|exact BB.out)) hb;clear BB;have BB:Hid (Below W.heap.size W w4):=BB2;clear BB2;have HH2:=(HH.out.below ((Below.refl _ _).alloc (Nat.le_refl _) _)).below hb;clear HH;have HH:Hid (WAt b ps w4):=HH2;clear HH2;clear hb HC))
  all_goals go_ret
  all_goals exact ⟨retB (by simp [*]),(by repeat (first|refine Below.setCell ?_ (by simp;try omega) _|refine Below.alloc ?_ (by have:=BB.out.size;simp;try omega) _|refine Below.drew ?_|exact BB.out))⟩
set_option maxHeartbeats 16000000 in
theorem agr_2 (ps:List Plc) (W:World) (v:Value) (r m1 m2:Int) (xn xd:ByteArray) (xf xl xs:Int) (ex:Bool) (he:(bits .and .i64 xf 9 != 1)=true∨((bits .and .i64 xf 9 != 1)=false∧ex=false)) (HB:Hid (∀ w:World,Below W.heap.size W w→Calls Tryz.prog 36 #[v] w fun e w'=>(∃ b,e=.returned (.pointer (some ⟨b,0,none⟩))∧WAt b ps w')∧Below w.heap.size w w')) (HX:Hid (∀ b w,WAt b ps w→Calls Tryz.prog 28 #[.pointer (some ⟨b,0,none⟩),.agg #[.int .i64 m1,.int .i64 m2]] w fun e w'=>(∃ sa sk so,e=.returned (.tuple #[.agg #[.string xn,.string xd,.int .i64 xf,.int .i64 xl,.int .i64 xs,.slice sa sk so],.int .i64 0]))∧Below w.heap.size w w')) (HC:Hid (∀ b w,WAt b ps w→Calls Tryz.prog 45 #[.pointer (some ⟨b,0,none⟩),.int .i64 r] w fun e w'=>(∃ cv,e=.returned (.tuple #[cv,.int .i64 0]))∧Below w.heap.size w w')) (HE:Hid (∀ b w,WAt b ps w→Calls Tryz.prog 29 #[.pointer (some ⟨b,0,none⟩),.int .i64 r,.int .i64 m1] w fun e w'=>(e=.returned (.bool ex))∧Below w.heap.size w w')):Calls Tryz.prog 10 #[v,.int .i64 r,.agg #[.int .i64 m1,.int .i64 m2]] W fun e w'=>e=.returned (.bool true)∧Below W.heap.size W w':=by
  have HA:Hid (∀ w:World,Calls Tryz.prog 34 #[] w fun e w'=>e=.returned (.bool true)∧Below w.heap.size w w'):=awake12_c
  have BB:Hid (Below W.heap.size W W):=Below.refl _ _
  rcases he with he|⟨he,rfl⟩
  all_goals
    go_enter Tryz.func10,Tryz.ntmps10
    go_wp2_with (first
      | (go_at_call 34;refine (HA.out _).mono ?_;rintro e w1 ⟨rfl,hb⟩;have mmd:=kp2 (n:=W.heap.size) hb (by first|omega|(simp;try omega)) (halloc1 _ _);(try clear mmB mm0 mm1 mmf mmL mmN);obtain ⟨mmB,mm0,mm1,mmf,mmL,mmN⟩:=mmd;have BB2:Below W.heap.size W w1:=bstep (by repeat (first|refine Below.setCell ?_ (by simp;try omega) _|refine Below.alloc ?_ (by have:=BB.out.size;simp;try omega) _|refine Below.drew ?_|exact BB.out)) hb;clear BB;have BB:Hid (Below W.heap.size W w1):=BB2;clear BB2;clear hb HA)
      | (go_at_call 36;refine (HB.out _ BB.out).mono ?_;rintro e w2 ⟨⟨b,rfl,hw⟩,hb⟩;have HH:Hid (WAt b ps w2):=hw;have mmd:=kp2 (n:=W.heap.size) hb (by first|omega|(simp;try omega)) (mmB.out);(try clear mmB mm0 mm1 mmf mmL mmN);obtain ⟨mmB,mm0,mm1,mmf,mmL,mmN⟩:=mmd;have BB2:Below W.heap.size W w2:=bstep (by repeat (first|refine Below.setCell ?_ (by simp;try omega) _|refine Below.alloc ?_ (by have:=BB.out.size;simp;try omega) _|refine Below.drew ?_|exact BB.out)) hb;clear BB;have BB:Hid (Below W.heap.size W w2):=BB2;clear BB2;clear hb HB hw)
      | (go_at_call 28;refine (HX.out _ _ HH.out).mono ?_;rintro e w3 ⟨⟨sa1,sk1,so1,rfl⟩,hb⟩;have mmd:=kp2 (n:=W.heap.size) hb (by first|omega|(simp;try omega)) (mmB.out);(try clear mmB mm0 mm1 mmf mmL mmN);obtain ⟨mmB,mm0,mm1,mmf,mmL,mmN⟩:=mmd;have BB2:Below W.heap.size W w3:=bstep (by repeat (first|refine Below.setCell ?_ (by simp;try omega) _|refine Below.alloc ?_ (by have:=BB.out.size;simp;try omega) _|refine Below.drew ?_|exact BB.out)) hb;clear BB;have BB:Hid (Below W.heap.size W w3):=BB2;clear BB2;have HH2:=HH.out.below hb;clear HH;have HH:Hid (WAt b ps w3):=HH2;clear HH2;clear hb HX)
      | (go_at_call 45;refine (HC.out _ _ (HH.out.below ((Below.refl _ _).alloc (Nat.le_refl _) _))).mono ?_;rintro e w4 ⟨⟨cv,rfl⟩,hb⟩;have mmd:=kp2 (n:=W.heap.size) hb (by first|omega|(simp;try omega)) (hkeep mmB.out);(try clear mmB mm0 mm1 mmf mmL mmN);obtain ⟨mmB,mm0,mm1,mmf,mmL,mmN⟩:=mmd;have xxd:=kp6 (n:=w3.heap.size) hb (by first|omega|(simp;try omega)) (halloc1 _ _);(try clear xxB xx0 xx1 xx2 xx3 xx4 xx5 xxf xxL xxN);obtain ⟨xxB,xx0,xx1,xx2,xx3,xx4,xx5,xxf,xxL,xxN⟩:=xxd;have BB2:Below W.heap.size W w4:=bstep (by repeat (first|refine Below.setCell ?_ (by simp;try omega) _|refine Below.alloc ?_ (by have:=BB.out.size;simp;try omega) _|refine Below.drew ?_|exact BB.out)) hb;clear BB;have BB:Hid (Below W.heap.size W w4):=BB2;clear BB2;have HH2:=(HH.out.below ((Below.refl _ _).alloc (Nat.le_refl _) _)).below hb;clear HH;have HH:Hid (WAt b ps w4):=HH2;clear HH2;clear hb HC)
      | (go_at_call 29;refine (HE.out _ _ HH.out).mono ?_;rintro e w5 ⟨rfl,hb⟩;have mmd:=kp2 (n:=W.heap.size) hb (by first|omega|(simp;try omega)) (mmB.out);(try clear mmB mm0 mm1 mmf mmL mmN);obtain ⟨mmB,mm0,mm1,mmf,mmL,mmN⟩:=mmd;have xxd:=kp6 (n:=w3.heap.size) hb (by first|omega|(simp;try omega)) (xxB.out);(try clear xxB xx0 xx1 xx2 xx3 xx4 xx5 xxf xxL xxN);obtain ⟨xxB,xx0,xx1,xx2,xx3,xx4,xx5,xxf,xxL,xxN⟩:=xxd;have BB2:Below W.heap.size W w5:=bstep (by repeat (first|refine Below.setCell ?_ (by simp;try omega) _|refine Below.alloc ?_ (by have:=BB.out.size;simp;try omega) _|refine Below.drew ?_|exact BB.out)) hb;clear BB;have BB:Hid (Below W.heap.size W w5):=BB2;clear BB2;have HH2:=HH.out.below hb;clear HH;have HH:Hid (WAt b ps w5):=HH2;clear HH2;clear hb HE))
  all_goals go_ret
  all_goals exact ⟨retB (by simp [*]),(by repeat (first|refine Below.setCell ?_ (by simp;try omega) _|refine Below.alloc ?_ (by have:=BB.out.size;simp;try omega) _|refine Below.drew ?_|exact BB.out))⟩
set_option maxHeartbeats 16000000 in
theorem agr_3 (ps:List Plc) (W:World) (v:Value) (r m1 m2:Int) (xn xd:ByteArray) (xf xl xs:Int) (l:List Nat) (KK:Nat) (hKK:l.length=KK) (hK3:KK≤1000000) (F:Nat→Int×Int) (Y:Nat→HM) (ex:Nat→Bool) (fc:Bool) (v1 v2 v3 t1 t2 t3:Int) (hp:(bits .and .i64 xf 9 != 1)=false)
    (hfin:Hid ((∀ i∈l,(F i).2=0→(bits .and .i64 (Y i).fl 9 != 1)=false∧((Y i).nm.toList == [60,105,110,105,116,62])=false∧(fc=true→ex i=true))→t1=v1∧t2=v2∧t3=v3))
    (HB:Hid (∀ w:World,Below W.heap.size W w→Calls Tryz.prog 36 #[v] w fun e w'=>(∃ b,e=.returned (.pointer (some ⟨b,0,none⟩))∧WAt b ps w')∧Below w.heap.size w w'))
    (HX:Hid (∀ b w,WAt b ps w→Calls Tryz.prog 28 #[.pointer (some ⟨b,0,none⟩),.agg #[.int .i64 m1,.int .i64 m2]] w fun e w'=>(∃ sa sk so,e=.returned (.tuple #[.agg #[.string xn,.string xd,.int .i64 xf,.int .i64 xl,.int .i64 xs,.slice sa sk so],.int .i64 0]))∧Below w.heap.size w w'))
    (HC:Hid (∀ b w,WAt b ps w→Calls Tryz.prog 45 #[.pointer (some ⟨b,0,none⟩),.int .i64 r] w fun e w'=>∃ cv,e=.returned (.tuple #[cv,.int .i64 0])∧w'.ownsRow w.heap.size 3 1 cv KK (l.map numV)∧Below w.heap.size w w'))
    (HE:Hid (∀ b w,WAt b ps w→Calls Tryz.prog 29 #[.pointer (some ⟨b,0,none⟩),.int .i64 r,.int .i64 m1] w fun e w'=>(e=.returned (.bool true))∧Below w.heap.size w w'))
    (HFA:Hid (∀ (i:Nat) b w,WAt b ps w→Calls Tryz.prog 46 #[.pointer (some ⟨b,0,none⟩),.int .i64 (i:Int),.string xn,.string xd] w fun e w'=>e=.returned (.tuple #[.int .i64 (F i).1,.int .i64 (F i).2])∧Below w.heap.size w w'))
    (HMA:Hid (∀ (i:Nat) b w,(F i).2=0→WAt b ps w→Calls Tryz.prog 28 #[.pointer (some ⟨b,0,none⟩),.agg #[.int .i64 (i:Int),.int .i64 (F i).1]] w fun e w'=>(∃ sa sk so,e=.returned (.tuple #[.agg #[.string (Y i).nm,.string (Y i).ds,.int .i64 (Y i).fl,.int .i64 (Y i).lo,.int .i64 (Y i).st,.slice sa sk so],.int .i64 0]))∧Below w.heap.size w w'))
    (HIA:Hid (∀ b w,WAt b ps w→Calls Tryz.prog 44 #[.pointer (some ⟨b,0,none⟩),.int .i64 m1] w fun e w'=>e=.returned (.bool fc)∧Below w.heap.size w w'))
    (HXA:Hid (∀ (i:Nat) b w,WAt b ps w→Calls Tryz.prog 29 #[.pointer (some ⟨b,0,none⟩),.int .i64 (i:Int),.int .i64 m1] w fun e w'=>e=.returned (.bool (ex i))∧Below w.heap.size w w'))
    (HV:Hid (∀ b w,WAt b ps w→Calls Tryz.prog 38 #[.pointer (some ⟨b,0,none⟩),.int .i64 r,.agg #[.int .i64 m1,.int .i64 m2]] w fun e w'=>(e=.returned (.tuple #[.agg #[.int .i64 v1,.int .i64 v2],.int .i64 v3]))∧Below w.heap.size w w'))
    (HT:Hid (∀ b w,WAt b ps w→Calls Tryz.prog 40 #[.pointer (some ⟨b,0,none⟩),.int .i64 r,.agg #[.int .i64 m1,.int .i64 m2]] w fun e w'=>(e=.returned (.tuple #[.agg #[.int .i64 t1,.int .i64 t2],.int .i64 t3]))∧Below w.heap.size w w')):Calls Tryz.prog 10 #[v,.int .i64 r,.agg #[.int .i64 m1,.int .i64 m2]] W fun e w'=>e=.returned (.bool true)∧Below W.heap.size W w':=by
  have HA:Hid (∀ w:World,Calls Tryz.prog 34 #[] w fun e w'=>e=.returned (.bool true)∧Below w.heap.size w w'):=awake12_c
  have BB:Hid (Below W.heap.size W W):=Below.refl _ _
  have HKL:Hid (l.length=KK):=hKK
  clear hKK
  go_enter Tryz.func10,Tryz.ntmps10
  go_wp2_with (first
    | (go_at_call 34;refine (HA.out _).mono ?_;rintro e w1 ⟨rfl,hb⟩;have mmd:=kp2 (n:=W.heap.size) hb (by first|omega|(simp;try omega)) (halloc1 _ _);(try clear mmB mm0 mm1 mmf mmL mmN);obtain ⟨mmB,mm0,mm1,mmf,mmL,mmN⟩:=mmd;have BB2:Below W.heap.size W w1:=bstep (by repeat (first|refine Below.setCell ?_ (by simp;try omega) _|refine Below.alloc ?_ (by have:=BB.out.size;simp;try omega) _|refine Below.drew ?_|exact BB.out)) hb;clear BB;have BB:Hid (Below W.heap.size W w1):=BB2;clear BB2;clear hb HA)
    | (go_at_call 36;refine (HB.out _ BB.out).mono ?_;rintro e w2 ⟨⟨b,rfl,hw⟩,hb⟩;have HH:Hid (WAt b ps w2):=hw;have mmd:=kp2 (n:=W.heap.size) hb (by first|omega|(simp;try omega)) (mmB.out);(try clear mmB mm0 mm1 mmf mmL mmN);obtain ⟨mmB,mm0,mm1,mmf,mmL,mmN⟩:=mmd;have BB2:Below W.heap.size W w2:=bstep (by repeat (first|refine Below.setCell ?_ (by simp;try omega) _|refine Below.alloc ?_ (by have:=BB.out.size;simp;try omega) _|refine Below.drew ?_|exact BB.out)) hb;clear BB;have BB:Hid (Below W.heap.size W w2):=BB2;clear BB2;clear hb HB hw)
    | (go_at_call 28;refine (HX.out _ _ HH.out).mono ?_;rintro e w3 ⟨⟨sa1,sk1,so1,rfl⟩,hb⟩;have mmd:=kp2 (n:=W.heap.size) hb (by first|omega|(simp;try omega)) (mmB.out);(try clear mmB mm0 mm1 mmf mmL mmN);obtain ⟨mmB,mm0,mm1,mmf,mmL,mmN⟩:=mmd;have BB2:Below W.heap.size W w3:=bstep (by repeat (first|refine Below.setCell ?_ (by simp;try omega) _|refine Below.alloc ?_ (by have:=BB.out.size;simp;try omega) _|refine Below.drew ?_|exact BB.out)) hb;clear BB;have BB:Hid (Below W.heap.size W w3):=BB2;clear BB2;have HH2:=HH.out.below hb;clear HH;have HH:Hid (WAt b ps w3):=HH2;clear HH2;clear hb HX)
    | (go_at_call 45;refine (HC.out _ _ (HH.out.below ((Below.refl _ _).alloc (Nat.le_refl _) _))).mono ?_;rintro e w4 ⟨cv,rfl,ho,hb⟩;obtain ⟨ca,cc,rfl⟩:=ownv ho;have O4:Hid (w4.ownsRow w3.heap.size 3 1 (.slice ca KK cc) KK (l.map numV)):=Go.Joins.ownsRow_le ho (by simp);have mmd:=kp2 (n:=W.heap.size) hb (by first|omega|(simp;try omega)) (hkeep mmB.out);(try clear mmB mm0 mm1 mmf mmL mmN);obtain ⟨mmB,mm0,mm1,mmf,mmL,mmN⟩:=mmd;have xxd:=kp6 (n:=w3.heap.size) hb (by first|omega|(simp;try omega)) (halloc1 _ _);(try clear xxB xx0 xx1 xx2 xx3 xx4 xx5 xxf xxL xxN);obtain ⟨xxB,xx0,xx1,xx2,xx3,xx4,xx5,xxf,xxL,xxN⟩:=xxd;have BB2:Below W.heap.size W w4:=bstep (by repeat (first|refine Below.setCell ?_ (by simp;try omega) _|refine Below.alloc ?_ (by have:=BB.out.size;simp;try omega) _|refine Below.drew ?_|exact BB.out)) hb;clear BB;have BB:Hid (Below W.heap.size W w4):=BB2;clear BB2;have HH2:=(HH.out.below ((Below.refl _ _).alloc (Nat.le_refl _) _)).below hb;clear HH;have HH:Hid (WAt b ps w4):=HH2;clear HH2;clear hb HC ho)
    | (go_at_call 29;refine (HE.out _ _ HH.out).mono ?_;rintro e w5 ⟨rfl,hb⟩;have O5:Hid (w5.ownsRow w3.heap.size 3 1 (.slice ca KK cc) KK (l.map numV)):=rowBelow O4.out hb;clear O4;have mmd:=kp2 (n:=W.heap.size) hb (by first|omega|(simp;try omega)) (mmB.out);(try clear mmB mm0 mm1 mmf mmL mmN);obtain ⟨mmB,mm0,mm1,mmf,mmL,mmN⟩:=mmd;have xxd:=kp6 (n:=w3.heap.size) hb (by first|omega|(simp;try omega)) (xxB.out);(try clear xxB xx0 xx1 xx2 xx3 xx4 xx5 xxf xxL xxN);obtain ⟨xxB,xx0,xx1,xx2,xx3,xx4,xx5,xxf,xxL,xxN⟩:=xxd;have BB2:Below W.heap.size W w5:=bstep (by repeat (first|refine Below.setCell ?_ (by simp;try omega) _|refine Below.alloc ?_ (by have:=BB.out.size;simp;try omega) _|refine Below.drew ?_|exact BB.out)) hb;clear BB;have BB:Hid (Below W.heap.size W w5):=BB2;clear BB2;have HH2:=HH.out.below hb;clear HH;have HH:Hid (WAt b ps w5):=HH2;clear HH2;clear hb HE))
  obtain ⟨σ,V,hne,V1,V2⟩:=class_of' (fun w'=>Below w5.heap.size w5 w') ⟨_,Below.refl _ _⟩
  have HWV:Hid (∀ w',Below w5.heap.size w5 w'→WAt b ps w'):=fun w' hb=>HH.out.below hb
  have hmL:W.heap.size<w5.heap.size:=mmL
  have hxL:w3.heap.size<w5.heap.size:=xxL
  have mV0:∀ s,(V s).cell? ⟨W.heap.size,0,none⟩=some (.int .i64 m1):=fun s=>((V1.out s).cell (p:=⟨W.heap.size,0,none⟩) hmL).trans mm0
  have xV0:∀ s,(V s).cell? ⟨w3.heap.size,0,none⟩=some (.string xn):=fun s=>((V1.out s).cell (p:=⟨w3.heap.size,0,none⟩) hxL).trans xx0
  have xV1:∀ s,(V s).cell? ⟨w3.heap.size,1,none⟩=some (.string xd):=fun s=>((V1.out s).cell (p:=⟨w3.heap.size,1,none⟩) hxL).trans xx1
  go_loopw [12] (fun kv wr=>∃ (j:Nat),kv=.int .i64 j∧j≤KK∧Hid (∀ i∈l.take j,(F i).2=0→(bits .and .i64 (Y i).fl 9 != 1)=false∧((Y i).nm.toList == [60,105,110,105,116,62])=false∧(fc=true→ex i=true))∧Hid (Below w5.heap.size w5 wr)) (fun kv _=>KK - (intOf kv).toNat)
  case atStart=>exact ⟨0,rfl,Nat.zero_le _,(fun i hi=>by cases hi),Below.refl _ _⟩
  case round =>
    obtain ⟨j,rfl,hj,hG,hB⟩:=hrel
    by_cases hlt:j<KK
    · have hjl:j<l.length:=by rw [HKL.out];exact hlt
      have hjI:(j:Int)<(KK:Int):=by omega
      obtain ⟨i,hi⟩:∃ i,l[j]?=some i:=⟨_,List.getElem?_eq_getElem hjl⟩
      obtain ⟨g,c2,hform⟩:=Go.Joins.ownsRow_form O5.out (by omega)
      have hce:w5.cell? ⟨g,j,none⟩=some (.int .i64 (i:Int)):=by
        have hrow:=O5.out
        rw [hform] at hrow
        rw [hrow.cellAt j (by omega),List.getElem?_map,hi];rfl
      injection hform with hca _ hcc
      subst hca hcc
      have hgl:g<w5.heap.size:=World.block_lt_of_cell? w5 _ hce
      have hcV:∀ s,(V s).cell? ⟨g,j,none⟩=some (.int .i64 (i:Int)):=fun s=>((V1.out s).cell (p:=⟨g,j,none⟩) hgl).trans hce
      have HF:Hid (∀ s,Calls Tryz.prog 46 #[.pointer (some ⟨b,0,none⟩),.int .i64 (i:Int),.string xn,.string xd] (V s) fun e w''=>e=.returned (.tuple #[.int .i64 (F i).1,.int .i64 (F i).2])∧∃ s',w''=V s'):=fun s=>(HFA.out i b _ (HWV.out _ (V1.out s))).mono fun e w'' zz=>⟨zz.1,V2.out _ (bstep (V1.out s) zz.2)⟩
      have HI:Hid (∀ s,Calls Tryz.prog 44 #[.pointer (some ⟨b,0,none⟩),.int .i64 m1] (V s) fun e w''=>e=.returned (.bool fc)∧∃ s',w''=V s'):=fun s=>(HIA.out b _ (HWV.out _ (V1.out s))).mono fun e w'' zz=>⟨zz.1,V2.out _ (bstep (V1.out s) zz.2)⟩
      have HX2:Hid (∀ s,Calls Tryz.prog 29 #[.pointer (some ⟨b,0,none⟩),.int .i64 (i:Int),.int .i64 m1] (V s) fun e w''=>e=.returned (.bool (ex i))∧∃ s',w''=V s'):=fun s=>(HXA.out i b _ (HWV.out _ (V1.out s))).mono fun e w'' zz=>⟨zz.1,V2.out _ (bstep (V1.out s) zz.2)⟩
      have HM2:Hid ((F i).2=0→∀ w,Below w5.heap.size w5 w→Calls Tryz.prog 28 #[.pointer (some ⟨b,0,none⟩),.agg #[.int .i64 (i:Int),.int .i64 (F i).1]] w fun e w'=>(∃ sa sk so,e=.returned (.tuple #[.agg #[.string (Y i).nm,.string (Y i).ds,.int .i64 (Y i).fl,.int .i64 (Y i).lo,.int .i64 (Y i).st,.slice sa sk so],.int .i64 0]))∧Below w.heap.size w w'):=fun hF w hb=>HMA.out i b w hF (HWV.out _ hb)
      have HG2:Hid (((F i).2=0→(bits .and .i64 (Y i).fl 9 != 1)=false∧((Y i).nm.toList == [60,105,110,105,116,62])=false∧(fc=true→ex i=true))→∀ i∈l.take (j+1),(F i).2=0→(bits .and .i64 (Y i).fl 9 != 1)=false∧((Y i).nm.toList == [60,105,110,105,116,62])=false∧(fc=true→ex i=true)):=fun hc i2 hi2=>by
        rw [List.take_add_one,hi,Option.toList_some,List.mem_append] at hi2
        rcases hi2 with hi2|hi2
        · exact hG.out i2 hi2
        · rw [List.mem_singleton] at hi2
          subst hi2
          exact hc
      clear HFA HMA HIA HXA hG hi hce hjl HV HT hfin HWV
      generalize F i=Fi at *
      obtain ⟨F1,F2⟩:=Fi
      generalize Y i=Yi at *
      obtain ⟨yn,yd,yf,yl,ys,yc⟩:=Yi
      generalize ex i=xi at *
      simp only at HF HM2 HG2
      go_wp2
      refine wp_region_class (C:=fun w'=>∃ s,w'=V s) (by kernel_rfl) (by kernel_rfl) (V2.out _ (hB.out.drew)) ?_
      repeat (go_big_quiet_step (first|(go_at_call 46;exact HF.out _)))
      refine wpQuiet_nil ?_
      intro w9 hw9
      obtain ⟨s9,hw9⟩:=hw9
      have B9:Hid (Below w5.heap.size w5 w9):=by rw [hw9];exact V1.out s9
      have hcr9:w9.cell? ⟨g,j,none⟩=some (.int .i64 (i:Int)):=by rw [hw9];exact hcV s9
      have mv9:w9.cell? ⟨W.heap.size,0,none⟩=some (.int .i64 m1):=by rw [hw9];exact mV0 s9
      clear hw9
      by_cases hF:F2=0
      · subst hF
        have HM:=HM2.out rfl
        have HMH:Hid _:=HM
        clear HM HM2
        by_cases h9:(bits .and .i64 yf 9 != 1)=false∧(yn.toList == [60,105,110,105,116,62])=false
        · obtain ⟨h9,hin⟩:=h9
          go_upto_region 18 with (go_at_call 28;refine (HMH.out _ B9.out).mono ?_;rintro e w6 ⟨⟨sa2,sk2,so2,rfl⟩,hb⟩;have B6:Hid (Below w5.heap.size w5 w6):=bstep B9.out hb;clear hb HMH)
          cases fc
          case false =>
            clear B9 hcr9 mv9
            refine wp_region_class (C:=fun w'=>∃ s,w'=V s) (by kernel_rfl) (by kernel_rfl) (V2.out _ ((B6.out.alloc B6.out.size _).drew)) ?_
            repeat (go_big_quiet_step (first|(go_at_call 44;exact HI.out _)))
            refine wpQuiet_nil ?_
            intro w9 hw9
            obtain ⟨s9,hw9⟩:=hw9
            have B9:Hid (Below w5.heap.size w5 w9):=by rw [hw9];exact V1.out s9
            have hcr9:w9.cell? ⟨g,j,none⟩=some (.int .i64 (i:Int)):=by rw [hw9];exact hcV s9
            have mv9:w9.cell? ⟨W.heap.size,0,none⟩=some (.int .i64 m1):=by rw [hw9];exact mV0 s9
            clear hw9
            go_wp2
            go_roundw
            case rel=>exact ⟨j+1,by go_num,by omega,HG2.out (fun _=>⟨h9,hin,fun h=>by cases h⟩),B9⟩
            case measure=>simp [intOf];omega
          case true =>
            cases xi
            case true =>
              clear B9 hcr9 mv9
              refine wp_region_class (C:=fun w'=>∃ s,w'=V s) (by kernel_rfl) (by kernel_rfl) (V2.out _ ((B6.out.alloc B6.out.size _).drew)) ?_
              repeat (go_big_quiet_step (first|(go_at_call 44;exact HI.out _)|(go_at_call 29;exact HX2.out _)))
              refine wpQuiet_nil ?_
              intro w9 hw9
              obtain ⟨s9,hw9⟩:=hw9
              have B9:Hid (Below w5.heap.size w5 w9):=by rw [hw9];exact V1.out s9
              have hcr9:w9.cell? ⟨g,j,none⟩=some (.int .i64 (i:Int)):=by rw [hw9];exact hcV s9
              have mv9:w9.cell? ⟨W.heap.size,0,none⟩=some (.int .i64 m1):=by rw [hw9];exact mV0 s9
              clear hw9
              go_wp2
              go_roundw
              case rel=>exact ⟨j+1,by go_num,by omega,(fun i hi hf=>by have h:=HG2.out (fun _=>⟨h9,hin,fun _=>rfl⟩) i hi hf;exact ⟨h.1,h.2.1,fun _=>h.2.2 rfl⟩),B9⟩
              case measure=>simp [intOf];omega
            case false =>
              clear B9 hcr9 mv9
              refine wp_region_class (C:=fun w'=>∃ s,w'=V s) (by kernel_rfl) (by kernel_rfl) (V2.out _ ((B6.out.alloc B6.out.size _).drew)) ?_
              repeat (go_big_quiet_step (first|(go_at_call 44;exact HI.out _)|(go_at_call 29;exact HX2.out _)))
              refine wpQuiet_nil ?_
              intro w9 hw9
              obtain ⟨s9,hw9⟩:=hw9
              have B9:Hid (Below w5.heap.size w5 w9):=by rw [hw9];exact V1.out s9
              have hcr9:w9.cell? ⟨g,j,none⟩=some (.int .i64 (i:Int)):=by rw [hw9];exact hcV s9
              have mv9:w9.cell? ⟨W.heap.size,0,none⟩=some (.int .i64 m1):=by rw [hw9];exact mV0 s9
              clear hw9
              go_wp2
              all_goals go_ret
              all_goals exact ⟨retB (by simp [*]),(by repeat (first|refine Below.alloc ?_ (by have:=BB.out.size;have:=B6.out.size;simp;try omega) _|refine Below.drew ?_|exact (BB.out.trans (B6.out.mono BB.out.size))|exact (BB.out.trans (B9.out.mono BB.out.size))|exact (BB.out.trans (B10.out.mono BB.out.size))))⟩
        · have h9c:(bits .and .i64 yf 9 != 1)=true∨((bits .and .i64 yf 9 != 1)=false∧(yn.toList == [60,105,110,105,116,62])=true):=by
            cases ha:(bits .and .i64 yf 9 != 1) with
            | true=>exact .inl rfl
            | false =>
              cases hb:(yn.toList == [60,105,110,105,116,62]) with
              | true=>exact .inr ⟨rfl,rfl⟩
              | false=>exact absurd ⟨ha,hb⟩ h9
          clear h9
          rcases h9c with h9|⟨h9,hin⟩
          all_goals
            go_wp2_with (go_at_call 28;refine (HMH.out _ B9.out).mono ?_;rintro e w6 ⟨⟨sa2,sk2,so2,rfl⟩,hb⟩;have B6:Hid (Below w5.heap.size w5 w6):=bstep B9.out hb;clear hb HMH)
          all_goals go_ret
          all_goals exact ⟨retB (by simp [*]),(by repeat (first|refine Below.alloc ?_ (by have:=BB.out.size;have:=B6.out.size;simp;try omega) _|refine Below.drew ?_|exact (BB.out.trans (B6.out.mono BB.out.size))|exact (BB.out.trans (B9.out.mono BB.out.size))|exact (BB.out.trans (B10.out.mono BB.out.size))))⟩
      · go_wp2
        go_roundw
        case rel=>exact ⟨j+1,by go_num,by omega,HG2.out (fun h=>absurd h hF),B9⟩
        case measure=>simp [intOf];omega
    · have e:j=KK:=by omega
      subst e
      obtain ⟨rfl,rfl,rfl⟩:=hfin.out (by have:=hG.out;rw [← HKL.out,List.take_length] at this;exact this)
      have HQ:Hid (∀ w:World,Calls Tryz.prog 24 #[.agg #[.int .i64 t1,.int .i64 t2],.agg #[.int .i64 t1,.int .i64 t2]] w fun e w'=>e=.returned (.bool true)∧Below w.heap.size w w'):=fun w=>(sameID_c (t1,t2) (t1,t2) w).mono fun e w' zz=>⟨by rw [zz.1];simp,zz.2⟩
      clear hfin HFA HMA HIA HXA hG mV0 xV0 xV1 V1 V2
      have HH2:WAt b ps wr:=HWV.out _ hB.out
      clear HH HWV
      have HH:Hid (WAt b ps wr):=HH2
      clear HH2
      have hb:=hB.out
      have mmd:=kp2 (n:=W.heap.size) hb (by first|omega|(simp;try omega)) (mmB.out);(try clear mmB mm0 mm1 mmf mmL mmN);obtain ⟨mmB,mm0,mm1,mmf,mmL,mmN⟩:=mmd
      have BB2:Below W.heap.size W wr:=bstep BB.out hb
      clear BB
      have BB:Hid (Below W.heap.size W wr):=BB2
      clear BB2 hb hB O5
      go_wp2_with (first
        | (go_at_call 38;refine (HV.out _ _ HH.out).mono ?_;rintro e w7 ⟨rfl,hb⟩;have mmd:=kp2 (n:=W.heap.size) hb (by first|omega|(simp;try omega)) (mmB.out);(try clear mmB mm0 mm1 mmf mmL mmN);obtain ⟨mmB,mm0,mm1,mmf,mmL,mmN⟩:=mmd;have BB2:Below W.heap.size W w7:=bstep (by repeat (first|refine Below.setCell ?_ (by simp;try omega) _|refine Below.alloc ?_ (by have:=BB.out.size;simp;try omega) _|refine Below.drew ?_|exact BB.out)) hb;clear BB;have BB:Hid (Below W.heap.size W w7):=BB2;clear BB2;have HH2:=HH.out.below hb;clear HH;have HH:Hid (WAt b ps w7):=HH2;clear HH2;clear hb HV)
        | (go_at_call 40;refine (HT.out _ _ (HH.out.below ((Below.refl _ _).alloc (Nat.le_refl _) _))).mono ?_;rintro e w8 ⟨rfl,hb⟩;have aad:=kp2 (n:=w7.heap.size) hb (by first|omega|(simp;try omega)) (halloc1 _ _);(try clear aaB aa0 aa1 aaf aaL aaN);obtain ⟨aaB,aa0,aa1,aaf,aaL,aaN⟩:=aad;have BB2:Below W.heap.size W w8:=bstep (by repeat (first|refine Below.setCell ?_ (by simp;try omega) _|refine Below.alloc ?_ (by have:=BB.out.size;simp;try omega) _|refine Below.drew ?_|exact BB.out)) hb;clear BB;have BB:Hid (Below W.heap.size W w8):=BB2;clear BB2;have HH2:=(HH.out.below ((Below.refl _ _).alloc (Nat.le_refl _) _)).below hb;clear HH;have HH:Hid (WAt b ps w8):=HH2;clear HH2;clear hb HT)
        | (go_at_call 24;refine (HQ.out _).mono ?_;rintro e w10 ⟨rfl,hb⟩;have BB2:Below W.heap.size W w10:=bstep (by repeat (first|refine Below.setCell ?_ (by simp;try omega) _|refine Below.alloc ?_ (by have:=BB.out.size;simp;try omega) _|refine Below.drew ?_|exact BB.out)) hb;clear BB;have BB:Hid (Below W.heap.size W w10):=BB2;clear BB2;clear hb HQ))
      all_goals go_ret
      all_goals exact ⟨retB (by simp [*]),(by repeat (first|refine Below.setCell ?_ (by simp;try omega) _|refine Below.alloc ?_ (by have:=BB.out.size;simp;try omega) _|refine Below.drew ?_|exact BB.out))⟩
theorem ChooseAgree_any (v:Value) (l:List Cls) (r m1 m2:Int) (W:World) (h:IsClss W v l):Calls Tryz.prog 10 #[v,.int .i64 r,.agg #[.int .i64 m1,.int .i64 m2]] W fun e w'=>e=.returned (.bool true)∧Below W.heap.size W w':=by
  have hWI:WI (wld l):=wld_wi l (clss_w h)
  have hU:UnqM (wld l):=unqM_wld l (clss_w h)
  have hS:SndI (wld l):=sndI_wld l (clss_w h)
  have HB:∀ w:World,Below W.heap.size W w→Calls Tryz.prog 36 #[v] w fun e w'=>(∃ b,e=.returned (.pointer (some ⟨b,0,none⟩))∧WAt b (wld l) w')∧Below w.heap.size w w':=fun w hb=>built12_c v l w (clss_keep h hb)
  generalize wld l=ps at *
  have hM:∀ (c i:Int) (y:HM),methI ps c i=some y→∀ b w,WAt b ps w→Calls Tryz.prog 28 #[.pointer (some ⟨b,0,none⟩),.agg #[.int .i64 c,.int .i64 i]] w fun e w'=>(∃ sa sk so,e=.returned (.tuple #[.agg #[.string y.nm,.string y.ds,.int .i64 y.fl,.int .i64 y.lo,.int .i64 y.st,.slice sa sk so],.int .i64 0]))∧Below w.heap.size w w':=fun c i y hy b w hw=>by
    have:=mth_e hw hWI.pb c i
    rw [hy] at this
    exact this
  rcases plcI_cases ps r with ⟨hr,_⟩|⟨k,q,rfl,hq,hr⟩
  · have HC:∀ b w,WAt b ps w→Calls Tryz.prog 45 #[.pointer (some ⟨b,0,none⟩),.int .i64 r] w fun e w'=>(∃ cv,e=.returned (.tuple #[cv,.int .i64 3]))∧Below w.heap.size w w':=fun b w hw=>(chain_no hw r hr).mono fun e w' zz=>⟨⟨_,zz.1⟩,zz.2⟩
    cases hx:methI ps m1 m2 with
    | none =>
      refine agr_1 ps W v r m1 m2 ⟨#[]⟩ ⟨#[]⟩ 0 0 0 3 3 (.inl (by decide)) HB (fun b w hw=>?_) HC
      have:=mth_e hw hWI.pb m1 m2
      rw [hx] at this
      exact this.mono fun e w' zz=>⟨⟨_,_,_,zz.1⟩,zz.2⟩
    | some x=>exact agr_1 ps W v r m1 m2 x.nm x.ds x.fl x.lo x.st 0 3 (.inr ⟨rfl,by decide⟩) HB (hM m1 m2 x hx) HC
  · have HCY:∀ b w,WAt b ps w→Calls Tryz.prog 45 #[.pointer (some ⟨b,0,none⟩),.int .i64 (k:Int)] w fun e w'=>∃ cv,e=.returned (.tuple #[cv,.int .i64 0])∧w'.ownsRow w.heap.size 3 1 cv (chL (ps.map nd) k).length ((chL (ps.map nd) k).map numV)∧Below w.heap.size w w':=fun b w hw=>by
      obtain ⟨N,mb,vp,pv,hw⟩:=hw
      exact chain_yes N b mb ps vp pv k (List.getElem?_eq_some_iff.1 hq).1 hWI.wo hWI.hi w hw
    have HC:∀ b w,WAt b ps w→Calls Tryz.prog 45 #[.pointer (some ⟨b,0,none⟩),.int .i64 (k:Int)] w fun e w'=>(∃ cv,e=.returned (.tuple #[cv,.int .i64 0]))∧Below w.heap.size w w':=fun b w hw=>(HCY b w hw).mono fun e w' zz=>by
      obtain ⟨cv,e1,_,e3⟩:=zz
      exact ⟨⟨cv,e1⟩,e3⟩
    cases hx:methI ps m1 m2 with
    | none =>
      refine agr_1 ps W v k m1 m2 ⟨#[]⟩ ⟨#[]⟩ 0 0 0 3 0 (.inl (by decide)) HB (fun b w hw=>?_) HC
      have:=mth_e hw hWI.pb m1 m2
      rw [hx] at this
      exact this.mono fun e w' zz=>⟨⟨_,_,_,zz.1⟩,zz.2⟩
    | some x =>
      have hX:=hM m1 m2 x hx
      have HE:∀ b w,WAt b ps w→Calls Tryz.prog 29 #[.pointer (some ⟨b,0,none⟩),.int .i64 (k:Int),.int .i64 m1] w fun e w'=>e=.returned (.bool (extI ps (k:Int) m1))∧Below w.heap.size w w':=fun b w hw=>extends_c hw hWI k m1
      cases hp:(bits .and .i64 x.fl 9 != 1) with
      | true=>exact agr_2 ps W v k m1 m2 x.nm x.ds x.fl x.lo x.st _ (.inl hp) HB hX HC HE
      | false =>
        cases he:extI ps (k:Int) m1 with
        | false=>exact agr_2 ps W v k m1 m2 x.nm x.ds x.fl x.lo x.st _ (.inr ⟨hp,he⟩) HB hX HC HE
        | true =>
          have HE2:∀ b w,WAt b ps w→Calls Tryz.prog 29 #[.pointer (some ⟨b,0,none⟩),.int .i64 (k:Int),.int .i64 m1] w fun e w'=>e=.returned (.bool true)∧Below w.heap.size w w':=fun b w hw=>by
            have:=HE b w hw
            rw [he] at this
            exact this
          refine agr_3 ps W v k m1 m2 x.nm x.ds x.fl x.lo x.st (chL (ps.map nd) k) _ rfl (chL_len hWI (List.getElem?_eq_some_iff.1 hq).1) (fun i=>fndI ps (i:Int) x.nm x.ds) (fun i=>(methI ps (i:Int) (fndI ps (i:Int) x.nm x.ds).1).getD x) (fun i=>extI ps (i:Int) m1) (ifcI ps m1) _ _ _ _ _ _ hp ?_ HB hX HCY HE2 (fun i b w hw=>find_c hw hWI.pb i x.nm x.ds) (fun i b w hF hw=>?_) (fun b w hw=>isIface_c hw m1) (fun i b w hw=>extends_c hw hWI i m1) (fun b w hw=>vir_c hw hWI k m1 m2) (fun b w hw=>itf_c hw hWI k m1 m2)
          · intro hall
            have:=agree_facts hWI hU hS hq (m:=(m1,m2)) hx (by simpa using hp) he (fun i hi hF y hy=>by
              obtain ⟨c1,c2,c3⟩:=hall i hi hF
              rw [hy] at c1 c2
              exact ⟨by simpa using c1,c2,c3⟩)
            rw [this]
            exact ⟨rfl,rfl,rfl⟩
          · obtain ⟨⟨z,hz,_,_⟩,_⟩:=fnd_facts hF
            simp only at hz
            have:=hM i (fndI ps (i:Int) x.nm x.ds).1 z hz b w hw
            rw [hz]
            exact this
end Go.Proofs.YtfoldbhlmmmpeaaGreat
