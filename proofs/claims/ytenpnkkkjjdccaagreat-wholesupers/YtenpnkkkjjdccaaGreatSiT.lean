import Derived.Test.YtenpnkkkjjdccaaGreatLocks
import Derived.Test.YtenpnkkkjjdccaaGreatDsF
import Derived.Test.YtenpnkkkjjdccaaGreatHkN
import Derived.Test.YtenpnkkkjjdccaaGreatLxP
import Derived.Test.YtenpnkkkjjdccaaGreatMxF
import Derived.Test.YtenpnkkkjjdccaaGreatKaA
import Derived.Test.YtenpnkkkjjdccaaGreatOvA
import Derived.Handy
set_option maxRecDepth 100000
namespace Go.Proofs.YtenpnkkkjjdccaaGreat
open Go.RowKit Go.Maps
theorem idxT_0 (x y:Int) (s t:ByteArray) (w:World):(Instr.index 328 (.agg #[.int .i64 x,.string s,.int .i64 y,.string t]) (.int .i64 0)).run Tryz.prog w=.ok (.agg #[.int .i64 x,.string s]) w:=by
  simp [Instr.index,run_underlying Tryz.underlying328,go_sem,part]
theorem idxT_1 (x y:Int) (s t:ByteArray) (w:World):(Instr.index 328 (.agg #[.int .i64 x,.string s,.int .i64 y,.string t]) (.int .i64 1)).run Tryz.prog w=.ok (.agg #[.int .i64 y,.string t]) w:=by
  simp [Instr.index,run_underlying Tryz.underlying328,go_sem,part]
theorem bl4 {w:World} {n:Nat} {t:TypeId} {a0 a1 a2 a3:Value} (h:w.heap[n]?=some (.cells #[a0,a1,a2,a3] t (0,0))) (b0 b1 b2 b3:Value):((((w.setCell ⟨n,0,none⟩ b0).setCell ⟨n,1,none⟩ b1).setCell ⟨n,2,none⟩ b2).setCell ⟨n,3,none⟩ b3).heap[n]?=some (.cells #[b0,b1,b2,b3] t (0,0)):=by
  have h0:=(Go.Joins.block_setCell (i:=0) h b0).trans (by simp:_=some (.cells #[b0,a1,a2,a3] t (0,0)))
  have h1:=(Go.Joins.block_setCell (i:=1) h0 b1).trans (by simp:_=some (.cells #[b0,b1,a2,a3] t (0,0)))
  have h2:=(Go.Joins.block_setCell (i:=2) h1 b2).trans (by simp:_=some (.cells #[b0,b1,b2,a3] t (0,0)))
  exact (Go.Joins.block_setCell (i:=3) h2 b3).trans (by simp)
set_option maxHeartbeats 4000000 in
theorem itb_1 (V W:World) (b rb m:Nat) (x y X Y:Int) (s t:ByteArray) (hb:Below V.heap.size V W) (hr:V.heap.size≤rb) (hrb:W.heap[rb]?=some (.cells #[.int .i64 (m:Int)] 3 (0,0))) (hm:m≤1000000) (HLW:Hid (∀ w,Calls Tryz.prog 270 #[.agg #[.int .i64 x,.string s,.int .i64 y,.string t]] w fun e w'=>e=.returned (.agg #[.int .i64 X,.string s,.int .i64 Y,.string t])∧Below w.heap.size w w')) (R:Bool) (HIC1:Hid (∀ z u w,z=X→u=s→Calls Tryz.prog 271 #[.agg #[.int .i64 z,.string u]] w fun e w'=>e=.returned (.bool false)∧Below w.heap.size w w')) (HSB:Hid (∀ w,Below V.heap.size V w→Calls Tryz.prog 273 #[.pointer (some ⟨b,0,none⟩),.agg #[.int .i64 X,.string s],.agg #[.int .i64 Y,.string t]] w fun e w'=>e=.returned (.tuple #[.bool R,.int .i64 0])∧Below w.heap.size w w')) :
    Calls Tryz.prog 234 #[.pointer (some ⟨b,0,none⟩),.agg #[.int .i64 x,.string s,.int .i64 y,.string t],.pointer (some ⟨rb,0,none⟩)] W fun e w'=>e=.returned (.bool R)∧w'.heap[rb]?=some (.cells #[.int .i64 ((m+1:Nat):Int)] 3 (0,0))∧Below V.heap.size V w':=by
  have HB:Hid (Below V.heap.size V W):=hb
  have HR:Hid (W.heap[rb]?=some (.cells #[.int .i64 (m:Int)] 3 (0,0))):=hrb
  obtain ⟨r0,rf,rl⟩:=rw1 hrb
  have hW0:=hb.size
  have rbW:¬ rb=W.heap.size:=by omega
  have Wrb:¬ W.heap.size=rb:=by omega
  clear hb hrb
  have IX0:=idxT_0 X Y s t
  have IX1:=idxT_1 X Y s t
  go_enter Tryz.func234,Tryz.ntmps234
  go_upto_region 2 with (go_at_call 270;refine (HLW.out _).mono ?_;rintro e w1 ⟨rfl,hb⟩;have eed:=kp4 (n:=W.heap.size) hb (by first|omega|(simp;try omega)) (halloc1 _ _);(try clear eeB ee0 ee1 ee2 ee3 eef eeL eeN);obtain ⟨eeB,ee0,ee1,ee2,ee3,eef,eeL,eeN⟩:=eed;have rrd:=kp1 (n:=rb) hb (by first|omega|(simp;try omega)) (hkeep HR.out);(try clear rrB rr0 rrf rrL rrN);obtain ⟨rrB,rr0,rrf,rrL,rrN⟩:=rrd;have B1:Hid (Below V.heap.size V w1):=bstep (HB.out.alloc HB.out.size _) hb;clear hb HLW)
  have B2:Hid (Below V.heap.size V ((((w1.setCell ⟨W.heap.size,0,none⟩ (.int .i64 X)).setCell ⟨W.heap.size,1,none⟩ (.string s)).setCell ⟨W.heap.size,2,none⟩ (.int .i64 Y)).setCell ⟨W.heap.size,3,none⟩ (.string t))):=(((B1.out.setCell hW0 _).setCell hW0 _).setCell hW0 _).setCell hW0 _
  have E2:Hid (((((w1.setCell ⟨W.heap.size,0,none⟩ (.int .i64 X)).setCell ⟨W.heap.size,1,none⟩ (.string s)).setCell ⟨W.heap.size,2,none⟩ (.int .i64 Y)).setCell ⟨W.heap.size,3,none⟩ (.string t)).heap[W.heap.size]?=some (.cells #[.int .i64 X,.string s,.int .i64 Y,.string t] 328 (0,0))):=bl4 eeB.out _ _ _ _
  have R2:Hid (((((w1.setCell ⟨W.heap.size,0,none⟩ (.int .i64 X)).setCell ⟨W.heap.size,1,none⟩ (.string s)).setCell ⟨W.heap.size,2,none⟩ (.int .i64 Y)).setCell ⟨W.heap.size,3,none⟩ (.string t)).heap[rb]?=some (.cells #[.int .i64 (m:Int)] 3 (0,0))):=keepS rbW (keepS rbW (keepS rbW (keepS rbW rrB.out)))
  generalize ((((w1.setCell ⟨W.heap.size,0,none⟩ (.int .i64 X)).setCell ⟨W.heap.size,1,none⟩ (.string s)).setCell ⟨W.heap.size,2,none⟩ (.int .i64 Y)).setCell ⟨W.heap.size,3,none⟩ (.string t))=U at *
  (try clear eeB ee0 ee1 ee2 ee3 eef eeL eeN rrB rr0 rrf rrL rrN)
  have eeB:=E2
  have rrB:=R2
  obtain ⟨ee0,ee1,ee2,ee3,eef,eeL⟩:=rw4 eeB.out
  obtain ⟨rr0,rrf,rrL⟩:=rw1 rrB.out
  have eeN:¬ W.heap.size=U.heap.size:=by omega
  have rrN:¬ rb=U.heap.size:=by omega
  clear E2 R2 B1
  go_wp2_with (first
    | (go_at_call 271;refine (HIC1.out _ _ _ (by rfl) (by rfl)).mono ?_;rintro e w3 ⟨rfl,hb⟩;have eed:=kp4 (n:=W.heap.size) hb (by first|omega|(simp;try omega)) (eeB.out);(try clear eeB ee0 ee1 ee2 ee3 eef eeL eeN);obtain ⟨eeB,ee0,ee1,ee2,ee3,eef,eeL,eeN⟩:=eed;have rrd:=kp1 (n:=rb) hb (by first|omega|(simp;try omega)) (rrB.out);(try clear rrB rr0 rrf rrL rrN);obtain ⟨rrB,rr0,rrf,rrL,rrN⟩:=rrd;have B3:Hid (Below V.heap.size V w3):=bstep B2.out hb;clear hb HIC1)
    | (go_at_call 273;refine (HSB.out _ (B3.out.setCell (p:=⟨rb,0,none⟩) hr _)).mono ?_;rintro e w5 ⟨rfl,hb⟩;have R5:Hid (w5.heap[rb]?=some (.cells #[.int .i64 ((m:Int)+1)] 3 (0,0))):=(hb.block rb (by simp;omega)).trans (st1 rrB.out _);have B5:Hid (Below V.heap.size V w5):=bstep (B3.out.setCell (p:=⟨rb,0,none⟩) hr _) hb;clear hb HSB))
  exact bodyPost_ret (results_tmp rfl _ _ _) rfl ⟨rfl,R5.out,B5.out⟩
set_option maxHeartbeats 4000000 in
theorem itb_2 (V W:World) (b rb m:Nat) (x y X Y:Int) (s t:ByteArray) (hb:Below V.heap.size V W) (hr:V.heap.size≤rb) (hrb:W.heap[rb]?=some (.cells #[.int .i64 (m:Int)] 3 (0,0))) (hm:m≤1000000) (HLW:Hid (∀ w,Calls Tryz.prog 270 #[.agg #[.int .i64 x,.string s,.int .i64 y,.string t]] w fun e w'=>e=.returned (.agg #[.int .i64 X,.string s,.int .i64 Y,.string t])∧Below w.heap.size w w')) (R:Bool) (HIC1:Hid (∀ z u w,z=X→u=s→Calls Tryz.prog 271 #[.agg #[.int .i64 z,.string u]] w fun e w'=>e=.returned (.bool true)∧Below w.heap.size w w')) (HIC2:Hid (∀ z u w,z=Y→u=t→Calls Tryz.prog 271 #[.agg #[.int .i64 z,.string u]] w fun e w'=>e=.returned (.bool false)∧Below w.heap.size w w')) (HSB:Hid (∀ w,Below V.heap.size V w→Calls Tryz.prog 273 #[.pointer (some ⟨b,0,none⟩),.agg #[.int .i64 X,.string s],.agg #[.int .i64 Y,.string t]] w fun e w'=>e=.returned (.tuple #[.bool R,.int .i64 0])∧Below w.heap.size w w')) :
    Calls Tryz.prog 234 #[.pointer (some ⟨b,0,none⟩),.agg #[.int .i64 x,.string s,.int .i64 y,.string t],.pointer (some ⟨rb,0,none⟩)] W fun e w'=>e=.returned (.bool R)∧w'.heap[rb]?=some (.cells #[.int .i64 ((m+1:Nat):Int)] 3 (0,0))∧Below V.heap.size V w':=by
  have HB:Hid (Below V.heap.size V W):=hb
  have HR:Hid (W.heap[rb]?=some (.cells #[.int .i64 (m:Int)] 3 (0,0))):=hrb
  obtain ⟨r0,rf,rl⟩:=rw1 hrb
  have hW0:=hb.size
  have rbW:¬ rb=W.heap.size:=by omega
  have Wrb:¬ W.heap.size=rb:=by omega
  clear hb hrb
  have IX0:=idxT_0 X Y s t
  have IX1:=idxT_1 X Y s t
  go_enter Tryz.func234,Tryz.ntmps234
  go_upto_region 2 with (go_at_call 270;refine (HLW.out _).mono ?_;rintro e w1 ⟨rfl,hb⟩;have eed:=kp4 (n:=W.heap.size) hb (by first|omega|(simp;try omega)) (halloc1 _ _);(try clear eeB ee0 ee1 ee2 ee3 eef eeL eeN);obtain ⟨eeB,ee0,ee1,ee2,ee3,eef,eeL,eeN⟩:=eed;have rrd:=kp1 (n:=rb) hb (by first|omega|(simp;try omega)) (hkeep HR.out);(try clear rrB rr0 rrf rrL rrN);obtain ⟨rrB,rr0,rrf,rrL,rrN⟩:=rrd;have B1:Hid (Below V.heap.size V w1):=bstep (HB.out.alloc HB.out.size _) hb;clear hb HLW)
  have B2:Hid (Below V.heap.size V ((((w1.setCell ⟨W.heap.size,0,none⟩ (.int .i64 X)).setCell ⟨W.heap.size,1,none⟩ (.string s)).setCell ⟨W.heap.size,2,none⟩ (.int .i64 Y)).setCell ⟨W.heap.size,3,none⟩ (.string t))):=(((B1.out.setCell hW0 _).setCell hW0 _).setCell hW0 _).setCell hW0 _
  have E2:Hid (((((w1.setCell ⟨W.heap.size,0,none⟩ (.int .i64 X)).setCell ⟨W.heap.size,1,none⟩ (.string s)).setCell ⟨W.heap.size,2,none⟩ (.int .i64 Y)).setCell ⟨W.heap.size,3,none⟩ (.string t)).heap[W.heap.size]?=some (.cells #[.int .i64 X,.string s,.int .i64 Y,.string t] 328 (0,0))):=bl4 eeB.out _ _ _ _
  have R2:Hid (((((w1.setCell ⟨W.heap.size,0,none⟩ (.int .i64 X)).setCell ⟨W.heap.size,1,none⟩ (.string s)).setCell ⟨W.heap.size,2,none⟩ (.int .i64 Y)).setCell ⟨W.heap.size,3,none⟩ (.string t)).heap[rb]?=some (.cells #[.int .i64 (m:Int)] 3 (0,0))):=keepS rbW (keepS rbW (keepS rbW (keepS rbW rrB.out)))
  generalize ((((w1.setCell ⟨W.heap.size,0,none⟩ (.int .i64 X)).setCell ⟨W.heap.size,1,none⟩ (.string s)).setCell ⟨W.heap.size,2,none⟩ (.int .i64 Y)).setCell ⟨W.heap.size,3,none⟩ (.string t))=U at *
  (try clear eeB ee0 ee1 ee2 ee3 eef eeL eeN rrB rr0 rrf rrL rrN)
  have eeB:=E2
  have rrB:=R2
  obtain ⟨ee0,ee1,ee2,ee3,eef,eeL⟩:=rw4 eeB.out
  obtain ⟨rr0,rrf,rrL⟩:=rw1 rrB.out
  have eeN:¬ W.heap.size=U.heap.size:=by omega
  have rrN:¬ rb=U.heap.size:=by omega
  clear E2 R2 B1
  go_wp2_with (first
    | (go_at_call 271;refine (HIC1.out _ _ _ (by rfl) (by rfl)).mono ?_;rintro e w3 ⟨rfl,hb⟩;have eed:=kp4 (n:=W.heap.size) hb (by first|omega|(simp;try omega)) (eeB.out);(try clear eeB ee0 ee1 ee2 ee3 eef eeL eeN);obtain ⟨eeB,ee0,ee1,ee2,ee3,eef,eeL,eeN⟩:=eed;have rrd:=kp1 (n:=rb) hb (by first|omega|(simp;try omega)) (rrB.out);(try clear rrB rr0 rrf rrL rrN);obtain ⟨rrB,rr0,rrf,rrL,rrN⟩:=rrd;have B3:Hid (Below V.heap.size V w3):=bstep B2.out hb;clear hb HIC1)
    | (go_at_call 271;refine (HIC2.out _ _ _ (by rfl) (by rfl)).mono ?_;rintro e w4 ⟨rfl,hb⟩;have eed:=kp4 (n:=W.heap.size) hb (by first|omega|(simp;try omega)) (eeB.out);(try clear eeB ee0 ee1 ee2 ee3 eef eeL eeN);obtain ⟨eeB,ee0,ee1,ee2,ee3,eef,eeL,eeN⟩:=eed;have rrd:=kp1 (n:=rb) hb (by first|omega|(simp;try omega)) (rrB.out);(try clear rrB rr0 rrf rrL rrN);obtain ⟨rrB,rr0,rrf,rrL,rrN⟩:=rrd;have B4:Hid (Below V.heap.size V w4):=bstep B3.out hb;clear hb HIC2)
    | (go_at_call 273;refine (HSB.out _ (B4.out.setCell (p:=⟨rb,0,none⟩) hr _)).mono ?_;rintro e w5 ⟨rfl,hb⟩;have R5:Hid (w5.heap[rb]?=some (.cells #[.int .i64 ((m:Int)+1)] 3 (0,0))):=(hb.block rb (by simp;omega)).trans (st1 rrB.out _);have B5:Hid (Below V.heap.size V w5):=bstep (B4.out.setCell (p:=⟨rb,0,none⟩) hr _) hb;clear hb HSB))
  exact bodyPost_ret (results_tmp rfl _ _ _) rfl ⟨rfl,R5.out,B5.out⟩
set_option maxHeartbeats 4000000 in
theorem itb_3 (V W:World) (b rb m:Nat) (x y X Y:Int) (s t:ByteArray) (hb:Below V.heap.size V W) (hrb:W.heap[rb]?=some (.cells #[.int .i64 (m:Int)] 3 (0,0))) (HLW:Hid (∀ w,Calls Tryz.prog 270 #[.agg #[.int .i64 x,.string s,.int .i64 y,.string t]] w fun e w'=>e=.returned (.agg #[.int .i64 X,.string s,.int .i64 Y,.string t])∧Below w.heap.size w w')) (R:Bool) (n a d:Nat) (HIC1:Hid (∀ z u w,z=X→u=s→Calls Tryz.prog 271 #[.agg #[.int .i64 z,.string u]] w fun e w'=>e=.returned (.bool true)∧Below w.heap.size w w')) (HIC2:Hid (∀ z u w,z=Y→u=t→Calls Tryz.prog 271 #[.agg #[.int .i64 z,.string u]] w fun e w'=>e=.returned (.bool true)∧Below w.heap.size w w')) (HN1:Hid (∀ w,Below V.heap.size V w→Calls Tryz.prog 148 #[.pointer (some ⟨b,0,none⟩),.string s] w fun e w'=>e=.returned (.tuple #[.int .i64 (a:Int),.int .i64 0])∧Below w.heap.size w w')) (HN2:Hid (∀ w,Below V.heap.size V w→Calls Tryz.prog 148 #[.pointer (some ⟨b,0,none⟩),.string t] w fun e w'=>e=.returned (.tuple #[.int .i64 (d:Int),.int .i64 0])∧Below w.heap.size w w')) (HIB:Hid (∀ w,Below V.heap.size V w→w.heap[rb]?=some (.cells #[.int .i64 (m:Int)] 3 (0,0))→Calls Tryz.prog 272 #[.pointer (some ⟨b,0,none⟩),.agg #[.int .i64 (a:Int),.int .i64 (d:Int)],.pointer (some ⟨rb,0,none⟩)] w fun e w'=>e=.returned (.bool R)∧w'.heap[rb]?=some (.cells #[.int .i64 ((m+n:Nat):Int)] 3 (0,0))∧Below V.heap.size V w')) :
    Calls Tryz.prog 234 #[.pointer (some ⟨b,0,none⟩),.agg #[.int .i64 x,.string s,.int .i64 y,.string t],.pointer (some ⟨rb,0,none⟩)] W fun e w'=>e=.returned (.bool R)∧w'.heap[rb]?=some (.cells #[.int .i64 ((m+n:Nat):Int)] 3 (0,0))∧Below V.heap.size V w':=by
  have HB:Hid (Below V.heap.size V W):=hb
  have HR:Hid (W.heap[rb]?=some (.cells #[.int .i64 (m:Int)] 3 (0,0))):=hrb
  obtain ⟨r0,rf,rl⟩:=rw1 hrb
  have hW0:=hb.size
  have rbW:¬ rb=W.heap.size:=by omega
  have Wrb:¬ W.heap.size=rb:=by omega
  clear hb hrb
  have IX0:=idxT_0 X Y s t
  have IX1:=idxT_1 X Y s t
  go_enter Tryz.func234,Tryz.ntmps234
  go_upto_region 2 with (go_at_call 270;refine (HLW.out _).mono ?_;rintro e w1 ⟨rfl,hb⟩;have eed:=kp4 (n:=W.heap.size) hb (by first|omega|(simp;try omega)) (halloc1 _ _);(try clear eeB ee0 ee1 ee2 ee3 eef eeL eeN);obtain ⟨eeB,ee0,ee1,ee2,ee3,eef,eeL,eeN⟩:=eed;have rrd:=kp1 (n:=rb) hb (by first|omega|(simp;try omega)) (hkeep HR.out);(try clear rrB rr0 rrf rrL rrN);obtain ⟨rrB,rr0,rrf,rrL,rrN⟩:=rrd;have B1:Hid (Below V.heap.size V w1):=bstep (HB.out.alloc HB.out.size _) hb;clear hb HLW)
  have B2:Hid (Below V.heap.size V ((((w1.setCell ⟨W.heap.size,0,none⟩ (.int .i64 X)).setCell ⟨W.heap.size,1,none⟩ (.string s)).setCell ⟨W.heap.size,2,none⟩ (.int .i64 Y)).setCell ⟨W.heap.size,3,none⟩ (.string t))):=(((B1.out.setCell hW0 _).setCell hW0 _).setCell hW0 _).setCell hW0 _
  have E2:Hid (((((w1.setCell ⟨W.heap.size,0,none⟩ (.int .i64 X)).setCell ⟨W.heap.size,1,none⟩ (.string s)).setCell ⟨W.heap.size,2,none⟩ (.int .i64 Y)).setCell ⟨W.heap.size,3,none⟩ (.string t)).heap[W.heap.size]?=some (.cells #[.int .i64 X,.string s,.int .i64 Y,.string t] 328 (0,0))):=bl4 eeB.out _ _ _ _
  have R2:Hid (((((w1.setCell ⟨W.heap.size,0,none⟩ (.int .i64 X)).setCell ⟨W.heap.size,1,none⟩ (.string s)).setCell ⟨W.heap.size,2,none⟩ (.int .i64 Y)).setCell ⟨W.heap.size,3,none⟩ (.string t)).heap[rb]?=some (.cells #[.int .i64 (m:Int)] 3 (0,0))):=keepS rbW (keepS rbW (keepS rbW (keepS rbW rrB.out)))
  generalize ((((w1.setCell ⟨W.heap.size,0,none⟩ (.int .i64 X)).setCell ⟨W.heap.size,1,none⟩ (.string s)).setCell ⟨W.heap.size,2,none⟩ (.int .i64 Y)).setCell ⟨W.heap.size,3,none⟩ (.string t))=U at *
  (try clear eeB ee0 ee1 ee2 ee3 eef eeL eeN rrB rr0 rrf rrL rrN)
  have eeB:=E2
  have rrB:=R2
  obtain ⟨ee0,ee1,ee2,ee3,eef,eeL⟩:=rw4 eeB.out
  obtain ⟨rr0,rrf,rrL⟩:=rw1 rrB.out
  have eeN:¬ W.heap.size=U.heap.size:=by omega
  have rrN:¬ rb=U.heap.size:=by omega
  clear E2 R2 B1
  go_wp2_with (first
    | (go_at_call 271;refine (HIC1.out _ _ _ (by rfl) (by rfl)).mono ?_;rintro e w3 ⟨rfl,hb⟩;have eed:=kp4 (n:=W.heap.size) hb (by first|omega|(simp;try omega)) (eeB.out);(try clear eeB ee0 ee1 ee2 ee3 eef eeL eeN);obtain ⟨eeB,ee0,ee1,ee2,ee3,eef,eeL,eeN⟩:=eed;have rrd:=kp1 (n:=rb) hb (by first|omega|(simp;try omega)) (rrB.out);(try clear rrB rr0 rrf rrL rrN);obtain ⟨rrB,rr0,rrf,rrL,rrN⟩:=rrd;have B3:Hid (Below V.heap.size V w3):=bstep B2.out hb;clear hb HIC1)
    | (go_at_call 271;refine (HIC2.out _ _ _ (by rfl) (by rfl)).mono ?_;rintro e w4 ⟨rfl,hb⟩;have eed:=kp4 (n:=W.heap.size) hb (by first|omega|(simp;try omega)) (eeB.out);(try clear eeB ee0 ee1 ee2 ee3 eef eeL eeN);obtain ⟨eeB,ee0,ee1,ee2,ee3,eef,eeL,eeN⟩:=eed;have rrd:=kp1 (n:=rb) hb (by first|omega|(simp;try omega)) (rrB.out);(try clear rrB rr0 rrf rrL rrN);obtain ⟨rrB,rr0,rrf,rrL,rrN⟩:=rrd;have B4:Hid (Below V.heap.size V w4):=bstep B3.out hb;clear hb HIC2))
  have hw4:=B4.out.size
  have rbI:¬ rb=w4.heap.size:=by omega
  have Irb:¬ w4.heap.size=rb:=by omega
  go_loopw [23] (fun kv wr=>((kv=.int .i64 0∧Hid (wr.heap[w4.heap.size]?=some (.cells #[.int .i64 0,.int .i64 0] 366 (0,0))))∨(kv=.int .i64 1∧Hid (wr.heap[w4.heap.size]?=some (.cells #[.int .i64 (a:Int),.int .i64 0] 366 (0,0))))∨(kv=.int .i64 2∧Hid (wr.heap[w4.heap.size]?=some (.cells #[.int .i64 (a:Int),.int .i64 (d:Int)] 366 (0,0)))))∧Hid (Below V.heap.size V wr)∧Hid (wr.heap[rb]?=some (.cells #[.int .i64 (m:Int)] 3 (0,0)))) (fun kv _=>2 - (intOf kv).toNat)
  case atStart=>exact ⟨.inl ⟨rfl,halloc1 _ _⟩,B4.out.alloc B4.out.size _,hkeep rrB.out⟩
  case round =>
    clear eeB ee0 ee1 ee2 ee3 eef eeL eeN rrB rr0 rrf rrL rrN
    obtain ⟨hk,hB,rrB⟩:=hrel
    obtain ⟨rr0,rrf,rrL⟩:=rw1 rrB.out
    rcases hk with ⟨rfl,iiB⟩|⟨rfl,iiB⟩|⟨rfl,iiB⟩
    · obtain ⟨ii0,ii1,iif,iiL⟩:=rw2 iiB.out
      have iiN:¬ w4.heap.size=wr.heap.size:=by omega
      have rrN:¬ rb=wr.heap.size:=by omega
      go_wp2_with (go_at_call 148;refine (HN1.out _ (hB.out.alloc hB.out.size _)).mono ?_;rintro e w5 ⟨rfl,hb⟩;have iid:=kp2 (n:=w4.heap.size) hb (by first|omega|(simp;try omega)) (hkeep iiB.out);(try clear iiB ii0 ii1 iif iiL iiN);obtain ⟨iiB,ii0,ii1,iif,iiL,iiN⟩:=iid;have rrd:=kp1 (n:=rb) hb (by first|omega|(simp;try omega)) (hkeep rrB.out);(try clear rrB rr0 rrf rrL rrN);obtain ⟨rrB,rr0,rrf,rrL,rrN⟩:=rrd;have B5:Hid (Below V.heap.size V w5):=bstep (hB.out.alloc hB.out.size _) hb;clear hb)
      exact ⟨⟨.inr (.inl ⟨rfl,(dset2 iiB.out _).1⟩),B5.out.setCell hw4 _,keepS rbI rrB.out⟩,by simp [intOf]⟩
    · obtain ⟨ii0,ii1,iif,iiL⟩:=rw2 iiB.out
      have iiN:¬ w4.heap.size=wr.heap.size:=by omega
      have rrN:¬ rb=wr.heap.size:=by omega
      go_wp2_with (go_at_call 148;refine (HN2.out _ (hB.out.alloc hB.out.size _)).mono ?_;rintro e w5 ⟨rfl,hb⟩;have iid:=kp2 (n:=w4.heap.size) hb (by first|omega|(simp;try omega)) (hkeep iiB.out);(try clear iiB ii0 ii1 iif iiL iiN);obtain ⟨iiB,ii0,ii1,iif,iiL,iiN⟩:=iid;have rrd:=kp1 (n:=rb) hb (by first|omega|(simp;try omega)) (hkeep rrB.out);(try clear rrB rr0 rrf rrL rrN);obtain ⟨rrB,rr0,rrf,rrL,rrN⟩:=rrd;have B5:Hid (Below V.heap.size V w5):=bstep (hB.out.alloc hB.out.size _) hb;clear hb)
      exact ⟨⟨.inr (.inr ⟨rfl,(dset2 iiB.out _).2⟩),B5.out.setCell hw4 _,keepS rbI rrB.out⟩,by simp [intOf]⟩
    · obtain ⟨ii0,ii1,iif,iiL⟩:=rw2 iiB.out
      go_wp2_with (go_at_call 272;refine (HIB.out _ hB.out rrB.out).mono ?_;rintro e w6 ⟨rfl,hk,hb⟩;have R6:Hid (w6.heap[rb]?=some (.cells #[.int .i64 ((m+n:Nat):Int)] 3 (0,0))):=hk;have B6:Hid (Below V.heap.size V w6):=hb;clear hb hk HIB)
      exact bodyPost_ret (results_tmp rfl _ _ _) rfl ⟨rfl,R6.out,B6.out⟩
def rdT (ps:List Plc) (x:Int) (s:ByteArray) (y:Int) (t:ByteArray):Nat:=if x=y∧s.toList.isEmpty=false∧t.toList.isEmpty=false then match lookL ps s.data.toList,lookL ps t.data.toList with
    | some a,some d=>rdN ps a d
    | _,_=>1 else 1
theorem ld_low {ps:List Plc} {x X:Int} {s:ByteArray} (h:ldI ps x s=0) (h0:0≤X) (h1:X≤x):ldI ps X s=0:=by
  obtain ⟨_,h2,_⟩:=ld_facts h
  unfold ldI at h ⊢
  have e:sndB X s.data.toList=sndB x s.data.toList:=by
    unfold sndB
    congr 1
    rw [decide_eq_true h0,decide_eq_true (show X≤255 by omega),decide_eq_true (show 0≤x by omega),decide_eq_true h2]
  rw [e];exact h
theorem itb_c {b:Nat} {ps:List Plc} {V W:World} (h:WAt b ps V) (hW:WI ps) (rb m:Nat) (x y:Int) (s t:ByteArray) (hs:s.size≤maxLen) (ht:t.size≤maxLen) (h1:ldI ps x s=0) (h2:ldI ps y t=0) (hb:Below V.heap.size V W) (hr:V.heap.size≤rb) (hrb:W.heap[rb]?=some (.cells #[.int .i64 (m:Int)] 3 (0,0))) (hm:m≤1000000) :
    Calls Tryz.prog 234 #[.pointer (some ⟨b,0,none⟩),.agg #[.int .i64 x,.string s,.int .i64 y,.string t],.pointer (some ⟨rb,0,none⟩)] W fun e w'=>e=.returned (.bool (subB ps x s y t))∧w'.heap[rb]?=some (.cells #[.int .i64 ((m+rdT ps x s y t:Nat):Int)] 3 (0,0))∧Below V.heap.size V w':=by
  obtain ⟨x0,x1,xk⟩:=ld_facts h1
  obtain ⟨y0,y1,yk⟩:=ld_facts h2
  obtain ⟨d1,rfl⟩:∃ d1:Nat,x=(d1:Int):=⟨x.toNat,by omega⟩
  obtain ⟨d2,rfl⟩:∃ d2:Nat,y=(d2:Int):=⟨y.toNat,by omega⟩
  obtain ⟨c,hc⟩:∃ c,min d1 d2=c:=⟨_,rfl⟩
  have HLW:=low_c d1 d2 c s t hc (by omega) (by omega)
  have HIC1:∀ z u w,z=(d1:Int) - (c:Int)→u=s→Calls Tryz.prog 271 #[.agg #[.int .i64 z,.string u]] w fun e w'=>e=.returned (.bool (decide ((d1:Int) - (c:Int)=0)&&!s.toList.isEmpty))∧Below w.heap.size w w':=fun z u w hz hu=>by rw [hz,hu];exact ict_c _ _ w
  have HIC2:∀ z u w,z=(d2:Int) - (c:Int)→u=t→Calls Tryz.prog 271 #[.agg #[.int .i64 z,.string u]] w fun e w'=>e=.returned (.bool (decide ((d2:Int) - (c:Int)=0)&&!t.toList.isEmpty))∧Below w.heap.size w w':=fun z u w hz hu=>by rw [hz,hu];exact ict_c _ _ w
  have HSB:∀ w,Below V.heap.size V w→Calls Tryz.prog 273 #[.pointer (some ⟨b,0,none⟩),.agg #[.int .i64 ((d1:Int) - (c:Int)),.string s],.agg #[.int .i64 ((d2:Int) - (c:Int)),.string t]] w fun e w'=>e=.returned (.tuple #[.bool (subB ps d1 s d2 t),.int .i64 0])∧Below w.heap.size w w':=fun w hb=>by
    have hq:=sub_c (h.below hb) hW ((d1:Int) - (c:Int)) s ((d2:Int) - (c:Int)) t hs ht
    rw [suI,if_pos (ld_low h1 (by omega) (by omega)),if_pos (ld_low h2 (by omega) (by omega))] at hq
    have e:subB ps ((d1:Int) - (c:Int)) s ((d2:Int) - (c:Int)) t=subB ps d1 s d2 t:=by
      unfold subB
      congr 1 <;> omega
    rw [e] at hq
    exact hq
  have hno:¬ ((d1:Int)=(d2:Int)∧s.toList.isEmpty=false∧t.toList.isEmpty=false)→rdT ps d1 s d2 t=1:=fun hn=>by rw [rdT,if_neg hn]
  cases e1:(decide ((d1:Int) - (c:Int)=0)&&!s.toList.isEmpty) with
  | false =>
    rw [e1] at HIC1
    have e0:rdT ps d1 s d2 t=1:=hno (fun hn=>by
      rw [hn.2.1,decide_eq_true (show (d1:Int) - (c:Int)=0 by omega)] at e1
      cases e1)
    rw [e0]
    exact itb_1 V W b rb m d1 d2 _ _ s t hb hr hrb hm HLW _ HIC1 HSB
  | true =>
    rw [e1] at HIC1
    cases e2:(decide ((d2:Int) - (c:Int)=0)&&!t.toList.isEmpty) with
    | false =>
      rw [e2] at HIC2
      have e0:rdT ps d1 s d2 t=1:=hno (fun hn=>by
        rw [hn.2.2,decide_eq_true (show (d2:Int) - (c:Int)=0 by omega)] at e2
        cases e2)
      rw [e0]
      exact itb_2 V W b rb m d1 d2 _ _ s t hb hr hrb hm HLW _ HIC1 HIC2 HSB
    | true =>
      rw [e2] at HIC2
      rw [Bool.and_eq_true,decide_eq_true_eq,Bool.not_eq_true'] at e1 e2
      obtain ⟨a,ha⟩:=xk e1.2
      obtain ⟨d,hd⟩:=yk e2.2
      obtain ⟨qa,hqa,_⟩:=look_place ha
      obtain ⟨qd,hqd,_⟩:=look_place hd
      have e0:rdT ps d1 s d2 t=rdN ps a d:=by rw [rdT,if_pos ⟨by omega,e1.2,e2.2⟩,ha,hd]
      have e3:subB ps d1 s d2 t=extI ps (a:Int) (d:Int):=by
        unfold subB
        rw [show (d1:Int).toNat - min (d1:Int).toNat (d2:Int).toNat=0 by omega,show (d2:Int).toNat - min (d1:Int).toNat (d2:Int).toNat=0 by omega,belB,intB,intB,e1.2,e2.2,ha,hd,extI,plcI_nat,plcI_nat,hqa,hqd]
        simp
      rw [e0,e3]
      exact itb_3 V W b rb m d1 d2 _ _ s t hb hrb HLW _ _ a d HIC1 HIC2 (fun w hb=>(byName_c (h.below hb) s hs).mono fun e w' zz=>⟨by rw [zz.1,ha];rfl,zz.2⟩) (fun w hb=>(byName_c (h.below hb) t ht).mono fun e w' zz=>⟨by rw [zz.1,hd];rfl,zz.2⟩) (fun w hb hk=>icb_c h hW rb m a d qa qd hqa hqd hb hr hk hm)
set_option maxHeartbeats 4000000 in
theorem tty_1 (W:World) (b:Nat) (x y E:Int) (s t:ByteArray) (hE:¬ E=0) (HS:Hid (∀ w,Below W.heap.size W w→Calls Tryz.prog 146 #[.pointer (some ⟨b,0,none⟩),.agg #[.int .i64 x,.string s]] w fun e w'=>e=.returned (.int .i64 E)∧Below w.heap.size w w')):Calls Tryz.prog 190 #[.pointer (some ⟨b,0,none⟩),.agg #[.int .i64 x,.string s],.agg #[.int .i64 y,.string t]] W fun e w'=>e=.returned (.tuple #[.bool false,.int .i64 0,.int .i64 E])∧Below W.heap.size W w':=by
  have hE2:(E == 0)=false:=by simp [hE]
  have IX0:=idxT_0 x y s t
  have IX1:=idxT_1 x y s t
  go_enter Tryz.func190,Tryz.ntmps190
  go_wp2
  go_loopw [17] (fun kv wr=>(kv=.int .i64 0)∧Hid (Below W.heap.size W wr)∧Hid (wr.heap[W.heap.size+2]?=some (.cells #[.int .i64 0] 3 (0,0)))∧Hid (wr.heap[W.heap.size+3]?=some (.cells #[.int .i64 x,.string s,.int .i64 y,.string t] 328 (0,0)))) (fun kv _=>2 - (intOf kv).toNat)
  case atStart=>exact ⟨rfl,(by repeat (first|exact Below.refl _ _|refine Below.setCell ?_ (by simp;try omega) _|refine Below.alloc ?_ (by simp;try omega) _|refine Below.drew ?_)),hkeep (halloc2 _ _ (by simp)),halloc2 _ _ (by simp)⟩
  case round =>
    obtain ⟨hk,hB,rrB,eeB⟩:=hrel
    obtain ⟨rr0,rrf,rrL⟩:=rw1 rrB.out
    obtain ⟨ee0,ee1,ee2,ee3,eef,eeL⟩:=rw4 eeB.out
    have rrN:¬ W.heap.size+2=wr.heap.size:=by omega
    have eeN:¬ W.heap.size+3=wr.heap.size:=by omega
    subst hk
    go_wp2_with (go_at_call 146;refine (HS.out _ (hB.out.alloc hB.out.size _)).mono ?_;rintro e w1 ⟨rfl,hb⟩;have eed:=kp4 (n:=W.heap.size+3) hb (by first|omega|(simp;try omega)) (hkeep eeB.out);(try clear eeB ee0 ee1 ee2 ee3 eef eeL eeN);obtain ⟨eeB,ee0,ee1,ee2,ee3,eef,eeL,eeN⟩:=eed;have rrd:=kp1 (n:=W.heap.size+2) hb (by first|omega|(simp;try omega)) (hkeep rrB.out);(try clear rrB rr0 rrf rrL rrN);obtain ⟨rrB,rr0,rrf,rrL,rrN⟩:=rrd;have B1:Hid (Below W.heap.size W w1):=bstep (hB.out.alloc hB.out.size _) hb;clear hb)
    exact bodyPost_ret (v:=.tuple #[.bool false,.int .i64 0,.int .i64 E]) (by simp [results,Tryz.results190,go_sem, *]) rfl ⟨rfl,B1.out.setCell (by simp;try omega) _⟩
set_option maxHeartbeats 4000000 in
theorem tty_2 (W:World) (b:Nat) (x y E:Int) (s t:ByteArray) (hE:¬ E=0) (HS:Hid (∀ w,Below W.heap.size W w→Calls Tryz.prog 146 #[.pointer (some ⟨b,0,none⟩),.agg #[.int .i64 x,.string s]] w fun e w'=>e=.returned (.int .i64 0)∧Below w.heap.size w w')) (HT:Hid (∀ w,Below W.heap.size W w→Calls Tryz.prog 146 #[.pointer (some ⟨b,0,none⟩),.agg #[.int .i64 y,.string t]] w fun e w'=>e=.returned (.int .i64 E)∧Below w.heap.size w w')):Calls Tryz.prog 190 #[.pointer (some ⟨b,0,none⟩),.agg #[.int .i64 x,.string s],.agg #[.int .i64 y,.string t]] W fun e w'=>e=.returned (.tuple #[.bool false,.int .i64 0,.int .i64 E])∧Below W.heap.size W w':=by
  have hE2:(E == 0)=false:=by simp [hE]
  have IX0:=idxT_0 x y s t
  have IX1:=idxT_1 x y s t
  go_enter Tryz.func190,Tryz.ntmps190
  go_wp2
  go_loopw [17] (fun kv wr=>(kv=.int .i64 0∨kv=.int .i64 1)∧Hid (Below W.heap.size W wr)∧Hid (wr.heap[W.heap.size+2]?=some (.cells #[.int .i64 0] 3 (0,0)))∧Hid (wr.heap[W.heap.size+3]?=some (.cells #[.int .i64 x,.string s,.int .i64 y,.string t] 328 (0,0)))) (fun kv _=>2 - (intOf kv).toNat)
  case atStart=>exact ⟨.inl rfl,(by repeat (first|exact Below.refl _ _|refine Below.setCell ?_ (by simp;try omega) _|refine Below.alloc ?_ (by simp;try omega) _|refine Below.drew ?_)),hkeep (halloc2 _ _ (by simp)),halloc2 _ _ (by simp)⟩
  case round =>
    obtain ⟨hk,hB,rrB,eeB⟩:=hrel
    obtain ⟨rr0,rrf,rrL⟩:=rw1 rrB.out
    obtain ⟨ee0,ee1,ee2,ee3,eef,eeL⟩:=rw4 eeB.out
    have rrN:¬ W.heap.size+2=wr.heap.size:=by omega
    have eeN:¬ W.heap.size+3=wr.heap.size:=by omega
    rcases hk with rfl|rfl
    · go_wp2_with (go_at_call 146;refine (HS.out _ (hB.out.alloc hB.out.size _)).mono ?_;rintro e w1 ⟨rfl,hb⟩;have eed:=kp4 (n:=W.heap.size+3) hb (by first|omega|(simp;try omega)) (hkeep eeB.out);(try clear eeB ee0 ee1 ee2 ee3 eef eeL eeN);obtain ⟨eeB,ee0,ee1,ee2,ee3,eef,eeL,eeN⟩:=eed;have rrd:=kp1 (n:=W.heap.size+2) hb (by first|omega|(simp;try omega)) (hkeep rrB.out);(try clear rrB rr0 rrf rrL rrN);obtain ⟨rrB,rr0,rrf,rrL,rrN⟩:=rrd;have B1:Hid (Below W.heap.size W w1):=bstep (hB.out.alloc hB.out.size _) hb;clear hb)
      refine ⟨⟨.inr rfl,B1,rrB,eeB⟩,by simp [intOf]⟩
    · go_wp2_with (go_at_call 146;refine (HT.out _ (hB.out.alloc hB.out.size _)).mono ?_;rintro e w1 ⟨rfl,hb⟩;have eed:=kp4 (n:=W.heap.size+3) hb (by first|omega|(simp;try omega)) (hkeep eeB.out);(try clear eeB ee0 ee1 ee2 ee3 eef eeL eeN);obtain ⟨eeB,ee0,ee1,ee2,ee3,eef,eeL,eeN⟩:=eed;have rrd:=kp1 (n:=W.heap.size+2) hb (by first|omega|(simp;try omega)) (hkeep rrB.out);(try clear rrB rr0 rrf rrL rrN);obtain ⟨rrB,rr0,rrf,rrL,rrN⟩:=rrd;have B1:Hid (Below W.heap.size W w1):=bstep (hB.out.alloc hB.out.size _) hb;clear hb)
      exact bodyPost_ret (v:=.tuple #[.bool false,.int .i64 0,.int .i64 E]) (by simp [results,Tryz.results190,go_sem, *]) rfl ⟨rfl,B1.out.setCell (by simp;try omega) _⟩
set_option maxHeartbeats 4000000 in
theorem tty_3 (W:World) (b:Nat) (x y:Int) (s t:ByteArray) (B:Bool) (n:Nat) (HS:Hid (∀ w,Below W.heap.size W w→Calls Tryz.prog 146 #[.pointer (some ⟨b,0,none⟩),.agg #[.int .i64 x,.string s]] w fun e w'=>e=.returned (.int .i64 0)∧Below w.heap.size w w')) (HT:Hid (∀ w,Below W.heap.size W w→Calls Tryz.prog 146 #[.pointer (some ⟨b,0,none⟩),.agg #[.int .i64 y,.string t]] w fun e w'=>e=.returned (.int .i64 0)∧Below w.heap.size w w')) (HI:Hid (∀ w,Below W.heap.size W w→w.heap[W.heap.size+2]?=some (.cells #[.int .i64 0] 3 (0,0))→Calls Tryz.prog 234 #[.pointer (some ⟨b,0,none⟩),.agg #[.int .i64 x,.string s,.int .i64 y,.string t],.pointer (some ⟨W.heap.size+2,0,none⟩)] w fun e w'=>e=.returned (.bool B)∧w'.heap[W.heap.size+2]?=some (.cells #[.int .i64 (n:Int)] 3 (0,0))∧Below W.heap.size W w')):Calls Tryz.prog 190 #[.pointer (some ⟨b,0,none⟩),.agg #[.int .i64 x,.string s],.agg #[.int .i64 y,.string t]] W fun e w'=>e=.returned (.tuple #[.bool B,.int .i64 (n:Int),.int .i64 0])∧Below W.heap.size W w':=by
  have IX0:=idxT_0 x y s t
  have IX1:=idxT_1 x y s t
  go_enter Tryz.func190,Tryz.ntmps190
  go_wp2
  go_loopw [17] (fun kv wr=>(kv=.int .i64 0∨kv=.int .i64 1∨kv=.int .i64 2)∧Hid (Below W.heap.size W wr)∧Hid (wr.heap[W.heap.size+2]?=some (.cells #[.int .i64 0] 3 (0,0)))∧Hid (wr.heap[W.heap.size+3]?=some (.cells #[.int .i64 x,.string s,.int .i64 y,.string t] 328 (0,0)))) (fun kv _=>2 - (intOf kv).toNat)
  case atStart=>exact ⟨.inl rfl,(by repeat (first|exact Below.refl _ _|refine Below.setCell ?_ (by simp;try omega) _|refine Below.alloc ?_ (by simp;try omega) _|refine Below.drew ?_)),hkeep (halloc2 _ _ (by simp)),halloc2 _ _ (by simp)⟩
  case round =>
    obtain ⟨hk,hB,rrB,eeB⟩:=hrel
    obtain ⟨rr0,rrf,rrL⟩:=rw1 rrB.out
    obtain ⟨ee0,ee1,ee2,ee3,eef,eeL⟩:=rw4 eeB.out
    have rrN:¬ W.heap.size+2=wr.heap.size:=by omega
    have eeN:¬ W.heap.size+3=wr.heap.size:=by omega
    rcases hk with rfl|rfl|rfl
    · go_wp2_with (go_at_call 146;refine (HS.out _ (hB.out.alloc hB.out.size _)).mono ?_;rintro e w1 ⟨rfl,hb⟩;have eed:=kp4 (n:=W.heap.size+3) hb (by first|omega|(simp;try omega)) (hkeep eeB.out);(try clear eeB ee0 ee1 ee2 ee3 eef eeL eeN);obtain ⟨eeB,ee0,ee1,ee2,ee3,eef,eeL,eeN⟩:=eed;have rrd:=kp1 (n:=W.heap.size+2) hb (by first|omega|(simp;try omega)) (hkeep rrB.out);(try clear rrB rr0 rrf rrL rrN);obtain ⟨rrB,rr0,rrf,rrL,rrN⟩:=rrd;have B1:Hid (Below W.heap.size W w1):=bstep (hB.out.alloc hB.out.size _) hb;clear hb)
      refine ⟨⟨.inr (.inl rfl),B1,rrB,eeB⟩,by simp [intOf]⟩
    · go_wp2_with (go_at_call 146;refine (HT.out _ (hB.out.alloc hB.out.size _)).mono ?_;rintro e w1 ⟨rfl,hb⟩;have eed:=kp4 (n:=W.heap.size+3) hb (by first|omega|(simp;try omega)) (hkeep eeB.out);(try clear eeB ee0 ee1 ee2 ee3 eef eeL eeN);obtain ⟨eeB,ee0,ee1,ee2,ee3,eef,eeL,eeN⟩:=eed;have rrd:=kp1 (n:=W.heap.size+2) hb (by first|omega|(simp;try omega)) (hkeep rrB.out);(try clear rrB rr0 rrf rrL rrN);obtain ⟨rrB,rr0,rrf,rrL,rrN⟩:=rrd;have B1:Hid (Below W.heap.size W w1):=bstep (hB.out.alloc hB.out.size _) hb;clear hb)
      refine ⟨⟨.inr (.inr rfl),B1,rrB,eeB⟩,by simp [intOf]⟩
    · go_wp2_with (go_at_call 234;refine (HI.out _ hB.out rrB.out).mono ?_;rintro e w2 ⟨rfl,hk2,hb⟩;(try clear rrB rr0 rrf rrL rrN);have rrB:Hid (w2.heap[W.heap.size+2]?=some (.cells #[.int .i64 (n:Int)] 3 (0,0))):=hk2;obtain ⟨rr0,rrf,rrL⟩:=rw1 hk2;have B2:Hid (Below W.heap.size W w2):=hb;clear hb hk2 HI)
      go_region
      all_goals go_wp2
      all_goals exact bodyPost_ret (v:=.tuple #[.bool B,.int .i64 (n:Int),.int .i64 0]) (by simp [results,Tryz.results190,go_sem, *]) rfl ⟨rfl,(B2.out.drew).setCell (by simp;try omega) _⟩
def ttyR (ps:List Plc) (x:Int) (s:ByteArray) (y:Int) (t:ByteArray):(Bool×Nat)×Int:=if ldI ps x s=0 then if ldI ps y t=0 then ((subB ps x s y t,rdT ps x s y t),0) else ((false,0),ldI ps y t) else ((false,0),ldI ps x s)
theorem tty_c {b:Nat} {ps:List Plc} {W:World} (h:WAt b ps W) (hW:WI ps) (x:Int) (s:ByteArray) (y:Int) (t:ByteArray) (hs:s.size≤maxLen) (ht:t.size≤maxLen):Calls Tryz.prog 190 #[.pointer (some ⟨b,0,none⟩),.agg #[.int .i64 x,.string s],.agg #[.int .i64 y,.string t]] W fun e w'=>e=.returned (.tuple #[.bool (ttyR ps x s y t).1.1,.int .i64 ((ttyR ps x s y t).1.2:Int),.int .i64 (ttyR ps x s y t).2])∧Below W.heap.size W w':=by
  by_cases h1:ldI ps x s=0
  · by_cases h2:ldI ps y t=0
    · have e0:ttyR ps x s y t=((subB ps x s y t,rdT ps x s y t),0):=by rw [ttyR,if_pos h1,if_pos h2]
      rw [e0]
      refine tty_3 W b x y s t (subB ps x s y t) (rdT ps x s y t) (fun w hb=>?_) (fun w hb=>?_) (fun w hb hk=>?_)
      · rw [← h1];exact loaded_c (h.below hb) _ _ hs
      · rw [← h2];exact loaded_c (h.below hb) _ _ ht
      · have:=itb_c h hW (W.heap.size+2) 0 x y s t hs ht h1 h2 hb (by omega) hk (by omega)
        rw [Nat.zero_add] at this
        exact this
    · have e0:ttyR ps x s y t=((false,0),ldI ps y t):=by rw [ttyR,if_pos h1,if_neg h2]
      rw [e0]
      refine tty_2 W b x y (ldI ps y t) s t h2 (fun w hb=>?_) (fun w hb=>loaded_c (h.below hb) _ _ ht)
      rw [← h1];exact loaded_c (h.below hb) _ _ hs
  · have e0:ttyR ps x s y t=((false,0),ldI ps x s):=by rw [ttyR,if_neg h1]
    rw [e0]
    exact tty_1 W b x y (ldI ps x s) s t h1 (fun w hb=>loaded_c (h.below hb) _ _ hs)
theorem prf_valid {l:List UInt8} (h:validL l=true):prfE l=0∧prfT l=(0,l):=by
  have h1:=valid_len h
  have h2:¬ l.head?=some 91:=by
    intro e
    have hm:(91:UInt8)∈l:=List.mem_of_mem_head? (by rw [e];rfl)
    rcases valid_bytes h 91 hm with h3|h3
    · exact absurd h3 (by decide)
    · exact absurd h3 (by decide)
  unfold prfE prfT
  rw [if_neg (by omega),if_neg h2,if_pos h,if_neg (by omega),if_neg h2,if_pos h]
  exact ⟨rfl,rfl⟩
theorem rck_valid {l n d:List UInt8} (h:validL l=true):rckE l n d=if memberL n&&(pdE d == 0) then 0 else 1:=by
  unfold rckE rckB
  rw [(prf_valid h).1]
  simp
theorem snd_valid {l:List UInt8} (h:validL l=true):sndB 0 l=true:=by
  unfold sndB;rw [h];simp
structure NmK (ps:List Plc) (k:Nat) (nm:ByteArray):Prop where
  look:lookL ps nm.data.toList=some k
  valid:validL nm.data.toList=true
theorem NmW.k {ps:List Plc} (h:NmW ps) {k:Nat} {q:Plc} (hq:ps[k]?=some q):NmK ps k q.c.nm:=⟨(h k q hq).1,(h k q hq).2⟩
theorem NmK.ne {ps:List Plc} {k:Nat} {nm:ByteArray} (h:NmK ps k nm):nm.toList.isEmpty=false:=by
  have h1:1≤nm.toList.length:=by rw [Lib.toList_data];exact valid_ne h.valid
  cases hl:nm.toList with
  | nil=>rw [hl] at h1;simp at h1
  | cons a r=>rfl
theorem NmK.ld {ps:List Plc} {k:Nat} {nm:ByteArray} (h:NmK ps k nm):ldI ps 0 nm=0:=by
  unfold ldI
  rw [if_pos (snd_valid h.valid),if_neg (by rw [h.ne];simp),h.look]
theorem NmK.int {ps:List Plc} {k:Nat} {nm:ByteArray} (h:NmK ps k nm):intB 0 nm=false:=by
  unfold intB;rw [h.ne];rfl
theorem NmK.hld {ps:List Plc} {k:Nat} {nm:ByteArray} (h:NmK ps k nm):hldR ps 0 nm=((k:Int),0):=by
  unfold hldR
  rw [if_pos h.ld,h.int,h.look]
  rfl
theorem NmK.ty {ps:List Plc} {k:Nat} {nm:ByteArray} (h:NmK ps k nm):prfE nm.data.toList=0∧(prfT nm.data.toList).1=0∧tyS nm.data.toList=nm:=by
  obtain ⟨h1,h2⟩:=prf_valid h.valid
  refine ⟨h1,by rw [h2],?_⟩
  unfold tyS
  rw [h2]
theorem NmK.nmd {ps:List Plc} {k:Nat} {nm:ByteArray} (h:NmK ps k nm) {n ds:ByteArray} (hr:rckE nm.data.toList n.data.toList ds.data.toList=0):nmdR ps nm n ds=(((0,nm),(k:Int)),0):=by
  obtain ⟨h1,h2,h3⟩:=h.ty
  unfold nmdR
  rw [if_pos hr,if_pos h1,h2,h3]
  show (((_,nm),(hldR ps 0 nm).1),(hldR ps 0 nm).2)=_
  rw [h.hld]
  rfl
theorem NmK.sub {ps:List Plc} {i j:Nat} {s t:ByteArray} (hs:NmK ps i s) (ht:NmK ps j t) (he:extB (ps.map nd) i j=true):(ttyR ps 0 s 0 t).1.1=true∧(ttyR ps 0 s 0 t).2=0:=by
  have e:ttyR ps 0 s 0 t=((subB ps 0 s 0 t,rdT ps 0 s 0 t),0):=by rw [ttyR,if_pos hs.ld,if_pos ht.ld]
  rw [e]
  refine ⟨?_,rfl⟩
  show subB ps 0 s 0 t=true
  unfold subB belB
  have i1:=hs.int
  have i2:=ht.int
  simp only [Int.toNat_zero,Nat.min_self,Nat.sub_self,Int.natCast_zero,i1,i2,Bool.or_self,Bool.false_eq_true,if_false,Nat.lt_irrefl,hs.look,ht.look]
  exact he
theorem spc_super {ps:List Plc} {d k:Nat} {p:Plc} (hp:ps[d]?=some p) (hf:hasI p.c.fl 32=true) {nm:ByteArray} (hn:NmK ps k nm) (h1:k≠d) (h2:ifcI ps (k:Int)=false) (h3:extI ps (d:Int) (k:Int)=true) {n ds:ByteArray} (hr:rckE nm.data.toList n.data.toList ds.data.toList=0) (hi:iniB n=false)
    {m:Int×Int} {x:HM} (hx:methI ps m.1 m.2=some x) (hxn:x.nm=n) (hxd:x.ds=ds) (hst:stB x.fl=false) :
    spcI ps (d:Int) false nm n ds m=if (spcB ps n ds (supI ps (d:Int)).1).2 then unaI ps (spcB ps n ds (supI ps (d:Int)).1).1 else onI ps (supI ps (d:Int)).1 n ds:=by
  have hpd:plcI ps (d:Int)=some p:=by rw [plcI_nat];exact hp
  have hc:crdI ps (d:Int) m=.ok x:=by unfold crdI;rw [hpd,hx]
  have ha:abvB ps (d:Int) (k:Int)=true:=by
    unfold abvB
    rw [hpd]
    simp only [hf,h2,h3,Bool.true_and,Bool.not_false,Bool.and_true]
    simp only [Bool.not_eq_true',beq_eq_false_iff_ne,ne_eq]
    omega
  have hs:spdI ps (d:Int) false ((0,nm),(k:Int))=(supI ps (d:Int)).1:=by
    unfold spdI
    rw [if_pos ⟨rfl,rfl,ha⟩]
  unfold spcI
  rw [hc]
  simp only [hn.nmd hr,if_true,hst,Bool.false_eq_true,if_false,hxn,hi,hs,hxd]
structure Tch (S:Nat→Prop) (W w:World):Prop where
  os:w.os=W.os
  tape:w.tape=W.tape
  output:w.output=W.output
  size:W.heap.size≤w.heap.size
  blk:∀ k,k<W.heap.size→¬ S k→w.heap[k]?=W.heap[k]?
theorem Tch.refl (S:Nat→Prop) (W:World):Tch S W W:=⟨rfl,rfl,rfl,Nat.le_refl _,fun _ _ _=>rfl⟩
theorem Tch.bel {S:Nat→Prop} {W w w':World} (h:Tch S W w) (hb:Below w.heap.size w w'):Tch S W w' :=
  ⟨hb.os.trans h.os,hb.tape.trans h.tape,hb.output.trans h.output,Nat.le_trans h.size hb.size,fun k hk hs=>(hb.block k (Nat.lt_of_lt_of_le hk h.size)).trans (h.blk k hk hs)⟩
theorem Tch.alloc {S:Nat→Prop} {W w:World} (h:Tch S W w) (o:Obj):Tch S W (w.alloc o):=h.bel ((Below.refl _ w).alloc (Nat.le_refl _) o)
theorem Tch.drew {S:Nat→Prop} {W w:World} (h:Tch S W w):Tch S W w.drew:=⟨h.os,h.tape,h.output,h.size,h.blk⟩
theorem Tch.set {S:Nat→Prop} {W w:World} (h:Tch S W w) {p:Addr} (hp:S p.block∨W.heap.size≤p.block) (u:Value):Tch S W (w.setCell p u) :=
  ⟨h.os,h.tape,h.output,by simpa [World.setCell] using h.size,fun k hk hs=>(Below.heap_setCell w p u k (by rintro rfl;rcases hp with hp|hp;exact hs hp;omega)).trans (h.blk k hk hs)⟩
theorem Tch.mono {S S':Nat→Prop} {W w:World} (h:Tch S W w) (hs:∀ k,k<W.heap.size→S k→S' k):Tch S' W w:=⟨h.os,h.tape,h.output,h.size,fun k hk hn=>h.blk k hk (fun x=>hn (hs k hk x))⟩
theorem Tch.trans {S S':Nat→Prop} {a b c:World} (h:Tch S a b) (k:Tch S' b c) (hs:∀ k,k<a.heap.size→S' k→S k):Tch S a c :=
  ⟨k.os.trans h.os,k.tape.trans h.tape,k.output.trans h.output,Nat.le_trans h.size k.size,fun i hi hn=>(k.blk i (Nat.lt_of_lt_of_le hi h.size) (fun x=>hn (hs i hi x))).trans (h.blk i hi hn)⟩
theorem Tch.below {S:Nat→Prop} {W w:World} (h:Tch S W w) {N:Nat} (hN:N≤W.heap.size) (hs:∀ k,S k→N≤k):Below N W w :=
  ⟨h.os,h.tape,h.output,h.size,fun k hk=>h.blk k (Nat.lt_of_lt_of_le hk hN) (fun x=>by have:=hs k x;omega)⟩
def cb1 (q:Nat) (h m r:Int):Array Value:=#[.iface 180 (.pointer (some ⟨q,0,none⟩)),.int .i64 h,.int .i64 m,.int .i32 0,.int .u32 0,.int .u32 0,.int .u32 0,.int .i32 r,.int .i32 0]
structure E1 (w:World) (p q:Nat) (h m r:Int):Prop where
  hp:w.heap[p]?=some (.cells (cb1 q h m r) 147 (0,0))
  hq:w.heap[q]?=some (.cells #[.pointer none] 186 (0,0))
theorem E1.ne {w:World} {p q:Nat} {h m r:Int} (H:E1 w p q h m r):q≠p:=by
  rintro rfl;have:=H.hq;rw [H.hp] at this;cases this
theorem E1.keep {w w':World} {p q:Nat} {h m r:Int} (H:E1 w p q h m r) (k1:w'.heap[p]?=w.heap[p]?) (k2:w'.heap[q]?=w.heap[q]?):E1 w' p q h m r:=⟨k1.trans H.hp,k2.trans H.hq⟩
theorem E1.lt {w:World} {p q:Nat} {h m r:Int} (H:E1 w p q h m r):p<w.heap.size∧q<w.heap.size:=⟨(Array.getElem?_eq_some_iff.1 H.hp).1,(Array.getElem?_eq_some_iff.1 H.hq).1⟩
theorem E1.setc {w:World} {p q:Nat} {h m r h' m' r':Int} (H:E1 w p q h m r) (o:Nat) (u:Value) (e:(cb1 q h m r).setIfInBounds o u=cb1 q h' m' r'):E1 (w.setCell ⟨p,o,none⟩ u) p q h' m' r' :=
  ⟨by rw [Go.Joins.block_setCell H.hp,e],(Below.heap_setCell _ _ _ _ H.ne).trans H.hq⟩
theorem E1.cells {w:World} {p q:Nat} {h m r:Int} (H:E1 w p q h m r):w.cell? ⟨p,0,none⟩=some (.iface 180 (.pointer (some ⟨q,0,none⟩)))∧w.cell? ⟨p,1,none⟩=some (.int .i64 h)∧w.cell? ⟨p,2,none⟩=some (.int .i64 m)∧w.cell? ⟨p,3,none⟩=some (.int .i32 0)∧w.cell? ⟨p,3+2,none⟩=some (.int .u32 0)∧w.cell? ⟨p,3+3,none⟩=some (.int .u32 0)∧w.cell? ⟨p,3+4,none⟩=some (.int .i32 r)∧(∀ k,w.frozen? ⟨p,k,none⟩=false)∧w.cell? ⟨q,0,none⟩=some (.pointer none)∧w.frozen? ⟨q,0,none⟩=false :=
  ⟨(cell_of_row w p 0 _ _ _ H.hp).trans rfl,(cell_of_row w p 1 _ _ _ H.hp).trans rfl,(cell_of_row w p 2 _ _ _ H.hp).trans rfl,(cell_of_row w p 3 _ _ _ H.hp).trans rfl,(cell_of_row w p 5 _ _ _ H.hp).trans rfl,(cell_of_row w p 6 _ _ _ H.hp).trans rfl,(cell_of_row w p 7 _ _ _ H.hp).trans rfl,fun k=>frozen_of_row w p k _ _ H.hp,(cell_of_row w q 0 _ _ _ H.hq).trans rfl,frozen_of_row w q 0 _ _ H.hq⟩
theorem c1new (W:World):Calls Tryz.prog 32 #[.int .i64 1] W fun e w'=>e=.returned (.tuple #[.pointer (some ⟨W.heap.size+1,0,none⟩),.int .i64 0])∧E1 w' (W.heap.size+1) W.heap.size 0 0 0∧Below W.heap.size W w':=by
  have HN:Hid (Calls Tryz.prog 55 #[.int .i64 1] W fun e w'=>e=.returned (.iface 180 (.pointer (some ⟨W.heap.size,0,none⟩)))∧w'=W.alloc (.cells #[.pointer none] 186)):=by
    rw [Hid]
    go_enter Tryz.func55,Tryz.ntmps55
    go_wp2
    go_ret
    exact ⟨rfl,rfl⟩
  go_enter Tryz.func32,Tryz.ntmps32
  go_wp2_with (go_at_call 55;refine HN.out.mono ?_;rintro e w1 ⟨rfl,rfl⟩)
  go_ret2
  exact ⟨by simp,⟨halloc2 _ _ (by simp),hkeep (halloc1 _ _)⟩,((Below.refl _ _).alloc (Nat.le_refl _) _).alloc (by simp) _⟩
theorem up1:wrap32 (0+1)=1:=by unfold wrap32;omega
theorem dn1:wrap32 (1+-1)=0:=by unfold wrap32;omega
theorem made1_c (p q:Nat) (W:World) (h:W.cell? ⟨p,0,none⟩=some (.iface 180 (.pointer (some ⟨q,0,none⟩)))):Calls Tryz.prog 64 #[.pointer (some ⟨p,0,none⟩)] W fun e w'=>e=.returned (.bool true)∧w'=W:=by
  go_enter Tryz.func64,Tryz.ntmps64
  go_wp2
  go_ret
  exact ⟨rfl,rfl⟩
set_option maxHeartbeats 4000000 in
theorem c1get {W:World} {p q:Nat} {h m:Int} (H:E1 W p q h m 0) (key:Int) :
    Calls Tryz.prog 95 #[.pointer (some ⟨p,0,none⟩),.int .i64 key] W fun e w'=>e=.returned (.tuple #[.int .i64 0,.bool false])∧E1 w' p q h (wrap64 (m+1)) 0∧Tch (fun k=>k=p) W w':=by
  obtain ⟨c0,c1,c2,c3,c5,c6,c7,cf,_,_⟩:=H.cells
  have HM:Hid (Calls Tryz.prog 64 #[.pointer (some ⟨p,0,none⟩)] W fun e w'=>e=.returned (.bool true)∧w'=W):=made1_c p q W c0
  have HL:Hid (Calls Tryz.prog 149 #[.pointer (some ⟨p,3,none⟩)] W fun e w'=>e=.returned (.tuple #[])∧E1 w' p q h m 1∧Tch (fun k=>k=p) W w'):=by
    refine (Go.RwLone.rlock_open Tryz.rwRLib p 3 0 _ _ W c3 c6 c7 (cf _) (by rw [up1];omega)).mono ?_
    rintro e w' ⟨rfl,rfl⟩
    rw [up1]
    exact ⟨rfl,H.setc 7 _ rfl,Tch.set (S:=fun k=>k=p) (Tch.refl _ W) (.inl rfl) _⟩
  have HF:Hid (∀ w,E1 w p q h m 1→Calls Tryz.prog 374 #[.pointer (some ⟨q,0,none⟩),.int .i64 key] w fun e w'=>e=.returned (.tuple #[.int .i64 0,.bool false])∧w'=w):=by
    intro w Hw
    have HLd:Hid (Calls Tryz.prog 377 #[.pointer (some ⟨q,0,none⟩)] w fun e w'=>e=.returned (.pointer none)∧w'=w):=pload_c q none [] w Hw.cells.2.2.2.2.2.2.2.2.1 (.inl ⟨rfl,rfl⟩)
    go_enter Tryz.func374,Tryz.ntmps374
    go_wp2_with (go_at_call 377;refine HLd.out.mono ?_;rintro e w' ⟨rfl,rfl⟩)
    go_ret2
    exact ⟨rfl,rfl⟩
  have HA:Hid (∀ w k x,w.cell? ⟨p,k,none⟩=some (.int .i64 x)→w.frozen? ⟨p,k,none⟩=false→Calls Tryz.prog 100 #[.pointer (some ⟨p,k,none⟩),.int .i64 1] w fun e w'=>e=.returned (.int .i64 (wrap64 (x+1)))∧w'=w.setCell ⟨p,k,none⟩ (.int .i64 (wrap64 (x+1)))):=fun w k x h1 h2=>iadd_c p k x 1 w h1 h2
  clear c0 c1 c2 c3 c5 c6 c7 cf H
  go_enter_defers Tryz.func95,Tryz.ntmps95
  go_wp2_with (first
    | (go_at_call 64;refine HM.out.mono ?_;rintro e w' ⟨rfl,hw⟩;obtain rfl:=hw.symm;clear HM)
    | (go_at_call 149;refine HL.out.mono ?_;rintro e w1 ⟨rfl,h1,t1⟩;have C1:Hid (E1 w1 p q h m 1):=h1;have T1:Hid (Tch (fun k=>k=p) W w1):=t1;have v1:=h1.cells.1;clear h1 t1 HL)
    | (go_at_call 374;refine (HF.out _ C1.out).mono ?_;rintro e w2 ⟨rfl,hw⟩;obtain rfl:=hw.symm;clear HF v1)
    | (go_at_call 100;refine (HA.out _ 2 m C1.out.cells.2.2.1 (C1.out.cells.2.2.2.2.2.2.2.1 2)).mono ?_;rintro e w3 ⟨rfl,rfl⟩;have C3:Hid (E1 (w1.setCell ⟨p,2,none⟩ (.int .i64 (wrap64 (m+1)))) p q h (wrap64 (m+1)) 1):=C1.out.setc 2 _ rfl;have T3:Hid (Tch (fun k=>k=p) W (w1.setCell ⟨p,2,none⟩ (.int .i64 (wrap64 (m+1))))):=T1.out.set (.inl rfl) _;clear C1 T1 HA))
  obtain ⟨d0,d1,d2,d3,d5,d6,d7,df,_,_⟩:=C3.out.cells
  refine leaves_cons (f:=150) (args:=#[.pointer (some ⟨p,3,none⟩)]) (by simp) (by simp [go_sem]) ?_
  refine (Go.RwLone.runlock_deferred Tryz.rwRLib p 3 1 _ _ .returning _ d3 d5 d7 (df _) (by rw [dn1];omega)).mono ?_
  rintro e u' w'' ⟨rfl,rfl,rfl⟩
  rw [dn1]
  exact ⟨_,results_tmp2 rfl _ _ _,rfl,C3.out.setc 7 _ rfl,T3.out.set (.inl rfl) _⟩
set_option maxHeartbeats 4000000 in
theorem sg1put {W:World} {q:Nat} (hq:W.heap[q]?=some (.cells #[.pointer none] 186 (0,0))) (e1 e2:Int) :
    Calls Tryz.prog 376 #[.pointer (some ⟨q,0,none⟩),.agg #[.int .i64 e1,.int .i64 e2]] W fun e w'=>e=.returned (.tuple #[.agg #[.int .i64 0,.int .i64 0],.bool false])∧Tch (fun k=>k=q) W w':=by
  have hql:=(Array.getElem?_eq_some_iff.1 hq).1
  have o0:W.cell? ⟨q,0,none⟩=some (.pointer none):=(cell_of_row W q 0 _ _ _ hq).trans rfl
  have z0:W.frozen? ⟨q,0,none⟩=false:=frozen_of_row W q 0 _ _ hq
  have hT:Tch (fun k=>k=q) W ((W.alloc (.cells #[.int .i64 e1,.int .i64 e2] 252)).alloc (.cells #[.int .i64 0,.int .i64 0] 252)):=((Tch.refl _ W).alloc _).alloc _
  have hq2:((W.alloc (.cells #[.int .i64 e1,.int .i64 e2] 252)).alloc (.cells #[.int .i64 0,.int .i64 0] 252)).heap[q]?=some (.cells #[.pointer none] 186 (0,0)):=(Below.heap_alloc _ _ _ (by simp;omega)).trans ((Below.heap_alloc _ _ _ hql).trans hq)
  have c0:((W.alloc (.cells #[.int .i64 e1,.int .i64 e2] 252)).alloc (.cells #[.int .i64 0,.int .i64 0] 252)).cell? ⟨q,0,none⟩=some (.pointer none):=(cell_of_row _ q 0 _ _ _ hq2).trans rfl
  have f0:((W.alloc (.cells #[.int .i64 e1,.int .i64 e2] 252)).alloc (.cells #[.int .i64 0,.int .i64 0] 252)).frozen? ⟨q,0,none⟩=false:=frozen_of_row _ q 0 _ _ hq2
  have u0:((W.alloc (.cells #[.int .i64 e1,.int .i64 e2] 252)).alloc (.cells #[.int .i64 0,.int .i64 0] 252)).cell? ⟨W.heap.size,0,none⟩=some (.int .i64 e1):=(cell_of_row _ W.heap.size 0 _ _ _ (hkeep (halloc1 W _))).trans rfl
  have HSw:Hid (Calls Tryz.prog 378 #[.pointer (some ⟨q,0,none⟩),.pointer (some ⟨W.heap.size,0,none⟩)] ((W.alloc (.cells #[.int .i64 e1,.int .i64 e2] 252)).alloc (.cells #[.int .i64 0,.int .i64 0] 252)) fun r w'=>r=.returned (.pointer none)∧w'.heap[W.heap.size+1]?=some (.cells #[.int .i64 0,.int .i64 0] 252 (0,0))∧Tch (fun k=>k=q) W w'):=by
    refine (pswap_c q none [] _ c0 f0 (.inl ⟨rfl,rfl⟩) (fun b e=>by cases e) W.heap.size _ u0).mono ?_
    rintro e w' ⟨rfl,rfl⟩
    refine ⟨rfl,?_,hT.set (.inl rfl) _⟩
    rw [Below.heap_setCell _ _ _ _ (by simp;omega)];exact halloc2 _ _ (by simp)
  clear c0 f0 hT u0 hq2 hq o0 z0
  go_enter Tryz.func376,Tryz.ntmps376
  go_wp2_with (go_at_call 378;refine HSw.out.mono ?_;rintro e w3 ⟨rfl,d3,t3⟩;have T3:Hid (Tch (fun k=>k=q) W w3):=t3;have Z0:w3.cell? ⟨W.heap.size+1,0,none⟩=some (.int .i64 0):=(cell_of_row w3 _ 0 _ _ _ d3).trans rfl;have Z1:w3.cell? ⟨W.heap.size+1,1,none⟩=some (.int .i64 0):=(cell_of_row w3 _ 1 _ _ _ d3).trans rfl;have ZF:=fun k=>frozen_of_row w3 (W.heap.size+1) k _ _ d3;clear d3 t3 HSw)
  go_region
  all_goals go_wp2
  all_goals exact bodyPost_ret (v:=.tuple #[.agg #[.int .i64 0,.int .i64 0],.bool false]) (by simp [results,Tryz.results376,go_sem, *]) rfl ⟨rfl,(T3.out.drew.set (.inr (by simp)) _).set (.inr (by simp)) _⟩
set_option maxHeartbeats 4000000 in
theorem c1put {W:World} {p q:Nat} {h m:Int} (H:E1 W p q h m 0) (e1 e2:Int) :
    Calls Tryz.prog 98 #[.pointer (some ⟨p,0,none⟩),.int .i64 e1,.int .i64 e2] W fun e w'=>e=.returned (.tuple #[.int .i64 0,.int .i64 0,.bool false])∧Tch (fun k=>k=q) W w':=by
  have c0:=H.cells.1
  have HM:Hid (Calls Tryz.prog 64 #[.pointer (some ⟨p,0,none⟩)] W fun e w'=>e=.returned (.bool true)∧w'=W):=made1_c p q W c0
  have HF:Hid (Calls Tryz.prog 376 #[.pointer (some ⟨q,0,none⟩),.agg #[.int .i64 e1,.int .i64 e2]] W fun e w'=>e=.returned (.tuple #[.agg #[.int .i64 0,.int .i64 0],.bool false])∧Tch (fun k=>k=q) W w'):=sg1put H.hq e1 e2
  clear H
  go_enter Tryz.func98,Tryz.ntmps98
  go_wp2_with (first
    | (go_at_call 64;refine HM.out.mono ?_;rintro e w' ⟨rfl,hw⟩;obtain rfl:=hw.symm;clear HM)
    | (go_at_call 376;refine HF.out.mono ?_;rintro e w2 ⟨rfl,t2⟩;have T2:Hid (Tch (fun k=>k=q) W w2):=t2;clear t2 HF))
  go_region
  all_goals go_wp2
  all_goals go_ret3
  all_goals exact ⟨rfl,by first|exact (T2.out.alloc _).drew|exact T2.out.drew.alloc _⟩
end Go.Proofs.YtenpnkkkjjdccaaGreat
