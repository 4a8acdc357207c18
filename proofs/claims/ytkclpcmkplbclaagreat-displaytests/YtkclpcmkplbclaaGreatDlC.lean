import Derived.Test.YtkclpcmkplbclaaGreatRfB
import Derived.Test.YtkclpcmkplbclaaGreatDtA
set_option maxRecDepth 100000
namespace Go.Proofs.YtkclpcmkplbclaaGreat
open Go.RowKit Go.Maps
set_option maxHeartbeats 8000000 in
theorem tests_w (ps:List Plc) (cs:List Cls) (W:World) (v:Value) (s t n E:Int) (A:Bool) (HB:Hid (∀ w:World,Below W.heap.size W w→Calls Tryz.prog 16 #[v] w fun e w'=>(∃ b,e=.returned (.pointer (some ⟨b,0,none⟩))∧WAt b ps w')∧Below w.heap.size w w')) (HO:Hid (∀ w:World,Below W.heap.size W w→Calls Tryz.prog 30 #[v] w fun e w'=>(∃ b,e=.returned (.pointer (some ⟨b,0,none⟩))∧RAt b cs w')∧Below w.heap.size w w')) (HT:Hid (∀ b w,WAt b ps w→Calls Tryz.prog 17 #[.pointer (some ⟨b,0,none⟩),.int .i64 s,.int .i64 t] w fun e w'=>(e=.returned (.tuple #[.bool A,.int .i64 n,.int .i64 E]))∧Below w.heap.size w w')) (HU:Hid (∀ b w,RAt b cs w→Calls Tryz.prog 29 #[.pointer (some ⟨b,0,none⟩),.int .i64 s,.int .i64 t] w fun e w'=>(e=.returned (.tuple #[.bool A,.int .i64 n,.int .i64 E]))∧Below w.heap.size w w')) :
    Calls Tryz.prog 5 #[v,.int .i64 s,.int .i64 t] W fun e w'=>e=.returned (.bool true)∧Below W.heap.size W w':=by
  have HA:Hid (∀ w:World,Calls Tryz.prog 15 #[] w fun e w'=>e=.returned (.bool true)∧Below w.heap.size w w'):=awake15_c
  have BB:Hid (Below W.heap.size W W):=Below.refl _ _
  go_enter Tryz.func5,Tryz.ntmps5
  go_wp2_with (first
    | (go_at_call 15;refine (HA.out _).mono ?_;rintro e w1 ⟨rfl,hb⟩;have BB2:Below W.heap.size W w1:=bstep (by repeat (first|refine Below.setCell ?_ (by simp;try omega) _|refine Below.alloc ?_ (by have:=BB.out.size;simp;try omega) _|refine Below.drew ?_|exact BB.out)) hb;clear BB;have BB:Hid (Below W.heap.size W w1):=BB2;clear BB2;clear hb HA)
    | (go_at_call 16;refine (HB.out _ BB.out).mono ?_;rintro e w2 ⟨⟨b,rfl,hw⟩,hb⟩;have HH:Hid (WAt b ps w2):=hw;have BB2:Below W.heap.size W w2:=bstep (by repeat (first|refine Below.setCell ?_ (by simp;try omega) _|refine Below.alloc ?_ (by have:=BB.out.size;simp;try omega) _|refine Below.drew ?_|exact BB.out)) hb;clear BB;have BB:Hid (Below W.heap.size W w2):=BB2;clear BB2;clear hb HB hw)
    | (go_at_call 17;refine (HT.out _ _ HH.out).mono ?_;rintro e w3 ⟨rfl,hb⟩;have BB2:Below W.heap.size W w3:=bstep (by repeat (first|refine Below.setCell ?_ (by simp;try omega) _|refine Below.alloc ?_ (by have:=BB.out.size;simp;try omega) _|refine Below.drew ?_|exact BB.out)) hb;clear BB;have BB:Hid (Below W.heap.size W w3):=BB2;clear BB2;have HH2:=HH.out.below hb;clear HH;have HH:Hid (WAt b ps w3):=HH2;clear HH2;clear hb HT)
    | (go_at_call 30;refine (HO.out _ (by repeat (first|refine Below.setCell ?_ (by simp;try omega) _|refine Below.alloc ?_ (by have:=BB.out.size;simp;try omega) _|refine Below.drew ?_|exact BB.out))).mono ?_;rintro e w4 ⟨⟨bx,rfl,hw⟩,hb⟩;have HR:Hid (RAt bx cs w4):=hw;have BB2:Below W.heap.size W w4:=bstep (by repeat (first|refine Below.setCell ?_ (by simp;try omega) _|refine Below.alloc ?_ (by have:=BB.out.size;simp;try omega) _|refine Below.drew ?_|exact BB.out)) hb;clear BB;have BB:Hid (Below W.heap.size W w4):=BB2;clear BB2;have HH2:=HH.out.below hb;clear HH;have HH:Hid (WAt b ps w4):=HH2;clear HH2;clear hb HO hw)
    | (go_at_call 29;refine (HU.out _ _ HR.out).mono ?_;rintro e w5 ⟨rfl,hb⟩;have BB2:Below W.heap.size W w5:=bstep (by repeat (first|refine Below.setCell ?_ (by simp;try omega) _|refine Below.alloc ?_ (by have:=BB.out.size;simp;try omega) _|refine Below.drew ?_|exact BB.out)) hb;clear BB;have BB:Hid (Below W.heap.size W w5):=BB2;clear BB2;have HR2:=HR.out.below hb;clear HR;have HR:Hid (RAt bx cs w5):=HR2;clear HR2;clear hb HU))
  all_goals go_ret
  all_goals exact ⟨retB (by simp [*]),(by repeat (first|refine Below.setCell ?_ (by simp;try omega) _|refine Below.alloc ?_ (by have:=BB.out.size;simp;try omega) _|refine Below.drew ?_|exact BB.out))⟩
theorem DisplayTests_any (v:Value) (l:List Cls) (s t:Int) (W:World) (h:IsClss W v l):Calls Tryz.prog 5 #[v,.int .i64 s,.int .i64 t] W fun e w'=>e=.returned (.bool true)∧Below W.heap.size W w':=by
  have ht:TwW (wldC l) (wld l):=twW l (clss_w h)
  have hJ:WJ (wld l):=(wld_wj l (clss_w h)).2
  exact tests_w (wld l) (wldC l) W v s t ((tstR (wld l) s t).1.2:Int) (tstR (wld l) s t).2 (tstR (wld l) s t).1.1 (fun w hb=>built15_c v l w (clss_kp h hb)) (fun w hb=>of_c v l w (clss_kp h hb)) (fun b w hw=>tst_c hw ht.wi s t) (fun b w hw=>r15t_c hw ht hJ s t)
end Go.Proofs.YtkclpcmkplbclaaGreat
