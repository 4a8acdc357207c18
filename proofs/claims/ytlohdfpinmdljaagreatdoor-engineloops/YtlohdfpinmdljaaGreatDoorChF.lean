import Derived.Test.YtlohdfpinmdljaaGreatDoorChE
import Derived.Deep.RegionHeld3
set_option maxRecDepth 100000
namespace Go.Proofs.YtlohdfpinmdljaaGreatDoor
open Go.RowKit Go.Maps
def crvI (ps:List Plc) (tx:Int) (ts:ByteArray):Int:=if (hldR ps tx ts).2=0 then (if ifcI ps (hldR ps tx ts).1 then 2 else 0) else (hldR ps tx ts).2
set_option maxHeartbeats 2000000 in
theorem crv_c {b:Nat} {ps:List Plc} {W:World} (h:WAt b ps W) (tx:Int) (ts:ByteArray) (hs:ts.size≤maxLen):Calls Tryz.prog 130 #[.pointer (some ⟨b,0,none⟩),.agg #[.int .i64 tx,.string ts]] W fun e w'=>e=.returned (.int .i64 (crvI ps tx ts))∧Below W.heap.size W w':=by
  have HH:Hid (∀ w,Below W.heap.size W w→Calls Tryz.prog 78 #[.pointer (some ⟨b,0,none⟩),.agg #[.int .i64 tx,.string ts]] w fun e w'=>e=.returned (.tuple #[.int .i64 (hldR ps tx ts).1,.int .i64 (hldR ps tx ts).2])∧Below w.heap.size w w'):=fun w hb=>hld_c (h.below hb) tx ts hs
  have HI:Hid (∀ w,Below W.heap.size W w→Calls Tryz.prog 61 #[.pointer (some ⟨b,0,none⟩),.int .i64 (hldR ps tx ts).1] w fun e w'=>e=.returned (.bool (ifcI ps (hldR ps tx ts).1))∧Below w.heap.size w w'):=fun w hb=>isIface_c (h.below hb) _
  unfold crvI
  generalize hldR ps tx ts=D at *
  obtain ⟨d1,d2⟩:=D
  simp only at HH HI ⊢
  generalize ifcI ps d1=I at *
  clear h hs
  have BB:Hid (Below W.heap.size W W):=Below.refl _ _
  by_cases h0:d2=0
  · subst h0
    rw [if_pos rfl]
    cases I
    all_goals
      go_enter Tryz.func130,Tryz.ntmps130
      go_wp2_with (first
        | (go_at_call 78;refine (HH.out _ (by repeat (first|refine Below.setCell ?_ (by simp;try omega) _|refine Below.alloc ?_ (by have:=BB.out.size;simp;try omega) _|refine Below.drew ?_|exact BB.out))).mono ?_;rintro e w1 ⟨rfl,hb⟩;have BB2:Below W.heap.size W w1:=bstep (by repeat (first|refine Below.setCell ?_ (by simp;try omega) _|refine Below.alloc ?_ (by have:=BB.out.size;simp;try omega) _|refine Below.drew ?_|exact BB.out)) hb;clear BB;have BB:Hid (Below W.heap.size W w1):=BB2;clear BB2 hb)
        | (go_at_call 61;refine (HI.out _ (by repeat (first|refine Below.setCell ?_ (by simp;try omega) _|refine Below.alloc ?_ (by have:=BB.out.size;simp;try omega) _|refine Below.drew ?_|exact BB.out))).mono ?_;rintro e w2 ⟨rfl,hb⟩;have BB2:Below W.heap.size W w2:=bstep (by repeat (first|refine Below.setCell ?_ (by simp;try omega) _|refine Below.alloc ?_ (by have:=BB.out.size;simp;try omega) _|refine Below.drew ?_|exact BB.out)) hb;clear BB;have BB:Hid (Below W.heap.size W w2):=BB2;clear BB2 hb))
    · exact bodyPost_ret (results_tmp rfl _ _ _) rfl ⟨rfl,(by repeat (first|refine Below.setCell ?_ (by simp;try omega) _|refine Below.alloc ?_ (by have:=BB.out.size;simp;try omega) _|refine Below.drew ?_|exact BB.out))⟩
    · exact bodyPost_ret (results_tmp rfl _ _ _) rfl ⟨rfl,(by repeat (first|refine Below.setCell ?_ (by simp;try omega) _|refine Below.alloc ?_ (by have:=BB.out.size;simp;try omega) _|refine Below.drew ?_|exact BB.out))⟩
  · rw [if_neg h0]
    clear HI
    go_enter Tryz.func130,Tryz.ntmps130
    go_wp2_with (first
      | (go_at_call 78;refine (HH.out _ (by repeat (first|refine Below.setCell ?_ (by simp;try omega) _|refine Below.alloc ?_ (by have:=BB.out.size;simp;try omega) _|refine Below.drew ?_|exact BB.out))).mono ?_;rintro e w1 ⟨rfl,hb⟩;have BB2:Below W.heap.size W w1:=bstep (by repeat (first|refine Below.setCell ?_ (by simp;try omega) _|refine Below.alloc ?_ (by have:=BB.out.size;simp;try omega) _|refine Below.drew ?_|exact BB.out)) hb;clear BB;have BB:Hid (Below W.heap.size W w1):=BB2;clear BB2 hb))
    exact bodyPost_ret (results_tmp rfl _ _ _) rfl ⟨rfl,(by repeat (first|refine Below.setCell ?_ (by simp;try omega) _|refine Below.alloc ?_ (by have:=BB.out.size;simp;try omega) _|refine Below.drew ?_|exact BB.out))⟩
def casI (ps:List Plc) (d k tx:Int) (ts:ByteArray):Int:=if rckI ps d=0 then (if k=1∨k=2∨k=3 then crvI ps tx ts else if k=4 then 0 else 2) else rckI ps d
set_option maxHeartbeats 2000000 in
theorem cas_c {b:Nat} {ps:List Plc} {W:World} (h:WAt b ps W) (d k tx:Int) (ts:ByteArray) (hs:ts.size≤maxLen):Calls Tryz.prog 73 #[.pointer (some ⟨b,0,none⟩),.int .i64 d,.int .i64 k,.agg #[.int .i64 tx,.string ts]] W fun e w'=>e=.returned (.int .i64 (casI ps d k tx ts))∧Below W.heap.size W w':=by
  have HC:Hid (∀ w,Below W.heap.size W w→Calls Tryz.prog 129 #[.pointer (some ⟨b,0,none⟩),.int .i64 d] w fun e w'=>e=.returned (.int .i64 (rckI ps d))∧w'=w):=fun w hb=>cck_c (h.below hb) d
  have HV:Hid (∀ w,Below W.heap.size W w→Calls Tryz.prog 130 #[.pointer (some ⟨b,0,none⟩),.agg #[.int .i64 tx,.string ts]] w fun e w'=>e=.returned (.int .i64 (crvI ps tx ts))∧Below w.heap.size w w'):=fun w hb=>crv_c (h.below hb) tx ts hs
  unfold casI
  generalize rckI ps d=R at *
  generalize crvI ps tx ts=V at *
  clear h hs
  have BB:Hid (Below W.heap.size W W):=Below.refl _ _
  by_cases h0:R=0
  · subst h0
    rw [if_pos rfl]
    by_cases h123:k=1∨k=2∨k=3
    · rw [if_pos h123]
      rcases h123 with rfl|rfl|rfl
      all_goals
        go_enter Tryz.func73,Tryz.ntmps73
        go_wp2_with (first
          | (go_at_call 129;refine (HC.out _ (by repeat (first|refine Below.setCell ?_ (by simp;try omega) _|refine Below.alloc ?_ (by have:=BB.out.size;simp;try omega) _|refine Below.drew ?_|exact BB.out))).mono ?_;rintro e w9 ⟨rfl,hw9⟩;rw [hw9];clear hw9 w9)
          | (go_at_call 130;refine (HV.out _ (by repeat (first|refine Below.setCell ?_ (by simp;try omega) _|refine Below.alloc ?_ (by have:=BB.out.size;simp;try omega) _|refine Below.drew ?_|exact BB.out))).mono ?_;rintro e w1 ⟨rfl,hb⟩;have BB2:Below W.heap.size W w1:=bstep (by repeat (first|refine Below.setCell ?_ (by simp;try omega) _|refine Below.alloc ?_ (by have:=BB.out.size;simp;try omega) _|refine Below.drew ?_|exact BB.out)) hb;clear BB;have BB:Hid (Below W.heap.size W w1):=BB2;clear BB2 hb))
      · exact bodyPost_ret (results_tmp rfl _ _ _) rfl ⟨rfl,(by repeat (first|refine Below.setCell ?_ (by simp;try omega) _|refine Below.alloc ?_ (by have:=BB.out.size;simp;try omega) _|refine Below.drew ?_|exact BB.out))⟩
      · exact bodyPost_ret (results_tmp rfl _ _ _) rfl ⟨rfl,(by repeat (first|refine Below.setCell ?_ (by simp;try omega) _|refine Below.alloc ?_ (by have:=BB.out.size;simp;try omega) _|refine Below.drew ?_|exact BB.out))⟩
      · exact bodyPost_ret (results_tmp rfl _ _ _) rfl ⟨rfl,(by repeat (first|refine Below.setCell ?_ (by simp;try omega) _|refine Below.alloc ?_ (by have:=BB.out.size;simp;try omega) _|refine Below.drew ?_|exact BB.out))⟩
    · rw [if_neg h123]
      clear HV
      have h1:¬ k=1:=fun e=>h123 (.inl e)
      have h2:¬ k=2:=fun e=>h123 (.inr (.inl e))
      have h3:¬ k=3:=fun e=>h123 (.inr (.inr e))
      clear h123
      by_cases h4:k=4
      · rw [if_pos h4]
        subst h4
        clear h1 h2 h3
        go_enter Tryz.func73,Tryz.ntmps73
        go_wp2_with (first
          | (go_at_call 129;refine (HC.out _ (by repeat (first|refine Below.setCell ?_ (by simp;try omega) _|refine Below.alloc ?_ (by have:=BB.out.size;simp;try omega) _|refine Below.drew ?_|exact BB.out))).mono ?_;rintro e w9 ⟨rfl,hw9⟩;rw [hw9];clear hw9 w9))
        exact bodyPost_ret (results_tmp rfl _ _ _) rfl ⟨rfl,(by repeat (first|refine Below.setCell ?_ (by simp;try omega) _|refine Below.alloc ?_ (by have:=BB.out.size;simp;try omega) _|refine Below.drew ?_|exact BB.out))⟩
      · rw [if_neg h4]
        go_enter Tryz.func73,Tryz.ntmps73
        go_wp2_with (first
          | (go_at_call 129;refine (HC.out _ (by repeat (first|refine Below.setCell ?_ (by simp;try omega) _|refine Below.alloc ?_ (by have:=BB.out.size;simp;try omega) _|refine Below.drew ?_|exact BB.out))).mono ?_;rintro e w9 ⟨rfl,hw9⟩;rw [hw9];clear hw9 w9))
        exact bodyPost_ret (results_tmp rfl _ _ _) rfl ⟨rfl,(by repeat (first|refine Below.setCell ?_ (by simp;try omega) _|refine Below.alloc ?_ (by have:=BB.out.size;simp;try omega) _|refine Below.drew ?_|exact BB.out))⟩
  · rw [if_neg h0]
    clear HV
    go_enter Tryz.func73,Tryz.ntmps73
    go_wp2_with (first
      | (go_at_call 129;refine (HC.out _ (by repeat (first|refine Below.setCell ?_ (by simp;try omega) _|refine Below.alloc ?_ (by have:=BB.out.size;simp;try omega) _|refine Below.drew ?_|exact BB.out))).mono ?_;rintro e w9 ⟨rfl,hw9⟩;rw [hw9];clear hw9 w9))
    exact bodyPost_ret (results_tmp rfl _ _ _) rfl ⟨rfl,(by repeat (first|refine Below.setCell ?_ (by simp;try omega) _|refine Below.alloc ?_ (by have:=BB.out.size;simp;try omega) _|refine Below.drew ?_|exact BB.out))⟩
def crfI (k:Int) (y:Bool) (c n ds:ByteArray):Int:=if rckE c.data.toList n.data.toList ds.data.toList=0 then (if k=1∧y=true∨k=2∧y=false∨k≠3∧iniB n=true then 35 else 0) else 1
set_option maxHeartbeats 8000000 in
theorem crf_c (k:Int) (y:Bool) (c n ds:ByteArray) (hc:c.size≤maxLen) (hn:n.size≤maxLen) (hd:ds.size≤maxLen) (W:World):Calls Tryz.prog 74 #[.int .i64 k,.agg #[.bool y,.string c,.string n,.string ds]] W fun e w'=>e=.returned (.int .i64 (crfI k y c n ds))∧Below W.heap.size W w':=by
  have HR:Hid (∀ w:World,Calls Tryz.prog 17 #[.agg #[.bool y,.string c,.string n,.string ds]] w fun e w'=>e=.returned (.int .i64 (rckE c.data.toList n.data.toList ds.data.toList))∧Below w.heap.size w w'):=refCheck_any y c n ds hc hn hd
  unfold crfI
  generalize rckE c.data.toList n.data.toList ds.data.toList=R at *
  clear hc hn hd
  have BB:Hid (Below W.heap.size W W):=Below.refl _ _
  by_cases h0:R=0
  · subst h0
    rw [if_pos rfl]
    obtain ⟨Q,hQ⟩:∃ Q:Int,(if k=1∧y=true∨k=2∧y=false∨k≠3∧iniB n=true then 35 else 0)=Q:=⟨_,rfl⟩
    rw [hQ]
    have HQ:Hid ((if k=1∧y=true∨k=2∧y=false∨k≠3∧iniB n=true then (35:Int) else 0)=Q):=hQ
    clear hQ
    cases hI:iniB n
    all_goals
      have hJ:=hI
      rw [iniB] at hJ
      rw [hI] at HQ
      clear hI
      cases y
    all_goals
      have hk:k=1∨k=2∨k=3∨(¬ k=1∧¬ k=2∧¬ k=3):=by omega
      rcases hk with rfl|rfl|rfl|⟨h1,h2,h3⟩
    all_goals
      have hQ:=HQ.out
      clear HQ
      simp [*] at hQ
      subst hQ
      go_enter Tryz.func74,Tryz.ntmps74
      go_wp2_with (first
        | (go_at_call 17;refine (HR.out _).mono ?_;rintro e w1 ⟨rfl,hb⟩;have rd:w1.heap[W.heap.size]?=some (.cells #[.bool true,.string c,.string n,.string ds] 26 (0,0)):=(hb.block (W.heap.size) (by first|omega|(simp;try omega))).trans (by first|exact rB.out|exact hkeep rB.out|exact halloc1 _ _|exact hkeep (halloc1 _ _)|exact hkeep (hkeep (halloc1 _ _))|exact halloc2 _ _ (by simp)|exact hkeep (halloc2 _ _ (by simp)));(try clear rB r0 r1 r2 r3 rf rL rN);have rB:Hid _:=rd;obtain ⟨r0,r1,r2,r3,rf,rL⟩:=rw4 rd;have rN:¬ W.heap.size=w1.heap.size:=(by omega);clear rd;have BB2:Below W.heap.size W w1:=bstep (by repeat (first|refine Below.setCell ?_ (by simp;try omega) _|refine Below.alloc ?_ (by have:=BB.out.size;simp;try omega) _|refine Below.drew ?_|exact BB.out)) hb;clear BB;have BB:Hid (Below W.heap.size W w1):=BB2;clear BB2 hb)
        | (go_at_call 17;refine (HR.out _).mono ?_;rintro e w1 ⟨rfl,hb⟩;have rd:w1.heap[W.heap.size]?=some (.cells #[.bool false,.string c,.string n,.string ds] 26 (0,0)):=(hb.block (W.heap.size) (by first|omega|(simp;try omega))).trans (by first|exact rB.out|exact hkeep rB.out|exact halloc1 _ _|exact hkeep (halloc1 _ _)|exact hkeep (hkeep (halloc1 _ _))|exact halloc2 _ _ (by simp)|exact hkeep (halloc2 _ _ (by simp)));(try clear rB r0 r1 r2 r3 rf rL rN);have rB:Hid _:=rd;obtain ⟨r0,r1,r2,r3,rf,rL⟩:=rw4 rd;have rN:¬ W.heap.size=w1.heap.size:=(by omega);clear rd;have BB2:Below W.heap.size W w1:=bstep (by repeat (first|refine Below.setCell ?_ (by simp;try omega) _|refine Below.alloc ?_ (by have:=BB.out.size;simp;try omega) _|refine Below.drew ?_|exact BB.out)) hb;clear BB;have BB:Hid (Below W.heap.size W w1):=BB2;clear BB2 hb))
    all_goals exact bodyPost_ret (results_tmp rfl _ _ _) rfl ⟨rfl,(by repeat (first|refine Below.setCell ?_ (by simp;try omega) _|refine Below.alloc ?_ (by have:=BB.out.size;simp;try omega) _|refine Below.drew ?_|exact BB.out))⟩
  · rw [if_neg h0]
    go_enter Tryz.func74,Tryz.ntmps74
    go_wp2_with (first
      | (go_at_call 17;refine (HR.out _).mono ?_;rintro e w1 ⟨rfl,hb⟩;have rd:w1.heap[W.heap.size]?=some (.cells #[.bool y,.string c,.string n,.string ds] 26 (0,0)):=(hb.block (W.heap.size) (by first|omega|(simp;try omega))).trans (by first|exact rB.out|exact hkeep rB.out|exact halloc1 _ _|exact hkeep (halloc1 _ _)|exact hkeep (hkeep (halloc1 _ _))|exact halloc2 _ _ (by simp)|exact hkeep (halloc2 _ _ (by simp)));(try clear rB r0 r1 r2 r3 rf rL rN);have rB:Hid _:=rd;obtain ⟨r0,r1,r2,r3,rf,rL⟩:=rw4 rd;have rN:¬ W.heap.size=w1.heap.size:=(by omega);clear rd;have BB2:Below W.heap.size W w1:=bstep (by repeat (first|refine Below.setCell ?_ (by simp;try omega) _|refine Below.alloc ?_ (by have:=BB.out.size;simp;try omega) _|refine Below.drew ?_|exact BB.out)) hb;clear BB;have BB:Hid (Below W.heap.size W w1):=BB2;clear BB2 hb))
    exact bodyPost_ret (results_tmp rfl _ _ _) rfl ⟨rfl,(by repeat (first|refine Below.setCell ?_ (by simp;try omega) _|refine Below.alloc ?_ (by have:=BB.out.size;simp;try omega) _|refine Below.drew ?_|exact BB.out))⟩
def ftsB (ps:List Plc) (k:Int) (m:Int×Int):Bool:=if k=4 then hasS ps m.1 m.2 8 else if k=2 then !hasS ps m.1 m.2 10 else !hasS ps m.1 m.2 8
set_option maxHeartbeats 2000000 in
theorem fit_c {b:Nat} {ps:List Plc} {W:World} (h:WAt b ps W) (hi:WI ps) (k c i:Int):Calls Tryz.prog 76 #[.pointer (some ⟨b,0,none⟩),.int .i64 k,.agg #[.int .i64 c,.int .i64 i]] W fun e w'=>e=.returned (.bool (ftsB ps k (c,i)))∧Below W.heap.size W w':=by
  have HS:Hid (∀ w,Below W.heap.size W w→Calls Tryz.prog 136 #[.pointer (some ⟨b,0,none⟩),.agg #[.int .i64 c,.int .i64 i],.int .i64 8] w fun e w'=>e=.returned (.bool (hasS ps c i 8))∧Below w.heap.size w w'):=fun w hb=>chS_c (h.below hb) hi.pb c i 8
  have HT:Hid (∀ w,Below W.heap.size W w→Calls Tryz.prog 136 #[.pointer (some ⟨b,0,none⟩),.agg #[.int .i64 c,.int .i64 i],.int .i64 10] w fun e w'=>e=.returned (.bool (hasS ps c i 10))∧Below w.heap.size w w'):=fun w hb=>chS_c (h.below hb) hi.pb c i 10
  unfold ftsB
  simp only
  generalize hasS ps c i 8=A at *
  generalize hasS ps c i 10=B at *
  clear h hi
  have BB:Hid (Below W.heap.size W W):=Below.refl _ _
  by_cases h4:k=4
  · rw [if_pos h4]
    subst h4
    clear HT
    go_enter Tryz.func76,Tryz.ntmps76
    go_wp2_with (first
      | (go_at_call 136;refine (HS.out _ (by repeat (first|refine Below.setCell ?_ (by simp;try omega) _|refine Below.alloc ?_ (by have:=BB.out.size;simp;try omega) _|refine Below.drew ?_|exact BB.out))).mono ?_;rintro e w1 ⟨rfl,hb⟩;have BB2:Below W.heap.size W w1:=bstep (by repeat (first|refine Below.setCell ?_ (by simp;try omega) _|refine Below.alloc ?_ (by have:=BB.out.size;simp;try omega) _|refine Below.drew ?_|exact BB.out)) hb;clear BB;have BB:Hid (Below W.heap.size W w1):=BB2;clear BB2 hb))
    exact bodyPost_ret (results_tmp rfl _ _ _) rfl ⟨rfl,(by repeat (first|refine Below.setCell ?_ (by simp;try omega) _|refine Below.alloc ?_ (by have:=BB.out.size;simp;try omega) _|refine Below.drew ?_|exact BB.out))⟩
  · rw [if_neg h4]
    by_cases h2:k=2
    · rw [if_pos h2]
      subst h2
      clear HS h4
      go_enter Tryz.func76,Tryz.ntmps76
      go_wp2_with (first
        | (go_at_call 136;refine (HT.out _ (by repeat (first|refine Below.setCell ?_ (by simp;try omega) _|refine Below.alloc ?_ (by have:=BB.out.size;simp;try omega) _|refine Below.drew ?_|exact BB.out))).mono ?_;rintro e w1 ⟨rfl,hb⟩;have BB2:Below W.heap.size W w1:=bstep (by repeat (first|refine Below.setCell ?_ (by simp;try omega) _|refine Below.alloc ?_ (by have:=BB.out.size;simp;try omega) _|refine Below.drew ?_|exact BB.out)) hb;clear BB;have BB:Hid (Below W.heap.size W w1):=BB2;clear BB2 hb))
      exact bodyPost_ret (results_tmp rfl _ _ _) rfl ⟨rfl,(by repeat (first|refine Below.setCell ?_ (by simp;try omega) _|refine Below.alloc ?_ (by have:=BB.out.size;simp;try omega) _|refine Below.drew ?_|exact BB.out))⟩
    · rw [if_neg h2]
      clear HT
      go_enter Tryz.func76,Tryz.ntmps76
      go_wp2_with (first
        | (go_at_call 136;refine (HS.out _ (by repeat (first|refine Below.setCell ?_ (by simp;try omega) _|refine Below.alloc ?_ (by have:=BB.out.size;simp;try omega) _|refine Below.drew ?_|exact BB.out))).mono ?_;rintro e w1 ⟨rfl,hb⟩;have BB2:Below W.heap.size W w1:=bstep (by repeat (first|refine Below.setCell ?_ (by simp;try omega) _|refine Below.alloc ?_ (by have:=BB.out.size;simp;try omega) _|refine Below.drew ?_|exact BB.out)) hb;clear BB;have BB:Hid (Below W.heap.size W w1):=BB2;clear BB2 hb))
      exact bodyPost_ret (results_tmp rfl _ _ _) rfl ⟨rfl,(by repeat (first|refine Below.setCell ?_ (by simp;try omega) _|refine Below.alloc ?_ (by have:=BB.out.size;simp;try omega) _|refine Below.drew ?_|exact BB.out))⟩
end Go.Proofs.YtlohdfpinmdljaaGreatDoor
