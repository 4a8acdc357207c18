import Derived.Test.YtkclpcmkplbclaaGreatDsG
set_option maxRecDepth 100000
namespace Go.Proofs.YtkclpcmkplbclaaGreat
open Go.RowKit Go.Maps
set_option maxHeartbeats 4000000 in
theorem tty_1 (W:World) (b:Nat) (x y E:Int) (s t:ByteArray) (hE:¬ E=0) (HS:Hid (∀ w,Below W.heap.size W w→Calls Tryz.prog 71 #[.pointer (some ⟨b,0,none⟩),.agg #[.int .i64 x,.string s]] w fun e w'=>e=.returned (.int .i64 E)∧Below w.heap.size w w')):Calls Tryz.prog 22 #[.pointer (some ⟨b,0,none⟩),.agg #[.int .i64 x,.string s],.agg #[.int .i64 y,.string t]] W fun e w'=>e=.returned (.tuple #[.bool false,.int .i64 0,.int .i64 E])∧Below W.heap.size W w':=by
  have hE2:(E == 0)=false:=by simp [hE]
  have IX0:=idxT_0 x y s t
  have IX1:=idxT_1 x y s t
  go_enter Tryz.func22,Tryz.ntmps22
  go_wp2
  go_loopw [17] (fun kv wr=>(kv=.int .i64 0)∧Hid (Below W.heap.size W wr)∧Hid (wr.heap[W.heap.size+2]?=some (.cells #[.int .i64 0] 3 (0,0)))∧Hid (wr.heap[W.heap.size+3]?=some (.cells #[.int .i64 x,.string s,.int .i64 y,.string t] 128 (0,0)))) (fun kv _=>2 - (intOf kv).toNat)
  case atStart=>exact ⟨rfl,(by repeat (first|exact Below.refl _ _|refine Below.setCell ?_ (by simp;try omega) _|refine Below.alloc ?_ (by simp;try omega) _|refine Below.drew ?_)),hkeep (halloc2 _ _ (by simp)),halloc2 _ _ (by simp)⟩
  case round =>
    obtain ⟨hk,hB,rrB,eeB⟩:=hrel
    obtain ⟨rr0,rrf,rrL⟩:=rw1 rrB.out
    obtain ⟨ee0,ee1,ee2,ee3,eef,eeL⟩:=rw4 eeB.out
    have rrN:¬ W.heap.size+2=wr.heap.size:=by omega
    have eeN:¬ W.heap.size+3=wr.heap.size:=by omega
    subst hk
    go_wp2_with (go_at_call 71;refine (HS.out _ (hB.out.alloc hB.out.size _)).mono ?_;rintro e w1 ⟨rfl,hb⟩;have eed:=kp4 (n:=W.heap.size+3) hb (by first|omega|(simp;try omega)) (hkeep eeB.out);(try clear eeB ee0 ee1 ee2 ee3 eef eeL eeN);obtain ⟨eeB,ee0,ee1,ee2,ee3,eef,eeL,eeN⟩:=eed;have rrd:=kp1 (n:=W.heap.size+2) hb (by first|omega|(simp;try omega)) (hkeep rrB.out);(try clear rrB rr0 rrf rrL rrN);obtain ⟨rrB,rr0,rrf,rrL,rrN⟩:=rrd;have B1:Hid (Below W.heap.size W w1):=bstep (hB.out.alloc hB.out.size _) hb;clear hb)
    exact bodyPost_ret (v:=.tuple #[.bool false,.int .i64 0,.int .i64 E]) (by simp [results,Tryz.results22,go_sem, *]) rfl ⟨rfl,B1.out.setCell (by simp;try omega) _⟩
set_option maxHeartbeats 4000000 in
theorem tty_2 (W:World) (b:Nat) (x y E:Int) (s t:ByteArray) (hE:¬ E=0) (HS:Hid (∀ w,Below W.heap.size W w→Calls Tryz.prog 71 #[.pointer (some ⟨b,0,none⟩),.agg #[.int .i64 x,.string s]] w fun e w'=>e=.returned (.int .i64 0)∧Below w.heap.size w w')) (HT:Hid (∀ w,Below W.heap.size W w→Calls Tryz.prog 71 #[.pointer (some ⟨b,0,none⟩),.agg #[.int .i64 y,.string t]] w fun e w'=>e=.returned (.int .i64 E)∧Below w.heap.size w w')):Calls Tryz.prog 22 #[.pointer (some ⟨b,0,none⟩),.agg #[.int .i64 x,.string s],.agg #[.int .i64 y,.string t]] W fun e w'=>e=.returned (.tuple #[.bool false,.int .i64 0,.int .i64 E])∧Below W.heap.size W w':=by
  have hE2:(E == 0)=false:=by simp [hE]
  have IX0:=idxT_0 x y s t
  have IX1:=idxT_1 x y s t
  go_enter Tryz.func22,Tryz.ntmps22
  go_wp2
  go_loopw [17] (fun kv wr=>(kv=.int .i64 0∨kv=.int .i64 1)∧Hid (Below W.heap.size W wr)∧Hid (wr.heap[W.heap.size+2]?=some (.cells #[.int .i64 0] 3 (0,0)))∧Hid (wr.heap[W.heap.size+3]?=some (.cells #[.int .i64 x,.string s,.int .i64 y,.string t] 128 (0,0)))) (fun kv _=>2 - (intOf kv).toNat)
  case atStart=>exact ⟨.inl rfl,(by repeat (first|exact Below.refl _ _|refine Below.setCell ?_ (by simp;try omega) _|refine Below.alloc ?_ (by simp;try omega) _|refine Below.drew ?_)),hkeep (halloc2 _ _ (by simp)),halloc2 _ _ (by simp)⟩
  case round =>
    obtain ⟨hk,hB,rrB,eeB⟩:=hrel
    obtain ⟨rr0,rrf,rrL⟩:=rw1 rrB.out
    obtain ⟨ee0,ee1,ee2,ee3,eef,eeL⟩:=rw4 eeB.out
    have rrN:¬ W.heap.size+2=wr.heap.size:=by omega
    have eeN:¬ W.heap.size+3=wr.heap.size:=by omega
    rcases hk with rfl|rfl
    · go_wp2_with (go_at_call 71;refine (HS.out _ (hB.out.alloc hB.out.size _)).mono ?_;rintro e w1 ⟨rfl,hb⟩;have eed:=kp4 (n:=W.heap.size+3) hb (by first|omega|(simp;try omega)) (hkeep eeB.out);(try clear eeB ee0 ee1 ee2 ee3 eef eeL eeN);obtain ⟨eeB,ee0,ee1,ee2,ee3,eef,eeL,eeN⟩:=eed;have rrd:=kp1 (n:=W.heap.size+2) hb (by first|omega|(simp;try omega)) (hkeep rrB.out);(try clear rrB rr0 rrf rrL rrN);obtain ⟨rrB,rr0,rrf,rrL,rrN⟩:=rrd;have B1:Hid (Below W.heap.size W w1):=bstep (hB.out.alloc hB.out.size _) hb;clear hb)
      refine ⟨⟨.inr rfl,B1,rrB,eeB⟩,by simp [intOf]⟩
    · go_wp2_with (go_at_call 71;refine (HT.out _ (hB.out.alloc hB.out.size _)).mono ?_;rintro e w1 ⟨rfl,hb⟩;have eed:=kp4 (n:=W.heap.size+3) hb (by first|omega|(simp;try omega)) (hkeep eeB.out);(try clear eeB ee0 ee1 ee2 ee3 eef eeL eeN);obtain ⟨eeB,ee0,ee1,ee2,ee3,eef,eeL,eeN⟩:=eed;have rrd:=kp1 (n:=W.heap.size+2) hb (by first|omega|(simp;try omega)) (hkeep rrB.out);(try clear rrB rr0 rrf rrL rrN);obtain ⟨rrB,rr0,rrf,rrL,rrN⟩:=rrd;have B1:Hid (Below W.heap.size W w1):=bstep (hB.out.alloc hB.out.size _) hb;clear hb)
      exact bodyPost_ret (v:=.tuple #[.bool false,.int .i64 0,.int .i64 E]) (by simp [results,Tryz.results22,go_sem, *]) rfl ⟨rfl,B1.out.setCell (by simp;try omega) _⟩
set_option maxHeartbeats 4000000 in
theorem tty_3 (W:World) (b:Nat) (x y:Int) (s t:ByteArray) (B:Bool) (n:Nat) (HS:Hid (∀ w,Below W.heap.size W w→Calls Tryz.prog 71 #[.pointer (some ⟨b,0,none⟩),.agg #[.int .i64 x,.string s]] w fun e w'=>e=.returned (.int .i64 0)∧Below w.heap.size w w')) (HT:Hid (∀ w,Below W.heap.size W w→Calls Tryz.prog 71 #[.pointer (some ⟨b,0,none⟩),.agg #[.int .i64 y,.string t]] w fun e w'=>e=.returned (.int .i64 0)∧Below w.heap.size w w')) (HI:Hid (∀ w,Below W.heap.size W w→w.heap[W.heap.size+2]?=some (.cells #[.int .i64 0] 3 (0,0))→Calls Tryz.prog 80 #[.pointer (some ⟨b,0,none⟩),.agg #[.int .i64 x,.string s,.int .i64 y,.string t],.pointer (some ⟨W.heap.size+2,0,none⟩)] w fun e w'=>e=.returned (.bool B)∧w'.heap[W.heap.size+2]?=some (.cells #[.int .i64 (n:Int)] 3 (0,0))∧Below W.heap.size W w')):Calls Tryz.prog 22 #[.pointer (some ⟨b,0,none⟩),.agg #[.int .i64 x,.string s],.agg #[.int .i64 y,.string t]] W fun e w'=>e=.returned (.tuple #[.bool B,.int .i64 (n:Int),.int .i64 0])∧Below W.heap.size W w':=by
  have IX0:=idxT_0 x y s t
  have IX1:=idxT_1 x y s t
  go_enter Tryz.func22,Tryz.ntmps22
  go_wp2
  go_loopw [17] (fun kv wr=>(kv=.int .i64 0∨kv=.int .i64 1∨kv=.int .i64 2)∧Hid (Below W.heap.size W wr)∧Hid (wr.heap[W.heap.size+2]?=some (.cells #[.int .i64 0] 3 (0,0)))∧Hid (wr.heap[W.heap.size+3]?=some (.cells #[.int .i64 x,.string s,.int .i64 y,.string t] 128 (0,0)))) (fun kv _=>2 - (intOf kv).toNat)
  case atStart=>exact ⟨.inl rfl,(by repeat (first|exact Below.refl _ _|refine Below.setCell ?_ (by simp;try omega) _|refine Below.alloc ?_ (by simp;try omega) _|refine Below.drew ?_)),hkeep (halloc2 _ _ (by simp)),halloc2 _ _ (by simp)⟩
  case round =>
    obtain ⟨hk,hB,rrB,eeB⟩:=hrel
    obtain ⟨rr0,rrf,rrL⟩:=rw1 rrB.out
    obtain ⟨ee0,ee1,ee2,ee3,eef,eeL⟩:=rw4 eeB.out
    have rrN:¬ W.heap.size+2=wr.heap.size:=by omega
    have eeN:¬ W.heap.size+3=wr.heap.size:=by omega
    rcases hk with rfl|rfl|rfl
    · go_wp2_with (go_at_call 71;refine (HS.out _ (hB.out.alloc hB.out.size _)).mono ?_;rintro e w1 ⟨rfl,hb⟩;have eed:=kp4 (n:=W.heap.size+3) hb (by first|omega|(simp;try omega)) (hkeep eeB.out);(try clear eeB ee0 ee1 ee2 ee3 eef eeL eeN);obtain ⟨eeB,ee0,ee1,ee2,ee3,eef,eeL,eeN⟩:=eed;have rrd:=kp1 (n:=W.heap.size+2) hb (by first|omega|(simp;try omega)) (hkeep rrB.out);(try clear rrB rr0 rrf rrL rrN);obtain ⟨rrB,rr0,rrf,rrL,rrN⟩:=rrd;have B1:Hid (Below W.heap.size W w1):=bstep (hB.out.alloc hB.out.size _) hb;clear hb)
      refine ⟨⟨.inr (.inl rfl),B1,rrB,eeB⟩,by simp [intOf]⟩
    · go_wp2_with (go_at_call 71;refine (HT.out _ (hB.out.alloc hB.out.size _)).mono ?_;rintro e w1 ⟨rfl,hb⟩;have eed:=kp4 (n:=W.heap.size+3) hb (by first|omega|(simp;try omega)) (hkeep eeB.out);(try clear eeB ee0 ee1 ee2 ee3 eef eeL eeN);obtain ⟨eeB,ee0,ee1,ee2,ee3,eef,eeL,eeN⟩:=eed;have rrd:=kp1 (n:=W.heap.size+2) hb (by first|omega|(simp;try omega)) (hkeep rrB.out);(try clear rrB rr0 rrf rrL rrN);obtain ⟨rrB,rr0,rrf,rrL,rrN⟩:=rrd;have B1:Hid (Below W.heap.size W w1):=bstep (hB.out.alloc hB.out.size _) hb;clear hb)
      refine ⟨⟨.inr (.inr rfl),B1,rrB,eeB⟩,by simp [intOf]⟩
    · go_wp2_with (go_at_call 80;refine (HI.out _ hB.out rrB.out).mono ?_;rintro e w2 ⟨rfl,hk2,hb⟩;(try clear rrB rr0 rrf rrL rrN);have rrB:Hid (w2.heap[W.heap.size+2]?=some (.cells #[.int .i64 (n:Int)] 3 (0,0))):=hk2;obtain ⟨rr0,rrf,rrL⟩:=rw1 hk2;have B2:Hid (Below W.heap.size W w2):=hb;clear hb hk2 HI)
      go_region
      all_goals go_wp2
      all_goals exact bodyPost_ret (v:=.tuple #[.bool B,.int .i64 (n:Int),.int .i64 0]) (by simp [results,Tryz.results22,go_sem, *]) rfl ⟨rfl,(B2.out.drew).setCell (by simp;try omega) _⟩
def ttyR (ps:List Plc) (x:Int) (s:ByteArray) (y:Int) (t:ByteArray):(Bool×Nat)×Int:=if ldI ps x s=0 then if ldI ps y t=0 then ((subB ps x s y t,rdT ps x s y t),0) else ((false,0),ldI ps y t) else ((false,0),ldI ps x s)
theorem tty_c {b:Nat} {ps:List Plc} {W:World} (h:WAt b ps W) (hW:WI ps) (x:Int) (s:ByteArray) (y:Int) (t:ByteArray) (hs:s.size≤maxLen) (ht:t.size≤maxLen):Calls Tryz.prog 22 #[.pointer (some ⟨b,0,none⟩),.agg #[.int .i64 x,.string s],.agg #[.int .i64 y,.string t]] W fun e w'=>e=.returned (.tuple #[.bool (ttyR ps x s y t).1.1,.int .i64 ((ttyR ps x s y t).1.2:Int),.int .i64 (ttyR ps x s y t).2])∧Below W.heap.size W w':=by
  by_cases h1:ldI ps x s=0
  · by_cases h2:ldI ps y t=0
    · have e0:ttyR ps x s y t=((subB ps x s y t,rdT ps x s y t),0):=by rw [ttyR,if_pos h1,if_pos h2]
      rw [e0]
      refine tty_3 W b x y s t (subB ps x s y t) (rdT ps x s y t) (fun w hb=>?_) (fun w hb=>?_) (fun w hb hk=>?_)
      · rw [← h1];exact loaded_c (h.below hb) _ _ hs
      · rw [← h2];exact loaded_c (h.below hb) _ _ ht
      · have:=itb_c h hW (W.heap.size+2) 0 x y s t hs ht h1 h2 hb (by omega) hk (by omega)
        rw [Nat.zero_add] at this
        exact this
    · have e0:ttyR ps x s y t=((false,0),ldI ps y t):=by rw [ttyR,if_pos h1,if_neg h2]
      rw [e0]
      refine tty_2 W b x y (ldI ps y t) s t h2 (fun w hb=>?_) (fun w hb=>loaded_c (h.below hb) _ _ ht)
      rw [← h1];exact loaded_c (h.below hb) _ _ hs
  · have e0:ttyR ps x s y t=((false,0),ldI ps x s):=by rw [ttyR,if_neg h1]
    rw [e0]
    exact tty_1 W b x y (ldI ps x s) s t h1 (fun w hb=>loaded_c (h.below hb) _ _ hs)
end Go.Proofs.YtkclpcmkplbclaaGreat
