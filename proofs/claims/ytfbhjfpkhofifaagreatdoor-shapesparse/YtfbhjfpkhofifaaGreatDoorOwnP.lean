import Derived.Test.YtfbhjfpkhofifaaGreatDoorOwnS
set_option maxHeartbeats 1000000
set_option maxRecDepth 100000
namespace Go.Proofs.YtfbhjfpkhofifaaGreatDoor
open Go.RowKit
theorem Zak (op:Int):opB op=true↔1≤op∧op≤40:=by
 unfold opB;simp only [Bool.and_eq_true,decide_eq_true_eq];omega
def wrdE (op:Int):Int:=if opB op then 0 else 2
def wrdL (op:Int):List UInt8:=if opB op then Z4 op else []
theorem X2 (op:Int) (w:World) (hG:WordsIn w):Calls Tryz.prog 114 #[.int .i64 op] w fun e w'=>e=.returned (.tuple #[.string ⟨(wrdL op).toArray⟩,.int .i64 (wrdE op)])∧w'=w:=by
 cases h:opB op with
 | false =>
   have HB:Hid (∀ w,_):=Zcu op false h;have e1:wrdL op=[]:=by rw [wrdL,h];rfl
   have e2:wrdE op=2:=by rw [wrdE,h];rfl
   rw [e1,e2];clear hG h e1 e2;go_enter Tryz.func114,Tryz.ntmps114;go_wp2_with (go_at_call 150;refine ((HB.out) _).mono ?_;rintro e w1 ⟨rfl,hw1⟩;rw [hw1])
   exact bodyPost_ret (v:=.tuple #[.string ⟨#[]⟩,.int .i64 2]) (by simp [results,Tryz.results114,go_sem, *]) rfl ⟨rfl,rfl⟩
 | true =>
   have HB:Hid (∀ w,_):=Zcu op true h;obtain ⟨h1,h2⟩:=(Zak op).1 h;obtain ⟨k,rfl⟩:∃ k:Nat,op=k:=⟨op.toNat,by omega⟩;have hk:k<41:=by omega
   obtain ⟨x,hx⟩:∃ x,wordsL[k]?=some x:=⟨_,List.getElem?_eq_getElem (by rw [X9];exact hk)⟩;have c0:=hG.2 k x hx;have e1:wrdL k=x:=by rw [wrdL,h,if_pos rfl,Z4,List.getD_eq_getElem?_getD,Int.toNat_natCast,hx];rfl
   have e2:wrdE k=0:=by rw [wrdE,h];rfl
   rw [e1,e2];have hk0:(0:Int)≤(k:Int):=by omega
   clear hG h e1 e2 hx h1 h2;go_enter Tryz.func114,Tryz.ntmps114;go_wp2_with (go_at_call 150;refine ((HB.out) _).mono ?_;rintro e w1 ⟨rfl,hw1⟩;rw [hw1])
   exact bodyPost_ret (v:=.tuple #[.string ⟨x.toArray⟩,.int .i64 0]) (by simp [results,Tryz.results114,go_sem, *]) rfl ⟨rfl,rfl⟩
theorem write_1 (op n:Int) (hn1:-9223372036854775808≤n) (hn2:n≤9223372036854775807) (hk:opdI op=1) (t:ByteArray) (b:Bool) (c m d:ByteArray) (w:World) (hG:TenIn w):Calls Tryz.prog 116 #[.agg #[.int .i64 op,.int .i64 n,.string t,.bool b,.string c,.string m,.string d]] w fun e w'=>e=.returned (.string ⟨(Lib.itoa n).toArray⟩)∧Bw w w':=by
 have HO:=Zc op;rw [hk] at HO;have HO:Hid (∀ w,_):=HO;have HI:Hid (∀ w,TenIn w→_):=fun w h=>Qq n hn1 hn2 w h;have HG:Hid (TenIn (w.alloc (.cells #[.int .i64 op,.int .i64 n,.string t,.bool b,.string c,.string m,.string d] 73))):=hG.keep ((Below.refl _ _).alloc (Nat.le_refl _) _);clear hk;go_enter Tryz.func116,Tryz.ntmps116;go_wp2_with (first
  | (go_at_call 115;refine ((HO.out) _).mono ?_;rintro e w0 ⟨rfl,hw0⟩;rw [hw0];clear hw0 HO)
  | (go_at_call 36;refine ((HI.out) _ HG.out).mono ?_;rintro e w1 ⟨rfl,hb1⟩;have hB1:Hid (Bw w w1):=sqT hb1;clear hb1))
 go_ret
 exact ⟨rfl,hB1.out⟩
theorem write_2 (op n:Int) (hn1:-9223372036854775808≤n) (hn2:n≤9223372036854775807) (hk:opdI op=2) (t:ByteArray) (b:Bool) (c m d:ByteArray) (w:World) (hG:TenIn w):Calls Tryz.prog 116 #[.agg #[.int .i64 op,.int .i64 n,.string t,.bool b,.string c,.string m,.string d]] w fun e w'=>e=.returned (.string ⟨(Lib.itoa n).toArray⟩)∧Bw w w':=by
 have HO:=Zc op;rw [hk] at HO;have HO:Hid (∀ w,_):=HO;have HI:Hid (∀ w,TenIn w→_):=fun w h=>Qq n hn1 hn2 w h;have HG:Hid (TenIn (w.alloc (.cells #[.int .i64 op,.int .i64 n,.string t,.bool b,.string c,.string m,.string d] 73))):=hG.keep ((Below.refl _ _).alloc (Nat.le_refl _) _);clear hk;go_enter Tryz.func116,Tryz.ntmps116;go_wp2_with (first
  | (go_at_call 115;refine ((HO.out) _).mono ?_;rintro e w0 ⟨rfl,hw0⟩;rw [hw0];clear hw0 HO)
  | (go_at_call 36;refine ((HI.out) _ HG.out).mono ?_;rintro e w1 ⟨rfl,hb1⟩;have hB1:Hid (Bw w w1):=sqT hb1;clear hb1))
 go_ret
 exact ⟨rfl,hB1.out⟩
theorem write_3 (op n:Int) (hn1:-9223372036854775808≤n) (hn2:n≤9223372036854775807) (hk:opdI op=3) (t:ByteArray) (b:Bool) (c m d:ByteArray) (w:World) (hG:TenIn w):Calls Tryz.prog 116 #[.agg #[.int .i64 op,.int .i64 n,.string t,.bool b,.string c,.string m,.string d]] w fun e w'=>e=.returned (.string ⟨(Lib.itoa n).toArray⟩)∧Bw w w':=by
 have HO:=Zc op;rw [hk] at HO;have HO:Hid (∀ w,_):=HO;have HI:Hid (∀ w,TenIn w→_):=fun w h=>Qq n hn1 hn2 w h;have HG:Hid (TenIn (w.alloc (.cells #[.int .i64 op,.int .i64 n,.string t,.bool b,.string c,.string m,.string d] 73))):=hG.keep ((Below.refl _ _).alloc (Nat.le_refl _) _);clear hk;go_enter Tryz.func116,Tryz.ntmps116;go_wp2_with (first
  | (go_at_call 115;refine ((HO.out) _).mono ?_;rintro e w0 ⟨rfl,hw0⟩;rw [hw0];clear hw0 HO)
  | (go_at_call 36;refine ((HI.out) _ HG.out).mono ?_;rintro e w1 ⟨rfl,hb1⟩;have hB1:Hid (Bw w w1):=sqT hb1;clear hb1))
 go_ret
 exact ⟨rfl,hB1.out⟩
theorem Zo8 (t:ByteArray):(⟨t.data.toList.toArray⟩:ByteArray)=t:=by apply Zf;simp
theorem write_4 (op n:Int) (hk:opdI op=4) (t:ByteArray) (b:Bool) (c m d:ByteArray) (w:World):Calls Tryz.prog 116 #[.agg #[.int .i64 op,.int .i64 n,.string t,.bool b,.string c,.string m,.string d]] w fun e w'=>e=.returned (.string ⟨(t.data.toList).toArray⟩)∧Bw w w':=by
 have HO:=Zc op;rw [hk] at HO;have HO:Hid (∀ w,_):=HO;rw [Zo8];clear hk;go_enter Tryz.func116,Tryz.ntmps116;go_wp2_with (first
  | (go_at_call 115;refine ((HO.out) _).mono ?_;rintro e w0 ⟨rfl,hw0⟩;rw [hw0];clear hw0 HO))
 go_ret
 exact ⟨rfl,(Below.refl _ _).alloc (Nat.le_refl _) _⟩
theorem write_5 (op n:Int) (hk:opdI op=5) (t:ByteArray) (b:Bool) (c m d:ByteArray) (w:World):Calls Tryz.prog 116 #[.agg #[.int .i64 op,.int .i64 n,.string t,.bool b,.string c,.string m,.string d]] w fun e w'=>e=.returned (.string ⟨(t.data.toList).toArray⟩)∧Bw w w':=by
 have HO:=Zc op;rw [hk] at HO;have HO:Hid (∀ w,_):=HO;rw [Zo8];clear hk;go_enter Tryz.func116,Tryz.ntmps116;go_wp2_with (first
  | (go_at_call 115;refine ((HO.out) _).mono ?_;rintro e w0 ⟨rfl,hw0⟩;rw [hw0];clear hw0 HO))
 go_ret
 exact ⟨rfl,(Below.refl _ _).alloc (Nat.le_refl _) _⟩
theorem write_6 (op n:Int) (hk:opdI op=6) (t:ByteArray) (b:Bool) (c m d:ByteArray) (w:World):Calls Tryz.prog 116 #[.agg #[.int .i64 op,.int .i64 n,.string t,.bool b,.string c,.string m,.string d]] w fun e w'=>e=.returned (.string ⟨(t.data.toList).toArray⟩)∧Bw w w':=by
 have HO:=Zc op;rw [hk] at HO;have HO:Hid (∀ w,_):=HO;rw [Zo8];clear hk;go_enter Tryz.func116,Tryz.ntmps116;go_wp2_with (first
  | (go_at_call 115;refine ((HO.out) _).mono ?_;rintro e w0 ⟨rfl,hw0⟩;rw [hw0];clear hw0 HO))
 go_ret
 exact ⟨rfl,(Below.refl _ _).alloc (Nat.le_refl _) _⟩
theorem write_8 (op n:Int) (hk:opdI op=8) (t:ByteArray) (b:Bool) (c m d:ByteArray) (hc:c.size≤maxLen) (hm:m.size≤maxLen) (hd:d.size≤maxLen) (w:World):Calls Tryz.prog 116 #[.agg #[.int .i64 op,.int .i64 n,.string t,.bool b,.string c,.string m,.string d]] w fun e w'=>e=.returned (.string ⟨(rtxL b c.data.toList m.data.toList d.data.toList).toArray⟩)∧Bw w w':=by
 have HO:=Zc op;rw [hk] at HO;have HO:Hid (∀ w,_):=HO;have HI:Hid (∀ w,_):=Zio b c m d hc hm hd;clear hk;go_enter Tryz.func116,Tryz.ntmps116;go_wp2_with (first
  | (go_at_call 115;refine ((HO.out) _).mono ?_;rintro e w0 ⟨rfl,hw0⟩;rw [hw0];clear hw0 HO)
  | (go_at_call 151;refine ((HI.out) _).mono ?_;rintro e w1 ⟨rfl,hb1⟩;have hB1:Hid (Bw w w1):=sqT hb1;clear hb1))
 go_ret
 exact ⟨rfl,hB1.out⟩
theorem write_7 (op n:Int) (hn1:-9223372036854775808≤n) (hn2:n≤9223372036854775807) (hk:opdI op=7) (t:ByteArray) (b:Bool) (c m d:ByteArray) (ht:t.size≤2000) (w:World) (hG:TenIn w):Calls Tryz.prog 116 #[.agg #[.int .i64 op,.int .i64 n,.string t,.bool b,.string c,.string m,.string d]] w fun e w'=>e=.returned (.string ⟨(Lib.itoa n++32::t.data.toList).toArray⟩)∧Bw w w':=by
 have HO:=Zc op;rw [hk] at HO;have HO:Hid (∀ w,_):=HO;clear hk;have hz:=Xx n hn1 hn2;obtain ⟨X,hX⟩:∃ X:ByteArray,X=⟨(Lib.itoa n).toArray⟩:=⟨_,rfl⟩;obtain ⟨BX,hBX⟩:∃ BX,BX=w.alloc (.cells #[.int .i64 op,.int .i64 n,.string t,.bool b,.string c,.string m,.string d] 73):=⟨_,rfl⟩;have HGB:Hid (TenIn BX):=by rw [hBX];exact hG.keep ((Below.refl _ _).alloc (Nat.le_refl _) _)
 have hBs:BX.heap.size=w.heap.size+1:=by rw [hBX];simp
 have HI:Hid (∀ w',Hid (Below (w.heap.size+1) BX w')→Calls Tryz.prog 36 #[.int .i64 n] w' fun e w''=>e=.returned (.string X)∧Hid (Below (w.heap.size+1) BX w'')) :=
  fun w' h=>(Qq n hn1 hn2 w' (HGB.out.keep (by unfold Bw;rw [hBs];exact h.out))).mono fun e w'' ⟨he,hb⟩=>⟨by rw [he,hX],h.out.trans (hb.mono (by have:=h.out.size;omega))⟩
 obtain ⟨σ,V,V1,V2⟩:∃ (σ:Type) (V:σ→World),Hid (∀ s,Hid (Below (w.heap.size+1) BX (V s)))∧Hid (∀ w',Hid (Below (w.heap.size+1) BX w')→∃ s,w'=V s) :=
  ⟨{w' // Hid (Below (w.heap.size+1) BX w')},Subtype.val,fun s=>s.2,fun w q=>⟨⟨w,q⟩,rfl⟩⟩
 have T0:Hid (Below (w.heap.size+1) BX BX.drew):=(Below.refl _ _).drew;have hne:Nonempty σ:=(V2.out _ T0).elim fun s _=>⟨s⟩;have HX:Hid (X=⟨(Lib.itoa n).toArray⟩):=hX;rw [← hX] at hz;clear hBs hX HGB hG;subst hBX;have q1:∀ s,(V s).cell? ⟨w.heap.size,1,none⟩=some (.int .i64 n):=fun s=>((V1.out s).out.cell (p:=⟨w.heap.size,1,none⟩) (by simp)).trans (by simp [go_sem]);have q2:∀ s,(V s).cell? ⟨w.heap.size,2,none⟩=some (.string t):=fun s=>((V1.out s).out.cell (p:=⟨w.heap.size,2,none⟩) (by simp)).trans (by simp [go_sem]);have HB:Hid (∀ s,Bw w (V s)):=fun s=>((Below.refl w.heap.size w).alloc (Nat.le_refl _) _).trans ((V1.out s).out.mono (by omega));go_enter Tryz.func116,Tryz.ntmps116;go_wp2_with (go_at_call 115;refine ((HO.out) _).mono ?_;rintro e w0 ⟨rfl,hw0⟩;rw [hw0];clear hw0 HO)
 refine Zs (C:=fun w'=>∃ s,w'=V s) (by kernel_rfl) (by kernel_rfl) (V2.out _ T0) ?_
 repeat (go_big_quiet_step ((go_at_call 36;exact (HI.out _ (V1.out _)).mono fun e w'' z=>⟨z.1,V2.out _ z.2⟩)))
 refine wpQuiet_nil ?_;intro w9 hw9;obtain ⟨s9,rfl⟩:=hw9;go_wp2;go_ret
 refine ⟨show Ending.returned (.string (X++⟨#[32]⟩++t))=_ from ?_,HB.out _⟩
 congr 2
 rw [HX.out];apply Zf;simp [ByteArray.data_append]
theorem oprint_0 (op n:Int) (hk:opdI op=0) (t:ByteArray) (b:Bool) (c m d:ByteArray) (ht:t.size≤maxLen) (hc:c.size≤maxLen) (hm:m.size≤maxLen) (hd:d.size≤maxLen) (h:ickE op n t b c m d=0) (w:World) (hG:GIn w):Calls Tryz.prog 74 #[.agg #[.int .i64 op,.int .i64 n,.string t,.bool b,.string c,.string m,.string d]] w fun e w'=>e=.returned (.tuple #[.string ⟨(prtL op n t b c m d).toArray⟩,.int .i64 0])∧Bw w w':=by
 have HC:=Yx op n t b c m d ht hc hm hd;rw [h] at HC;have HC:Hid (∀ w,_):=HC;have hop:=J6 h;have h2:t.size≤2000:=Xt h;have HO:=Zc op;rw [hk] at HO;have HO:Hid (∀ w,_):=HO;have hw0:opB op=true:=(Zak op).2 hop;have HW:Hid (∀ w,WordsIn w→Calls Tryz.prog 114 #[.int .i64 op] w fun e w'=>e=.returned (.tuple #[.string ⟨(Z4 op).toArray⟩,.int .i64 0])∧w'=w):=fun w hw=>by
  have:=X2 op w hw;rw [wrdL,wrdE,hw0] at this;exact this
 have hwl:(⟨(Z4 op).toArray⟩:ByteArray).size≤20:=by rw [Zk];exact Xm op
 have HP:Hid (prtL op n t b c m d=Z4 op):=by rw [Hid,prtL,if_pos h,hk];exact List.append_nil _
 generalize prtL op n t b c m d=px at *;obtain ⟨WX,hWX⟩:∃ WX:ByteArray,WX=⟨(Z4 op).toArray⟩:=⟨_,rfl⟩;rw [← hWX] at HW hwl;have HWX:Hid (WX=⟨(Z4 op).toArray⟩):=hWX;clear hWX hk h hop h2 hw0 ht hc hm hd;go_enter Tryz.func74,Tryz.ntmps74;go_wp2_with (first
  | (go_at_call 113;refine ((HC.out) _).mono ?_;rintro e w1 ⟨rfl,hb1⟩;have hs1:w.heap.size<w1.heap.size:=sqS hb1;have hc10:w1.cell? ⟨w.heap.size,0,none⟩=some (.int .i64 op):=(hb1.cell (p:=⟨w.heap.size,0,none⟩) (by first|(simp [*];done)|(simp;omega))).trans (by simp [go_sem, *]);have hc11:w1.cell? ⟨w.heap.size,1,none⟩=some (.int .i64 n):=(hb1.cell (p:=⟨w.heap.size,1,none⟩) (by first|(simp [*];done)|(simp;omega))).trans (by simp [go_sem, *]);have hc12:w1.cell? ⟨w.heap.size,2,none⟩=some (.string t):=(hb1.cell (p:=⟨w.heap.size,2,none⟩) (by first|(simp [*];done)|(simp;omega))).trans (by simp [go_sem, *]);have hc13:w1.cell? ⟨w.heap.size,3,none⟩=some (.bool b):=(hb1.cell (p:=⟨w.heap.size,3,none⟩) (by first|(simp [*];done)|(simp;omega))).trans (by simp [go_sem, *]);have hc14:w1.cell? ⟨w.heap.size,4,none⟩=some (.string c):=(hb1.cell (p:=⟨w.heap.size,4,none⟩) (by first|(simp [*];done)|(simp;omega))).trans (by simp [go_sem, *]);have hc15:w1.cell? ⟨w.heap.size,5,none⟩=some (.string m):=(hb1.cell (p:=⟨w.heap.size,5,none⟩) (by first|(simp [*];done)|(simp;omega))).trans (by simp [go_sem, *]);have hc16:w1.cell? ⟨w.heap.size,6,none⟩=some (.string d):=(hb1.cell (p:=⟨w.heap.size,6,none⟩) (by first|(simp [*];done)|(simp;omega))).trans (by simp [go_sem, *]);have hB1:Hid (Bw w w1):=sqT hb1;have hG1:Hid (GIn w1):=hG.keep hB1.out;clear hb1)
  | (go_at_call 114;refine ((HW.out) _ hG1.out.1).mono ?_;rintro e w2 ⟨rfl,hw2⟩;rw [hw2];clear hw2)
  | (go_at_call 115;refine ((HO.out) _).mono ?_;rintro e w3 ⟨rfl,hw3⟩;rw [hw3];clear hw3))
 exact bodyPost_ret (v:=.tuple #[.string WX,.int .i64 0]) (by simp [results,Tryz.results74,go_sem, *]) rfl ⟨by rw [HP.out,HWX.out],hB1.out⟩
theorem oprint_1 (op n:Int) (hn1:-9223372036854775808≤n) (hn2:n≤9223372036854775807) (hk:opdI op=1) (t:ByteArray) (b:Bool) (c m d:ByteArray) (ht:t.size≤maxLen) (hc:c.size≤maxLen) (hm:m.size≤maxLen) (hd:d.size≤maxLen) (h:ickE op n t b c m d=0) (w:World) (hG:GIn w):Calls Tryz.prog 74 #[.agg #[.int .i64 op,.int .i64 n,.string t,.bool b,.string c,.string m,.string d]] w fun e w'=>e=.returned (.tuple #[.string ⟨(prtL op n t b c m d).toArray⟩,.int .i64 0])∧Bw w w':=by
 have HC:=Yx op n t b c m d ht hc hm hd;rw [h] at HC;have HC:Hid (∀ w,_):=HC;have hop:=J6 h;have h2:t.size≤2000:=Xt h;have HO:=Zc op;rw [hk] at HO;have HO:Hid (∀ w,_):=HO;have hw0:opB op=true:=(Zak op).2 hop;have HW:Hid (∀ w,WordsIn w→Calls Tryz.prog 114 #[.int .i64 op] w fun e w'=>e=.returned (.tuple #[.string ⟨(Z4 op).toArray⟩,.int .i64 0])∧w'=w):=fun w hw=>by
  have:=X2 op w hw;rw [wrdL,wrdE,hw0] at this;exact this
 have hwl:(⟨(Z4 op).toArray⟩:ByteArray).size≤20:=by rw [Zk];exact Xm op
 have HR:Hid (∀ w,GIn w→Calls Tryz.prog 116 #[.agg #[.int .i64 op,.int .i64 n,.string t,.bool b,.string c,.string m,.string d]] w fun e w'=>e=.returned (.string ⟨(Lib.itoa n).toArray⟩)∧Bw w w'):=fun w h=>write_1 op n hn1 hn2 hk t b c m d w h.2;have hrl:(⟨(Lib.itoa n).toArray⟩:ByteArray).size≤5000:=by
  have:=Xx n hn1 hn2;omega
 have HP:Hid (prtL op n t b c m d=Z4 op++32::(Lib.itoa n)):=by rw [Hid,prtL,if_pos h,hk];rfl
 generalize prtL op n t b c m d=px at *;obtain ⟨WX,hWX⟩:∃ WX:ByteArray,WX=⟨(Z4 op).toArray⟩:=⟨_,rfl⟩;rw [← hWX] at HW hwl;have HWX:Hid (WX=⟨(Z4 op).toArray⟩):=hWX;obtain ⟨RX,hRX⟩:∃ RX:ByteArray,RX=⟨(Lib.itoa n).toArray⟩:=⟨_,rfl⟩;rw [← hRX] at HR hrl;have HRX:Hid (RX=⟨(Lib.itoa n).toArray⟩):=hRX;clear hRX;clear hWX hk h hop h2 hw0 ht hc hm hd;go_enter Tryz.func74,Tryz.ntmps74;go_wp2_with (first
  | (go_at_call 113;refine ((HC.out) _).mono ?_;rintro e w1 ⟨rfl,hb1⟩;have hs1:w.heap.size<w1.heap.size:=sqS hb1;have hc10:w1.cell? ⟨w.heap.size,0,none⟩=some (.int .i64 op):=(hb1.cell (p:=⟨w.heap.size,0,none⟩) (by first|(simp [*];done)|(simp;omega))).trans (by simp [go_sem, *]);have hc11:w1.cell? ⟨w.heap.size,1,none⟩=some (.int .i64 n):=(hb1.cell (p:=⟨w.heap.size,1,none⟩) (by first|(simp [*];done)|(simp;omega))).trans (by simp [go_sem, *]);have hc12:w1.cell? ⟨w.heap.size,2,none⟩=some (.string t):=(hb1.cell (p:=⟨w.heap.size,2,none⟩) (by first|(simp [*];done)|(simp;omega))).trans (by simp [go_sem, *]);have hc13:w1.cell? ⟨w.heap.size,3,none⟩=some (.bool b):=(hb1.cell (p:=⟨w.heap.size,3,none⟩) (by first|(simp [*];done)|(simp;omega))).trans (by simp [go_sem, *]);have hc14:w1.cell? ⟨w.heap.size,4,none⟩=some (.string c):=(hb1.cell (p:=⟨w.heap.size,4,none⟩) (by first|(simp [*];done)|(simp;omega))).trans (by simp [go_sem, *]);have hc15:w1.cell? ⟨w.heap.size,5,none⟩=some (.string m):=(hb1.cell (p:=⟨w.heap.size,5,none⟩) (by first|(simp [*];done)|(simp;omega))).trans (by simp [go_sem, *]);have hc16:w1.cell? ⟨w.heap.size,6,none⟩=some (.string d):=(hb1.cell (p:=⟨w.heap.size,6,none⟩) (by first|(simp [*];done)|(simp;omega))).trans (by simp [go_sem, *]);have hB1:Hid (Bw w w1):=sqT hb1;have hG1:Hid (GIn w1):=hG.keep hB1.out;clear hb1)
  | (go_at_call 114;refine ((HW.out) _ hG1.out.1).mono ?_;rintro e w2 ⟨rfl,hw2⟩;rw [hw2];clear hw2)
  | (go_at_call 115;refine ((HO.out) _).mono ?_;rintro e w3 ⟨rfl,hw3⟩;rw [hw3];clear hw3)
  | (go_at_call 116;refine ((HR.out) _ hG1.out).mono ?_;rintro e w4 ⟨rfl,hb4⟩))
 refine bodyPost_ret (v:=.tuple #[.string (WX++⟨#[32]⟩++RX),.int .i64 0]) (by simp [results,Tryz.results74,go_sem, *]) rfl ⟨?_,hB1.out.trans (hb4.mono hB1.out.size)⟩
 congr 5
 rw [HP.out,HWX.out,HRX.out];apply Zf;simp [ByteArray.data_append]
theorem oprint_2 (op n:Int) (hn1:-9223372036854775808≤n) (hn2:n≤9223372036854775807) (hk:opdI op=2) (t:ByteArray) (b:Bool) (c m d:ByteArray) (ht:t.size≤maxLen) (hc:c.size≤maxLen) (hm:m.size≤maxLen) (hd:d.size≤maxLen) (h:ickE op n t b c m d=0) (w:World) (hG:GIn w):Calls Tryz.prog 74 #[.agg #[.int .i64 op,.int .i64 n,.string t,.bool b,.string c,.string m,.string d]] w fun e w'=>e=.returned (.tuple #[.string ⟨(prtL op n t b c m d).toArray⟩,.int .i64 0])∧Bw w w':=by
 have HC:=Yx op n t b c m d ht hc hm hd;rw [h] at HC;have HC:Hid (∀ w,_):=HC;have hop:=J6 h;have h2:t.size≤2000:=Xt h;have HO:=Zc op;rw [hk] at HO;have HO:Hid (∀ w,_):=HO;have hw0:opB op=true:=(Zak op).2 hop;have HW:Hid (∀ w,WordsIn w→Calls Tryz.prog 114 #[.int .i64 op] w fun e w'=>e=.returned (.tuple #[.string ⟨(Z4 op).toArray⟩,.int .i64 0])∧w'=w):=fun w hw=>by
  have:=X2 op w hw;rw [wrdL,wrdE,hw0] at this;exact this
 have hwl:(⟨(Z4 op).toArray⟩:ByteArray).size≤20:=by rw [Zk];exact Xm op
 have HR:Hid (∀ w,GIn w→Calls Tryz.prog 116 #[.agg #[.int .i64 op,.int .i64 n,.string t,.bool b,.string c,.string m,.string d]] w fun e w'=>e=.returned (.string ⟨(Lib.itoa n).toArray⟩)∧Bw w w'):=fun w h=>write_2 op n hn1 hn2 hk t b c m d w h.2;have hrl:(⟨(Lib.itoa n).toArray⟩:ByteArray).size≤5000:=by
  have:=Xx n hn1 hn2;omega
 have HP:Hid (prtL op n t b c m d=Z4 op++32::(Lib.itoa n)):=by rw [Hid,prtL,if_pos h,hk];rfl
 generalize prtL op n t b c m d=px at *;obtain ⟨WX,hWX⟩:∃ WX:ByteArray,WX=⟨(Z4 op).toArray⟩:=⟨_,rfl⟩;rw [← hWX] at HW hwl;have HWX:Hid (WX=⟨(Z4 op).toArray⟩):=hWX;obtain ⟨RX,hRX⟩:∃ RX:ByteArray,RX=⟨(Lib.itoa n).toArray⟩:=⟨_,rfl⟩;rw [← hRX] at HR hrl;have HRX:Hid (RX=⟨(Lib.itoa n).toArray⟩):=hRX;clear hRX;clear hWX hk h hop h2 hw0 ht hc hm hd;go_enter Tryz.func74,Tryz.ntmps74;go_wp2_with (first
  | (go_at_call 113;refine ((HC.out) _).mono ?_;rintro e w1 ⟨rfl,hb1⟩;have hs1:w.heap.size<w1.heap.size:=sqS hb1;have hc10:w1.cell? ⟨w.heap.size,0,none⟩=some (.int .i64 op):=(hb1.cell (p:=⟨w.heap.size,0,none⟩) (by first|(simp [*];done)|(simp;omega))).trans (by simp [go_sem, *]);have hc11:w1.cell? ⟨w.heap.size,1,none⟩=some (.int .i64 n):=(hb1.cell (p:=⟨w.heap.size,1,none⟩) (by first|(simp [*];done)|(simp;omega))).trans (by simp [go_sem, *]);have hc12:w1.cell? ⟨w.heap.size,2,none⟩=some (.string t):=(hb1.cell (p:=⟨w.heap.size,2,none⟩) (by first|(simp [*];done)|(simp;omega))).trans (by simp [go_sem, *]);have hc13:w1.cell? ⟨w.heap.size,3,none⟩=some (.bool b):=(hb1.cell (p:=⟨w.heap.size,3,none⟩) (by first|(simp [*];done)|(simp;omega))).trans (by simp [go_sem, *]);have hc14:w1.cell? ⟨w.heap.size,4,none⟩=some (.string c):=(hb1.cell (p:=⟨w.heap.size,4,none⟩) (by first|(simp [*];done)|(simp;omega))).trans (by simp [go_sem, *]);have hc15:w1.cell? ⟨w.heap.size,5,none⟩=some (.string m):=(hb1.cell (p:=⟨w.heap.size,5,none⟩) (by first|(simp [*];done)|(simp;omega))).trans (by simp [go_sem, *]);have hc16:w1.cell? ⟨w.heap.size,6,none⟩=some (.string d):=(hb1.cell (p:=⟨w.heap.size,6,none⟩) (by first|(simp [*];done)|(simp;omega))).trans (by simp [go_sem, *]);have hB1:Hid (Bw w w1):=sqT hb1;have hG1:Hid (GIn w1):=hG.keep hB1.out;clear hb1)
  | (go_at_call 114;refine ((HW.out) _ hG1.out.1).mono ?_;rintro e w2 ⟨rfl,hw2⟩;rw [hw2];clear hw2)
  | (go_at_call 115;refine ((HO.out) _).mono ?_;rintro e w3 ⟨rfl,hw3⟩;rw [hw3];clear hw3)
  | (go_at_call 116;refine ((HR.out) _ hG1.out).mono ?_;rintro e w4 ⟨rfl,hb4⟩))
 refine bodyPost_ret (v:=.tuple #[.string (WX++⟨#[32]⟩++RX),.int .i64 0]) (by simp [results,Tryz.results74,go_sem, *]) rfl ⟨?_,hB1.out.trans (hb4.mono hB1.out.size)⟩
 congr 5
 rw [HP.out,HWX.out,HRX.out];apply Zf;simp [ByteArray.data_append]
theorem oprint_3 (op n:Int) (hn1:-9223372036854775808≤n) (hn2:n≤9223372036854775807) (hk:opdI op=3) (t:ByteArray) (b:Bool) (c m d:ByteArray) (ht:t.size≤maxLen) (hc:c.size≤maxLen) (hm:m.size≤maxLen) (hd:d.size≤maxLen) (h:ickE op n t b c m d=0) (w:World) (hG:GIn w):Calls Tryz.prog 74 #[.agg #[.int .i64 op,.int .i64 n,.string t,.bool b,.string c,.string m,.string d]] w fun e w'=>e=.returned (.tuple #[.string ⟨(prtL op n t b c m d).toArray⟩,.int .i64 0])∧Bw w w':=by
 have HC:=Yx op n t b c m d ht hc hm hd;rw [h] at HC;have HC:Hid (∀ w,_):=HC;have hop:=J6 h;have h2:t.size≤2000:=Xt h;have HO:=Zc op;rw [hk] at HO;have HO:Hid (∀ w,_):=HO;have hw0:opB op=true:=(Zak op).2 hop;have HW:Hid (∀ w,WordsIn w→Calls Tryz.prog 114 #[.int .i64 op] w fun e w'=>e=.returned (.tuple #[.string ⟨(Z4 op).toArray⟩,.int .i64 0])∧w'=w):=fun w hw=>by
  have:=X2 op w hw;rw [wrdL,wrdE,hw0] at this;exact this
 have hwl:(⟨(Z4 op).toArray⟩:ByteArray).size≤20:=by rw [Zk];exact Xm op
 have HR:Hid (∀ w,GIn w→Calls Tryz.prog 116 #[.agg #[.int .i64 op,.int .i64 n,.string t,.bool b,.string c,.string m,.string d]] w fun e w'=>e=.returned (.string ⟨(Lib.itoa n).toArray⟩)∧Bw w w'):=fun w h=>write_3 op n hn1 hn2 hk t b c m d w h.2;have hrl:(⟨(Lib.itoa n).toArray⟩:ByteArray).size≤5000:=by
  have:=Xx n hn1 hn2;omega
 have HP:Hid (prtL op n t b c m d=Z4 op++32::(Lib.itoa n)):=by rw [Hid,prtL,if_pos h,hk];rfl
 generalize prtL op n t b c m d=px at *;obtain ⟨WX,hWX⟩:∃ WX:ByteArray,WX=⟨(Z4 op).toArray⟩:=⟨_,rfl⟩;rw [← hWX] at HW hwl;have HWX:Hid (WX=⟨(Z4 op).toArray⟩):=hWX;obtain ⟨RX,hRX⟩:∃ RX:ByteArray,RX=⟨(Lib.itoa n).toArray⟩:=⟨_,rfl⟩;rw [← hRX] at HR hrl;have HRX:Hid (RX=⟨(Lib.itoa n).toArray⟩):=hRX;clear hRX;clear hWX hk h hop h2 hw0 ht hc hm hd;go_enter Tryz.func74,Tryz.ntmps74;go_wp2_with (first
  | (go_at_call 113;refine ((HC.out) _).mono ?_;rintro e w1 ⟨rfl,hb1⟩;have hs1:w.heap.size<w1.heap.size:=sqS hb1;have hc10:w1.cell? ⟨w.heap.size,0,none⟩=some (.int .i64 op):=(hb1.cell (p:=⟨w.heap.size,0,none⟩) (by first|(simp [*];done)|(simp;omega))).trans (by simp [go_sem, *]);have hc11:w1.cell? ⟨w.heap.size,1,none⟩=some (.int .i64 n):=(hb1.cell (p:=⟨w.heap.size,1,none⟩) (by first|(simp [*];done)|(simp;omega))).trans (by simp [go_sem, *]);have hc12:w1.cell? ⟨w.heap.size,2,none⟩=some (.string t):=(hb1.cell (p:=⟨w.heap.size,2,none⟩) (by first|(simp [*];done)|(simp;omega))).trans (by simp [go_sem, *]);have hc13:w1.cell? ⟨w.heap.size,3,none⟩=some (.bool b):=(hb1.cell (p:=⟨w.heap.size,3,none⟩) (by first|(simp [*];done)|(simp;omega))).trans (by simp [go_sem, *]);have hc14:w1.cell? ⟨w.heap.size,4,none⟩=some (.string c):=(hb1.cell (p:=⟨w.heap.size,4,none⟩) (by first|(simp [*];done)|(simp;omega))).trans (by simp [go_sem, *]);have hc15:w1.cell? ⟨w.heap.size,5,none⟩=some (.string m):=(hb1.cell (p:=⟨w.heap.size,5,none⟩) (by first|(simp [*];done)|(simp;omega))).trans (by simp [go_sem, *]);have hc16:w1.cell? ⟨w.heap.size,6,none⟩=some (.string d):=(hb1.cell (p:=⟨w.heap.size,6,none⟩) (by first|(simp [*];done)|(simp;omega))).trans (by simp [go_sem, *]);have hB1:Hid (Bw w w1):=sqT hb1;have hG1:Hid (GIn w1):=hG.keep hB1.out;clear hb1)
  | (go_at_call 114;refine ((HW.out) _ hG1.out.1).mono ?_;rintro e w2 ⟨rfl,hw2⟩;rw [hw2];clear hw2)
  | (go_at_call 115;refine ((HO.out) _).mono ?_;rintro e w3 ⟨rfl,hw3⟩;rw [hw3];clear hw3)
  | (go_at_call 116;refine ((HR.out) _ hG1.out).mono ?_;rintro e w4 ⟨rfl,hb4⟩))
 refine bodyPost_ret (v:=.tuple #[.string (WX++⟨#[32]⟩++RX),.int .i64 0]) (by simp [results,Tryz.results74,go_sem, *]) rfl ⟨?_,hB1.out.trans (hb4.mono hB1.out.size)⟩
 congr 5
 rw [HP.out,HWX.out,HRX.out];apply Zf;simp [ByteArray.data_append]
theorem oprint_4 (op n:Int) (hk:opdI op=4) (t:ByteArray) (b:Bool) (c m d:ByteArray) (ht:t.size≤maxLen) (hc:c.size≤maxLen) (hm:m.size≤maxLen) (hd:d.size≤maxLen) (h:ickE op n t b c m d=0) (w:World) (hG:GIn w):Calls Tryz.prog 74 #[.agg #[.int .i64 op,.int .i64 n,.string t,.bool b,.string c,.string m,.string d]] w fun e w'=>e=.returned (.tuple #[.string ⟨(prtL op n t b c m d).toArray⟩,.int .i64 0])∧Bw w w':=by
 have HC:=Yx op n t b c m d ht hc hm hd;rw [h] at HC;have HC:Hid (∀ w,_):=HC;have hop:=J6 h;have h2:t.size≤2000:=Xt h;have HO:=Zc op;rw [hk] at HO;have HO:Hid (∀ w,_):=HO;have hw0:opB op=true:=(Zak op).2 hop;have HW:Hid (∀ w,WordsIn w→Calls Tryz.prog 114 #[.int .i64 op] w fun e w'=>e=.returned (.tuple #[.string ⟨(Z4 op).toArray⟩,.int .i64 0])∧w'=w):=fun w hw=>by
  have:=X2 op w hw;rw [wrdL,wrdE,hw0] at this;exact this
 have hwl:(⟨(Z4 op).toArray⟩:ByteArray).size≤20:=by rw [Zk];exact Xm op
 have HR:Hid (∀ w,GIn w→Calls Tryz.prog 116 #[.agg #[.int .i64 op,.int .i64 n,.string t,.bool b,.string c,.string m,.string d]] w fun e w'=>e=.returned (.string ⟨(t.data.toList).toArray⟩)∧Bw w w'):=fun w _=>write_4 op n hk t b c m d w;have hrl:(⟨(t.data.toList).toArray⟩:ByteArray).size≤5000:=by
  rw [Zk];simp;omega
 have HP:Hid (prtL op n t b c m d=Z4 op++32::(t.data.toList)):=by rw [Hid,prtL,if_pos h,hk];rfl
 generalize prtL op n t b c m d=px at *;obtain ⟨WX,hWX⟩:∃ WX:ByteArray,WX=⟨(Z4 op).toArray⟩:=⟨_,rfl⟩;rw [← hWX] at HW hwl;have HWX:Hid (WX=⟨(Z4 op).toArray⟩):=hWX;obtain ⟨RX,hRX⟩:∃ RX:ByteArray,RX=⟨(t.data.toList).toArray⟩:=⟨_,rfl⟩;rw [← hRX] at HR hrl;have HRX:Hid (RX=⟨(t.data.toList).toArray⟩):=hRX;clear hRX;clear hWX hk h hop h2 hw0 ht hc hm hd;go_enter Tryz.func74,Tryz.ntmps74;go_wp2_with (first
  | (go_at_call 113;refine ((HC.out) _).mono ?_;rintro e w1 ⟨rfl,hb1⟩;have hs1:w.heap.size<w1.heap.size:=sqS hb1;have hc10:w1.cell? ⟨w.heap.size,0,none⟩=some (.int .i64 op):=(hb1.cell (p:=⟨w.heap.size,0,none⟩) (by first|(simp [*];done)|(simp;omega))).trans (by simp [go_sem, *]);have hc11:w1.cell? ⟨w.heap.size,1,none⟩=some (.int .i64 n):=(hb1.cell (p:=⟨w.heap.size,1,none⟩) (by first|(simp [*];done)|(simp;omega))).trans (by simp [go_sem, *]);have hc12:w1.cell? ⟨w.heap.size,2,none⟩=some (.string t):=(hb1.cell (p:=⟨w.heap.size,2,none⟩) (by first|(simp [*];done)|(simp;omega))).trans (by simp [go_sem, *]);have hc13:w1.cell? ⟨w.heap.size,3,none⟩=some (.bool b):=(hb1.cell (p:=⟨w.heap.size,3,none⟩) (by first|(simp [*];done)|(simp;omega))).trans (by simp [go_sem, *]);have hc14:w1.cell? ⟨w.heap.size,4,none⟩=some (.string c):=(hb1.cell (p:=⟨w.heap.size,4,none⟩) (by first|(simp [*];done)|(simp;omega))).trans (by simp [go_sem, *]);have hc15:w1.cell? ⟨w.heap.size,5,none⟩=some (.string m):=(hb1.cell (p:=⟨w.heap.size,5,none⟩) (by first|(simp [*];done)|(simp;omega))).trans (by simp [go_sem, *]);have hc16:w1.cell? ⟨w.heap.size,6,none⟩=some (.string d):=(hb1.cell (p:=⟨w.heap.size,6,none⟩) (by first|(simp [*];done)|(simp;omega))).trans (by simp [go_sem, *]);have hB1:Hid (Bw w w1):=sqT hb1;have hG1:Hid (GIn w1):=hG.keep hB1.out;clear hb1)
  | (go_at_call 114;refine ((HW.out) _ hG1.out.1).mono ?_;rintro e w2 ⟨rfl,hw2⟩;rw [hw2];clear hw2)
  | (go_at_call 115;refine ((HO.out) _).mono ?_;rintro e w3 ⟨rfl,hw3⟩;rw [hw3];clear hw3)
  | (go_at_call 116;refine ((HR.out) _ hG1.out).mono ?_;rintro e w4 ⟨rfl,hb4⟩))
 refine bodyPost_ret (v:=.tuple #[.string (WX++⟨#[32]⟩++RX),.int .i64 0]) (by simp [results,Tryz.results74,go_sem, *]) rfl ⟨?_,hB1.out.trans (hb4.mono hB1.out.size)⟩
 congr 5
 rw [HP.out,HWX.out,HRX.out];apply Zf;simp [ByteArray.data_append]
theorem oprint_5 (op n:Int) (hk:opdI op=5) (t:ByteArray) (b:Bool) (c m d:ByteArray) (ht:t.size≤maxLen) (hc:c.size≤maxLen) (hm:m.size≤maxLen) (hd:d.size≤maxLen) (h:ickE op n t b c m d=0) (w:World) (hG:GIn w):Calls Tryz.prog 74 #[.agg #[.int .i64 op,.int .i64 n,.string t,.bool b,.string c,.string m,.string d]] w fun e w'=>e=.returned (.tuple #[.string ⟨(prtL op n t b c m d).toArray⟩,.int .i64 0])∧Bw w w':=by
 have HC:=Yx op n t b c m d ht hc hm hd;rw [h] at HC;have HC:Hid (∀ w,_):=HC;have hop:=J6 h;have h2:t.size≤2000:=Xt h;have HO:=Zc op;rw [hk] at HO;have HO:Hid (∀ w,_):=HO;have hw0:opB op=true:=(Zak op).2 hop;have HW:Hid (∀ w,WordsIn w→Calls Tryz.prog 114 #[.int .i64 op] w fun e w'=>e=.returned (.tuple #[.string ⟨(Z4 op).toArray⟩,.int .i64 0])∧w'=w):=fun w hw=>by
  have:=X2 op w hw;rw [wrdL,wrdE,hw0] at this;exact this
 have hwl:(⟨(Z4 op).toArray⟩:ByteArray).size≤20:=by rw [Zk];exact Xm op
 have HR:Hid (∀ w,GIn w→Calls Tryz.prog 116 #[.agg #[.int .i64 op,.int .i64 n,.string t,.bool b,.string c,.string m,.string d]] w fun e w'=>e=.returned (.string ⟨(t.data.toList).toArray⟩)∧Bw w w'):=fun w _=>write_5 op n hk t b c m d w;have hrl:(⟨(t.data.toList).toArray⟩:ByteArray).size≤5000:=by
  rw [Zk];simp;omega
 have HP:Hid (prtL op n t b c m d=Z4 op++32::(t.data.toList)):=by rw [Hid,prtL,if_pos h,hk];rfl
 generalize prtL op n t b c m d=px at *;obtain ⟨WX,hWX⟩:∃ WX:ByteArray,WX=⟨(Z4 op).toArray⟩:=⟨_,rfl⟩;rw [← hWX] at HW hwl;have HWX:Hid (WX=⟨(Z4 op).toArray⟩):=hWX;obtain ⟨RX,hRX⟩:∃ RX:ByteArray,RX=⟨(t.data.toList).toArray⟩:=⟨_,rfl⟩;rw [← hRX] at HR hrl;have HRX:Hid (RX=⟨(t.data.toList).toArray⟩):=hRX;clear hRX;clear hWX hk h hop h2 hw0 ht hc hm hd;go_enter Tryz.func74,Tryz.ntmps74;go_wp2_with (first
  | (go_at_call 113;refine ((HC.out) _).mono ?_;rintro e w1 ⟨rfl,hb1⟩;have hs1:w.heap.size<w1.heap.size:=sqS hb1;have hc10:w1.cell? ⟨w.heap.size,0,none⟩=some (.int .i64 op):=(hb1.cell (p:=⟨w.heap.size,0,none⟩) (by first|(simp [*];done)|(simp;omega))).trans (by simp [go_sem, *]);have hc11:w1.cell? ⟨w.heap.size,1,none⟩=some (.int .i64 n):=(hb1.cell (p:=⟨w.heap.size,1,none⟩) (by first|(simp [*];done)|(simp;omega))).trans (by simp [go_sem, *]);have hc12:w1.cell? ⟨w.heap.size,2,none⟩=some (.string t):=(hb1.cell (p:=⟨w.heap.size,2,none⟩) (by first|(simp [*];done)|(simp;omega))).trans (by simp [go_sem, *]);have hc13:w1.cell? ⟨w.heap.size,3,none⟩=some (.bool b):=(hb1.cell (p:=⟨w.heap.size,3,none⟩) (by first|(simp [*];done)|(simp;omega))).trans (by simp [go_sem, *]);have hc14:w1.cell? ⟨w.heap.size,4,none⟩=some (.string c):=(hb1.cell (p:=⟨w.heap.size,4,none⟩) (by first|(simp [*];done)|(simp;omega))).trans (by simp [go_sem, *]);have hc15:w1.cell? ⟨w.heap.size,5,none⟩=some (.string m):=(hb1.cell (p:=⟨w.heap.size,5,none⟩) (by first|(simp [*];done)|(simp;omega))).trans (by simp [go_sem, *]);have hc16:w1.cell? ⟨w.heap.size,6,none⟩=some (.string d):=(hb1.cell (p:=⟨w.heap.size,6,none⟩) (by first|(simp [*];done)|(simp;omega))).trans (by simp [go_sem, *]);have hB1:Hid (Bw w w1):=sqT hb1;have hG1:Hid (GIn w1):=hG.keep hB1.out;clear hb1)
  | (go_at_call 114;refine ((HW.out) _ hG1.out.1).mono ?_;rintro e w2 ⟨rfl,hw2⟩;rw [hw2];clear hw2)
  | (go_at_call 115;refine ((HO.out) _).mono ?_;rintro e w3 ⟨rfl,hw3⟩;rw [hw3];clear hw3)
  | (go_at_call 116;refine ((HR.out) _ hG1.out).mono ?_;rintro e w4 ⟨rfl,hb4⟩))
 refine bodyPost_ret (v:=.tuple #[.string (WX++⟨#[32]⟩++RX),.int .i64 0]) (by simp [results,Tryz.results74,go_sem, *]) rfl ⟨?_,hB1.out.trans (hb4.mono hB1.out.size)⟩
 congr 5
 rw [HP.out,HWX.out,HRX.out];apply Zf;simp [ByteArray.data_append]
theorem oprint_6 (op n:Int) (hk:opdI op=6) (t:ByteArray) (b:Bool) (c m d:ByteArray) (ht:t.size≤maxLen) (hc:c.size≤maxLen) (hm:m.size≤maxLen) (hd:d.size≤maxLen) (h:ickE op n t b c m d=0) (w:World) (hG:GIn w):Calls Tryz.prog 74 #[.agg #[.int .i64 op,.int .i64 n,.string t,.bool b,.string c,.string m,.string d]] w fun e w'=>e=.returned (.tuple #[.string ⟨(prtL op n t b c m d).toArray⟩,.int .i64 0])∧Bw w w':=by
 have HC:=Yx op n t b c m d ht hc hm hd;rw [h] at HC;have HC:Hid (∀ w,_):=HC;have hop:=J6 h;have h2:t.size≤2000:=Xt h;have HO:=Zc op;rw [hk] at HO;have HO:Hid (∀ w,_):=HO;have hw0:opB op=true:=(Zak op).2 hop;have HW:Hid (∀ w,WordsIn w→Calls Tryz.prog 114 #[.int .i64 op] w fun e w'=>e=.returned (.tuple #[.string ⟨(Z4 op).toArray⟩,.int .i64 0])∧w'=w):=fun w hw=>by
  have:=X2 op w hw;rw [wrdL,wrdE,hw0] at this;exact this
 have hwl:(⟨(Z4 op).toArray⟩:ByteArray).size≤20:=by rw [Zk];exact Xm op
 have HR:Hid (∀ w,GIn w→Calls Tryz.prog 116 #[.agg #[.int .i64 op,.int .i64 n,.string t,.bool b,.string c,.string m,.string d]] w fun e w'=>e=.returned (.string ⟨(t.data.toList).toArray⟩)∧Bw w w'):=fun w _=>write_6 op n hk t b c m d w;have hrl:(⟨(t.data.toList).toArray⟩:ByteArray).size≤5000:=by
  rw [Zk];simp;omega
 have HP:Hid (prtL op n t b c m d=Z4 op++32::(t.data.toList)):=by rw [Hid,prtL,if_pos h,hk];rfl
 generalize prtL op n t b c m d=px at *;obtain ⟨WX,hWX⟩:∃ WX:ByteArray,WX=⟨(Z4 op).toArray⟩:=⟨_,rfl⟩;rw [← hWX] at HW hwl;have HWX:Hid (WX=⟨(Z4 op).toArray⟩):=hWX;obtain ⟨RX,hRX⟩:∃ RX:ByteArray,RX=⟨(t.data.toList).toArray⟩:=⟨_,rfl⟩;rw [← hRX] at HR hrl;have HRX:Hid (RX=⟨(t.data.toList).toArray⟩):=hRX;clear hRX;clear hWX hk h hop h2 hw0 ht hc hm hd;go_enter Tryz.func74,Tryz.ntmps74;go_wp2_with (first
  | (go_at_call 113;refine ((HC.out) _).mono ?_;rintro e w1 ⟨rfl,hb1⟩;have hs1:w.heap.size<w1.heap.size:=sqS hb1;have hc10:w1.cell? ⟨w.heap.size,0,none⟩=some (.int .i64 op):=(hb1.cell (p:=⟨w.heap.size,0,none⟩) (by first|(simp [*];done)|(simp;omega))).trans (by simp [go_sem, *]);have hc11:w1.cell? ⟨w.heap.size,1,none⟩=some (.int .i64 n):=(hb1.cell (p:=⟨w.heap.size,1,none⟩) (by first|(simp [*];done)|(simp;omega))).trans (by simp [go_sem, *]);have hc12:w1.cell? ⟨w.heap.size,2,none⟩=some (.string t):=(hb1.cell (p:=⟨w.heap.size,2,none⟩) (by first|(simp [*];done)|(simp;omega))).trans (by simp [go_sem, *]);have hc13:w1.cell? ⟨w.heap.size,3,none⟩=some (.bool b):=(hb1.cell (p:=⟨w.heap.size,3,none⟩) (by first|(simp [*];done)|(simp;omega))).trans (by simp [go_sem, *]);have hc14:w1.cell? ⟨w.heap.size,4,none⟩=some (.string c):=(hb1.cell (p:=⟨w.heap.size,4,none⟩) (by first|(simp [*];done)|(simp;omega))).trans (by simp [go_sem, *]);have hc15:w1.cell? ⟨w.heap.size,5,none⟩=some (.string m):=(hb1.cell (p:=⟨w.heap.size,5,none⟩) (by first|(simp [*];done)|(simp;omega))).trans (by simp [go_sem, *]);have hc16:w1.cell? ⟨w.heap.size,6,none⟩=some (.string d):=(hb1.cell (p:=⟨w.heap.size,6,none⟩) (by first|(simp [*];done)|(simp;omega))).trans (by simp [go_sem, *]);have hB1:Hid (Bw w w1):=sqT hb1;have hG1:Hid (GIn w1):=hG.keep hB1.out;clear hb1)
  | (go_at_call 114;refine ((HW.out) _ hG1.out.1).mono ?_;rintro e w2 ⟨rfl,hw2⟩;rw [hw2];clear hw2)
  | (go_at_call 115;refine ((HO.out) _).mono ?_;rintro e w3 ⟨rfl,hw3⟩;rw [hw3];clear hw3)
  | (go_at_call 116;refine ((HR.out) _ hG1.out).mono ?_;rintro e w4 ⟨rfl,hb4⟩))
 refine bodyPost_ret (v:=.tuple #[.string (WX++⟨#[32]⟩++RX),.int .i64 0]) (by simp [results,Tryz.results74,go_sem, *]) rfl ⟨?_,hB1.out.trans (hb4.mono hB1.out.size)⟩
 congr 5
 rw [HP.out,HWX.out,HRX.out];apply Zf;simp [ByteArray.data_append]
theorem oprint_7 (op n:Int) (hn1:-9223372036854775808≤n) (hn2:n≤9223372036854775807) (hk:opdI op=7) (t:ByteArray) (b:Bool) (c m d:ByteArray) (ht:t.size≤maxLen) (hc:c.size≤maxLen) (hm:m.size≤maxLen) (hd:d.size≤maxLen) (h:ickE op n t b c m d=0) (w:World) (hG:GIn w):Calls Tryz.prog 74 #[.agg #[.int .i64 op,.int .i64 n,.string t,.bool b,.string c,.string m,.string d]] w fun e w'=>e=.returned (.tuple #[.string ⟨(prtL op n t b c m d).toArray⟩,.int .i64 0])∧Bw w w':=by
 have HC:=Yx op n t b c m d ht hc hm hd;rw [h] at HC;have HC:Hid (∀ w,_):=HC;have hop:=J6 h;have h2:t.size≤2000:=Xt h;have HO:=Zc op;rw [hk] at HO;have HO:Hid (∀ w,_):=HO;have hw0:opB op=true:=(Zak op).2 hop;have HW:Hid (∀ w,WordsIn w→Calls Tryz.prog 114 #[.int .i64 op] w fun e w'=>e=.returned (.tuple #[.string ⟨(Z4 op).toArray⟩,.int .i64 0])∧w'=w):=fun w hw=>by
  have:=X2 op w hw;rw [wrdL,wrdE,hw0] at this;exact this
 have hwl:(⟨(Z4 op).toArray⟩:ByteArray).size≤20:=by rw [Zk];exact Xm op
 have HR:Hid (∀ w,GIn w→Calls Tryz.prog 116 #[.agg #[.int .i64 op,.int .i64 n,.string t,.bool b,.string c,.string m,.string d]] w fun e w'=>e=.returned (.string ⟨(Lib.itoa n++32::t.data.toList).toArray⟩)∧Bw w w'):=fun w h=>write_7 op n hn1 hn2 hk t b c m d h2 w h.2;have hrl:(⟨(Lib.itoa n++32::t.data.toList).toArray⟩:ByteArray).size≤5000:=by
  have:=Xx n hn1 hn2;rw [Zk] at this ⊢;simp;omega
 have HP:Hid (prtL op n t b c m d=Z4 op++32::(Lib.itoa n++32::t.data.toList)):=by rw [Hid,prtL,if_pos h,hk];rfl
 generalize prtL op n t b c m d=px at *;obtain ⟨WX,hWX⟩:∃ WX:ByteArray,WX=⟨(Z4 op).toArray⟩:=⟨_,rfl⟩;rw [← hWX] at HW hwl;have HWX:Hid (WX=⟨(Z4 op).toArray⟩):=hWX;obtain ⟨RX,hRX⟩:∃ RX:ByteArray,RX=⟨(Lib.itoa n++32::t.data.toList).toArray⟩:=⟨_,rfl⟩;rw [← hRX] at HR hrl;have HRX:Hid (RX=⟨(Lib.itoa n++32::t.data.toList).toArray⟩):=hRX;clear hRX;clear hWX hk h hop h2 hw0 ht hc hm hd;go_enter Tryz.func74,Tryz.ntmps74;go_wp2_with (first
  | (go_at_call 113;refine ((HC.out) _).mono ?_;rintro e w1 ⟨rfl,hb1⟩;have hs1:w.heap.size<w1.heap.size:=sqS hb1;have hc10:w1.cell? ⟨w.heap.size,0,none⟩=some (.int .i64 op):=(hb1.cell (p:=⟨w.heap.size,0,none⟩) (by first|(simp [*];done)|(simp;omega))).trans (by simp [go_sem, *]);have hc11:w1.cell? ⟨w.heap.size,1,none⟩=some (.int .i64 n):=(hb1.cell (p:=⟨w.heap.size,1,none⟩) (by first|(simp [*];done)|(simp;omega))).trans (by simp [go_sem, *]);have hc12:w1.cell? ⟨w.heap.size,2,none⟩=some (.string t):=(hb1.cell (p:=⟨w.heap.size,2,none⟩) (by first|(simp [*];done)|(simp;omega))).trans (by simp [go_sem, *]);have hc13:w1.cell? ⟨w.heap.size,3,none⟩=some (.bool b):=(hb1.cell (p:=⟨w.heap.size,3,none⟩) (by first|(simp [*];done)|(simp;omega))).trans (by simp [go_sem, *]);have hc14:w1.cell? ⟨w.heap.size,4,none⟩=some (.string c):=(hb1.cell (p:=⟨w.heap.size,4,none⟩) (by first|(simp [*];done)|(simp;omega))).trans (by simp [go_sem, *]);have hc15:w1.cell? ⟨w.heap.size,5,none⟩=some (.string m):=(hb1.cell (p:=⟨w.heap.size,5,none⟩) (by first|(simp [*];done)|(simp;omega))).trans (by simp [go_sem, *]);have hc16:w1.cell? ⟨w.heap.size,6,none⟩=some (.string d):=(hb1.cell (p:=⟨w.heap.size,6,none⟩) (by first|(simp [*];done)|(simp;omega))).trans (by simp [go_sem, *]);have hB1:Hid (Bw w w1):=sqT hb1;have hG1:Hid (GIn w1):=hG.keep hB1.out;clear hb1)
  | (go_at_call 114;refine ((HW.out) _ hG1.out.1).mono ?_;rintro e w2 ⟨rfl,hw2⟩;rw [hw2];clear hw2)
  | (go_at_call 115;refine ((HO.out) _).mono ?_;rintro e w3 ⟨rfl,hw3⟩;rw [hw3];clear hw3)
  | (go_at_call 116;refine ((HR.out) _ hG1.out).mono ?_;rintro e w4 ⟨rfl,hb4⟩))
 refine bodyPost_ret (v:=.tuple #[.string (WX++⟨#[32]⟩++RX),.int .i64 0]) (by simp [results,Tryz.results74,go_sem, *]) rfl ⟨?_,hB1.out.trans (hb4.mono hB1.out.size)⟩
 congr 5
 rw [HP.out,HWX.out,HRX.out];apply Zf;simp [ByteArray.data_append]
theorem oprint_8 (op n:Int) (hk:opdI op=8) (t:ByteArray) (b:Bool) (c m d:ByteArray) (ht:t.size≤maxLen) (hc:c.size≤maxLen) (hm:m.size≤maxLen) (hd:d.size≤maxLen) (h:ickE op n t b c m d=0) (w:World) (hG:GIn w):Calls Tryz.prog 74 #[.agg #[.int .i64 op,.int .i64 n,.string t,.bool b,.string c,.string m,.string d]] w fun e w'=>e=.returned (.tuple #[.string ⟨(prtL op n t b c m d).toArray⟩,.int .i64 0])∧Bw w w':=by
 have HC:=Yx op n t b c m d ht hc hm hd;rw [h] at HC;have HC:Hid (∀ w,_):=HC;have hop:=J6 h;have h2:t.size≤2000:=Xt h;have HO:=Zc op;rw [hk] at HO;have HO:Hid (∀ w,_):=HO;have hw0:opB op=true:=(Zak op).2 hop;have HW:Hid (∀ w,WordsIn w→Calls Tryz.prog 114 #[.int .i64 op] w fun e w'=>e=.returned (.tuple #[.string ⟨(Z4 op).toArray⟩,.int .i64 0])∧w'=w):=fun w hw=>by
  have:=X2 op w hw;rw [wrdL,wrdE,hw0] at this;exact this
 have hwl:(⟨(Z4 op).toArray⟩:ByteArray).size≤20:=by rw [Zk];exact Xm op
 have HR:Hid (∀ w,GIn w→Calls Tryz.prog 116 #[.agg #[.int .i64 op,.int .i64 n,.string t,.bool b,.string c,.string m,.string d]] w fun e w'=>e=.returned (.string ⟨(rtxL b c.data.toList m.data.toList d.data.toList).toArray⟩)∧Bw w w'):=fun w _=>write_8 op n hk t b c m d hc hm hd w;have hrl:(⟨(rtxL b c.data.toList m.data.toList d.data.toList).toArray⟩:ByteArray).size≤5000:=by
  exact Zkm _ _ _ _
 have HP:Hid (prtL op n t b c m d=Z4 op++32::(rtxL b c.data.toList m.data.toList d.data.toList)):=by rw [Hid,prtL,if_pos h,hk];rfl
 generalize prtL op n t b c m d=px at *;obtain ⟨WX,hWX⟩:∃ WX:ByteArray,WX=⟨(Z4 op).toArray⟩:=⟨_,rfl⟩;rw [← hWX] at HW hwl;have HWX:Hid (WX=⟨(Z4 op).toArray⟩):=hWX;obtain ⟨RX,hRX⟩:∃ RX:ByteArray,RX=⟨(rtxL b c.data.toList m.data.toList d.data.toList).toArray⟩:=⟨_,rfl⟩;rw [← hRX] at HR hrl;have HRX:Hid (RX=⟨(rtxL b c.data.toList m.data.toList d.data.toList).toArray⟩):=hRX;clear hRX;clear hWX hk h hop h2 hw0 ht hc hm hd;go_enter Tryz.func74,Tryz.ntmps74;go_wp2_with (first
  | (go_at_call 113;refine ((HC.out) _).mono ?_;rintro e w1 ⟨rfl,hb1⟩;have hs1:w.heap.size<w1.heap.size:=sqS hb1;have hc10:w1.cell? ⟨w.heap.size,0,none⟩=some (.int .i64 op):=(hb1.cell (p:=⟨w.heap.size,0,none⟩) (by first|(simp [*];done)|(simp;omega))).trans (by simp [go_sem, *]);have hc11:w1.cell? ⟨w.heap.size,1,none⟩=some (.int .i64 n):=(hb1.cell (p:=⟨w.heap.size,1,none⟩) (by first|(simp [*];done)|(simp;omega))).trans (by simp [go_sem, *]);have hc12:w1.cell? ⟨w.heap.size,2,none⟩=some (.string t):=(hb1.cell (p:=⟨w.heap.size,2,none⟩) (by first|(simp [*];done)|(simp;omega))).trans (by simp [go_sem, *]);have hc13:w1.cell? ⟨w.heap.size,3,none⟩=some (.bool b):=(hb1.cell (p:=⟨w.heap.size,3,none⟩) (by first|(simp [*];done)|(simp;omega))).trans (by simp [go_sem, *]);have hc14:w1.cell? ⟨w.heap.size,4,none⟩=some (.string c):=(hb1.cell (p:=⟨w.heap.size,4,none⟩) (by first|(simp [*];done)|(simp;omega))).trans (by simp [go_sem, *]);have hc15:w1.cell? ⟨w.heap.size,5,none⟩=some (.string m):=(hb1.cell (p:=⟨w.heap.size,5,none⟩) (by first|(simp [*];done)|(simp;omega))).trans (by simp [go_sem, *]);have hc16:w1.cell? ⟨w.heap.size,6,none⟩=some (.string d):=(hb1.cell (p:=⟨w.heap.size,6,none⟩) (by first|(simp [*];done)|(simp;omega))).trans (by simp [go_sem, *]);have hB1:Hid (Bw w w1):=sqT hb1;have hG1:Hid (GIn w1):=hG.keep hB1.out;clear hb1)
  | (go_at_call 114;refine ((HW.out) _ hG1.out.1).mono ?_;rintro e w2 ⟨rfl,hw2⟩;rw [hw2];clear hw2)
  | (go_at_call 115;refine ((HO.out) _).mono ?_;rintro e w3 ⟨rfl,hw3⟩;rw [hw3];clear hw3)
  | (go_at_call 116;refine ((HR.out) _ hG1.out).mono ?_;rintro e w4 ⟨rfl,hb4⟩))
 refine bodyPost_ret (v:=.tuple #[.string (WX++⟨#[32]⟩++RX),.int .i64 0]) (by simp [results,Tryz.results74,go_sem, *]) rfl ⟨?_,hB1.out.trans (hb4.mono hB1.out.size)⟩
 congr 5
 rw [HP.out,HWX.out,HRX.out];apply Zf;simp [ByteArray.data_append]
theorem Zmc (op n:Int) (t:ByteArray) (b:Bool) (c m d:ByteArray) (ht:t.size≤maxLen) (hc:c.size≤maxLen) (hm:m.size≤maxLen) (hd:d.size≤maxLen) (h:ickE op n t b c m d=1) (w:World):Calls Tryz.prog 74 #[.agg #[.int .i64 op,.int .i64 n,.string t,.bool b,.string c,.string m,.string d]] w fun e w'=>e=.returned (.tuple #[.string ⟨#[]⟩,.int .i64 1])∧Bw w w':=by
 have HC:=Yx op n t b c m d ht hc hm hd;rw [h] at HC;have HC:Hid (∀ w,_):=HC;clear h ht hc hm hd;go_enter Tryz.func74,Tryz.ntmps74;go_wp2_with (go_at_call 113;refine ((HC.out) _).mono ?_;rintro e w1 ⟨rfl,hb1⟩)
 exact bodyPost_ret (v:=.tuple #[.string ⟨#[]⟩,.int .i64 1]) (by simp [results,Tryz.results74,go_sem, *]) rfl ⟨rfl,sqT hb1⟩
theorem Zer (op n:Int) (hn1:-9223372036854775808≤n) (hn2:n≤9223372036854775807) (t:ByteArray) (b:Bool) (c m d:ByteArray) (ht:t.size≤maxLen) (hc:c.size≤maxLen) (hm:m.size≤maxLen) (hd:d.size≤maxLen) (w:World) (hG:GIn w):Calls Tryz.prog 74 #[.agg #[.int .i64 op,.int .i64 n,.string t,.bool b,.string c,.string m,.string d]] w fun e w'=>e=.returned (.tuple #[.string ⟨(prtL op n t b c m d).toArray⟩,.int .i64 (ickE op n t b c m d)])∧Bw w w':=by
 rcases Qs op n t b c m d with h|h
 ·rw [h];rcases Yw op with e|e|e|e|e|e|e|e|e|e
  ·rw [ickE,e] at h;simp [insB] at h
  ·exact oprint_0 op n e t b c m d ht hc hm hd h w hG
  ·exact oprint_1 op n hn1 hn2 e t b c m d ht hc hm hd h w hG
  ·exact oprint_2 op n hn1 hn2 e t b c m d ht hc hm hd h w hG
  ·exact oprint_3 op n hn1 hn2 e t b c m d ht hc hm hd h w hG
  ·exact oprint_4 op n e t b c m d ht hc hm hd h w hG
  ·exact oprint_5 op n e t b c m d ht hc hm hd h w hG
  ·exact oprint_6 op n e t b c m d ht hc hm hd h w hG
  ·exact oprint_7 op n hn1 hn2 e t b c m d ht hc hm hd h w hG
  ·exact oprint_8 op n e t b c m d ht hc hm hd h w hG
 ·have hp:prtL op n t b c m d=[]:=by rw [prtL,if_neg (by rw [h];decide)]
  rw [h,hp];exact Zmc op n t b c m d ht hc hm hd h w
end Go.Proofs.YtfbhjfpkhofifaaGreatDoor
