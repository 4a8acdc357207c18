import Derived.Test.YtmafkabjjibcbaaGreatRfS
set_option maxHeartbeats 4000000
set_option maxRecDepth 100000
namespace Go.Proofs.YtmafkabjjibcbaaGreat
open Go.RowKit Go.Maps
theorem r12V_1 (W:World) (b:Nat) (r c i:Int) (inr ism:Bool) (hno:(inr&&ism)=false) (HI:Hid (∀ w,Bw W w→Calls Tryz.prog 68 #[.pointer (some ⟨b,0,none⟩),.int .i64 r] w fun e w'=>e=.returned (.bool inr)∧w'=w)) (HJ:Hid (∀ w,Bw W w→Calls Tryz.prog 63 #[.pointer (some ⟨b,0,none⟩),.agg #[.int .i64 c,.int .i64 i]] w fun e w'=>e=.returned (.bool ism)∧Bw w w')):Calls Tryz.prog 26 #[.pointer (some ⟨b,0,none⟩),.int .i64 r,.agg #[.int .i64 c,.int .i64 i]] W fun e w'=>e=.returned (idE ((0,0),3))∧Bw W w':=by
 have BB:Hid (Bw W W):=Below.refl _ _
 cases inr
 case false =>
  clear HJ hno
  go_enter Tryz.func26,Tryz.ntmps26
  go_wp2_with (first
   | (go_at_call 68;refine (HI.out _ (sqE BB)).mono ?_;rintro e w9 ⟨rfl,hw9⟩;rw [hw9];clear hw9 w9 HI))
  exact bodyPost_ret (v:=idE ((0,0),3)) (by simp [results,Tryz.results26,go_sem,idE, *]) rfl ⟨rfl,(sqE BB)⟩
 case true =>
  obtain rfl:ism=false:=by simpa using hno
  clear hno
  go_enter Tryz.func26,Tryz.ntmps26
  go_wp2_with (first
   | (go_at_call 68;refine (HI.out _ (sqE BB)).mono ?_;rintro e w9 ⟨rfl,hw9⟩;rw [hw9];clear hw9 w9 HI)
   | (go_at_call 63;refine (HJ.out _ (sqE BB)).mono ?_;rintro e w1 ⟨rfl,hb⟩;have abd:=kp2 (n:=W.heap.size) hb;(try clear abB ab0 ab1 abf abL abN);obtain ⟨abB,ab0,ab1,abf,abL,abN⟩:=abd;have zbd:=kp2 (n:=W.heap.size+1) hb;(try clear zbB zb0 zb1 zbf zbL zbN);obtain ⟨zbB,zb0,zb1,zbf,zbL,zbN⟩:=zbd;have BB2:Bw W w1:=Zb (sqE BB) hb;clear BB;have BB:Hid (Bw W w1):=BB2;clear HJ;clear BB2 hb))
  exact bodyPost_ret (v:=idE ((0,0),3)) (by simp [results,Tryz.results26,go_sem,idE, *]) rfl ⟨rfl,(sqE BB)⟩
theorem r12V_2 (W:World) (b:Nat) (r c i:Int) (HI:Hid (∀ w,Bw W w→Calls Tryz.prog 68 #[.pointer (some ⟨b,0,none⟩),.int .i64 r] w fun e w'=>e=.returned (.bool true)∧w'=w)) (HJ:Hid (∀ w,Bw W w→Calls Tryz.prog 63 #[.pointer (some ⟨b,0,none⟩),.agg #[.int .i64 c,.int .i64 i]] w fun e w'=>e=.returned (.bool true)∧Bw w w')) (HF:Hid (∀ w,Bw W w→Calls Tryz.prog 61 #[.pointer (some ⟨b,0,none⟩),.int .i64 r] w fun e w'=>e=.returned (.bool true)∧w'=w)):Calls Tryz.prog 26 #[.pointer (some ⟨b,0,none⟩),.int .i64 r,.agg #[.int .i64 c,.int .i64 i]] W fun e w'=>e=.returned (idE ((0,0),2))∧Bw W w':=by
 have BB:Hid (Bw W W):=Below.refl _ _
 go_enter Tryz.func26,Tryz.ntmps26
 go_wp2_with (first
  | (go_at_call 68;refine (HI.out _ (sqE BB)).mono ?_;rintro e w9 ⟨rfl,hw9⟩;rw [hw9];clear hw9 w9 HI)
  | (go_at_call 63;refine (HJ.out _ (sqE BB)).mono ?_;rintro e w1 ⟨rfl,hb⟩;have abd:=kp2 (n:=W.heap.size) hb;(try clear abB ab0 ab1 abf abL abN);obtain ⟨abB,ab0,ab1,abf,abL,abN⟩:=abd;have zbd:=kp2 (n:=W.heap.size+1) hb;(try clear zbB zb0 zb1 zbf zbL zbN);obtain ⟨zbB,zb0,zb1,zbf,zbL,zbN⟩:=zbd;have BB2:Bw W w1:=Zb (sqE BB) hb;clear BB;have BB:Hid (Bw W w1):=BB2;clear HJ;clear BB2 hb)
  | (go_at_call 61;refine (HF.out _ (sqE BB)).mono ?_;rintro e w9 ⟨rfl,hw9⟩;rw [hw9];clear hw9 w9 HF))
 exact bodyPost_ret (v:=idE ((0,0),2)) (by simp [results,Tryz.results26,go_sem,idE, *]) rfl ⟨rfl,(sqE BB)⟩
theorem r12V_3 (W:World) (b:Nat) (r c i:Int) (fl:Int) (HI:Hid (∀ w,Bw W w→Calls Tryz.prog 68 #[.pointer (some ⟨b,0,none⟩),.int .i64 r] w fun e w'=>e=.returned (.bool true)∧w'=w)) (HJ:Hid (∀ w,Bw W w→Calls Tryz.prog 63 #[.pointer (some ⟨b,0,none⟩),.agg #[.int .i64 c,.int .i64 i]] w fun e w'=>e=.returned (.bool true)∧Bw w w')) (HF:Hid (∀ w,Bw W w→Calls Tryz.prog 61 #[.pointer (some ⟨b,0,none⟩),.int .i64 r] w fun e w'=>e=.returned (.bool false)∧w'=w)) (HL:Hid (∀ w,Bw W w→Calls Tryz.prog 69 #[.pointer (some ⟨b,0,none⟩),.agg #[.int .i64 c,.int .i64 i]] w fun e w'=>e=.returned (.int .i64 fl)∧Bw w w')) (H8:Hid (∀ w:World,Calls Tryz.prog 62 #[.int .i64 fl,.int .i64 8] w fun e w'=>e=.returned (.bool true)∧w'=w)):Calls Tryz.prog 26 #[.pointer (some ⟨b,0,none⟩),.int .i64 r,.agg #[.int .i64 c,.int .i64 i]] W fun e w'=>e=.returned (idE ((0,0),23))∧Bw W w':=by
 have BB:Hid (Bw W W):=Below.refl _ _
 go_enter Tryz.func26,Tryz.ntmps26
 go_wp2_with (first
  | (go_at_call 68;refine (HI.out _ (sqE BB)).mono ?_;rintro e w9 ⟨rfl,hw9⟩;rw [hw9];clear hw9 w9 HI)
  | (go_at_call 63;refine (HJ.out _ (sqE BB)).mono ?_;rintro e w1 ⟨rfl,hb⟩;have abd:=kp2 (n:=W.heap.size) hb;(try clear abB ab0 ab1 abf abL abN);obtain ⟨abB,ab0,ab1,abf,abL,abN⟩:=abd;have zbd:=kp2 (n:=W.heap.size+1) hb;(try clear zbB zb0 zb1 zbf zbL zbN);obtain ⟨zbB,zb0,zb1,zbf,zbL,zbN⟩:=zbd;have BB2:Bw W w1:=Zb (sqE BB) hb;clear BB;have BB:Hid (Bw W w1):=BB2;clear HJ;clear BB2 hb)
  | (go_at_call 61;refine (HF.out _ (sqE BB)).mono ?_;rintro e w9 ⟨rfl,hw9⟩;rw [hw9];clear hw9 w9 HF)
  | (go_at_call 69;refine (HL.out _ (sqE BB)).mono ?_;rintro e w2 ⟨rfl,hb⟩;have abd:=kp2 (n:=W.heap.size) hb;(try clear abB ab0 ab1 abf abL abN);obtain ⟨abB,ab0,ab1,abf,abL,abN⟩:=abd;have zbd:=kp2 (n:=W.heap.size+1) hb;(try clear zbB zb0 zb1 zbf zbL zbN);obtain ⟨zbB,zb0,zb1,zbf,zbL,zbN⟩:=zbd;have BB2:Bw W w2:=Zb (sqE BB) hb;clear BB;have BB:Hid (Bw W w2):=BB2;clear HL;clear BB2 hb)
  | (go_at_call 62;refine (H8.out _).mono ?_;rintro e w9 ⟨rfl,hw9⟩;rw [hw9];clear hw9 w9 H8))
 exact bodyPost_ret (v:=idE ((0,0),23)) (by simp [results,Tryz.results26,go_sem,idE, *]) rfl ⟨rfl,(sqE BB)⟩
theorem r12V_4 (W:World) (b:Nat) (r c i:Int) (fl:Int) (HI:Hid (∀ w,Bw W w→Calls Tryz.prog 68 #[.pointer (some ⟨b,0,none⟩),.int .i64 r] w fun e w'=>e=.returned (.bool true)∧w'=w)) (HJ:Hid (∀ w,Bw W w→Calls Tryz.prog 63 #[.pointer (some ⟨b,0,none⟩),.agg #[.int .i64 c,.int .i64 i]] w fun e w'=>e=.returned (.bool true)∧Bw w w')) (HF:Hid (∀ w,Bw W w→Calls Tryz.prog 61 #[.pointer (some ⟨b,0,none⟩),.int .i64 r] w fun e w'=>e=.returned (.bool false)∧w'=w)) (HL:Hid (∀ w,Bw W w→Calls Tryz.prog 69 #[.pointer (some ⟨b,0,none⟩),.agg #[.int .i64 c,.int .i64 i]] w fun e w'=>e=.returned (.int .i64 fl)∧Bw w w')) (H8:Hid (∀ w:World,Calls Tryz.prog 62 #[.int .i64 fl,.int .i64 8] w fun e w'=>e=.returned (.bool false)∧w'=w)) (f1 f2 u1 u2 u3:Int) (HG:Hid (∀ w,Bw W w→Calls Tryz.prog 70 #[.pointer (some ⟨b,0,none⟩),.int .i64 r,.agg #[.int .i64 c,.int .i64 i]] w fun e w'=>e=.returned (.tuple #[.agg #[.int .i64 f1,.int .i64 f2],.int .i64 0])∧Bw w w')) (HD:Hid (∀ w,Bw W w→Calls Tryz.prog 71 #[.pointer (some ⟨b,0,none⟩),.agg #[.int .i64 f1,.int .i64 f2]] w fun e w'=>e=.returned (.tuple #[.agg #[.int .i64 u1,.int .i64 u2],.int .i64 u3])∧Bw w w')):Calls Tryz.prog 26 #[.pointer (some ⟨b,0,none⟩),.int .i64 r,.agg #[.int .i64 c,.int .i64 i]] W fun e w'=>e=.returned (idE ((u1,u2),u3))∧Bw W w':=by
 have BB:Hid (Bw W W):=Below.refl _ _
 go_enter Tryz.func26,Tryz.ntmps26
 go_wp2_with (first
  | (go_at_call 68;refine (HI.out _ (sqE BB)).mono ?_;rintro e w9 ⟨rfl,hw9⟩;rw [hw9];clear hw9 w9 HI)
  | (go_at_call 63;refine (HJ.out _ (sqE BB)).mono ?_;rintro e w1 ⟨rfl,hb⟩;have abd:=kp2 (n:=W.heap.size) hb;(try clear abB ab0 ab1 abf abL abN);obtain ⟨abB,ab0,ab1,abf,abL,abN⟩:=abd;have zbd:=kp2 (n:=W.heap.size+1) hb;(try clear zbB zb0 zb1 zbf zbL zbN);obtain ⟨zbB,zb0,zb1,zbf,zbL,zbN⟩:=zbd;have BB2:Bw W w1:=Zb (sqE BB) hb;clear BB;have BB:Hid (Bw W w1):=BB2;clear HJ;clear BB2 hb)
  | (go_at_call 61;refine (HF.out _ (sqE BB)).mono ?_;rintro e w9 ⟨rfl,hw9⟩;rw [hw9];clear hw9 w9 HF)
  | (go_at_call 69;refine (HL.out _ (sqE BB)).mono ?_;rintro e w2 ⟨rfl,hb⟩;have abd:=kp2 (n:=W.heap.size) hb;(try clear abB ab0 ab1 abf abL abN);obtain ⟨abB,ab0,ab1,abf,abL,abN⟩:=abd;have zbd:=kp2 (n:=W.heap.size+1) hb;(try clear zbB zb0 zb1 zbf zbL zbN);obtain ⟨zbB,zb0,zb1,zbf,zbL,zbN⟩:=zbd;have BB2:Bw W w2:=Zb (sqE BB) hb;clear BB;have BB:Hid (Bw W w2):=BB2;clear HL;clear BB2 hb)
  | (go_at_call 62;refine (H8.out _).mono ?_;rintro e w9 ⟨rfl,hw9⟩;rw [hw9];clear hw9 w9 H8)
  | (go_at_call 70;refine (HG.out _ (sqE BB)).mono ?_;rintro e w3 ⟨rfl,hb⟩;have abd:=kp2 (n:=W.heap.size) hb;(try clear abB ab0 ab1 abf abL abN);obtain ⟨abB,ab0,ab1,abf,abL,abN⟩:=abd;have zbd:=kp2 (n:=W.heap.size+1) hb;(try clear zbB zb0 zb1 zbf zbL zbN);obtain ⟨zbB,zb0,zb1,zbf,zbL,zbN⟩:=zbd;have BB2:Bw W w3:=Zb (sqE BB) hb;clear BB;have BB:Hid (Bw W w3):=BB2;clear HG;clear BB2 hb)
  | (go_at_call 71;refine (HD.out _ (sqE BB)).mono ?_;rintro e w4 ⟨rfl,hb⟩;have zbd:=kp2 (n:=W.heap.size+1) hb;(try clear zbB zb0 zb1 zbf zbL zbN);obtain ⟨zbB,zb0,zb1,zbf,zbL,zbN⟩:=zbd;have BB2:Bw W w4:=Zb (sqE BB) hb;clear BB;have BB:Hid (Bw W w4):=BB2;clear HD;clear BB2 hb))
 exact bodyPost_ret (v:=idE ((u1,u2),u3)) (by simp [results,Tryz.results26,go_sem,idE, *]) rfl ⟨rfl,(sqE BB)⟩
theorem r12V_5 {cs:List Cls} {ps:List Plc} (x:HM) (W:World) (b:Nat) (r c i:Int) (fl:Int) (HI:Hid (∀ w,Bw W w→Calls Tryz.prog 68 #[.pointer (some ⟨b,0,none⟩),.int .i64 r] w fun e w'=>e=.returned (.bool true)∧w'=w)) (HJ:Hid (∀ w,Bw W w→Calls Tryz.prog 63 #[.pointer (some ⟨b,0,none⟩),.agg #[.int .i64 c,.int .i64 i]] w fun e w'=>e=.returned (.bool true)∧Bw w w')) (HF:Hid (∀ w,Bw W w→Calls Tryz.prog 61 #[.pointer (some ⟨b,0,none⟩),.int .i64 r] w fun e w'=>e=.returned (.bool false)∧w'=w)) (HL:Hid (∀ w,Bw W w→Calls Tryz.prog 69 #[.pointer (some ⟨b,0,none⟩),.agg #[.int .i64 c,.int .i64 i]] w fun e w'=>e=.returned (.int .i64 fl)∧Bw w w')) (H8:Hid (∀ w:World,Calls Tryz.prog 62 #[.int .i64 fl,.int .i64 8] w fun e w'=>e=.returned (.bool false)∧w'=w)) (f1 f2 f3 o1 o2 o3:Int) (hf:¬ f3=0) (HG:Hid (∀ w,Bw W w→Calls Tryz.prog 70 #[.pointer (some ⟨b,0,none⟩),.int .i64 r,.agg #[.int .i64 c,.int .i64 i]] w fun e w'=>e=.returned (.tuple #[.agg #[.int .i64 f1,.int .i64 f2],.int .i64 f3])∧Bw w w')) (HO:Hid (∀ w,Bw W w→Calls Tryz.prog 72 #[.pointer (some ⟨b,0,none⟩),.int .i64 r,.string x.nm,.string x.ds] w fun e w'=>e=.returned (.tuple #[.agg #[.int .i64 o1,.int .i64 o2],.int .i64 o3])∧Bw w w')) (HR:Hid (RAt b cs W)) (HT:Hid (TwW cs ps)) (HX:Hid (Zm ps c i=some x)):Calls Tryz.prog 26 #[.pointer (some ⟨b,0,none⟩),.int .i64 r,.agg #[.int .i64 c,.int .i64 i]] W fun e w'=>e=.returned (idE ((o1,o2),o3))∧Bw W w':=by
 have BB:Hid (Bw W W):=Below.refl _ _
 obtain ⟨kc,q,hck,_,_,_⟩:=Yl HX.out
 subst hck
 go_enter Tryz.func26,Tryz.ntmps26
 go_upto_region 10 with (first
  | (go_at_call 68;refine (HI.out _ (sqE BB)).mono ?_;rintro e w9 ⟨rfl,hw9⟩;rw [hw9];clear hw9 w9 HI)
  | (go_at_call 63;refine (HJ.out _ (sqE BB)).mono ?_;rintro e w1 ⟨rfl,hb⟩;have abd:=kp2 (n:=W.heap.size) hb;(try clear abB ab0 ab1 abf abL abN);obtain ⟨abB,ab0,ab1,abf,abL,abN⟩:=abd;have zbd:=kp2 (n:=W.heap.size+1) hb;(try clear zbB zb0 zb1 zbf zbL zbN);obtain ⟨zbB,zb0,zb1,zbf,zbL,zbN⟩:=zbd;have BB2:Bw W w1:=Zb (sqE BB) hb;clear BB;have BB:Hid (Bw W w1):=BB2;clear HJ;clear BB2 hb)
  | (go_at_call 61;refine (HF.out _ (sqE BB)).mono ?_;rintro e w9 ⟨rfl,hw9⟩;rw [hw9];clear hw9 w9 HF)
  | (go_at_call 69;refine (HL.out _ (sqE BB)).mono ?_;rintro e w2 ⟨rfl,hb⟩;have abd:=kp2 (n:=W.heap.size) hb;(try clear abB ab0 ab1 abf abL abN);obtain ⟨abB,ab0,ab1,abf,abL,abN⟩:=abd;have zbd:=kp2 (n:=W.heap.size+1) hb;(try clear zbB zb0 zb1 zbf zbL zbN);obtain ⟨zbB,zb0,zb1,zbf,zbL,zbN⟩:=zbd;have BB2:Bw W w2:=Zb (sqE BB) hb;clear BB;have BB:Hid (Bw W w2):=BB2;clear HL;clear BB2 hb)
  | (go_at_call 62;refine (H8.out _).mono ?_;rintro e w9 ⟨rfl,hw9⟩;rw [hw9];clear hw9 w9 H8)
  | (go_at_call 70;refine (HG.out _ (sqE BB)).mono ?_;rintro e w3 ⟨rfl,hb⟩;have abd:=kp2 (n:=W.heap.size) hb;(try clear abB ab0 ab1 abf abL abN);obtain ⟨abB,ab0,ab1,abf,abL,abN⟩:=abd;have zbd:=kp2 (n:=W.heap.size+1) hb;(try clear zbB zb0 zb1 zbf zbL zbN);obtain ⟨zbB,zb0,zb1,zbf,zbL,zbN⟩:=zbd;have BB2:Bw W w3:=Zb (sqE BB) hb;clear BB;have BB:Hid (Bw W w3):=BB2;clear HG;clear BB2 hb))
 obtain ⟨g,cap,bk,n,cm,j,ac,cc,hij,b0,hlt,hgl,hkI,c5,hbk,hjn,e0,e1,e2,e3,e4,e5,_,_,_⟩:=RAt.meth (HR.out.below BB.out) HT.out HX.out
 subst hij
 have bx1:¬ bk=w3.heap.size:=by omega
 have bx2:¬ g=w3.heap.size:=by omega
 have bx3:¬ b=w3.heap.size:=by omega
 clear HR HT HX
 go_region
 go_wp2_with (first
  | (go_at_call 72;refine (HO.out _ (sqE BB)).mono ?_;rintro e w4 ⟨rfl,hb⟩;have zbd:=kp2 (n:=W.heap.size+1) hb;(try clear zbB zb0 zb1 zbf zbL zbN);obtain ⟨zbB,zb0,zb1,zbf,zbL,zbN⟩:=zbd;have BB2:Bw W w4:=Zb (sqE BB) hb;clear BB;have BB:Hid (Bw W w4):=BB2;clear HO;clear BB2 hb))
 exact bodyPost_ret (v:=idE ((o1,o2),o3)) (by simp [results,Tryz.results26,go_sem,idE, *]) rfl ⟨rfl,(sqE BB)⟩
theorem rOn_c {b:Nat} {cs:List Cls} {ps:List Plc} {W:World} (h:RAt b cs W) (ht:TwW cs ps) (hJ:WJ ps) (c:Int) (nm ds:ByteArray):Calls Tryz.prog 72 #[.pointer (some ⟨b,0,none⟩),.int .i64 c,.string nm,.string ds] W fun e w'=>e=.returned (idE (onI ps c nm ds))∧Bw W w':=by
 rcases Zl ps c with ⟨h1,_⟩|⟨k,q,rfl,h2,h1⟩
 ·have e:onI ps c nm ds=((0,0),3):=by rw [onI,h1]
  rw [e];exact rOne_no h ht hJ c h1 nm ds
 ·have e:onI ps (k:Int) nm ds=oneV ps (Zu ps nm ds q.cl):=by rw [onI,h1]
  rw [e];exact rOne_yes h ht hJ k q h2 nm ds
theorem r12vir_c {b:Nat} {cs:List Cls} {ps:List Plc} {W:World} (h:RAt b cs W) (ht:TwW cs ps) (hJ:WJ ps) (hS:SndI ps) (hU:UnqM ps) (hz:∀ c∈cs,c.nm.size≤maxLen) (r c i:Int):Calls Tryz.prog 26 #[.pointer (some ⟨b,0,none⟩),.int .i64 r,.agg #[.int .i64 c,.int .i64 i]] W fun e w'=>e=.returned (idE (virI ps r (c,i)))∧Bw W w':=by
 have hIN:=fun w (hb:Bw W w)=>Zbt (h.below hb) ht r
 have hIS:=fun w (hb:Bw W w)=>Zcz (h.below hb) ht c i
 cases hp:plcI ps r with
 | none =>
   have e:virI ps r (c,i)=((0,0),3):=by simp [virI,rfrI,crdI,hp]
   rw [e]
   exact r12V_1 W b r c i _ _ (by rw [hp];rfl) hIN hIS
 | some q =>
   cases hx:Zm ps c i with
   | none =>
     have e:virI ps r (c,i)=((0,0),3):=by simp [virI,rfrI,crdI,hp,hx]
     rw [e]
     exact r12V_1 W b r c i _ _ (by rw [hx];simp) hIN hIS
   | some x =>
     rw [hp] at hIN
     rw [hx] at hIS
     have hIF:=fun w (hb:Bw W w)=>(Yy (h.below hb) r).mono fun e w' zz=>(⟨by rw [zz.1,Zar ht],zz.2⟩:e=.returned (.bool (ifcI ps r))∧w'=w)
     have hFL:=fun w (hb:Bw W w)=>Zbx (h.below hb) ht c i x hx
     have hH8:=fun w:World=>Zv x.fl 8 w
     cases hf:ifcI ps r with
     | true =>
       have e:virI ps r (c,i)=((0,0),2):=by simp [virI,rfrI,crdI,hp,hx,hf]
       rw [e]
       rw [hf] at hIF
       exact r12V_2 W b r c i hIN hIS hIF
     | false =>
       rw [hf] at hIF
       have e:virI ps r (c,i)=if stB x.fl then ((0,0),23) else if (firI ps r (c,i)).2=0 then unaI ps (firI ps r (c,i)).1 else onI ps r x.nm x.ds:=by simp [virI,rfrI,crdI,hp,hx,hf]
       rw [e]
       have hst:stB x.fl=hasI x.fl 8:=rfl
       rw [hst]
       cases h8:hasI x.fl 8 with
       | true =>
         rw [h8] at hH8
         exact r12V_3 W b r c i x.fl hIN hIS hIF hFL hH8
       | false =>
         rw [h8] at hH8
         have hFI:=fun w (hb:Bw W w)=>Zkw (h.below hb) ht hJ hS hU hz r c i
         rw [if_neg (by simp)]
         by_cases h0:(firI ps r (c,i)).2=0
         ·rw [if_pos h0]
          obtain ⟨kq,q2,rfl,hq2,_⟩:∃ (k:Nat) (q:Plc),r=(k:Int)∧ps[k]?=some q∧plcI ps r=some q:=by
           rcases Zl ps r with ⟨h1,_⟩|h1
           ·rw [h1] at hp;cases hp
           ·exact h1
          have hov:∃ y,Zm ps (firI ps (kq:Int) (c,i)).1.1 (firI ps (kq:Int) (c,i)).1.2=some y:=by
           have hc:=Zgh ht.wi hU (a:=(c,i)) hx hq2
           rw [hc] at h0 ⊢
           rw [firD] at h0 ⊢
           split at h0
           ·rename_i j hj
            obtain ⟨n,hn⟩:=(Zan ht.wi hU (a:=(c,i)) hx).1 (List.find?_some hj)
            obtain ⟨y,hy,_⟩:=Ym ht.wi (a:=(c,i)) hx n _ hn
            exact ⟨y,hy⟩
           ·cases h0
          obtain ⟨y,hy⟩:=hov
          rw [idE] at hFI
          simp only [h0] at hFI
          exact r12V_4 W b kq c i x.fl hIN hIS hIF hFL hH8 _ _ _ _ _ hFI (fun w hb=>Zkz (h.below hb) ht _ _ y hy)
         ·rw [if_neg h0]
          exact r12V_5 x W b r c i x.fl hIN hIS hIF hFL hH8 _ _ _ _ _ _ h0 hFI (fun w hb=>rOn_c (h.below hb) ht hJ r x.nm x.ds) h ht hx
end Go.Proofs.YtmafkabjjibcbaaGreat
