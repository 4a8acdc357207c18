import Derived.Test.YtmafkabjjibcbaaGreatRpC
set_option maxHeartbeats 4000000
set_option maxRecDepth 100000
namespace Go.Proofs.YtmafkabjjibcbaaGreat
open Go.RowKit Go.Maps
theorem r12I_1 (W:World) (b:Nat) (r c i:Int) (inr ism:Bool) (hno:(inr&&ism)=false) (HI:Hid (∀ w,Bw W w→Calls Tryz.prog 68 #[.pointer (some ⟨b,0,none⟩),.int .i64 r] w fun e w'=>e=.returned (.bool inr)∧w'=w)) (HJ:Hid (∀ w,Bw W w→Calls Tryz.prog 63 #[.pointer (some ⟨b,0,none⟩),.agg #[.int .i64 c,.int .i64 i]] w fun e w'=>e=.returned (.bool ism)∧Bw w w')):Calls Tryz.prog 29 #[.pointer (some ⟨b,0,none⟩),.int .i64 r,.agg #[.int .i64 c,.int .i64 i]] W fun e w'=>e=.returned (idE ((0,0),3))∧Bw W w':=by
 have BB:Hid (Bw W W):=Below.refl _ _
 cases inr
 case false =>
  clear HJ hno
  go_enter Tryz.func29,Tryz.ntmps29
  go_wp2_with (first
   | (go_at_call 68;refine (HI.out _ (sqE BB)).mono ?_;rintro e w9 ⟨rfl,hw9⟩;rw [hw9];clear hw9 w9 HI))
  exact bodyPost_ret (v:=idE ((0,0),3)) (by simp [results,Tryz.results29,go_sem,idE, *]) rfl ⟨rfl,(sqE BB)⟩
 case true =>
  obtain rfl:ism=false:=by simpa using hno
  clear hno
  go_enter Tryz.func29,Tryz.ntmps29
  go_wp2_with (first
   | (go_at_call 68;refine (HI.out _ (sqE BB)).mono ?_;rintro e w9 ⟨rfl,hw9⟩;rw [hw9];clear hw9 w9 HI)
   | (go_at_call 63;refine (HJ.out _ (sqE BB)).mono ?_;rintro e w1 ⟨rfl,hb⟩;have abd:=kp2 (n:=W.heap.size) hb;(try clear abB ab0 ab1 abf abL abN);obtain ⟨abB,ab0,ab1,abf,abL,abN⟩:=abd;have zbd:=kp2 (n:=W.heap.size+1) hb;(try clear zbB zb0 zb1 zbf zbL zbN);obtain ⟨zbB,zb0,zb1,zbf,zbL,zbN⟩:=zbd;have BB2:Bw W w1:=Zb (sqE BB) hb;clear BB;have BB:Hid (Bw W w1):=BB2;clear HJ;clear BB2 hb))
  exact bodyPost_ret (v:=idE ((0,0),3)) (by simp [results,Tryz.results29,go_sem,idE, *]) rfl ⟨rfl,(sqE BB)⟩
theorem r12I_2 (W:World) (b:Nat) (r c i:Int) (HI:Hid (∀ w,Bw W w→Calls Tryz.prog 68 #[.pointer (some ⟨b,0,none⟩),.int .i64 r] w fun e w'=>e=.returned (.bool true)∧w'=w)) (HJ:Hid (∀ w,Bw W w→Calls Tryz.prog 63 #[.pointer (some ⟨b,0,none⟩),.agg #[.int .i64 c,.int .i64 i]] w fun e w'=>e=.returned (.bool true)∧Bw w w')) (HF:Hid (∀ w,Bw W w→Calls Tryz.prog 61 #[.pointer (some ⟨b,0,none⟩),.int .i64 r] w fun e w'=>e=.returned (.bool true)∧w'=w)):Calls Tryz.prog 29 #[.pointer (some ⟨b,0,none⟩),.int .i64 r,.agg #[.int .i64 c,.int .i64 i]] W fun e w'=>e=.returned (idE ((0,0),2))∧Bw W w':=by
 have BB:Hid (Bw W W):=Below.refl _ _
 go_enter Tryz.func29,Tryz.ntmps29
 go_wp2_with (first
  | (go_at_call 68;refine (HI.out _ (sqE BB)).mono ?_;rintro e w9 ⟨rfl,hw9⟩;rw [hw9];clear hw9 w9 HI)
  | (go_at_call 63;refine (HJ.out _ (sqE BB)).mono ?_;rintro e w1 ⟨rfl,hb⟩;have abd:=kp2 (n:=W.heap.size) hb;(try clear abB ab0 ab1 abf abL abN);obtain ⟨abB,ab0,ab1,abf,abL,abN⟩:=abd;have zbd:=kp2 (n:=W.heap.size+1) hb;(try clear zbB zb0 zb1 zbf zbL zbN);obtain ⟨zbB,zb0,zb1,zbf,zbL,zbN⟩:=zbd;have BB2:Bw W w1:=Zb (sqE BB) hb;clear BB;have BB:Hid (Bw W w1):=BB2;clear HJ;clear BB2 hb)
  | (go_at_call 61;refine (HF.out _ (sqE BB)).mono ?_;rintro e w9 ⟨rfl,hw9⟩;rw [hw9];clear hw9 w9 HF))
 exact bodyPost_ret (v:=idE ((0,0),2)) (by simp [results,Tryz.results29,go_sem,idE, *]) rfl ⟨rfl,(sqE BB)⟩
theorem r12I_3 (W:World) (b:Nat) (r c i:Int) (fl:Int) (HI:Hid (∀ w,Bw W w→Calls Tryz.prog 68 #[.pointer (some ⟨b,0,none⟩),.int .i64 r] w fun e w'=>e=.returned (.bool true)∧w'=w)) (HJ:Hid (∀ w,Bw W w→Calls Tryz.prog 63 #[.pointer (some ⟨b,0,none⟩),.agg #[.int .i64 c,.int .i64 i]] w fun e w'=>e=.returned (.bool true)∧Bw w w')) (HF:Hid (∀ w,Bw W w→Calls Tryz.prog 61 #[.pointer (some ⟨b,0,none⟩),.int .i64 r] w fun e w'=>e=.returned (.bool false)∧w'=w)) (HL:Hid (∀ w,Bw W w→Calls Tryz.prog 69 #[.pointer (some ⟨b,0,none⟩),.agg #[.int .i64 c,.int .i64 i]] w fun e w'=>e=.returned (.int .i64 fl)∧Bw w w')) (H8:Hid (∀ w:World,Calls Tryz.prog 62 #[.int .i64 fl,.int .i64 8] w fun e w'=>e=.returned (.bool true)∧w'=w)):Calls Tryz.prog 29 #[.pointer (some ⟨b,0,none⟩),.int .i64 r,.agg #[.int .i64 c,.int .i64 i]] W fun e w'=>e=.returned (idE ((0,0),23))∧Bw W w':=by
 have BB:Hid (Bw W W):=Below.refl _ _
 go_enter Tryz.func29,Tryz.ntmps29
 go_wp2_with (first
  | (go_at_call 68;refine (HI.out _ (sqE BB)).mono ?_;rintro e w9 ⟨rfl,hw9⟩;rw [hw9];clear hw9 w9 HI)
  | (go_at_call 63;refine (HJ.out _ (sqE BB)).mono ?_;rintro e w1 ⟨rfl,hb⟩;have abd:=kp2 (n:=W.heap.size) hb;(try clear abB ab0 ab1 abf abL abN);obtain ⟨abB,ab0,ab1,abf,abL,abN⟩:=abd;have zbd:=kp2 (n:=W.heap.size+1) hb;(try clear zbB zb0 zb1 zbf zbL zbN);obtain ⟨zbB,zb0,zb1,zbf,zbL,zbN⟩:=zbd;have BB2:Bw W w1:=Zb (sqE BB) hb;clear BB;have BB:Hid (Bw W w1):=BB2;clear HJ;clear BB2 hb)
  | (go_at_call 61;refine (HF.out _ (sqE BB)).mono ?_;rintro e w9 ⟨rfl,hw9⟩;rw [hw9];clear hw9 w9 HF)
  | (go_at_call 69;refine (HL.out _ (sqE BB)).mono ?_;rintro e w2 ⟨rfl,hb⟩;have abd:=kp2 (n:=W.heap.size) hb;(try clear abB ab0 ab1 abf abL abN);obtain ⟨abB,ab0,ab1,abf,abL,abN⟩:=abd;have zbd:=kp2 (n:=W.heap.size+1) hb;(try clear zbB zb0 zb1 zbf zbL zbN);obtain ⟨zbB,zb0,zb1,zbf,zbL,zbN⟩:=zbd;have BB2:Bw W w2:=Zb (sqE BB) hb;clear BB;have BB:Hid (Bw W w2):=BB2;clear HL;clear BB2 hb)
  | (go_at_call 62;refine (H8.out _).mono ?_;rintro e w9 ⟨rfl,hw9⟩;rw [hw9];clear hw9 w9 H8))
 exact bodyPost_ret (v:=idE ((0,0),23)) (by simp [results,Tryz.results29,go_sem,idE, *]) rfl ⟨rfl,(sqE BB)⟩
theorem r12I_4 (W:World) (b:Nat) (r c i:Int) (fl:Int) (HI:Hid (∀ w,Bw W w→Calls Tryz.prog 68 #[.pointer (some ⟨b,0,none⟩),.int .i64 r] w fun e w'=>e=.returned (.bool true)∧w'=w)) (HJ:Hid (∀ w,Bw W w→Calls Tryz.prog 63 #[.pointer (some ⟨b,0,none⟩),.agg #[.int .i64 c,.int .i64 i]] w fun e w'=>e=.returned (.bool true)∧Bw w w')) (HF:Hid (∀ w,Bw W w→Calls Tryz.prog 61 #[.pointer (some ⟨b,0,none⟩),.int .i64 r] w fun e w'=>e=.returned (.bool false)∧w'=w)) (HL:Hid (∀ w,Bw W w→Calls Tryz.prog 69 #[.pointer (some ⟨b,0,none⟩),.agg #[.int .i64 c,.int .i64 i]] w fun e w'=>e=.returned (.int .i64 fl)∧Bw w w')) (H8:Hid (∀ w:World,Calls Tryz.prog 62 #[.int .i64 fl,.int .i64 8] w fun e w'=>e=.returned (.bool false)∧w'=w)) (H2:Hid (∀ w:World,Calls Tryz.prog 62 #[.int .i64 fl,.int .i64 2] w fun e w'=>e=.returned (.bool true)∧w'=w)):Calls Tryz.prog 29 #[.pointer (some ⟨b,0,none⟩),.int .i64 r,.agg #[.int .i64 c,.int .i64 i]] W fun e w'=>e=.returned (idE ((0,0),23))∧Bw W w':=by
 have BB:Hid (Bw W W):=Below.refl _ _
 go_enter Tryz.func29,Tryz.ntmps29
 go_wp2_with (first
  | (go_at_call 68;refine (HI.out _ (sqE BB)).mono ?_;rintro e w9 ⟨rfl,hw9⟩;rw [hw9];clear hw9 w9 HI)
  | (go_at_call 63;refine (HJ.out _ (sqE BB)).mono ?_;rintro e w1 ⟨rfl,hb⟩;have abd:=kp2 (n:=W.heap.size) hb;(try clear abB ab0 ab1 abf abL abN);obtain ⟨abB,ab0,ab1,abf,abL,abN⟩:=abd;have zbd:=kp2 (n:=W.heap.size+1) hb;(try clear zbB zb0 zb1 zbf zbL zbN);obtain ⟨zbB,zb0,zb1,zbf,zbL,zbN⟩:=zbd;have BB2:Bw W w1:=Zb (sqE BB) hb;clear BB;have BB:Hid (Bw W w1):=BB2;clear HJ;clear BB2 hb)
  | (go_at_call 61;refine (HF.out _ (sqE BB)).mono ?_;rintro e w9 ⟨rfl,hw9⟩;rw [hw9];clear hw9 w9 HF)
  | (go_at_call 69;refine (HL.out _ (sqE BB)).mono ?_;rintro e w2 ⟨rfl,hb⟩;have abd:=kp2 (n:=W.heap.size) hb;(try clear abB ab0 ab1 abf abL abN);obtain ⟨abB,ab0,ab1,abf,abL,abN⟩:=abd;have zbd:=kp2 (n:=W.heap.size+1) hb;(try clear zbB zb0 zb1 zbf zbL zbN);obtain ⟨zbB,zb0,zb1,zbf,zbL,zbN⟩:=zbd;have BB2:Bw W w2:=Zb (sqE BB) hb;clear BB;have BB:Hid (Bw W w2):=BB2;clear HL;clear BB2 hb)
  | (go_at_call 62;refine (H8.out _).mono ?_;rintro e w9 ⟨rfl,hw9⟩;rw [hw9];clear hw9 w9 H8)
  | (go_at_call 62;refine (H2.out _).mono ?_;rintro e w9 ⟨rfl,hw9⟩;rw [hw9];clear hw9 w9 H2))
 exact bodyPost_ret (v:=idE ((0,0),23)) (by simp [results,Tryz.results29,go_sem,idE, *]) rfl ⟨rfl,(sqE BB)⟩
theorem r12I_5 {cs:List Cls} {ps:List Plc} (x:HM) (W:World) (b:Nat) (r c i:Int) (fl:Int) (HI:Hid (∀ w,Bw W w→Calls Tryz.prog 68 #[.pointer (some ⟨b,0,none⟩),.int .i64 r] w fun e w'=>e=.returned (.bool true)∧w'=w)) (HJ:Hid (∀ w,Bw W w→Calls Tryz.prog 63 #[.pointer (some ⟨b,0,none⟩),.agg #[.int .i64 c,.int .i64 i]] w fun e w'=>e=.returned (.bool true)∧Bw w w')) (HF:Hid (∀ w,Bw W w→Calls Tryz.prog 61 #[.pointer (some ⟨b,0,none⟩),.int .i64 r] w fun e w'=>e=.returned (.bool false)∧w'=w)) (HL:Hid (∀ w,Bw W w→Calls Tryz.prog 69 #[.pointer (some ⟨b,0,none⟩),.agg #[.int .i64 c,.int .i64 i]] w fun e w'=>e=.returned (.int .i64 fl)∧Bw w w')) (H8:Hid (∀ w:World,Calls Tryz.prog 62 #[.int .i64 fl,.int .i64 8] w fun e w'=>e=.returned (.bool false)∧w'=w)) (H2:Hid (∀ w:World,Calls Tryz.prog 62 #[.int .i64 fl,.int .i64 2] w fun e w'=>e=.returned (.bool false)∧w'=w)) (f1 f2 o1 o2 o3:Int) (HU:Hid (∀ (a:Option Addr) (n s:Nat) w,Bw W w→Calls Tryz.prog 75 #[.pointer (some ⟨b,0,none⟩),.int .i64 r,.agg #[.string x.nm,.string x.ds,.int .i64 x.fl,.int .i64 x.lo,.int .i64 x.st,.slice a n s]] w fun e w'=>e=.returned (.tuple #[.agg #[.int .i64 f1,.int .i64 f2],.bool false])∧Bw w w')) (HO:Hid (∀ w,Bw W w→Calls Tryz.prog 72 #[.pointer (some ⟨b,0,none⟩),.int .i64 r,.string x.nm,.string x.ds] w fun e w'=>e=.returned (.tuple #[.agg #[.int .i64 o1,.int .i64 o2],.int .i64 o3])∧Bw w w')) (HR:Hid (RAt b cs W)) (HT:Hid (TwW cs ps)) (HX:Hid (Zm ps c i=some x)):Calls Tryz.prog 29 #[.pointer (some ⟨b,0,none⟩),.int .i64 r,.agg #[.int .i64 c,.int .i64 i]] W fun e w'=>e=.returned (idE ((o1,o2),o3))∧Bw W w':=by
 have BB:Hid (Bw W W):=Below.refl _ _
 obtain ⟨kc,q,hck,_,_,_⟩:=Yl HX.out
 subst hck
 go_enter Tryz.func29,Tryz.ntmps29
 go_upto_region 8 with (first
  | (go_at_call 68;refine (HI.out _ (sqE BB)).mono ?_;rintro e w9 ⟨rfl,hw9⟩;rw [hw9];clear hw9 w9 HI)
  | (go_at_call 63;refine (HJ.out _ (sqE BB)).mono ?_;rintro e w1 ⟨rfl,hb⟩;have abd:=kp2 (n:=W.heap.size) hb;(try clear abB ab0 ab1 abf abL abN);obtain ⟨abB,ab0,ab1,abf,abL,abN⟩:=abd;have zbd:=kp2 (n:=W.heap.size+1) hb;(try clear zbB zb0 zb1 zbf zbL zbN);obtain ⟨zbB,zb0,zb1,zbf,zbL,zbN⟩:=zbd;have BB2:Bw W w1:=Zb (sqE BB) hb;clear BB;have BB:Hid (Bw W w1):=BB2;clear HJ;clear BB2 hb)
  | (go_at_call 61;refine (HF.out _ (sqE BB)).mono ?_;rintro e w9 ⟨rfl,hw9⟩;rw [hw9];clear hw9 w9 HF)
  | (go_at_call 69;refine (HL.out _ (sqE BB)).mono ?_;rintro e w2 ⟨rfl,hb⟩;have abd:=kp2 (n:=W.heap.size) hb;(try clear abB ab0 ab1 abf abL abN);obtain ⟨abB,ab0,ab1,abf,abL,abN⟩:=abd;have zbd:=kp2 (n:=W.heap.size+1) hb;(try clear zbB zb0 zb1 zbf zbL zbN);obtain ⟨zbB,zb0,zb1,zbf,zbL,zbN⟩:=zbd;have BB2:Bw W w2:=Zb (sqE BB) hb;clear BB;have BB:Hid (Bw W w2):=BB2;clear HL;clear BB2 hb)
  | (go_at_call 62;refine (H8.out _).mono ?_;rintro e w9 ⟨rfl,hw9⟩;rw [hw9];clear hw9 w9 H8)
  | (go_at_call 62;refine (H2.out _).mono ?_;rintro e w9 ⟨rfl,hw9⟩;rw [hw9];clear hw9 w9 H2))
 obtain ⟨g,cap,bk,n,cm,j,ac,cc,hij,b0,hlt,hgl,hkI,c5,hbk,hjn,e0,e1,e2,e3,e4,e5,_,_,_⟩:=RAt.meth (HR.out.below BB.out) HT.out HX.out
 subst hij
 have bx1:¬ bk=w2.heap.size:=by omega
 have bx2:¬ g=w2.heap.size:=by omega
 have bx3:¬ b=w2.heap.size:=by omega
 clear HR HT HX
 go_region
 go_wp2_with (first
  | (go_at_call 75;refine (HU.out _ _ _ _ (sqE BB)).mono ?_;rintro e w3 ⟨rfl,hb⟩;have zbd:=kp2 (n:=W.heap.size+1) hb;(try clear zbB zb0 zb1 zbf zbL zbN);obtain ⟨zbB,zb0,zb1,zbf,zbL,zbN⟩:=zbd;have xxd:=kp6 (n:=w2.heap.size) hb;(try clear xxB xx0 xx1 xx2 xx3 xx4 xx5 xxf xxL xxN);obtain ⟨xxB,xx0,xx1,xx2,xx3,xx4,xx5,xxf,xxL,xxN⟩:=xxd;have BB2:Bw W w3:=Zb (sqE BB) hb;clear BB;have BB:Hid (Bw W w3):=BB2;clear HU;clear BB2 hb)
  | (go_at_call 72;refine (HO.out _ (sqE BB)).mono ?_;rintro e w4 ⟨rfl,hb⟩;have zbd:=kp2 (n:=W.heap.size+1) hb;(try clear zbB zb0 zb1 zbf zbL zbN);obtain ⟨zbB,zb0,zb1,zbf,zbL,zbN⟩:=zbd;have BB2:Bw W w4:=Zb (sqE BB) hb;clear BB;have BB:Hid (Bw W w4):=BB2;clear HO;clear BB2 hb))
 exact bodyPost_ret (v:=idE ((o1,o2),o3)) (by simp [results,Tryz.results29,go_sem,idE, *]) rfl ⟨rfl,(sqE BB)⟩
theorem r12I_6 {cs:List Cls} {ps:List Plc} (x:HM) (W:World) (b:Nat) (r c i:Int) (fl:Int) (HI:Hid (∀ w,Bw W w→Calls Tryz.prog 68 #[.pointer (some ⟨b,0,none⟩),.int .i64 r] w fun e w'=>e=.returned (.bool true)∧w'=w)) (HJ:Hid (∀ w,Bw W w→Calls Tryz.prog 63 #[.pointer (some ⟨b,0,none⟩),.agg #[.int .i64 c,.int .i64 i]] w fun e w'=>e=.returned (.bool true)∧Bw w w')) (HF:Hid (∀ w,Bw W w→Calls Tryz.prog 61 #[.pointer (some ⟨b,0,none⟩),.int .i64 r] w fun e w'=>e=.returned (.bool false)∧w'=w)) (HL:Hid (∀ w,Bw W w→Calls Tryz.prog 69 #[.pointer (some ⟨b,0,none⟩),.agg #[.int .i64 c,.int .i64 i]] w fun e w'=>e=.returned (.int .i64 fl)∧Bw w w')) (H8:Hid (∀ w:World,Calls Tryz.prog 62 #[.int .i64 fl,.int .i64 8] w fun e w'=>e=.returned (.bool false)∧w'=w)) (H2:Hid (∀ w:World,Calls Tryz.prog 62 #[.int .i64 fl,.int .i64 2] w fun e w'=>e=.returned (.bool false)∧w'=w)) (f1 f2 yf:Int) (HU:Hid (∀ (a:Option Addr) (n s:Nat) w,Bw W w→Calls Tryz.prog 75 #[.pointer (some ⟨b,0,none⟩),.int .i64 r,.agg #[.string x.nm,.string x.ds,.int .i64 x.fl,.int .i64 x.lo,.int .i64 x.st,.slice a n s]] w fun e w'=>e=.returned (.tuple #[.agg #[.int .i64 f1,.int .i64 f2],.bool true])∧Bw w w')) (HM:Hid (∀ w,Bw W w→Calls Tryz.prog 69 #[.pointer (some ⟨b,0,none⟩),.agg #[.int .i64 f1,.int .i64 f2]] w fun e w'=>e=.returned (.int .i64 yf)∧Bw w w')) (H1:Hid (∀ w:World,Calls Tryz.prog 62 #[.int .i64 yf,.int .i64 1] w fun e w'=>e=.returned (.bool false)∧w'=w)) (HR:Hid (RAt b cs W)) (HT:Hid (TwW cs ps)) (HX:Hid (Zm ps c i=some x)):Calls Tryz.prog 29 #[.pointer (some ⟨b,0,none⟩),.int .i64 r,.agg #[.int .i64 c,.int .i64 i]] W fun e w'=>e=.returned (idE ((0,0),22))∧Bw W w':=by
 have BB:Hid (Bw W W):=Below.refl _ _
 obtain ⟨kc,q,hck,_,_,_⟩:=Yl HX.out
 subst hck
 go_enter Tryz.func29,Tryz.ntmps29
 go_upto_region 8 with (first
  | (go_at_call 68;refine (HI.out _ (sqE BB)).mono ?_;rintro e w9 ⟨rfl,hw9⟩;rw [hw9];clear hw9 w9 HI)
  | (go_at_call 63;refine (HJ.out _ (sqE BB)).mono ?_;rintro e w1 ⟨rfl,hb⟩;have abd:=kp2 (n:=W.heap.size) hb;(try clear abB ab0 ab1 abf abL abN);obtain ⟨abB,ab0,ab1,abf,abL,abN⟩:=abd;have zbd:=kp2 (n:=W.heap.size+1) hb;(try clear zbB zb0 zb1 zbf zbL zbN);obtain ⟨zbB,zb0,zb1,zbf,zbL,zbN⟩:=zbd;have BB2:Bw W w1:=Zb (sqE BB) hb;clear BB;have BB:Hid (Bw W w1):=BB2;clear HJ;clear BB2 hb)
  | (go_at_call 61;refine (HF.out _ (sqE BB)).mono ?_;rintro e w9 ⟨rfl,hw9⟩;rw [hw9];clear hw9 w9 HF)
  | (go_at_call 69;refine (HL.out _ (sqE BB)).mono ?_;rintro e w2 ⟨rfl,hb⟩;have abd:=kp2 (n:=W.heap.size) hb;(try clear abB ab0 ab1 abf abL abN);obtain ⟨abB,ab0,ab1,abf,abL,abN⟩:=abd;have zbd:=kp2 (n:=W.heap.size+1) hb;(try clear zbB zb0 zb1 zbf zbL zbN);obtain ⟨zbB,zb0,zb1,zbf,zbL,zbN⟩:=zbd;have BB2:Bw W w2:=Zb (sqE BB) hb;clear BB;have BB:Hid (Bw W w2):=BB2;clear HL;clear BB2 hb)
  | (go_at_call 62;refine (H8.out _).mono ?_;rintro e w9 ⟨rfl,hw9⟩;rw [hw9];clear hw9 w9 H8)
  | (go_at_call 62;refine (H2.out _).mono ?_;rintro e w9 ⟨rfl,hw9⟩;rw [hw9];clear hw9 w9 H2))
 obtain ⟨g,cap,bk,n,cm,j,ac,cc,hij,b0,hlt,hgl,hkI,c5,hbk,hjn,e0,e1,e2,e3,e4,e5,_,_,_⟩:=RAt.meth (HR.out.below BB.out) HT.out HX.out
 subst hij
 have bx1:¬ bk=w2.heap.size:=by omega
 have bx2:¬ g=w2.heap.size:=by omega
 have bx3:¬ b=w2.heap.size:=by omega
 clear HR HT HX
 go_region
 go_wp2_with (first
  | (go_at_call 75;refine (HU.out _ _ _ _ (sqE BB)).mono ?_;rintro e w3 ⟨rfl,hb⟩;have zbd:=kp2 (n:=W.heap.size+1) hb;(try clear zbB zb0 zb1 zbf zbL zbN);obtain ⟨zbB,zb0,zb1,zbf,zbL,zbN⟩:=zbd;have xxd:=kp6 (n:=w2.heap.size) hb;(try clear xxB xx0 xx1 xx2 xx3 xx4 xx5 xxf xxL xxN);obtain ⟨xxB,xx0,xx1,xx2,xx3,xx4,xx5,xxf,xxL,xxN⟩:=xxd;have BB2:Bw W w3:=Zb (sqE BB) hb;clear BB;have BB:Hid (Bw W w3):=BB2;clear HU;clear BB2 hb)
  | (go_at_call 69;refine (HM.out _ (sqE BB)).mono ?_;rintro e w4 ⟨rfl,hb⟩;have zbd:=kp2 (n:=W.heap.size+1) hb;(try clear zbB zb0 zb1 zbf zbL zbN);obtain ⟨zbB,zb0,zb1,zbf,zbL,zbN⟩:=zbd;have iid:=kp2 (n:=w3.heap.size) hb;(try clear iiB ii0 ii1 iif iiL iiN);obtain ⟨iiB,ii0,ii1,iif,iiL,iiN⟩:=iid;have BB2:Bw W w4:=Zb (sqE BB) hb;clear BB;have BB:Hid (Bw W w4):=BB2;clear HM;clear BB2 hb)
  | (go_at_call 62;refine (H1.out _).mono ?_;rintro e w9 ⟨rfl,hw9⟩;rw [hw9];clear hw9 w9 H1))
 exact bodyPost_ret (v:=idE ((0,0),22)) (by simp [results,Tryz.results29,go_sem,idE, *]) rfl ⟨rfl,(sqE BB)⟩
theorem r12I_7 {cs:List Cls} {ps:List Plc} (x:HM) (W:World) (b:Nat) (r c i:Int) (fl:Int) (HI:Hid (∀ w,Bw W w→Calls Tryz.prog 68 #[.pointer (some ⟨b,0,none⟩),.int .i64 r] w fun e w'=>e=.returned (.bool true)∧w'=w)) (HJ:Hid (∀ w,Bw W w→Calls Tryz.prog 63 #[.pointer (some ⟨b,0,none⟩),.agg #[.int .i64 c,.int .i64 i]] w fun e w'=>e=.returned (.bool true)∧Bw w w')) (HF:Hid (∀ w,Bw W w→Calls Tryz.prog 61 #[.pointer (some ⟨b,0,none⟩),.int .i64 r] w fun e w'=>e=.returned (.bool false)∧w'=w)) (HL:Hid (∀ w,Bw W w→Calls Tryz.prog 69 #[.pointer (some ⟨b,0,none⟩),.agg #[.int .i64 c,.int .i64 i]] w fun e w'=>e=.returned (.int .i64 fl)∧Bw w w')) (H8:Hid (∀ w:World,Calls Tryz.prog 62 #[.int .i64 fl,.int .i64 8] w fun e w'=>e=.returned (.bool false)∧w'=w)) (H2:Hid (∀ w:World,Calls Tryz.prog 62 #[.int .i64 fl,.int .i64 2] w fun e w'=>e=.returned (.bool false)∧w'=w)) (f1 f2 yf u1 u2 u3:Int) (HU:Hid (∀ (a:Option Addr) (n s:Nat) w,Bw W w→Calls Tryz.prog 75 #[.pointer (some ⟨b,0,none⟩),.int .i64 r,.agg #[.string x.nm,.string x.ds,.int .i64 x.fl,.int .i64 x.lo,.int .i64 x.st,.slice a n s]] w fun e w'=>e=.returned (.tuple #[.agg #[.int .i64 f1,.int .i64 f2],.bool true])∧Bw w w')) (HM:Hid (∀ w,Bw W w→Calls Tryz.prog 69 #[.pointer (some ⟨b,0,none⟩),.agg #[.int .i64 f1,.int .i64 f2]] w fun e w'=>e=.returned (.int .i64 yf)∧Bw w w')) (H1:Hid (∀ w:World,Calls Tryz.prog 62 #[.int .i64 yf,.int .i64 1] w fun e w'=>e=.returned (.bool true)∧w'=w)) (HD:Hid (∀ w,Bw W w→Calls Tryz.prog 71 #[.pointer (some ⟨b,0,none⟩),.agg #[.int .i64 f1,.int .i64 f2]] w fun e w'=>e=.returned (.tuple #[.agg #[.int .i64 u1,.int .i64 u2],.int .i64 u3])∧Bw w w')) (HR:Hid (RAt b cs W)) (HT:Hid (TwW cs ps)) (HX:Hid (Zm ps c i=some x)):Calls Tryz.prog 29 #[.pointer (some ⟨b,0,none⟩),.int .i64 r,.agg #[.int .i64 c,.int .i64 i]] W fun e w'=>e=.returned (idE ((u1,u2),u3))∧Bw W w':=by
 have BB:Hid (Bw W W):=Below.refl _ _
 obtain ⟨kc,q,hck,_,_,_⟩:=Yl HX.out
 subst hck
 go_enter Tryz.func29,Tryz.ntmps29
 go_upto_region 8 with (first
  | (go_at_call 68;refine (HI.out _ (sqE BB)).mono ?_;rintro e w9 ⟨rfl,hw9⟩;rw [hw9];clear hw9 w9 HI)
  | (go_at_call 63;refine (HJ.out _ (sqE BB)).mono ?_;rintro e w1 ⟨rfl,hb⟩;have abd:=kp2 (n:=W.heap.size) hb;(try clear abB ab0 ab1 abf abL abN);obtain ⟨abB,ab0,ab1,abf,abL,abN⟩:=abd;have zbd:=kp2 (n:=W.heap.size+1) hb;(try clear zbB zb0 zb1 zbf zbL zbN);obtain ⟨zbB,zb0,zb1,zbf,zbL,zbN⟩:=zbd;have BB2:Bw W w1:=Zb (sqE BB) hb;clear BB;have BB:Hid (Bw W w1):=BB2;clear HJ;clear BB2 hb)
  | (go_at_call 61;refine (HF.out _ (sqE BB)).mono ?_;rintro e w9 ⟨rfl,hw9⟩;rw [hw9];clear hw9 w9 HF)
  | (go_at_call 69;refine (HL.out _ (sqE BB)).mono ?_;rintro e w2 ⟨rfl,hb⟩;have abd:=kp2 (n:=W.heap.size) hb;(try clear abB ab0 ab1 abf abL abN);obtain ⟨abB,ab0,ab1,abf,abL,abN⟩:=abd;have zbd:=kp2 (n:=W.heap.size+1) hb;(try clear zbB zb0 zb1 zbf zbL zbN);obtain ⟨zbB,zb0,zb1,zbf,zbL,zbN⟩:=zbd;have BB2:Bw W w2:=Zb (sqE BB) hb;clear BB;have BB:Hid (Bw W w2):=BB2;clear HL;clear BB2 hb)
  | (go_at_call 62;refine (H8.out _).mono ?_;rintro e w9 ⟨rfl,hw9⟩;rw [hw9];clear hw9 w9 H8)
  | (go_at_call 62;refine (H2.out _).mono ?_;rintro e w9 ⟨rfl,hw9⟩;rw [hw9];clear hw9 w9 H2))
 obtain ⟨g,cap,bk,n,cm,j,ac,cc,hij,b0,hlt,hgl,hkI,c5,hbk,hjn,e0,e1,e2,e3,e4,e5,_,_,_⟩:=RAt.meth (HR.out.below BB.out) HT.out HX.out
 subst hij
 have bx1:¬ bk=w2.heap.size:=by omega
 have bx2:¬ g=w2.heap.size:=by omega
 have bx3:¬ b=w2.heap.size:=by omega
 clear HR HT HX
 go_region
 go_wp2_with (first
  | (go_at_call 75;refine (HU.out _ _ _ _ (sqE BB)).mono ?_;rintro e w3 ⟨rfl,hb⟩;have zbd:=kp2 (n:=W.heap.size+1) hb;(try clear zbB zb0 zb1 zbf zbL zbN);obtain ⟨zbB,zb0,zb1,zbf,zbL,zbN⟩:=zbd;have xxd:=kp6 (n:=w2.heap.size) hb;(try clear xxB xx0 xx1 xx2 xx3 xx4 xx5 xxf xxL xxN);obtain ⟨xxB,xx0,xx1,xx2,xx3,xx4,xx5,xxf,xxL,xxN⟩:=xxd;have BB2:Bw W w3:=Zb (sqE BB) hb;clear BB;have BB:Hid (Bw W w3):=BB2;clear HU;clear BB2 hb)
  | (go_at_call 69;refine (HM.out _ (sqE BB)).mono ?_;rintro e w4 ⟨rfl,hb⟩;have zbd:=kp2 (n:=W.heap.size+1) hb;(try clear zbB zb0 zb1 zbf zbL zbN);obtain ⟨zbB,zb0,zb1,zbf,zbL,zbN⟩:=zbd;have iid:=kp2 (n:=w3.heap.size) hb;(try clear iiB ii0 ii1 iif iiL iiN);obtain ⟨iiB,ii0,ii1,iif,iiL,iiN⟩:=iid;have BB2:Bw W w4:=Zb (sqE BB) hb;clear BB;have BB:Hid (Bw W w4):=BB2;clear HM;clear BB2 hb)
  | (go_at_call 62;refine (H1.out _).mono ?_;rintro e w9 ⟨rfl,hw9⟩;rw [hw9];clear hw9 w9 H1)
  | (go_at_call 71;refine (HD.out _ (sqE BB)).mono ?_;rintro e w5 ⟨rfl,hb⟩;have zbd:=kp2 (n:=W.heap.size+1) hb;(try clear zbB zb0 zb1 zbf zbL zbN);obtain ⟨zbB,zb0,zb1,zbf,zbL,zbN⟩:=zbd;have BB2:Bw W w5:=Zb (sqE BB) hb;clear BB;have BB:Hid (Bw W w5):=BB2;clear HD;clear BB2 hb))
 exact bodyPost_ret (v:=idE ((u1,u2),u3)) (by simp [results,Tryz.results29,go_sem,idE, *]) rfl ⟨rfl,(sqE BB)⟩
theorem r12itf_c {b:Nat} {cs:List Cls} {ps:List Plc} {W:World} (h:RAt b cs W) (ht:TwW cs ps) (hJ:WJ ps) (r c i:Int):Calls Tryz.prog 29 #[.pointer (some ⟨b,0,none⟩),.int .i64 r,.agg #[.int .i64 c,.int .i64 i]] W fun e w'=>e=.returned (idE (itfI ps r (c,i)))∧Bw W w':=by
 have hIN:=fun w (hb:Bw W w)=>Zbt (h.below hb) ht r
 have hIS:=fun w (hb:Bw W w)=>Zcz (h.below hb) ht c i
 cases hp:plcI ps r with
 | none =>
   have e:itfI ps r (c,i)=((0,0),3):=by simp [itfI,rfrI,crdI,hp]
   rw [e]
   exact r12I_1 W b r c i _ _ (by rw [hp];rfl) hIN hIS
 | some q =>
   cases hx:Zm ps c i with
   | none =>
     have e:itfI ps r (c,i)=((0,0),3):=by simp [itfI,rfrI,crdI,hp,hx]
     rw [e]
     exact r12I_1 W b r c i _ _ (by rw [hx];simp) hIN hIS
   | some x =>
     rw [hp] at hIN
     rw [hx] at hIS
     have hIF:=fun w (hb:Bw W w)=>(Yy (h.below hb) r).mono fun e w' zz=>(⟨by rw [zz.1,Zar ht],zz.2⟩:e=.returned (.bool (ifcI ps r))∧w'=w)
     have hFL:=fun w (hb:Bw W w)=>Zbx (h.below hb) ht c i x hx
     have hH8:=fun w:World=>Zv x.fl 8 w
     have hH2:=fun w:World=>Zv x.fl 2 w
     cases hf:ifcI ps r with
     | true =>
       have e:itfI ps r (c,i)=((0,0),2):=by simp [itfI,rfrI,crdI,hp,hx,hf]
       rw [e]
       rw [hf] at hIF
       exact r12I_2 W b r c i hIN hIS hIF
     | false =>
       rw [hf] at hIF
       have e:itfI ps r (c,i)=if hasI x.fl 10 then ((0,0),23) else if (uchI ps x.nm x.ds r).2 then (if hasS ps (uchI ps x.nm x.ds r).1.1 (uchI ps x.nm x.ds r).1.2 1 then unaI ps (uchI ps x.nm x.ds r).1 else ((0,0),22)) else onI ps r x.nm x.ds:=by simp [itfI,rfrI,crdI,hp,hx,hf]
       rw [e,has10]
       cases h8:hasI x.fl 8 with
       | true =>
         rw [h8] at hH8
         rw [if_pos (by simp)]
         exact r12I_3 W b r c i x.fl hIN hIS hIF hFL hH8
       | false =>
         rw [h8] at hH8
         cases h2:hasI x.fl 2 with
         | true =>
           rw [h2] at hH2
           rw [if_pos (by simp)]
           exact r12I_4 W b r c i x.fl hIN hIS hIF hFL hH8 hH2
         | false =>
           rw [h2] at hH2
           rw [if_neg (by simp)]
           obtain ⟨kq,q2,rfl,hq2,_⟩:∃ (k:Nat) (q:Plc),r=(k:Int)∧ps[k]?=some q∧plcI ps r=some q:=by
            rcases Zl ps r with ⟨h1,_⟩|h1
            ·rw [h1] at hp;cases hp
            ·exact h1
           have hkq:=(List.getElem?_eq_some_iff.1 hq2).1
           have eu:uchI ps x.nm x.ds (kq:Int)=uppI ps x.nm x.ds (chL (ps.map nd) kq):=by rw [uchI,hp];simp
           have hUP:=fun (a:Option Addr) (n s:Nat) w (hb:Bw W w)=>r12up_c (h.below hb) ht kq hkq x.nm x.ds x.fl x.lo x.st a n s
           rw [← eu] at hUP
           cases hu:(uchI ps x.nm x.ds (kq:Int)).2 with
           | false =>
             rw [if_neg (by simp)]
             rw [idB,hu] at hUP
             exact r12I_5 x W b kq c i x.fl hIN hIS hIF hFL hH8 hH2 _ _ _ _ _ hUP (fun w hb=>rOn_c (h.below hb) ht hJ kq x.nm x.ds) h ht hx
           | true =>
             rw [if_pos rfl]
             rw [idB,hu] at hUP
             obtain ⟨_,_,hb1,⟨y,hy,_⟩,_⟩:=Ze3 (ps:=ps) (nm:=x.nm) (ds:=x.ds) (l:=chL (ps.map nd) kq) (b:=(uchI ps x.nm x.ds (kq:Int)).1) (by rw [← eu];exact Prod.ext rfl hu)
             have hFM:=fun w (hb:Bw W w)=>Zbx (h.below hb) ht _ _ y hy
             have hH1:=fun w:World=>Zv y.fl 1 w
             rw [Zlj hy]
             cases h1:hasI y.fl 1 with
             | false =>
               rw [h1] at hH1
               rw [if_neg (by simp)]
               exact r12I_6 x W b kq c i x.fl hIN hIS hIF hFL hH8 hH2 _ _ _ hUP hFM hH1 h ht hx
             | true =>
               rw [h1] at hH1
               rw [if_pos rfl]
               exact r12I_7 x W b kq c i x.fl hIN hIS hIF hFL hH8 hH2 _ _ _ _ _ _ hUP hFM hH1 (fun w hb=>Zkz (h.below hb) ht _ _ y hy) h ht hx
end Go.Proofs.YtmafkabjjibcbaaGreat
