import Derived.Test.YtmafkabjjibcbaaGreatRpC
set_option maxHeartbeats 16000000
set_option maxRecDepth 100000
namespace Go.Proofs.YtmafkabjjibcbaaGreat
open Go.RowKit Go.Maps
theorem r12I_1 (W:World) (b:Nat) (r c i:Int) (inr ism:Bool) (hno:(inr&&ism)=false) (HI:Hid (∀ w,Bw W w→Calls Tryz.prog 68 #[.pointer (some ⟨b,0,none⟩),.int .i64 r] w fun e w'=>e=.returned (.bool inr)∧w'=w)) (HJ:Hid (∀ w,Bw W w→Calls Tryz.prog 63 #[.pointer (some ⟨b,0,none⟩),.agg #[.int .i64 c,.int .i64 i]] w fun e w'=>e=.returned (.bool ism)∧Bw w w')):Calls Tryz.prog 29 #[.pointer (some ⟨b,0,none⟩),.int .i64 r,.agg #[.int .i64 c,.int .i64 i]] W fun e w'=>e=.returned (idE ((0,0),3))∧Bw W w':=by
 have BB:Hid (Bw W W):=Below.refl _ _
 cases inr
 case false =>
  clear HJ hno
  go_enter Tryz.func29,Tryz.ntmps29
  go_wp2_with (first
   | (go_at_call 68;refine (HI.out _ (sqE BB)).mono ?_;rintro e w9 ⟨rfl,hw9⟩;rw [hw9];clear hw9 w9 HI))
  exact bodyPost_ret (v:=idE ((0,0),3)) (by simp [results,Tryz.results29,go_sem,idE, *]) rfl ⟨rfl,(sqE BB)⟩
 case true =>
  obtain rfl:ism=false:=by simpa using hno
  clear hno
  go_enter Tryz.func29,Tryz.ntmps29
  go_wp2_with (first
   | (go_at_call 68;refine (HI.out _ (sqE BB)).mono ?_;rintro e w9 ⟨rfl,hw9⟩;rw [hw9];clear hw9 w9 HI)
   | (go_at_call 63;refine (HJ.out _ (sqE BB)).mono ?_;rintro e w1 ⟨rfl,hb⟩;have abd:=kp2 (n:=W.heap.size) hb;(try clear abB ab0 ab1 abf abL abN);obtain ⟨abB,ab0,ab1,abf,abL,abN⟩:=abd;have zbd:=kp2 (n:=W.heap.size+1) hb;(try clear zbB zb0 zb1 zbf zbL zbN);obtain ⟨zbB,zb0,zb1,zbf,zbL,zbN⟩:=zbd;have BB2:Bw W w1:=Za (sqE BB) hb;clear BB;have BB:Hid (Bw W w1):=BB2;clear HJ;clear BB2 hb))
  exact bodyPost_ret (v:=idE ((0,0),3)) (by simp [results,Tryz.results29,go_sem,idE, *]) rfl ⟨rfl,(sqE BB)⟩
theorem r12I_2 (W:World) (b:Nat) (r c i:Int) (HI:Hid (∀ w,Bw W w→Calls Tryz.prog 68 #[.pointer (some ⟨b,0,none⟩),.int .i64 r] w fun e w'=>e=.returned (.bool true)∧w'=w)) (HJ:Hid (∀ w,Bw W w→Calls Tryz.prog 63 #[.pointer (some ⟨b,0,none⟩),.agg #[.int .i64 c,.int .i64 i]] w fun e w'=>e=.returned (.bool true)∧Bw w w')) (HF:Hid (∀ w,Bw W w→Calls Tryz.prog 61 #[.pointer (some ⟨b,0,none⟩),.int .i64 r] w fun e w'=>e=.returned (.bool true)∧w'=w)):Calls Tryz.prog 29 #[.pointer (some ⟨b,0,none⟩),.int .i64 r,.agg #[.int .i64 c,.int .i64 i]] W fun e w'=>e=.returned (idE ((0,0),2))∧Bw W w':=by
 have BB:Hid (Bw W W):=Below.refl _ _
 go_enter Tryz.func29,Tryz.ntmps29
 go_wp2_with (first
  | (go_at_call 68;refine (HI.out _ (sqE BB)).mono ?_;rintro e w9 ⟨rfl,hw9⟩;rw [hw9];clear hw9 w9 HI)
  | (go_at_call 63;refine (HJ.out _ (sqE BB)).mono ?_;rintro e w1 ⟨rfl,hb⟩;have abd:=kp2 (n:=W.heap.size) hb;(try clear abB ab0 ab1 abf abL abN);obtain ⟨abB,ab0,ab1,abf,abL,abN⟩:=abd;have zbd:=kp2 (n:=W.heap.size+1) hb;(try clear zbB zb0 zb1 zbf zbL zbN);obtain ⟨zbB,zb0,zb1,zbf,zbL,zbN⟩:=zbd;have BB2:Bw W w1:=Za (sqE BB) hb;clear BB;have BB:Hid (Bw W w1):=BB2;clear HJ;clear BB2 hb)
  | (go_at_call 61;refine (HF.out _ (sqE BB)).mono ?_;rintro e w9 ⟨rfl,hw9⟩;rw [hw9];clear hw9 w9 HF))
 exact bodyPost_ret (v:=idE ((0,0),2)) (by simp [results,Tryz.results29,go_sem,idE, *]) rfl ⟨rfl,(sqE BB)⟩
theorem r12I_3 (W:World) (b:Nat) (r c i:Int) (fl:Int) (HI:Hid (∀ w,Bw W w→Calls Tryz.prog 68 #[.pointer (some ⟨b,0,none⟩),.int .i64 r] w fun e w'=>e=.returned (.bool true)∧w'=w)) (HJ:Hid (∀ w,Bw W w→Calls Tryz.prog 63 #[.pointer (some ⟨b,0,none⟩),.agg #[.int .i64 c,.int .i64 i]] w fun e w'=>e=.returned (.bool true)∧Bw w w')) (HF:Hid (∀ w,Bw W w→Calls Tryz.prog 61 #[.pointer (some ⟨b,0,none⟩),.int .i64 r] w fun e w'=>e=.returned (.bool false)∧w'=w)) (HL:Hid (∀ w,Bw W w→Calls Tryz.prog 69 #[.pointer (some ⟨b,0,none⟩),.agg #[.int .i64 c,.int .i64 i]] w fun e w'=>e=.returned (.int .i64 fl)∧Bw w w')) (H8:Hid (∀ w:World,Calls Tryz.prog 62 #[.int .i64 fl,.int .i64 8] w fun e w'=>e=.returned (.bool true)∧w'=w)):Calls Tryz.prog 29 #[.pointer (some ⟨b,0,none⟩),.int .i64 r,.agg #[.int .i64 c,.int .i64 i]] W fun e w'=>e=.returned (idE ((0,0),23))∧Bw W w':=by
 have BB:Hid (Bw W W):=Below.refl _ _
 go_enter Tryz.func29,Tryz.ntmps29
 go_wp2_with (first
  | (go_at_call 68;refine (HI.out _ (sqE BB)).mono ?_;rintro e w9 ⟨rfl,hw9⟩;rw [hw9];clear hw9 w9 HI)
  | (go_at_call 63;refine (HJ.out _ (sqE BB)).mono ?_;rintro e w1 ⟨rfl,hb⟩;have abd:=kp2 (n:=W.heap.size) hb;(try clear abB ab0 ab1 abf abL abN);obtain ⟨abB,ab0,ab1,abf,abL,abN⟩:=abd;have zbd:=kp2 (n:=W.heap.size+1) hb;(try clear zbB zb0 zb1 zbf zbL zbN);obtain ⟨zbB,zb0,zb1,zbf,zbL,zbN⟩:=zbd;have BB2:Bw W w1:=Za (sqE BB) hb;clear BB;have BB:Hid (Bw W w1):=BB2;clear HJ;clear BB2 hb)
  | (go_at_call 61;refine (HF.out _ (sqE BB)).mono ?_;rintro e w9 ⟨rfl,hw9⟩;rw [hw9];clear hw9 w9 HF)
  | (go_at_call 69;refine (HL.out _ (sqE BB)).mono ?_;rintro e w2 ⟨rfl,hb⟩;have abd:=kp2 (n:=W.heap.size) hb;(try clear abB ab0 ab1 abf abL abN);obtain ⟨abB,ab0,ab1,abf,abL,abN⟩:=abd;have zbd:=kp2 (n:=W.heap.size+1) hb;(try clear zbB zb0 zb1 zbf zbL zbN);obtain ⟨zbB,zb0,zb1,zbf,zbL,zbN⟩:=zbd;have BB2:Bw W w2:=Za (sqE BB) hb;clear BB;have BB:Hid (Bw W w2):=BB2;clear HL;clear BB2 hb)
  | (go_at_call 62;refine (H8.out _).mono ?_;rintro e w9 ⟨rfl,hw9⟩;rw [hw9];clear hw9 w9 H8))
 exact bodyPost_ret (v:=idE ((0,0),23)) (by simp [results,Tryz.results29,go_sem,idE, *]) rfl ⟨rfl,(sqE BB)⟩
theorem r12I_4 (W:World) (b:Nat) (r c i:Int) (fl:Int) (HI:Hid (∀ w,Bw W w→Calls Tryz.prog 68 #[.pointer (some ⟨b,0,none⟩),.int .i64 r] w fun e w'=>e=.returned (.bool true)∧w'=w)) (HJ:Hid (∀ w,Bw W w→Calls Tryz.prog 63 #[.pointer (some ⟨b,0,none⟩),.agg #[.int .i64 c,.int .i64 i]] w fun e w'=>e=.returned (.bool true)∧Bw w w')) (HF:Hid (∀ w,Bw W w→Calls Tryz.prog 61 #[.pointer (some ⟨b,0,none⟩),.int .i64 r] w fun e w'=>e=.returned (.bool false)∧w'=w)) (HL:Hid (∀ w,Bw W w→Calls Tryz.prog 69 #[.pointer (some ⟨b,0,none⟩),.agg #[.int .i64 c,.int .i64 i]] w fun e w'=>e=.returned (.int .i64 fl)∧Bw w w')) (H8:Hid (∀ w:World,Calls Tryz.prog 62 #[.int .i64 fl,.int .i64 8] w fun e w'=>e=.returned (.bool false)∧w'=w)) (H2:Hid (∀ w:World,Calls Tryz.prog 62 #[.int .i64 fl,.int .i64 2] w fun e w'=>e=.returned (.bool true)∧w'=w)):Calls Tryz.prog 29 #[.pointer (some ⟨b,0,none⟩),.int .i64 r,.agg #[.int .i64 c,.int .i64 i]] W fun e w'=>e=.returned (idE ((0,0),23))∧Bw W w':=by
 have BB:Hid (Bw W W):=Below.refl _ _
 go_enter Tryz.func29,Tryz.ntmps29
 go_wp2_with (first
  | (go_at_call 68;refine (HI.out _ (sqE BB)).mono ?_;rintro e w9 ⟨rfl,hw9⟩;rw [hw9];clear hw9 w9 HI)
  | (go_at_call 63;refine (HJ.out _ (sqE BB)).mono ?_;rintro e w1 ⟨rfl,hb⟩;have abd:=kp2 (n:=W.heap.size) hb;(try clear abB ab0 ab1 abf abL abN);obtain ⟨abB,ab0,ab1,abf,abL,abN⟩:=abd;have zbd:=kp2 (n:=W.heap.size+1) hb;(try clear zbB zb0 zb1 zbf zbL zbN);obtain ⟨zbB,zb0,zb1,zbf,zbL,zbN⟩:=zbd;have BB2:Bw W w1:=Za (sqE BB) hb;clear BB;have BB:Hid (Bw W w1):=BB2;clear HJ;clear BB2 hb)
  | (go_at_call 61;refine (HF.out _ (sqE BB)).mono ?_;rintro e w9 ⟨rfl,hw9⟩;rw [hw9];clear hw9 w9 HF)
  | (go_at_call 69;refine (HL.out _ (sqE BB)).mono ?_;rintro e w2 ⟨rfl,hb⟩;have abd:=kp2 (n:=W.heap.size) hb;(try clear abB ab0 ab1 abf abL abN);obtain ⟨abB,ab0,ab1,abf,abL,abN⟩:=abd;have zbd:=kp2 (n:=W.heap.size+1) hb;(try clear zbB zb0 zb1 zbf zbL zbN);obtain ⟨zbB,zb0,zb1,zbf,zbL,zbN⟩:=zbd;have BB2:Bw W w2:=Za (sqE BB) hb;clear BB;have BB:Hid (Bw W w2):=BB2;clear HL;clear BB2 hb)
  | (go_at_call 62;refine (H8.out _).mono ?_;rintro e w9 ⟨rfl,hw9⟩;rw [hw9];clear hw9 w9 H8)
  | (go_at_call 62;refine (H2.out _).mono ?_;rintro e w9 ⟨rfl,hw9⟩;rw [hw9];clear hw9 w9 H2))
 exact bodyPost_ret (v:=idE ((0,0),23)) (by simp [results,Tryz.results29,go_sem,idE, *]) rfl ⟨rfl,(sqE BB)⟩
theorem r12I_5 {cs:List Cls} {ps:List Plc} (x:HM) (W:World) (b:Nat) (r c i:Int) (fl:Int) (HI:Hid (∀ w,Bw W w→Calls Tryz.prog 68 #[.pointer (some ⟨b,0,none⟩),.int .i64 r] w fun e w'=>e=.returned (.bool true)∧w'=w)) (HJ:Hid (∀ w,Bw W w→Calls Tryz.prog 63 #[.pointer (some ⟨b,0,none⟩),.agg #[.int .i64 c,.int .i64 i]] w fun e w'=>e=.returned (.bool true)∧Bw w w')) (HF:Hid (∀ w,Bw W w→Calls Tryz.prog 61 #[.pointer (some ⟨b,0,none⟩),.int .i64 r] w fun e w'=>e=.returned (.bool false)∧w'=w)) (HL:Hid (∀ w,Bw W w→Calls Tryz.prog 69 #[.pointer (some ⟨b,0,none⟩),.agg #[.int .i64 c,.int .i64 i]] w fun e w'=>e=.returned (.int .i64 fl)∧Bw w w')) (H8:Hid (∀ w:World,Calls Tryz.prog 62 #[.int .i64 fl,.int .i64 8] w fun e w'=>e=.returned (.bool false)∧w'=w)) (H2:Hid (∀ w:World,Calls Tryz.prog 62 #[.int .i64 fl,.int .i64 2] w fun e w'=>e=.returned (.bool false)∧w'=w)) (f1 f2 o1 o2 o3:Int) (HU:Hid (∀ (a:Option Addr) (n s:Nat) w,Bw W w→Calls Tryz.prog 75 #[.pointer (some ⟨b,0,none⟩),.int .i64 r,.agg #[.string x.nm,.string x.ds,.int .i64 x.fl,.int .i64 x.lo,.int .i64 x.st,.slice a n s]] w fun e w'=>e=.returned (.tuple #[.agg #[.int .i64 f1,.int .i64 f2],.bool false])∧Bw w w')) (HO:Hid (∀ w,Bw W w→Calls Tryz.prog 72 #[.pointer (some ⟨b,0,none⟩),.int .i64 r,.string x.nm,.string x.ds] w fun e w'=>e=.returned (.tuple #[.agg #[.int .i64 o1,.int .i64 o2],.int .i64 o3])∧Bw w w')) (HR:Hid (RAt b cs W)) (HT:Hid (TwW cs ps)) (HX:Hid (Zo ps c i=some x)):Calls Tryz.prog 29 #[.pointer (some ⟨b,0,none⟩),.int .i64 r,.agg #[.int .i64 c,.int .i64 i]] W fun e w'=>e=.returned (idE ((o1,o2),o3))∧Bw W w':=by
 have BB:Hid (Bw W W):=Below.refl _ _
 obtain ⟨kc,q,hck,_,_,_⟩:=Yn HX.out
 subst hck
 go_enter Tryz.func29,Tryz.ntmps29
 go_upto_region 8 with (first
  | (go_at_call 68;refine (HI.out _ (sqE BB)).mono ?_;rintro e w9 ⟨rfl,hw9⟩;rw [hw9];clear hw9 w9 HI)
  | (go_at_call 63;refine (HJ.out _ (sqE BB)).mono ?_;rintro e w1 ⟨rfl,hb⟩;have abd:=kp2 (n:=W.heap.size) hb;(try clear abB ab0 ab1 abf abL abN);obtain ⟨abB,ab0,ab1,abf,abL,abN⟩:=abd;have zbd:=kp2 (n:=W.heap.size+1) hb;(try clear zbB zb0 zb1 zbf zbL zbN);obtain ⟨zbB,zb0,zb1,zbf,zbL,zbN⟩:=zbd;have BB2:Bw W w1:=Za (sqE BB) hb;clear BB;have BB:Hid (Bw W w1):=BB2;clear HJ;clear BB2 hb)
  | (go_at_call 61;refine (HF.out _ (sqE BB)).mono ?_;rintro e w9 ⟨rfl,hw9⟩;rw [hw9];clear hw9 w9 HF)
  | (go_at_call 69;refine (HL.out _ (sqE BB)).mono ?_;rintro e w2 ⟨rfl,hb⟩;have abd:=kp2 (n:=W.heap.size) hb;(try clear abB ab0 ab1 abf abL abN);obtain ⟨abB,ab0,ab1,abf,abL,abN⟩:=abd;have zbd:=kp2 (n:=W.heap.size+1) hb;(try clear zbB zb0 zb1 zbf zbL zbN);obtain ⟨zbB,zb0,zb1,zbf,zbL,zbN⟩:=zbd;have BB2:Bw W w2:=Za (sqE BB) hb;clear BB;have BB:Hid (Bw W w2):=BB2;clear HL;clear BB2 hb)
  | (go_at_call 62;refine (H8.out _).mono ?_;rintro e w9 ⟨rfl,hw9⟩;rw [hw9];clear hw9 w9 H8)
  | (go_at_call 62;refine (H2.out _).mono ?_;rintro e w9 ⟨rfl,hw9⟩;rw [hw9];clear hw9 w9 H2))
 obtain ⟨g,cap,bk,n,cm,j,ac,cc,hij,b0,hlt,hgl,hkI,c5,hbk,hjn,e0,e1,e2,e3,e4,e5,_,_,_⟩:=RAt.meth (HR.out.below BB.out) HT.out HX.out
 subst hij
 have bx1:¬ bk=w2.heap.size:=by omega
 have bx2:¬ g=w2.heap.size:=by omega
 have bx3:¬ b=w2.heap.size:=by omega
 clear HR HT HX
 go_region
 go_wp2_with (first
  | (go_at_call 75;refine (HU.out _ _ _ _ (sqE BB)).mono ?_;rintro e w3 ⟨rfl,hb⟩;have zbd:=kp2 (n:=W.heap.size+1) hb;(try clear zbB zb0 zb1 zbf zbL zbN);obtain ⟨zbB,zb0,zb1,zbf,zbL,zbN⟩:=zbd;have xxd:=kp6 (n:=w2.heap.size) hb;(try clear xxB xx0 xx1 xx2 xx3 xx4 xx5 xxf xxL xxN);obtain ⟨xxB,xx0,xx1,xx2,xx3,xx4,xx5,xxf,xxL,xxN⟩:=xxd;have BB2:Bw W w3:=Za (sqE BB) hb;clear BB;have BB:Hid (Bw W w3):=BB2;clear HU;clear BB2 hb)
  | (go_at_call 72;refine (HO.out _ (sqE BB)).mono ?_;rintro e w4 ⟨rfl,hb⟩;have zbd:=kp2 (n:=W.heap.size+1) hb;(try clear zbB zb0 zb1 zbf zbL zbN);obtain ⟨zbB,zb0,zb1,zbf,zbL,zbN⟩:=zbd;have BB2:Bw W w4:=Za (sqE BB) hb;clear BB;have BB:Hid (Bw W w4):=BB2;clear HO;clear BB2 hb))
 exact bodyPost_ret (v:=idE ((o1,o2),o3)) (by simp [results,Tryz.results29,go_sem,idE, *]) rfl ⟨rfl,(sqE BB)⟩
theorem r12I_6 {cs:List Cls} {ps:List Plc} (x:HM) (W:World) (b:Nat) (r c i:Int) (fl:Int) (HI:Hid (∀ w,Bw W w→Calls Tryz.prog 68 #[.pointer (some ⟨b,0,none⟩),.int .i64 r] w fun e w'=>e=.returned (.bool true)∧w'=w)) (HJ:Hid (∀ w,Bw W w→Calls Tryz.prog 63 #[.pointer (some ⟨b,0,none⟩),.agg #[.int .i64 c,.int .i64 i]] w fun e w'=>e=.returned (.bool true)∧Bw w w')) (HF:Hid (∀ w,Bw W w→Calls Tryz.prog 61 #[.pointer (some ⟨b,0,none⟩),.int .i64 r] w fun e w'=>e=.returned (.bool false)∧w'=w)) (HL:Hid (∀ w,Bw W w→Calls Tryz.prog 69 #[.pointer (some ⟨b,0,none⟩),.agg #[.int .i64 c,.int .i64 i]] w fun e w'=>e=.returned (.int .i64 fl)∧Bw w w')) (H8:Hid (∀ w:World,Calls Tryz.prog 62 #[.int .i64 fl,.int .i64 8] w fun e w'=>e=.returned (.bool false)∧w'=w)) (H2:Hid (∀ w:World,Calls Tryz.prog 62 #[.int .i64 fl,.int .i64 2] w fun e w'=>e=.returned (.bool false)∧w'=w)) (f1 f2 yf:Int) (HU:Hid (∀ (a:Option Addr) (n s:Nat) w,Bw W w→Calls Tryz.prog 75 #[.pointer (some ⟨b,0,none⟩),.int .i64 r,.agg #[.string x.nm,.string x.ds,.int .i64 x.fl,.int .i64 x.lo,.int .i64 x.st,.slice a n s]] w fun e w'=>e=.returned (.tuple #[.agg #[.int .i64 f1,.int .i64 f2],.bool true])∧Bw w w')) (HM:Hid (∀ w,Bw W w→Calls Tryz.prog 69 #[.pointer (some ⟨b,0,none⟩),.agg #[.int .i64 f1,.int .i64 f2]] w fun e w'=>e=.returned (.int .i64 yf)∧Bw w w')) (H1:Hid (∀ w:World,Calls Tryz.prog 62 #[.int .i64 yf,.int .i64 1] w fun e w'=>e=.returned (.bool false)∧w'=w)) (HR:Hid (RAt b cs W)) (HT:Hid (TwW cs ps)) (HX:Hid (Zo ps c i=some x)):Calls Tryz.prog 29 #[.pointer (some ⟨b,0,none⟩),.int .i64 r,.agg #[.int .i64 c,.int .i64 i]] W fun e w'=>e=.returned (idE ((0,0),22))∧Bw W w':=by
 have BB:Hid (Bw W W):=Below.refl _ _
 obtain ⟨kc,q,hck,_,_,_⟩:=Yn HX.out
 subst hck
 go_enter Tryz.func29,Tryz.ntmps29
 go_upto_region 8 with (first
  | (go_at_call 68;refine (HI.out _ (sqE BB)).mono ?_;rintro e w9 ⟨rfl,hw9⟩;rw [hw9];clear hw9 w9 HI)
  | (go_at_call 63;refine (HJ.out _ (sqE BB)).mono ?_;rintro e w1 ⟨rfl,hb⟩;have abd:=kp2 (n:=W.heap.size) hb;(try clear abB ab0 ab1 abf abL abN);obtain ⟨abB,ab0,ab1,abf,abL,abN⟩:=abd;have zbd:=kp2 (n:=W.heap.size+1) hb;(try clear zbB zb0 zb1 zbf zbL zbN);obtain ⟨zbB,zb0,zb1,zbf,zbL,zbN⟩:=zbd;have BB2:Bw W w1:=Za (sqE BB) hb;clear BB;have BB:Hid (Bw W w1):=BB2;clear HJ;clear BB2 hb)
  | (go_at_call 61;refine (HF.out _ (sqE BB)).mono ?_;rintro e w9 ⟨rfl,hw9⟩;rw [hw9];clear hw9 w9 HF)
  | (go_at_call 69;refine (HL.out _ (sqE BB)).mono ?_;rintro e w2 ⟨rfl,hb⟩;have abd:=kp2 (n:=W.heap.size) hb;(try clear abB ab0 ab1 abf abL abN);obtain ⟨abB,ab0,ab1,abf,abL,abN⟩:=abd;have zbd:=kp2 (n:=W.heap.size+1) hb;(try clear zbB zb0 zb1 zbf zbL zbN);obtain ⟨zbB,zb0,zb1,zbf,zbL,zbN⟩:=zbd;have BB2:Bw W w2:=Za (sqE BB) hb;clear BB;have BB:Hid (Bw W w2):=BB2;clear HL;clear BB2 hb)
  | (go_at_call 62;refine (H8.out _).mono ?_;rintro e w9 ⟨rfl,hw9⟩;rw [hw9];clear hw9 w9 H8)
  | (go_at_call 62;refine (H2.out _).mono ?_;rintro e w9 ⟨rfl,hw9⟩;rw [hw9];clear hw9 w9 H2))
 obtain ⟨g,cap,bk,n,cm,j,ac,cc,hij,b0,hlt,hgl,hkI,c5,hbk,hjn,e0,e1,e2,e3,e4,e5,_,_,_⟩:=RAt.meth (HR.out.below BB.out) HT.out HX.out
 subst hij
 have bx1:¬ bk=w2.heap.size:=by omega
 have bx2:¬ g=w2.heap.size:=by omega
 have bx3:¬ b=w2.heap.size:=by omega
 clear HR HT HX
 go_region
 go_wp2_with (first
  | (go_at_call 75;refine (HU.out _ _ _ _ (sqE BB)).mono ?_;rintro e w3 ⟨rfl,hb⟩;have zbd:=kp2 (n:=W.heap.size+1) hb;(try clear zbB zb0 zb1 zbf zbL zbN);obtain ⟨zbB,zb0,zb1,zbf,zbL,zbN⟩:=zbd;have xxd:=kp6 (n:=w2.heap.size) hb;(try clear xxB xx0 xx1 xx2 xx3 xx4 xx5 xxf xxL xxN);obtain ⟨xxB,xx0,xx1,xx2,xx3,xx4,xx5,xxf,xxL,xxN⟩:=xxd;have BB2:Bw W w3:=Za (sqE BB) hb;clear BB;have BB:Hid (Bw W w3):=BB2;clear HU;clear BB2 hb)
  | (go_at_call 69;refine (HM.out _ (sqE BB)).mono ?_;rintro e w4 ⟨rfl,hb⟩;have zbd:=kp2 (n:=W.heap.size+1) hb;(try clear zbB zb0 zb1 zbf zbL zbN);obtain ⟨zbB,zb0,zb1,zbf,zbL,zbN⟩:=zbd;have iid:=kp2 (n:=w3.heap.size) hb;(try clear iiB ii0 ii1 iif iiL iiN);obtain ⟨iiB,ii0,ii1,iif,iiL,iiN⟩:=iid;have BB2:Bw W w4:=Za (sqE BB) hb;clear BB;have BB:Hid (Bw W w4):=BB2;clear HM;clear BB2 hb)
  | (go_at_call 62;refine (H1.out _).mono ?_;rintro e w9 ⟨rfl,hw9⟩;rw [hw9];clear hw9 w9 H1))
 exact bodyPost_ret (v:=idE ((0,0),22)) (by simp [results,Tryz.results29,go_sem,idE, *]) rfl ⟨rfl,(sqE BB)⟩
theorem r12I_7 {cs:List Cls} {ps:List Plc} (x:HM) (W:World) (b:Nat) (r c i:Int) (fl:Int) (HI:Hid (∀ w,Bw W w→Calls Tryz.prog 68 #[.pointer (some ⟨b,0,none⟩),.int .i64 r] w fun e w'=>e=.returned (.bool true)∧w'=w)) (HJ:Hid (∀ w,Bw W w→Calls Tryz.prog 63 #[.pointer (some ⟨b,0,none⟩),.agg #[.int .i64 c,.int .i64 i]] w fun e w'=>e=.returned (.bool true)∧Bw w w')) (HF:Hid (∀ w,Bw W w→Calls Tryz.prog 61 #[.pointer (some ⟨b,0,none⟩),.int .i64 r] w fun e w'=>e=.returned (.bool false)∧w'=w)) (HL:Hid (∀ w,Bw W w→Calls Tryz.prog 69 #[.pointer (some ⟨b,0,none⟩),.agg #[.int .i64 c,.int .i64 i]] w fun e w'=>e=.returned (.int .i64 fl)∧Bw w w')) (H8:Hid (∀ w:World,Calls Tryz.prog 62 #[.int .i64 fl,.int .i64 8] w fun e w'=>e=.returned (.bool false)∧w'=w)) (H2:Hid (∀ w:World,Calls Tryz.prog 62 #[.int .i64 fl,.int .i64 2] w fun e w'=>e=.returned (.bool false)∧w'=w)) (f1 f2 yf u1 u2 u3:Int) (HU:Hid (∀ (a:Option Addr) (n s:Nat) w,Bw W w→Calls Tryz.prog 75 #[.pointer (some ⟨b,0,none⟩),.int .i64 r,.agg #[.string x.nm,.string x.ds,.int .i64 x.fl,.int .i64 x.lo,.int .i64 x.st,.slice a n s]] w fun e w'=>e=.returned (.tuple #[.agg #[.int .i64 f1,.int .i64 f2],.bool true])∧Bw w w')) (HM:Hid (∀ w,Bw W w→Calls Tryz.prog 69 #[.pointer (some ⟨b,0,none⟩),.agg #[.int .i64 f1,.int .i64 f2]] w fun e w'=>e=.returned (.int .i64 yf)∧Bw w w')) (H1:Hid (∀ w:World,Calls Tryz.prog 62 #[.int .i64 yf,.int .i64 1] w fun e w'=>e=.returned (.bool true)∧w'=w)) (HD:Hid (∀ w,Bw W w→Calls Tryz.prog 71 #[.pointer (some ⟨b,0,none⟩),.agg #[.int .i64 f1,.int .i64 f2]] w fun e w'=>e=.returned (.tuple #[.agg #[.int .i64 u1,.int .i64 u2],.int .i64 u3])∧Bw w w')) (HR:Hid (RAt b cs W)) (HT:Hid (TwW cs ps)) (HX:Hid (Zo ps c i=some x)):Calls Tryz.prog 29 #[.pointer (some ⟨b,0,none⟩),.int .i64 r,.agg #[.int .i64 c,.int .i64 i]] W fun e w'=>e=.returned (idE ((u1,u2),u3))∧Bw W w':=by
 have BB:Hid (Bw W W):=Below.refl _ _
 obtain ⟨kc,q,hck,_,_,_⟩:=Yn HX.out
 subst hck
 go_enter Tryz.func29,Tryz.ntmps29
 go_upto_region 8 with (first
  | (go_at_call 68;refine (HI.out _ (sqE BB)).mono ?_;rintro e w9 ⟨rfl,hw9⟩;rw [hw9];clear hw9 w9 HI)
  | (go_at_call 63;refine (HJ.out _ (sqE BB)).mono ?_;rintro e w1 ⟨rfl,hb⟩;have abd:=kp2 (n:=W.heap.size) hb;(try clear abB ab0 ab1 abf abL abN);obtain ⟨abB,ab0,ab1,abf,abL,abN⟩:=abd;have zbd:=kp2 (n:=W.heap.size+1) hb;(try clear zbB zb0 zb1 zbf zbL zbN);obtain ⟨zbB,zb0,zb1,zbf,zbL,zbN⟩:=zbd;have BB2:Bw W w1:=Za (sqE BB) hb;clear BB;have BB:Hid (Bw W w1):=BB2;clear HJ;clear BB2 hb)
  | (go_at_call 61;refine (HF.out _ (sqE BB)).mono ?_;rintro e w9 ⟨rfl,hw9⟩;rw [hw9];clear hw9 w9 HF)
  | (go_at_call 69;refine (HL.out _ (sqE BB)).mono ?_;rintro e w2 ⟨rfl,hb⟩;have abd:=kp2 (n:=W.heap.size) hb;(try clear abB ab0 ab1 abf abL abN);obtain ⟨abB,ab0,ab1,abf,abL,abN⟩:=abd;have zbd:=kp2 (n:=W.heap.size+1) hb;(try clear zbB zb0 zb1 zbf zbL zbN);obtain ⟨zbB,zb0,zb1,zbf,zbL,zbN⟩:=zbd;have BB2:Bw W w2:=Za (sqE BB) hb;clear BB;have BB:Hid (Bw W w2):=BB2;clear HL;clear BB2 hb)
  | (go_at_call 62;refine (H8.out _).mono ?_;rintro e w9 ⟨rfl,hw9⟩;rw [hw9];clear hw9 w9 H8)
  | (go_at_call 62;refine (H2.out _).mono ?_;rintro e w9 ⟨rfl,hw9⟩;rw [hw9];clear hw9 w9 H2))
 obtain ⟨g,cap,bk,n,cm,j,ac,cc,hij,b0,hlt,hgl,hkI,c5,hbk,hjn,e0,e1,e2,e3,e4,e5,_,_,_⟩:=RAt.meth (HR.out.below BB.out) HT.out HX.out
 subst hij
 have bx1:¬ bk=w2.heap.size:=by omega
 have bx2:¬ g=w2.heap.size:=by omega
 have bx3:¬ b=w2.heap.size:=by omega
 clear HR HT HX
 go_region
 go_wp2_with (first
  | (go_at_call 75;refine (HU.out _ _ _ _ (sqE BB)).mono ?_;rintro e w3 ⟨rfl,hb⟩;have zbd:=kp2 (n:=W.heap.size+1) hb;(try clear zbB zb0 zb1 zbf zbL zbN);obtain ⟨zbB,zb0,zb1,zbf,zbL,zbN⟩:=zbd;have xxd:=kp6 (n:=w2.heap.size) hb;(try clear xxB xx0 xx1 xx2 xx3 xx4 xx5 xxf xxL xxN);obtain ⟨xxB,xx0,xx1,xx2,xx3,xx4,xx5,xxf,xxL,xxN⟩:=xxd;have BB2:Bw W w3:=Za (sqE BB) hb;clear BB;have BB:Hid (Bw W w3):=BB2;clear HU;clear BB2 hb)
  | (go_at_call 69;refine (HM.out _ (sqE BB)).mono ?_;rintro e w4 ⟨rfl,hb⟩;have zbd:=kp2 (n:=W.heap.size+1) hb;(try clear zbB zb0 zb1 zbf zbL zbN);obtain ⟨zbB,zb0,zb1,zbf,zbL,zbN⟩:=zbd;have iid:=kp2 (n:=w3.heap.size) hb;(try clear iiB ii0 ii1 iif iiL iiN);obtain ⟨iiB,ii0,ii1,iif,iiL,iiN⟩:=iid;have BB2:Bw W w4:=Za (sqE BB) hb;clear BB;have BB:Hid (Bw W w4):=BB2;clear HM;clear BB2 hb)
  | (go_at_call 62;refine (H1.out _).mono ?_;rintro e w9 ⟨rfl,hw9⟩;rw [hw9];clear hw9 w9 H1)
  | (go_at_call 71;refine (HD.out _ (sqE BB)).mono ?_;rintro e w5 ⟨rfl,hb⟩;have zbd:=kp2 (n:=W.heap.size+1) hb;(try clear zbB zb0 zb1 zbf zbL zbN);obtain ⟨zbB,zb0,zb1,zbf,zbL,zbN⟩:=zbd;have BB2:Bw W w5:=Za (sqE BB) hb;clear BB;have BB:Hid (Bw W w5):=BB2;clear HD;clear BB2 hb))
 exact bodyPost_ret (v:=idE ((u1,u2),u3)) (by simp [results,Tryz.results29,go_sem,idE, *]) rfl ⟨rfl,(sqE BB)⟩
theorem r12itf_c {b:Nat} {cs:List Cls} {ps:List Plc} {W:World} (h:RAt b cs W) (ht:TwW cs ps) (hJ:WJ ps) (r c i:Int):Calls Tryz.prog 29 #[.pointer (some ⟨b,0,none⟩),.int .i64 r,.agg #[.int .i64 c,.int .i64 i]] W fun e w'=>e=.returned (idE (itfI ps r (c,i)))∧Bw W w':=by
 have hIN:=fun w (hb:Bw W w)=>Zbv (h.below hb) ht r
 have hIS:=fun w (hb:Bw W w)=>Zfk (h.below hb) ht c i
 cases hp:plcI ps r with
 | none =>
   have e:itfI ps r (c,i)=((0,0),3):=by simp [itfI,rfrI,crdI,hp]
   rw [e]
   exact r12I_1 W b r c i _ _ (by rw [hp];rfl) hIN hIS
 | some q =>
   cases hx:Zo ps c i with
   | none =>
     have e:itfI ps r (c,i)=((0,0),3):=by simp [itfI,rfrI,crdI,hp,hx]
     rw [e]
     exact r12I_1 W b r c i _ _ (by rw [hx];simp) hIN hIS
   | some x =>
     rw [hp] at hIN
     rw [hx] at hIS
     have hIF:=fun w (hb:Bw W w)=>(Y4 (h.below hb) r).mono fun e w' zz=>(⟨by rw [zz.1,Zap ht],zz.2⟩:e=.returned (.bool (ifcI ps r))∧w'=w)
     have hFL:=fun w (hb:Bw W w)=>Zbz (h.below hb) ht c i x hx
     have hH8:=fun w:World=>Zv x.fl 8 w
     have hH2:=fun w:World=>Zv x.fl 2 w
     cases hf:ifcI ps r with
     | true =>
       have e:itfI ps r (c,i)=((0,0),2):=by simp [itfI,rfrI,crdI,hp,hx,hf]
       rw [e]
       rw [hf] at hIF
       exact r12I_2 W b r c i hIN hIS hIF
     | false =>
       rw [hf] at hIF
       have e:itfI ps r (c,i)=if hasI x.fl 10 then ((0,0),23) else if (uchI ps x.nm x.ds r).2 then (if hasS ps (uchI ps x.nm x.ds r).1.1 (uchI ps x.nm x.ds r).1.2 1 then unaI ps (uchI ps x.nm x.ds r).1 else ((0,0),22)) else onI ps r x.nm x.ds:=by simp [itfI,rfrI,crdI,hp,hx,hf]
       rw [e,has10]
       cases h8:hasI x.fl 8 with
       | true =>
         rw [h8] at hH8
         rw [if_pos (by simp)]
         exact r12I_3 W b r c i x.fl hIN hIS hIF hFL hH8
       | false =>
         rw [h8] at hH8
         cases h2:hasI x.fl 2 with
         | true =>
           rw [h2] at hH2
           rw [if_pos (by simp)]
           exact r12I_4 W b r c i x.fl hIN hIS hIF hFL hH8 hH2
         | false =>
           rw [h2] at hH2
           rw [if_neg (by simp)]
           obtain ⟨kq,q2,rfl,hq2,_⟩:∃ (k:Nat) (q:Plc),r=(k:Int)∧ps[k]?=some q∧plcI ps r=some q:=by
            rcases Zl ps r with ⟨h1,_⟩|h1
            ·rw [h1] at hp;cases hp
            ·exact h1
           have hkq:=(List.getElem?_eq_some_iff.1 hq2).1
           have eu:uchI ps x.nm x.ds (kq:Int)=uppI ps x.nm x.ds (chL (ps.map nd) kq):=by rw [uchI,hp];simp
           have hUP:=fun (a:Option Addr) (n s:Nat) w (hb:Bw W w)=>r12up_c (h.below hb) ht kq hkq x.nm x.ds x.fl x.lo x.st a n s
           rw [← eu] at hUP
           cases hu:(uchI ps x.nm x.ds (kq:Int)).2 with
           | false =>
             rw [if_neg (by simp)]
             rw [idB,hu] at hUP
             exact r12I_5 x W b kq c i x.fl hIN hIS hIF hFL hH8 hH2 _ _ _ _ _ hUP (fun w hb=>rOn_c (h.below hb) ht hJ kq x.nm x.ds) h ht hx
           | true =>
             rw [if_pos rfl]
             rw [idB,hu] at hUP
             obtain ⟨_,_,hb1,⟨y,hy,_⟩,_⟩:=Ze4 (ps:=ps) (nm:=x.nm) (ds:=x.ds) (l:=chL (ps.map nd) kq) (b:=(uchI ps x.nm x.ds (kq:Int)).1) (by rw [← eu];exact Prod.ext rfl hu)
             have hFM:=fun w (hb:Bw W w)=>Zbz (h.below hb) ht _ _ y hy
             have hH1:=fun w:World=>Zv y.fl 1 w
             rw [Zln hy]
             cases h1:hasI y.fl 1 with
             | false =>
               rw [h1] at hH1
               rw [if_neg (by simp)]
               exact r12I_6 x W b kq c i x.fl hIN hIS hIF hFL hH8 hH2 _ _ _ hUP hFM hH1 h ht hx
             | true =>
               rw [h1] at hH1
               rw [if_pos rfl]
               exact r12I_7 x W b kq c i x.fl hIN hIS hIF hFL hH8 hH2 _ _ _ _ _ _ hUP hFM hH1 (fun w hb=>Zk3 (h.below hb) ht _ _ y hy) h ht hx
theorem Zk2 (W:World) (b:Nat) (x E E2:Int) (f:Bool) (hE:(¬ E2=0∧E=3)∨(E2=0∧f=true∧E=23)) (HC:Hid (Calls Tryz.prog 51 #[.pointer (some ⟨b,0,none⟩),.int .i64 x] W fun e w'=>(∃ v,e=.returned (.tuple #[v,.int .i64 E2]))∧Bw W w')) (HF:Hid (∀ w,Bw W w→Calls Tryz.prog 61 #[.pointer (some ⟨b,0,none⟩),.int .i64 x] w fun e w'=>e=.returned (.bool f)∧w'=w)):Calls Tryz.prog 18 #[.pointer (some ⟨b,0,none⟩),.int .i64 x] W fun e w'=>e=.returned (.tuple #[.slice none 0 0,.int .i64 E])∧Bw W w':=by
 go_enter Tryz.func18,Tryz.ntmps18
 rcases hE with ⟨hE2,rfl⟩|⟨rfl,rfl,rfl⟩
 case' inl=>have hE3:(E2 == 0)=false:=by simp [hE2]
 all_goals
  go_wp2_with (first|(go_at_call 51;refine HC.out.mono ?_;rintro e w1 ⟨⟨v,rfl⟩,hb⟩;have B1:Hid (Bw W w1):=hb;clear hb HC)|(go_at_call 61;refine (HF.out _ B1.out).mono ?_;rintro e w9 ⟨rfl,hw9⟩;rw [hw9];clear hw9 w9 HF))
  exact bodyPost_ret (results_tmp2 rfl _ _ _) rfl ⟨rfl,B1.out⟩
theorem r14r_c {b:Nat} {cs:List Cls} {ps:List Plc} {W:World} (h:RAt b cs W) (ht:TwW cs ps) (hJ:WJ ps) (x:Int):Calls Tryz.prog 18 #[.pointer (some ⟨b,0,none⟩),.int .i64 x] W fun e w'=>(∃ v,e=.returned (.tuple #[v,.int .i64 (itE ps x)])∧w'.ownsRow W.heap.size 38 2 v (rtsR ps x).length (Zf (rtsR ps x)))∧Bw W w':=by
 have hW:=ht.wi
 have HF:∀ w,Bw W w→Calls Tryz.prog 61 #[.pointer (some ⟨b,0,none⟩),.int .i64 x] w fun e w'=>e=.returned (.bool (ifcI ps x))∧w'=w:=fun w hb=>by
  have:=Y4 (h.below hb) x
  rw [Zap ht] at this
  exact this
 rcases Zl ps x with ⟨hn,_⟩|⟨k,q,rfl,hq,hp⟩
 ·have e1:itE ps x=3:=by rw [itE,hn]
  have e2:rtsR ps x=[]:=by rw [rtsR,hn]
  rw [e1,e2]
  refine (Zk2 W b x 3 3 _ (.inl ⟨by decide,rfl⟩) ((Zbx h ht x hn).mono fun e w' zz=>⟨⟨_,zz.1⟩,zz.2⟩) HF).mono fun e w' zz=>⟨⟨_,zz.1,World.ownsRow_nil _ _ _ _⟩,zz.2⟩
 ·have hcl:=Zaz h ht hJ k q hq
  cases hf:ifcI ps (k:Int) with
  | true =>
    have e1:itE ps (k:Int)=23:=by rw [itE,hp];simp only;rw [hf];rfl
    have e2:rtsR ps (k:Int)=[]:=by rw [rtsR,hp];simp only;rw [hf];rfl
    rw [e1,e2]
    rw [hf] at HF
    refine (Zk2 W b k 23 0 true (.inr ⟨rfl,rfl,rfl⟩) (hcl.mono fun e w' zz=>⟨by obtain ⟨v,h1,_⟩:=zz.1;exact ⟨v,h1⟩,zz.2⟩) HF).mono fun e w' zz=>⟨⟨_,zz.1,World.ownsRow_nil _ _ _ _⟩,zz.2⟩
  | false =>
    have e1:itE ps (k:Int)=0:=by rw [itE,hp];simp only;rw [hf];rfl
    have e2:rtsR ps (k:Int)=rtsP ps q:=by rw [rtsR,hp];simp only;rw [hf];rfl
    rw [e1,e2,rtsP]
    rw [hf] at HF
    have hk:k<ps.length:=(List.getElem?_eq_some_iff.1 hq).1
    obtain ⟨q0,hq0⟩:∃ q0,ps[0]?=some q0:=⟨_,List.getElem?_eq_getElem (by omega)⟩
    have hcl2:=hW.wo.cl k (nd q) (by rw [List.getElem?_map,hq];rfl)
    have hmt:∀ (j:Nat) (p:Plc),ps[j]?=some p→mtK ps j=p.c.ms:=fun j p hj=>by rw [mtK,hj]
    have hlen:∀ j,(mtK ps j).length≤1000000:=fun j=>by
     rw [mtK]
     split
     ·rename_i p hp;exact (hW.pb p (List.mem_of_getElem? hp)).ms
     ·exact Nat.zero_le _
    obtain ⟨c0,hc0,hqc0⟩:=ht.tw.at' hq0
    have hms0:mtK ps 0=c0.ms.map hmOf:=by rw [hmt 0 q0 hq0,hqc0];rfl
    obtain ⟨g,cap,vi,vm,b0,hbl,hgl,_,_,_,_,_,c5,_,hMs⟩:=RAt.cells h hc0
    obtain ⟨am,cm,rfl,_,_,m3⟩:=hMs
    have hcc:0<cs.length:=(List.getElem?_eq_some_iff.1 hc0).1
    have hK:q.cl.length≤300:=by
     have h3:q.cl.length≤ps.length:=by
      have:=List.Nodup.length_le_of_subset hcl2.1 (l₂:=List.range ps.length) (fun i hi=>List.mem_range.2 (by
       have h5:=(hcl2.2 i hi).1
       omega))
      rw [List.length_range] at this
      exact this
     have:=hW.hi
     omega
    refine r14r_w W b g cs.length cap am c0.ms.length cm (mtK ps 0) (mtK ps) q.cl q.cl.length k b0 hbl hgl (by omega) (by simpa using c5) (by have:=hlen 0;rw [hms0,List.length_map] at this;exact this) (show _=_ by rw [hms0,List.length_map]) rfl hK ?_ ?_ hcl HF
    ·intro i m hm
     rw [hms0,List.getElem?_map] at hm
     cases e:c0.ms[i]? with
     | none=>rw [e] at hm;cases hm
     | some y =>
       rw [e] at hm
       cases hm
       obtain ⟨bk,o,rfl,hbk,hat⟩:=m3 (by intro h0;rw [h0] at e;simp at e)
       obtain ⟨t0,t1,t2,t3,t4,v5,t5,t6⟩:=hat i y e
       obtain ⟨sa,sc,rfl,_⟩:=t6
       exact ⟨bk,o,sa,_,sc,rfl,hbk,t0,t1,t2,t3,t4,t5⟩
    ·intro j kk hj
     have hkk:kk<ps.length:=by
      have h5:=(hcl2.2 kk (List.mem_of_getElem? hj)).1
      omega
     obtain ⟨p,hpk⟩:∃ p,ps[kk]?=some p:=⟨_,List.getElem?_eq_getElem hkk⟩
     obtain ⟨c,hc,hqc⟩:=ht.tw.at' hpk
     have hms:mtK ps kk=c.ms.map hmOf:=by rw [hmt kk p hpk,hqc];rfl
     obtain ⟨g',cap',vi',vm',b0',_,_,_,_,_,_,_,c5',_,hMs'⟩:=RAt.cells h hc
     obtain ⟨am',cm',rfl,_,_,m3'⟩:=hMs'
     rw [b0] at b0'
     cases b0'
     refine ⟨(List.getElem?_eq_some_iff.1 hc).1,hlen kk,am',cm',(by rw [hms,List.length_map];exact c5'),fun i m hm=>?_⟩
     rw [hms,List.getElem?_map] at hm
     cases e:c.ms[i]? with
     | none=>rw [e] at hm;cases hm
     | some y =>
       rw [e] at hm
       cases hm
       obtain ⟨bk,o,rfl,hbk,hat⟩:=m3' (by intro h0;rw [h0] at e;simp at e)
       exact ⟨bk,o,rfl,hbk,(hat i y e).2.2.1⟩
theorem r14b_w (W:World) (b:Nat) (x E:Int) (R:List (Int×Int)) (n:Nat) (HRL:Hid (R.length=n)) (hn:n≤301000000) (F G:Int×Int→(Int×Int)×Int) (EN:Int×Int→Ent) (HEN:Hid (∀ y,EN y=⟨y,(F y).1,(F y).2,(G y).1,(G y).2⟩))
 (HR:Hid (Calls Tryz.prog 18 #[.pointer (some ⟨b,0,none⟩),.int .i64 x] W fun e w'=>(∃ v,e=.returned (.tuple #[v,.int .i64 E])∧w'.ownsRow W.heap.size 38 2 v n (Zf R))∧Bw W w'))
 (HI:Hid (∀ (c i:Int) w,Bw W w→Calls Tryz.prog 29 #[.pointer (some ⟨b,0,none⟩),.int .i64 x,.agg #[.int .i64 c,.int .i64 i]] w fun e w'=>e=.returned (idE (F (c,i)))∧Bw w w'))
 (HV:Hid (∀ (c i:Int) w,Bw W w→Calls Tryz.prog 26 #[.pointer (some ⟨b,0,none⟩),.int .i64 x,.agg #[.int .i64 c,.int .i64 i]] w fun e w'=>e=.returned (idE (G (c,i)))∧Bw w w')) :
 Calls Tryz.prog 13 #[.pointer (some ⟨b,0,none⟩),.int .i64 x] W fun e w'=>(∃ v,e=.returned (.tuple #[v,.int .i64 E])∧w'.ownsRow W.heap.size 40 8 v (R.map EN).length (Yo (R.map EN)))∧Bw W w':=by
 obtain ⟨i0,hi0,hz0,hz1,hz2⟩:=info_parts Tryz.hinfoE
 go_enter Tryz.func13,Tryz.ntmps13
 go_wp2_with (go_at_call 18;refine HR.out.mono ?_;rintro e V ⟨⟨v0,rfl,ho⟩,hb⟩;obtain ⟨aa,ca,rfl⟩:=ownv ho;have RO:Hid (V.ownsRow W.heap.size 38 2 (.slice aa n ca) n (Zf R)):=ho;have BV:Hid (Bw W V):=hb;clear ho hb HR)
 go_loopw [8,9] (fun sv iv wr=>∃ i:Nat,iv=.int .i64 i∧i≤n∧Hid (wr.ownsRow V.heap.size 40 8 sv i (Yo ((R.take i).map EN)))∧Hid (Bw V wr)) (fun _ iv _=>n - (intOf iv).toNat)
 case atStart=>exact ⟨0,rfl,Nat.zero_le _,World.ownsRow_nil _ _ _ _,Below.refl _ _⟩
 case round =>
  obtain ⟨i,rfl,hi,hO,hB⟩:=hrel
  by_cases hlt:i<n
  ·have hiI:(i:Int)<(n:Int):=by omega
   obtain ⟨y,hy⟩:∃ y,R[i]?=some y:=⟨_,List.getElem?_eq_getElem (by rw [HRL.out];exact hlt)⟩
   obtain ⟨g2,c2,hf2,_,g2V,q2⟩:=Qh RO.out (by omega)
   injection hf2 with ha2 _ hc2
   subst ha2 hc2
   obtain ⟨p0,p1⟩:=Zbl R i y hy
   have CX:Hid (V.cell? ⟨g2,i * 2,none⟩=some (.int .i64 y.1)∧V.cell? ⟨g2,i * 2+1,none⟩=some (.int .i64 y.2)):=⟨q2 _ _ p0,q2 _ _ p1⟩
   have g2r:g2<wr.heap.size:=Nat.lt_of_lt_of_le g2V hB.out.size
   have cy0:wr.cell? ⟨g2,i * 2,none⟩=some (.int .i64 y.1):=(hB.out.cell (p:=⟨g2,i * 2,none⟩) g2V).trans CX.out.1
   have cy1:wr.cell? ⟨g2,i * 2+1,none⟩=some (.int .i64 y.2):=(hB.out.cell (p:=⟨g2,i * 2+1,none⟩) g2V).trans CX.out.2
   have HST:Hid (Yo ((R.take (i+1)).map EN)=Yo ((R.take i).map EN)++(EN y).cells):=by
    show _=_
    rw [List.take_add_one,hy,Option.toList_some,List.map_append,Zf9];simp [Yo]
   have HIy:=HI.out y.1 y.2
   have HVy:=HV.out y.1 y.2
   rw [HEN.out y] at HST
   obtain ⟨y1,y2⟩:=y
   simp only [idE,Ent.cells] at HIy HVy HST CX cy0 cy1
   generalize F (y1,y2)=FF at *
   generalize G (y1,y2)=GG at *
   obtain ⟨⟨a1,a2⟩,a3⟩:=FF
   obtain ⟨⟨v1,v2⟩,v3⟩:=GG
   have HII:Hid (∀ w,Bw W w→Calls Tryz.prog 29 #[.pointer (some ⟨b,0,none⟩),.int .i64 x,.agg #[.int .i64 y1,.int .i64 y2]] w fun e w'=>e=.returned (.tuple #[.agg #[.int .i64 a1,.int .i64 a2],.int .i64 a3])∧Bw w w'):=HIy
   have HVV:Hid (∀ w,Bw W w→Calls Tryz.prog 26 #[.pointer (some ⟨b,0,none⟩),.int .i64 x,.agg #[.int .i64 y1,.int .i64 y2]] w fun e w'=>e=.returned (.tuple #[.agg #[.int .i64 v1,.int .i64 v2],.int .i64 v3])∧Bw w w'):=HVy
   obtain ⟨ta,tc,rfl⟩:=ownv hO.out
   clear hy p0 p1 q2 HIy HVy HI HV HEN
   go_wp2_with (first
    | (go_at_call 29;refine (HII.out _ (Za BV.out hB.out)).mono ?_;rintro e w2 ⟨rfl,hb⟩;have OL:Hid (w2.ownsRow V.heap.size 40 8 (.slice ta i tc) i (Yo ((R.take i).map EN))):=Zd hO.out hb;have B2:Hid (Bw V w2):=Za hB.out hb;have cz0:w2.cell? ⟨g2,i * 2,none⟩=some (.int .i64 y1):=(B2.out.cell (p:=⟨g2,i * 2,none⟩) g2V).trans CX.out.1;have cz1:w2.cell? ⟨g2,i * 2+1,none⟩=some (.int .i64 y2):=(B2.out.cell (p:=⟨g2,i * 2+1,none⟩) g2V).trans CX.out.2;have g2w:g2<w2.heap.size:=Nat.lt_of_lt_of_le g2V B2.out.size;have g2n:¬ g2=w2.heap.size:=(by omega);clear hb HII cy0 cy1)
    | (go_at_call 26;refine (HVV.out _ (Za BV.out (B2.out.alloc B2.out.size _))).mono ?_;rintro e w3 ⟨rfl,hb⟩;have mmd:=kp2 (n:=w2.heap.size) hb (by simp) (Zm _ _);obtain ⟨mmB,mm0,mm1,mmf,mmL,mmN⟩:=mmd;have OL3:Hid (w3.ownsRow V.heap.size 40 8 (.slice ta i tc) i (Yo ((R.take i).map EN))):=Zd (OL.out.alloc _) hb;have B3:Hid (Bw V w3):=Za (B2.out.alloc B2.out.size _) hb;clear hb HVV cz0 cz1 OL))
   have bU:Bw V (w3.alloc (.cells #[.int .i64 v1,.int .i64 v2] 38)):=B3.out.alloc B3.out.size _
   have hU0:(w3.alloc (.cells #[.int .i64 v1,.int .i64 v2] 38)).heap[w3.heap.size]?=some (.cells #[.int .i64 v1,.int .i64 v2] 38 (0,0)):=Zm _ _
   have hU1:(w3.alloc (.cells #[.int .i64 v1,.int .i64 v2] 38)).heap[w2.heap.size]?=some (.cells #[.int .i64 a1,.int .i64 a2] 38 (0,0)):=Zg mmB.out
   have hUs:(w3.alloc (.cells #[.int .i64 v1,.int .i64 v2] 38)).heap.size=w3.heap.size+1:=by simp
   have OU:Hid ((w3.alloc (.cells #[.int .i64 v1,.int .i64 v2] 38)).ownsRow V.heap.size 40 8 (.slice ta i tc) i (Yo ((R.take i).map EN))):=OL3.out.alloc _
   have hw3:V.heap.size≤w3.heap.size:=B3.out.size
   clear mmB mm0 mm1 mmf mmN
   generalize (w3.alloc (.cells #[.int .i64 v1,.int .i64 v2] 38))=U at *
   have BU:Hid (Bw V U):=bU
   have cz0:U.cell? ⟨g2,i * 2,none⟩=some (.int .i64 y1):=(bU.cell (p:=⟨g2,i * 2,none⟩) g2V).trans CX.out.1
   have cz1:U.cell? ⟨g2,i * 2+1,none⟩=some (.int .i64 y2):=(bU.cell (p:=⟨g2,i * 2+1,none⟩) g2V).trans CX.out.2
   obtain ⟨m0,m1,mf,mL⟩:=rw2 hU0
   obtain ⟨l0,l1,lf,lL⟩:=rw2 hU1
   have mN:¬ w3.heap.size=U.heap.size:=by omega
   have lN:¬ w2.heap.size=U.heap.size:=by omega
   have gN:¬ g2=U.heap.size:=by omega
   have gL:g2<U.heap.size:=by omega
   clear bU hU0 hU1 OL3 B3 B2 CX
   go_upto_region 8 with fail
   go_region_law (refine step_append_lies _ rfl (.tmp 46) (.tmp 56) 26 rfl V.heap.size 40 i0 (.agg #[.int .i64 0,.int .i64 0,.int .i64 0,.int .i64 0,.int .i64 0,.int .i64 0,.int .i64 0,.int .i64 0]) 8 64 Tryz.underlying26 hi0 hz0 hz1 hz2 rfl (by decide) (.slice ta i tc) i (Yo ((R.take i).map EN)) (by simp [Act.eval]) ((OU.out.drew).alloc _) ⟨U.heap.size,0,none⟩ 1 1 [.int .i64 y1,.int .i64 y2,.int .i64 a1,.int .i64 a2,.int .i64 a3,.int .i64 v1,.int .i64 v2,.int .i64 v3] (by simp [Act.eval]) rfl (World.news_of_block (heap_alloc_new _ _)) ?_ (by decide) ?_ ?_ ?_ _ rfl ?_;(intro u hu;simp at hu;rcases hu with rfl|rfl|rfl|rfl|rfl|rfl|rfl|rfl <;> rfl);(unfold maxLen;omega);omega;(simp;omega);intro g5 cap5 w5 hown hgrow _ _;have O5:Hid (w5.ownsRow V.heap.size 40 8 (.slice (some ⟨g5,0,none⟩) (i+1) cap5) (i+1) (Yo ((R.take i).map EN)++[.int .i64 y1,.int .i64 y2,.int .i64 a1,.int .i64 a2,.int .i64 a3,.int .i64 v1,.int .i64 v2,.int .i64 v3])):=hown;have B5:Hid (Bw V w5):=(by refine Below.grown (BU.out.drew.alloc (by simpa using BU.out.size) _) hgrow (by have:=BU.out.size;simp;omega) (fun z hz=>?_);exact (OU.out.lt z hz).1);clear hown hgrow)
   all_goals go_wp2
   all_goals exact ⟨⟨i+1,by simp,by omega,(by rw [HST.out];exact O5),B5⟩,by simp [intOf];omega⟩
  ·have e:i=n:=by omega
   subst e
   rw [List.take_of_length_le (by rw [HRL.out];exact Nat.le_refl _)] at hO
   obtain ⟨ta,tc,e9⟩:=ownv hO.out
   go_wp2
   exact bodyPost_ret (results_tmp2 rfl _ _ _) rfl ⟨⟨_,rfl,(by rw [List.length_map,HRL.out];exact Go.Joins.ownsRow_le hO.out BV.out.size)⟩,Za BV.out hB.out⟩
theorem Zhu {ps:List Plc} (hW:WI ps) (x:Int):(rtsR ps x).length≤301000000:=by
 rcases Zbj ps x with ⟨_,k,q,_,hq,_,e⟩|⟨e,_⟩
 ·rw [e];exact Zgy hW hq
 ·rw [e];exact Nat.zero_le _
theorem r14b_c {b:Nat} {cs:List Cls} {ps:List Plc} {W:World} (h:RAt b cs W) (ht:TwW cs ps) (hJ:WJ ps) (hS:SndI ps) (hU:UnqM ps) (hz:∀ c∈cs,c.nm.size≤maxLen) (x:Int):Calls Tryz.prog 13 #[.pointer (some ⟨b,0,none⟩),.int .i64 x] W fun e w'=>(∃ v,e=.returned (.tuple #[v,.int .i64 (itE ps x)])∧w'.ownsRow W.heap.size 40 8 v (itT ps x).length (Yo (itT ps x)))∧Bw W w' :=
 r14b_w W b x (itE ps x) (rtsR ps x) _ rfl (Zhu ht.wi x) (itfI ps x) (virI ps x) (entP ps x) (fun _=>rfl) (r14r_c h ht hJ x) (fun c i _ hb=>r12itf_c (h.below hb) ht hJ x c i) (fun c i _ hb=>r12vir_c (h.below hb) ht hJ hS hU hz x c i)
theorem Zgr {w w':World} {v:Value} {l:List Cls} (h:Za2 w v l) (hb:Bw w w'):Za2 w' v l:=by
 obtain ⟨ao,cap,rfl,h1,h2,h3⟩:=h
 refine ⟨ao,cap,rfl,h1,h2,fun hne=>?_⟩
 obtain ⟨bk,o,e,hlt,hc⟩:=h3 hne
 refine ⟨bk,o,e,Nat.lt_of_lt_of_le hlt hb.size,fun k c hk=>?_⟩
 obtain ⟨vi,vm,h4,h5⟩:=hc k c hk
 exact ⟨vi,vm,fun j u hj=>(hb.cell hlt).trans (h4 j u hj),h5.keep hb⟩
theorem rts3:rtsR P3 0=[(0,1)]:=by kernel_rfl
theorem itE3:itE P3 0=0:=by kernel_rfl
theorem Zmu (W:World) (HN:Hid (∀ w:World,Calls Tryz.prog 35 #[] w fun e w'=>∃ b,e=.returned (.pointer (some ⟨b,0,none⟩))∧WAt b P3 w'∧Bw w w')) (HM:Hid (∀ (w:World) (b:Nat),WAt b P3 w→Calls Tryz.prog 12 #[.pointer (some ⟨b,0,none⟩),.int .i64 0] w fun e w'=>(∃ v,e=.returned (.tuple #[v,.int .i64 0])∧w'.ownsRow w.heap.size 38 2 v 1 (Zf [(0,1)]))∧Bw w w')):Calls Tryz.prog 9 #[] W fun e w'=>e=.returned (.bool true)∧Bw W w':=by
 go_enter Tryz.func9,Tryz.ntmps9
 go_wp2_with (first
  | (go_at_call 35;refine (HN.out _).mono ?_;rintro e w1 ⟨b,rfl,hw,hb⟩;have H1:Hid (WAt b P3 w1):=hw;have B1:Hid (Bw W w1):=hb;clear hw hb HN)
  | (go_at_call 12;refine (HM.out _ _ H1.out).mono ?_;rintro e w2 ⟨⟨v,rfl,ho⟩,hb⟩;obtain ⟨g,cap,rfl,_,hgl,hcs⟩:=Qh ho (by decide);have t0:=hcs 0 _ rfl;have t1:=hcs 1 _ rfl;have B2:Hid (Bw W w2):=Za B1.out hb;clear hb ho hcs HM))
 all_goals go_ret
 all_goals exact ⟨retB (by simp),B2.out⟩
theorem Zmv (W:World):Calls Tryz.prog 9 #[] W fun e w'=>e=.returned (.bool true)∧Bw W w' :=
 Zmu W (fun w=>(Zlc w).mono fun e w' zz=>⟨_,zz.1,by obtain ⟨vp,pv,hw⟩:=zz.2.1;exact hw.wat,zz.2.2⟩) (fun w b h=>by
  have:=Zki h wi3 0
  rw [rts3,itE3] at this
  exact this)
theorem Zmr (v:Value) (l:List Cls) (W:World) (h:Za2 W v l):Calls Tryz.prog 10 #[v] W fun e w'=>(∃ b,e=.returned (.pointer (some ⟨b,0,none⟩))∧∃ mb vp pv,HW w' W.heap.size b mb (wld l) vp pv)∧Bw W w':=by
 have hCW:=Zmf h
 obtain ⟨ao,cap,rfl,h1,h2,h3⟩:=h
 unfold maxLen at h2
 obtain ⟨L,hL⟩:∃ L,l.length=L:=⟨_,rfl⟩
 have HL:Hid (l.length=L):=hL
 have HI:Hid _:=h3
 have HCW:Hid (∀ c∈l,ClsW c):=hCW
 rw [hL] at h1 ⊢
 clear hL h3 hCW
 have HN:Hid (∀ w:World,Calls Tryz.prog 35 #[] w fun e w'=>e=.returned (.pointer (some ⟨w.heap.size+1,0,none⟩))∧(∃ vp pv,HW w' w.heap.size (w.heap.size+1) w.heap.size P3 vp pv)∧Bw w w'):=Zlc
 go_enter Tryz.func10,Tryz.ntmps10
 go_wp2_with (first
  | (go_at_call 35;refine (HN.out _).mono ?_;rintro e w2 ⟨rfl,hw,hb⟩;have H2:Hid (∃ vp pv,HW w2 W.heap.size (W.heap.size+1) W.heap.size P3 vp pv):=hw;have B2:Hid (Bw W w2):=hb;clear hb hw HN))
 go_loopw [4] (fun iv wr=>∃ (i:Nat),iv=.int .i64 i∧i≤L∧Hid (∃ vp pv,HW wr W.heap.size (W.heap.size+1) W.heap.size (wld (l.take i)) vp pv)∧Hid (Bw W wr)) (fun iv _=>L - (intOf iv).toNat)
 case atStart=>exact ⟨0,rfl,Nat.zero_le _,H2,B2⟩
 case round =>
  clear H2 B2
  obtain ⟨i,rfl,hi,hHW,hB⟩:=hrel
  by_cases hlt:i<L
  ·obtain ⟨c,hc⟩:∃ c,l[i]?=some c:=⟨_,List.getElem?_eq_getElem (by rw [HL.out];exact hlt)⟩
   obtain ⟨bk,o,rfl,hbk,hcl⟩:=HI.out (fun e=>by rw [e] at hc;simp at hc)
   obtain ⟨vi,vm,hcell,hin⟩:=hcl i c hc
   have bel:Bw W wr:=hB.out
   have p0:wr.cell? ⟨bk,o+i * 6,none⟩=some (.string c.nm):=(bel.cell (p:=⟨bk,o+i * 6,none⟩) hbk).trans (hcell 0 _ rfl)
   have p1:wr.cell? ⟨bk,o+i * 6+1,none⟩=some (.string c.su):=(bel.cell (p:=⟨bk,o+i * 6+1,none⟩) hbk).trans (hcell 1 _ rfl)
   have p2:wr.cell? ⟨bk,o+i * 6+2,none⟩=some vi:=(bel.cell (p:=⟨bk,o+i * 6+2,none⟩) hbk).trans (hcell 2 _ rfl)
   have p3:wr.cell? ⟨bk,o+i * 6+3,none⟩=some (.int .i64 c.fl):=(bel.cell (p:=⟨bk,o+i * 6+3,none⟩) hbk).trans (hcell 3 _ rfl)
   have p4:wr.cell? ⟨bk,o+i * 6+4,none⟩=some (.int .i64 c.ld):=(bel.cell (p:=⟨bk,o+i * 6+4,none⟩) hbk).trans (hcell 4 _ rfl)
   have p5:wr.cell? ⟨bk,o+i * 6+5,none⟩=some vm:=(bel.cell (p:=⟨bk,o+i * 6+5,none⟩) hbk).trans (hcell 5 _ rfl)
   have hWI:WI (wld (l.take i)):=Zj3 _ (fun c hc=>HCW.out c (List.mem_of_mem_take hc))
   have HD:Hid (Calls Tryz.prog 38 #[.pointer (some ⟨W.heap.size+1,0,none⟩),.agg #[.string c.nm,.string c.su,vi,.int .i64 c.fl,.int .i64 c.ld,vm]] wr fun e w'=>(∃ u,e=.returned u)∧Hid (∃ vp pv,HW w' W.heap.size (W.heap.size+1) W.heap.size (wld (l.take (i+1))) vp pv)∧Hid (Bw W w')):=by
    obtain ⟨vp,pv,hw⟩:=hHW.out
    refine (Zjt W.heap.size (W.heap.size+1) W.heap.size _ vp pv c vi vm wr hw hB.out.size (hin.keep bel) hWI.nm).mono ?_
    rintro e w' ⟨rfl,hw',hb',_⟩
    rw [wld_at hc]
    exact ⟨⟨_,rfl⟩,hw',hB.out.trans hb'⟩
   clear hcl hcell hin hc bel hWI hHW hB HI
   go_wp2_with (go_at_call 38;refine HD.out.mono ?_;rintro e w3 ⟨⟨u3,rfl⟩,hw3,hb3⟩;clear HD)
   go_roundw
   case rel=>exact ⟨i+1,by go_num,by omega,hw3,hb3⟩
   case measure=>simp [intOf];omega
  ·have e:i=L:=by omega
   subst e
   have HF:Hid (∃ mb vp pv,HW wr W.heap.size (W.heap.size+1) mb (wld l) vp pv):=by
    obtain ⟨vp,pv,hw⟩:=hHW.out
    rw [List.take_of_length_le (by rw [HL.out];exact Nat.le_refl _)] at hw
    exact ⟨_,_,_,hw⟩
   clear hHW HI
   go_wp2
   exact bodyPost_ret (results_tmp rfl _ _ _) rfl ⟨⟨_,rfl,HF.out⟩,hB.out⟩
theorem Zgx (N1 N2:Nat) (l:List (Int×Int)) (v1 v2:Value) (W:World) (h1:W.ownsRow N1 38 2 v1 l.length (Zf l)) (h2:W.ownsRow N2 38 2 v2 l.length (Zf l)) (hn:l.length≤1000000000):Calls Tryz.prog 19 #[v1,v2] W fun e w'=>e=.returned (.bool true)∧Bw W w':=by
 obtain ⟨a1,c1,rfl⟩:=ownv h1
 obtain ⟨a2,c2,rfl⟩:=ownv h2
 have H1:Hid (W.ownsRow N1 38 2 (.slice a1 l.length c1) l.length (Zf l)):=h1
 have H2:Hid (W.ownsRow N2 38 2 (.slice a2 l.length c2) l.length (Zf l)):=h2
 obtain ⟨K,hK⟩:∃ K,l.length=K:=⟨_,rfl⟩
 have HK:Hid (l.length=K):=hK
 rw [hK] at hn ⊢
 clear h1 h2 hK
 go_enter Tryz.func19,Tryz.ntmps19
 go_wp2
 go_loopw [5] (fun iv wr=>∃ i:Nat,iv=.int .i64 i∧i≤K∧Hid (Bw W wr)) (fun iv _=>K - (intOf iv).toNat)
 case atStart=>exact ⟨0,rfl,Nat.zero_le _,Below.refl _ _⟩
 case round =>
  obtain ⟨i,rfl,hi,hb⟩:=hrel
  by_cases hlt:i<K
  ·have hlq:i<l.length:=by rw [HK.out];exact hlt
   obtain ⟨x,hx⟩:∃ x,l[i]?=some x:=⟨_,List.getElem?_eq_getElem hlq⟩
   obtain ⟨g1,d1,hf1⟩:=Go.Joins.ownsRow_form H1.out (by omega)
   obtain ⟨g2,d2,hf2⟩:=Go.Joins.ownsRow_form H2.out (by omega)
   have r1:=H1.out
   have r2:=H2.out
   rw [hf1] at r1
   rw [hf2] at r2
   obtain ⟨e0,e1,hgl1⟩:=Z5 r1 hx
   obtain ⟨f0,f1,hgl2⟩:=Z5 r2 hx
   injection hf1 with ha1 _ hc1
   injection hf2 with ha2 _ hc2
   subst ha1 hc1 ha2 hc2
   obtain ⟨σ,V,hne,V1,V2⟩:=class_of' (fun w'=>Bw W w') ⟨_,Below.refl _ _⟩
   have kp:∀ (s:σ) (bb j:Nat) (v:Value),bb<W.heap.size→W.cell? ⟨bb,j,none⟩=some v→(V s).cell? ⟨bb,j,none⟩=some v:=fun s bb j v hl h=>((V1.out s).cell (p:=⟨bb,j,none⟩) hl).trans h
   replace e0:=fun s=>kp s _ _ _ hgl1 e0
   replace e1:=fun s=>kp s _ _ _ hgl1 e1
   replace f0:=fun s=>kp s _ _ _ hgl2 f0
   replace f1:=fun s=>kp s _ _ _ hgl2 f1
   have HS:Hid (∀ s,Calls Tryz.prog 27 #[.agg #[.int .i64 x.1,.int .i64 x.2],.agg #[.int .i64 x.1,.int .i64 x.2]] (V s) fun e w'=>e=.returned (.bool true)∧∃ s',w'=V s'):=fun s=>(Zdu x x (V s)).mono fun e w' zz=>⟨by rw [zz.1];simp,V2.out _ (Za (V1.out s) zz.2)⟩
   have hiI:(i:Int)<(K:Int):=by omega
   obtain ⟨x1,x2⟩:=x
   simp only at e0 e1 f0 f1 HS
   clear hx r1 r2 kp hlq H1 H2
   go_wp2
   refine Ze (C:=fun w'=>∃ s,w'=V s) (by kernel_rfl) (by kernel_rfl) (V2.out _ (hb.out.drew)) ?_
   repeat (go_big_quiet_step ((go_at_call 27;exact HS.out _)))
   refine wpQuiet_nil ?_
   intro w9 hw9
   obtain ⟨s9,rfl⟩:=hw9
   have B9:Hid (Bw W (V s9)):=V1.out s9
   go_wp2
   go_roundw
   case rel=>exact ⟨i+1,by go_num,by omega,B9⟩
   case measure=>simp [intOf];omega
  ·have e:i=K:=by omega
   subst e
   go_wp2
   exact bodyPost_ret (results_tmp rfl _ _ _) rfl ⟨rfl,hb.out⟩
end Go.Proofs.YtmafkabjjibcbaaGreat
