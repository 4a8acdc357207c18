import Derived.Test.YthfifobokpfpkaaGreatItF
set_option maxRecDepth 100000
namespace Go.Proofs.YthfifobokpfpkaaGreat
open Go.RowKit Go.Maps
set_option maxHeartbeats 32000000 in
theorem isay_1 (ps:List Plc) (W:World) (v:Value) (id:Int) (T:List Ent) (n:Nat) (E:Int) (hE:(E == 0)=false) (HB:Hid (∀ w:World,Below W.heap.size W w→Calls Tryz.prog 64 #[v] w fun e w'=>(∃ b,e=.returned (.pointer (some ⟨b,0,none⟩))∧WAt b ps w')∧Below w.heap.size w w')) (HD:Hid (∀ b w,WAt b ps w→Calls Tryz.prog 68 #[.pointer (some ⟨b,0,none⟩),.int .i64 id] w fun e w'=>(∃ v,e=.returned (.tuple #[v,.int .i64 E])∧w'.ownsRow w.heap.size 103 8 v n (flat8 T))∧Below w.heap.size w w')) (HM:Hid (∀ b w,WAt b ps w→Calls Tryz.prog 71 #[.pointer (some ⟨b,0,none⟩),.int .i64 id] w fun e w'=>(e=.returned (.tuple #[.int .i64 0,.int .i64 0,.int .i64 0,.int .i64 0,.int .i64 E]))∧Below w.heap.size w w')):Calls Tryz.prog 11 #[v,.int .i64 id] W fun e w'=>e=.returned (.bool true)∧Below W.heap.size W w':=by
  have HA:Hid (∀ w:World,Calls Tryz.prog 63 #[] w fun e w'=>e=.returned (.bool true)∧Below w.heap.size w w'):=awake14_c
  go_enter Tryz.func11,Tryz.ntmps11
  go_wp2_with (first
    | (go_at_call 63;refine (HA.out _).mono ?_;rintro e w1 ⟨rfl,hb⟩;have B1:Hid (Below W.heap.size W w1):=bstep (by repeat (first|exact Below.refl _ _|refine Below.setCell ?_ (by simp;try omega) _|refine Below.alloc ?_ (by simp;try omega) _|refine Below.drew ?_)) hb;clear hb HA)
    | (go_at_call 64;refine (HB.out _ B1.out).mono ?_;rintro e w2 ⟨⟨b,rfl,hw⟩,hb⟩;have HH:Hid (WAt b ps w2):=hw;have B2:Hid (Below W.heap.size W w2):=bstep B1.out hb;clear hb HB hw)
    | (go_at_call 68;refine (HD.out _ _ HH.out).mono ?_;rintro e w3 ⟨⟨vo,rfl,ho⟩,hb⟩;obtain ⟨x1,x2,rfl⟩:=ownv ho;have O3:Hid (w3.ownsRow w2.heap.size 103 8 (.slice x1 n x2) n (flat8 T)):=ho;have H3:Hid (WAt b ps w3):=HH.out.below hb;have B3:Hid (Below W.heap.size W w3):=bstep B2.out hb;clear hb HD ho HH)
    | (go_at_call 71;refine (HM.out _ _ H3.out).mono ?_;rintro e w4 ⟨rfl,hb⟩;have O4:Hid (w4.ownsRow w2.heap.size 103 8 (.slice x1 n x2) n (flat8 T)):=rowBelow O3.out hb;have H4:Hid (WAt b ps w4):=H3.out.below hb;have B4:Hid (Below W.heap.size W w4):=bstep B3.out hb;clear hb HM O3 H3))
  all_goals go_ret
  all_goals exact ⟨retB (by simp),B4.out⟩
set_option maxHeartbeats 32000000 in
theorem isay_2 (ps:List Plc) (W:World) (v:Value) (id:Int) (T:List Ent) (n:Nat) (HTn:Hid (T.length=n)) (hn:n≤301000000) (HB:Hid (∀ w:World,Below W.heap.size W w→Calls Tryz.prog 64 #[v] w fun e w'=>(∃ b,e=.returned (.pointer (some ⟨b,0,none⟩))∧WAt b ps w')∧Below w.heap.size w w'))
    (HD:Hid (∀ b w,WAt b ps w→Calls Tryz.prog 68 #[.pointer (some ⟨b,0,none⟩),.int .i64 id] w fun e w'=>(∃ v,e=.returned (.tuple #[v,.int .i64 0])∧w'.ownsRow w.heap.size 103 8 v n (flat8 T))∧Below w.heap.size w w'))
    (HM:Hid (∀ b w,WAt b ps w→Calls Tryz.prog 71 #[.pointer (some ⟨b,0,none⟩),.int .i64 id] w fun e w'=>(∃ a b c d:Nat,e=.returned (.tuple #[.int .i64 (a:Int),.int .i64 (b:Int),.int .i64 (c:Int),.int .i64 (d:Int),.int .i64 0])∧a+b+c+d=n)∧Below w.heap.size w w'))
    (HT:Hid (∀ x∈T,∀ b w,WAt b ps w→Calls Tryz.prog 76 #[.pointer (some ⟨b,0,none⟩),.int .i64 id,.agg #[.int .i64 x.r.1,.int .i64 x.r.2]] w fun e w'=>(e=.returned (.tuple #[.agg #[.int .i64 x.m.1,.int .i64 x.m.2],.int .i64 x.e]))∧Below w.heap.size w w'))
    (HV:Hid (∀ x∈T,∀ b w,WAt b ps w→Calls Tryz.prog 77 #[.pointer (some ⟨b,0,none⟩),.int .i64 id,.agg #[.int .i64 x.r.1,.int .i64 x.r.2]] w fun e w'=>(e=.returned (.tuple #[.agg #[.int .i64 x.v.1,.int .i64 x.v.2],.int .i64 x.f]))∧Below w.heap.size w w'))
    (HL:Hid (∀ x∈T,∀ b w,WAt b ps w→Calls Tryz.prog 73 #[.pointer (some ⟨b,0,none⟩),.int .i64 id,.agg #[.int .i64 x.r.1,.int .i64 x.r.2]] w fun e w'=>(e=.returned (.tuple #[x.agg,.int .i64 0]))∧Below w.heap.size w w'))
    (HX:Hid (∀ x∈T,∀ b w,WAt b ps w→Calls Tryz.prog 25 #[.pointer (some ⟨b,0,none⟩),.int .i64 id,.int .i64 x.r.1] w fun e w'=>(e=.returned (.bool true))∧Below w.heap.size w w'))
    (HE:Hid (∀ x∈T,x.e=0∨x.e=24∨x.e=23∨x.e=22)):Calls Tryz.prog 11 #[v,.int .i64 id] W fun e w'=>e=.returned (.bool true)∧Below W.heap.size W w':=by
  have HA:Hid (∀ w:World,Calls Tryz.prog 63 #[] w fun e w'=>e=.returned (.bool true)∧Below w.heap.size w w'):=awake14_c
  have SI:Hid (∀ (a1 a2:Int) (w:World),Calls Tryz.prog 20 #[.agg #[.int .i64 a1,.int .i64 a2],.agg #[.int .i64 a1,.int .i64 a2]] w fun e w'=>e=.returned (.bool true)∧Below w.heap.size w w'):=fun a1 a2 w=>(sameID_c (a1,a2) (a1,a2) w).mono fun e w' zz=>⟨by rw [zz.1];simp,zz.2⟩
  have SE:Hid (∀ (r1 r2 m1 m2 er v1 v2 f:Int) (w:World),Calls Tryz.prog 75 #[.agg #[.int .i64 r1,.int .i64 r2,.int .i64 m1,.int .i64 m2,.int .i64 er,.int .i64 v1,.int .i64 v2,.int .i64 f],.agg #[.int .i64 r1,.int .i64 r2,.int .i64 m1,.int .i64 m2,.int .i64 er,.int .i64 v1,.int .i64 v2,.int .i64 f]] w fun e w'=>e=.returned (.bool true)∧Below w.heap.size w w'):=sameEnt_c
  go_enter Tryz.func11,Tryz.ntmps11
  go_wp2_with (first
    | (go_at_call 63;refine (HA.out _).mono ?_;rintro e w1 ⟨rfl,hb⟩;have B1:Hid (Below W.heap.size W w1):=bstep (by repeat (first|exact Below.refl _ _|refine Below.setCell ?_ (by simp;try omega) _|refine Below.alloc ?_ (by simp;try omega) _|refine Below.drew ?_)) hb;clear hb HA)
    | (go_at_call 64;refine (HB.out _ B1.out).mono ?_;rintro e w2 ⟨⟨b,rfl,hw⟩,hb⟩;have HH:Hid (WAt b ps w2):=hw;have B2:Hid (Below W.heap.size W w2):=bstep B1.out hb;clear hb HB hw)
    | (go_at_call 68;refine (HD.out _ _ HH.out).mono ?_;rintro e w3 ⟨⟨vo,rfl,ho⟩,hb⟩;obtain ⟨x1,x2,rfl⟩:=ownv ho;have O3:Hid (w3.ownsRow w2.heap.size 103 8 (.slice x1 n x2) n (flat8 T)):=ho;have H3:Hid (WAt b ps w3):=HH.out.below hb;have B3:Hid (Below W.heap.size W w3):=bstep B2.out hb;clear hb HD ho HH)
    | (go_at_call 71;refine (HM.out _ _ H3.out).mono ?_;rintro e w4 ⟨⟨sa,sb,sc,sd,rfl,hsum⟩,hb⟩;have O4:Hid (w4.ownsRow w2.heap.size 103 8 (.slice x1 n x2) n (flat8 T)):=rowBelow O3.out hb;have H4:Hid (WAt b ps w4):=H3.out.below hb;have B4:Hid (Below W.heap.size W w4):=bstep B3.out hb;have hs1:sa≤301000000:=(by omega);have hs2:sb≤301000000:=(by omega);have hs3:sc≤301000000:=(by omega);have hs4:sd≤301000000:=(by omega);have hsI:(sa:Int)+(sb:Int)+(sc:Int)+(sd:Int)=(n:Int):=(by omega);clear hb HM O3 H3))
  have HW4:Hid (∀ w',Below w4.heap.size w4 w'→WAt b ps w'):=fun w' hb=>H4.out.below hb
  clear H4 hsum hsI
  go_loopw [13] (fun kv wr=>∃ (i:Nat),kv=.int .i64 i∧i≤n∧Hid (Below w4.heap.size w4 wr)) (fun kv _=>n - (intOf kv).toNat)
  case atStart=>exact ⟨0,rfl,Nat.zero_le _,Below.refl _ _⟩
  case round =>
    obtain ⟨i,rfl,hi,BB⟩:=hrel
    by_cases hlt:i<n
    · have hiI:(i:Int)<(n:Int):=by omega
      obtain ⟨x,hx⟩:∃ x,T[i]?=some x:=⟨_,List.getElem?_eq_getElem (by rw [HTn.out];exact hlt)⟩
      have hxm:=List.mem_of_getElem? hx
      obtain ⟨g,c2,hform,_,hgl,hcs⟩:=own_at8 O4.out (by omega)
      injection hform with hca _ hcc
      subst hca hcc
      have t0:wr.cell? ⟨g,i * 8,none⟩=_:=(BB.out.cell (p:=⟨g,i * 8,none⟩) hgl).trans (hcs _ _ ((flat8_at T i x 0 hx (by decide)).trans rfl))
      have t1:wr.cell? ⟨g,i * 8+1,none⟩=_:=(BB.out.cell (p:=⟨g,i * 8+1,none⟩) hgl).trans (hcs _ _ ((flat8_at T i x 1 hx (by decide)).trans rfl))
      have t2:wr.cell? ⟨g,i * 8+2,none⟩=_:=(BB.out.cell (p:=⟨g,i * 8+2,none⟩) hgl).trans (hcs _ _ ((flat8_at T i x 2 hx (by decide)).trans rfl))
      have t3:wr.cell? ⟨g,i * 8+3,none⟩=_:=(BB.out.cell (p:=⟨g,i * 8+3,none⟩) hgl).trans (hcs _ _ ((flat8_at T i x 3 hx (by decide)).trans rfl))
      have t4:wr.cell? ⟨g,i * 8+4,none⟩=_:=(BB.out.cell (p:=⟨g,i * 8+4,none⟩) hgl).trans (hcs _ _ ((flat8_at T i x 4 hx (by decide)).trans rfl))
      have t5:wr.cell? ⟨g,i * 8+5,none⟩=_:=(BB.out.cell (p:=⟨g,i * 8+5,none⟩) hgl).trans (hcs _ _ ((flat8_at T i x 5 hx (by decide)).trans rfl))
      have t6:wr.cell? ⟨g,i * 8+6,none⟩=_:=(BB.out.cell (p:=⟨g,i * 8+6,none⟩) hgl).trans (hcs _ _ ((flat8_at T i x 6 hx (by decide)).trans rfl))
      have t7:wr.cell? ⟨g,i * 8+7,none⟩=_:=(BB.out.cell (p:=⟨g,i * 8+7,none⟩) hgl).trans (hcs _ _ ((flat8_at T i x 7 hx (by decide)).trans rfl))
      have hT1:=HT.out x hxm
      have hV1:=HV.out x hxm
      have hL1:=HL.out x hxm
      have hX1:=HX.out x hxm
      have hE1:=HE.out x hxm
      obtain ⟨⟨r1,r2⟩,⟨m1,m2⟩,er,⟨v1,v2⟩,f⟩:=x
      simp only at t0 t1 t2 t3 t4 t5 t6 t7 hE1
      have HT1:Hid (∀ b w,WAt b ps w→Calls Tryz.prog 76 #[.pointer (some ⟨b,0,none⟩),.int .i64 id,.agg #[.int .i64 r1,.int .i64 r2]] w fun e w'=>(e=.returned (.tuple #[.agg #[.int .i64 m1,.int .i64 m2],.int .i64 er]))∧Below w.heap.size w w'):=hT1
      have HV1:Hid (∀ b w,WAt b ps w→Calls Tryz.prog 77 #[.pointer (some ⟨b,0,none⟩),.int .i64 id,.agg #[.int .i64 r1,.int .i64 r2]] w fun e w'=>(e=.returned (.tuple #[.agg #[.int .i64 v1,.int .i64 v2],.int .i64 f]))∧Below w.heap.size w w'):=hV1
      have HL1:Hid (∀ b w,WAt b ps w→Calls Tryz.prog 73 #[.pointer (some ⟨b,0,none⟩),.int .i64 id,.agg #[.int .i64 r1,.int .i64 r2]] w fun e w'=>(e=.returned (.tuple #[.agg #[.int .i64 r1,.int .i64 r2,.int .i64 m1,.int .i64 m2,.int .i64 er,.int .i64 v1,.int .i64 v2,.int .i64 f],.int .i64 0]))∧Below w.heap.size w w'):=hL1
      have HX1:Hid (∀ b w,WAt b ps w→Calls Tryz.prog 25 #[.pointer (some ⟨b,0,none⟩),.int .i64 id,.int .i64 r1] w fun e w'=>(e=.returned (.bool true))∧Below w.heap.size w w'):=hX1
      obtain ⟨wm,hwm⟩:∃ w,w=wr:=⟨_,rfl⟩
      subst hwm
      have q0:True:=trivial
      clear hx hxm hcs hT1 hV1 hL1 hX1 HT HV HL HX HE HTn
      rcases hE1 with rfl|rfl|rfl|rfl
      all_goals
        go_wp2_with (first
          | (go_at_call 76;refine (HT1.out _ _ (HW4.out _ (by repeat (first|refine Below.setCell ?_ (by simp;try omega) _|refine Below.alloc ?_ (by have:=BB.out.size;simp;try omega) _|refine Below.drew ?_|exact BB.out)))).mono ?_;rintro e w5 ⟨rfl,hb⟩;have xxd:=kp8 (n:=wm.heap.size) hb (by first|omega|(simp;try omega)) (halloc1 _ _);(try clear xxB xx0 xx1 xx2 xx3 xx4 xx5 xx6 xx7 xxf xxL xxN);obtain ⟨xxB,xx0,xx1,xx2,xx3,xx4,xx5,xx6,xx7,xxf,xxL,xxN⟩:=xxd;have BB2:Below w4.heap.size w4 w5:=bstep (by repeat (first|refine Below.setCell ?_ (by simp;try omega) _|refine Below.alloc ?_ (by have:=BB.out.size;simp;try omega) _|refine Below.drew ?_|exact BB.out)) hb;clear BB;have BB:Hid (Below w4.heap.size w4 w5):=BB2;clear BB2;clear hb)
          | (go_at_call 77;refine (HV1.out _ _ (HW4.out _ (by repeat (first|refine Below.setCell ?_ (by simp;try omega) _|refine Below.alloc ?_ (by have:=BB.out.size;simp;try omega) _|refine Below.drew ?_|exact BB.out)))).mono ?_;rintro e w6 ⟨rfl,hb⟩;have xxd:=kp8 (n:=wm.heap.size) hb (by first|omega|(simp;try omega)) (hkeep xxB.out);(try clear xxB xx0 xx1 xx2 xx3 xx4 xx5 xx6 xx7 xxf xxL xxN);obtain ⟨xxB,xx0,xx1,xx2,xx3,xx4,xx5,xx6,xx7,xxf,xxL,xxN⟩:=xxd;have aad:=kp2 (n:=w5.heap.size) hb;(try clear aaB aa0 aa1 aaf aaL aaN);obtain ⟨aaB,aa0,aa1,aaf,aaL,aaN⟩:=aad;have BB2:Below w4.heap.size w4 w6:=bstep (by repeat (first|refine Below.setCell ?_ (by simp;try omega) _|refine Below.alloc ?_ (by have:=BB.out.size;simp;try omega) _|refine Below.drew ?_|exact BB.out)) hb;clear BB;have BB:Hid (Below w4.heap.size w4 w6):=BB2;clear BB2;clear hb)
          | (go_at_call 73;refine (HL1.out _ _ (HW4.out _ (by repeat (first|refine Below.setCell ?_ (by simp;try omega) _|refine Below.alloc ?_ (by have:=BB.out.size;simp;try omega) _|refine Below.drew ?_|exact BB.out)))).mono ?_;rintro e w7 ⟨rfl,hb⟩;have xxd:=kp8 (n:=wm.heap.size) hb (by first|omega|(simp;try omega)) (hkeep xxB.out);(try clear xxB xx0 xx1 xx2 xx3 xx4 xx5 xx6 xx7 xxf xxL xxN);obtain ⟨xxB,xx0,xx1,xx2,xx3,xx4,xx5,xx6,xx7,xxf,xxL,xxN⟩:=xxd;have aad:=kp2 (n:=w5.heap.size) hb;(try clear aaB aa0 aa1 aaf aaL aaN);obtain ⟨aaB,aa0,aa1,aaf,aaL,aaN⟩:=aad;have bbd:=kp2 (n:=w6.heap.size) hb;(try clear bbB bb0 bb1 bbf bbL bbN);obtain ⟨bbB,bb0,bb1,bbf,bbL,bbN⟩:=bbd;have BB2:Below w4.heap.size w4 w7:=bstep (by repeat (first|refine Below.setCell ?_ (by simp;try omega) _|refine Below.alloc ?_ (by have:=BB.out.size;simp;try omega) _|refine Below.drew ?_|exact BB.out)) hb;clear BB;have BB:Hid (Below w4.heap.size w4 w7):=BB2;clear BB2;clear hb)
          | (go_at_call 20;refine (SI.out _ _ _).mono ?_;clear q0;rintro e w8 ⟨rfl,hb⟩;have xxd:=kp8 (n:=wm.heap.size) hb (by first|omega|(simp;try omega)) (hkeep xxB.out);(try clear xxB xx0 xx1 xx2 xx3 xx4 xx5 xx6 xx7 xxf xxL xxN);obtain ⟨xxB,xx0,xx1,xx2,xx3,xx4,xx5,xx6,xx7,xxf,xxL,xxN⟩:=xxd;have bbd:=kp2 (n:=w6.heap.size) hb;(try clear bbB bb0 bb1 bbf bbL bbN);obtain ⟨bbB,bb0,bb1,bbf,bbL,bbN⟩:=bbd;have yyd:=kp8 (n:=w7.heap.size) hb (by first|omega|(simp;try omega)) (halloc1 _ _);(try clear yyB yy0 yy1 yy2 yy3 yy4 yy5 yy6 yy7 yyf yyL yyN);obtain ⟨yyB,yy0,yy1,yy2,yy3,yy4,yy5,yy6,yy7,yyf,yyL,yyN⟩:=yyd;have BB2:Below w4.heap.size w4 w8:=bstep (by repeat (first|refine Below.setCell ?_ (by simp;try omega) _|refine Below.alloc ?_ (by have:=BB.out.size;simp;try omega) _|refine Below.drew ?_|exact BB.out)) hb;clear BB;have BB:Hid (Below w4.heap.size w4 w8):=BB2;clear BB2;clear hb)
          | (go_at_call 20;refine (SI.out _ _ _).mono ?_;rintro e w9 ⟨rfl,hb⟩;have xxd:=kp8 (n:=wm.heap.size) hb (by first|omega|(simp;try omega)) (xxB.out);(try clear xxB xx0 xx1 xx2 xx3 xx4 xx5 xx6 xx7 xxf xxL xxN);obtain ⟨xxB,xx0,xx1,xx2,xx3,xx4,xx5,xx6,xx7,xxf,xxL,xxN⟩:=xxd;have yyd:=kp8 (n:=w7.heap.size) hb (by first|omega|(simp;try omega)) (yyB.out);(try clear yyB yy0 yy1 yy2 yy3 yy4 yy5 yy6 yy7 yyf yyL yyN);obtain ⟨yyB,yy0,yy1,yy2,yy3,yy4,yy5,yy6,yy7,yyf,yyL,yyN⟩:=yyd;have BB2:Below w4.heap.size w4 w9:=bstep (by repeat (first|refine Below.setCell ?_ (by simp;try omega) _|refine Below.alloc ?_ (by have:=BB.out.size;simp;try omega) _|refine Below.drew ?_|exact BB.out)) hb;clear BB;have BB:Hid (Below w4.heap.size w4 w9):=BB2;clear BB2;clear hb)
          | (go_at_call 75;refine (SE.out _ _ _ _ _ _ _ _ _).mono ?_;rintro e w10 ⟨rfl,hb⟩;have xxd:=kp8 (n:=wm.heap.size) hb (by first|omega|(simp;try omega)) (xxB.out);(try clear xxB xx0 xx1 xx2 xx3 xx4 xx5 xx6 xx7 xxf xxL xxN);obtain ⟨xxB,xx0,xx1,xx2,xx3,xx4,xx5,xx6,xx7,xxf,xxL,xxN⟩:=xxd;have BB2:Below w4.heap.size w4 w10:=bstep (by repeat (first|refine Below.setCell ?_ (by simp;try omega) _|refine Below.alloc ?_ (by have:=BB.out.size;simp;try omega) _|refine Below.drew ?_|exact BB.out)) hb;clear BB;have BB:Hid (Below w4.heap.size w4 w10):=BB2;clear BB2;clear hb)
          | (go_at_call 25;refine (HX1.out _ _ (HW4.out _ (by repeat (first|refine Below.setCell ?_ (by simp;try omega) _|refine Below.alloc ?_ (by have:=BB.out.size;simp;try omega) _|refine Below.drew ?_|exact BB.out)))).mono ?_;rintro e w11 ⟨rfl,hb⟩;have BB2:Below w4.heap.size w4 w11:=bstep (by repeat (first|refine Below.setCell ?_ (by simp;try omega) _|refine Below.alloc ?_ (by have:=BB.out.size;simp;try omega) _|refine Below.drew ?_|exact BB.out)) hb;clear BB;have BB:Hid (Below w4.heap.size w4 w11):=BB2;clear BB2;clear hb))
      all_goals go_roundw
      all_goals first
        | exact ⟨i+1,by go_num,by omega,BB⟩
        | (simp [intOf];omega)
    · have e:i=n:=by omega
      subst e
      go_wp2
      all_goals go_ret
      all_goals exact ⟨retB (by simp),B4.out.trans (BB.out.mono B4.out.size)⟩
theorem ItableSays_any (v:Value) (l:List Cls) (id:Int) (W:World) (h:IsClss W v l):Calls Tryz.prog 11 #[v,.int .i64 id] W fun e w'=>e=.returned (.bool true)∧Below W.heap.size W w':=by
  have hWI:WI (wld l):=wld_wi l (clss_w h)
  have HB:∀ w:World,Below W.heap.size W w→Calls Tryz.prog 64 #[v] w fun e w'=>(∃ b,e=.returned (.pointer (some ⟨b,0,none⟩))∧WAt b (wld l) w')∧Below w.heap.size w w':=fun w hb=>(built14_n v l w (clss_keep h hb)).mono fun e w' zz=>by
    obtain ⟨⟨b,e1,mb,vp,pv,hw⟩,hb2⟩:=zz
    exact ⟨⟨b,e1,hw.wat⟩,hb2⟩
  generalize wld l=ps at *
  have HD:∀ x b w,WAt b ps w→Calls Tryz.prog 68 #[.pointer (some ⟨b,0,none⟩),.int .i64 x] w fun e w'=>(∃ v,e=.returned (.tuple #[v,.int .i64 (itE ps x)])∧w'.ownsRow w.heap.size 103 8 v (itT ps x).length (flat8 (itT ps x)))∧Below w.heap.size w w':=fun x b w hw=>build14_c hw hWI x
  have HD1:=HD id
  rcases it_cases ps id with ⟨h0,k,q,rfl,hq,hf,hr⟩|⟨hT,he⟩
  · rw [h0] at HD1
    have hlen:(itT ps (k:Int)).length=(rtsP ps q).length:=by rw [itT,List.length_map,hr]
    have hmem:∀ x∈itT ps (k:Int),x.r∈rtsP ps q∧x=entP ps (k:Int) x.r:=fun x hx=>by
      rw [itT,hr] at hx
      obtain ⟨y,hy,rfl⟩:=List.mem_map.1 hx
      exact ⟨hy,rfl⟩
    refine isay_2 ps W v (k:Int) _ _ rfl (by rw [hlen];exact rts_len hWI hq) HB HD1 (fun b w hw=>by rw [hlen];exact marks_yes hw hWI k q hq hf) (fun x hx b w hw=>?_) (fun x hx b w hw=>?_) (fun x hx b w hw=>?_) (fun x hx b w hw=>?_) (fun x hx=>?_)
    · obtain ⟨_,e⟩:=hmem x hx
      have:=itf_c hw hWI (k:Int) x.r.1 x.r.2
      rw [e]
      exact this
    · obtain ⟨_,e⟩:=hmem x hx
      have:=vir_c hw hWI (k:Int) x.r.1 x.r.2
      rw [e]
      exact this
    · obtain ⟨hy,e⟩:=hmem x hx
      obtain ⟨m,hm⟩:=rts_meth hy
      have hl:lokR ps (k:Int) x.r=(x,0):=by
        rw [lokR,hm]
        simp only
        rw [if_pos h0,hr,if_pos hy,← e]
      have:=lok_c hw hWI (k:Int) x.r.1 x.r.2
      rw [show (x.r.1,x.r.2)=x.r from rfl,hl] at this
      exact this
    · obtain ⟨hy,_⟩:=hmem x hx
      have:=extends_c hw hWI (k:Int) x.r.1
      rw [rts_ext hWI hq hy] at this
      exact this
    · obtain ⟨hy,e⟩:=hmem x hx
      obtain ⟨m,hm⟩:=rts_meth hy
      have:=itf_errs hq hf hm
      rw [e]
      exact this
  · have hne:¬ itE ps id=0:=by rcases he with e|e <;> rw [e] <;> decide
    exact isay_1 ps W v id _ _ _ (by simp [hne]) HB HD1 (fun b w hw=>marks_no hw hWI id hne)
end Go.Proofs.YthfifobokpfpkaaGreat
