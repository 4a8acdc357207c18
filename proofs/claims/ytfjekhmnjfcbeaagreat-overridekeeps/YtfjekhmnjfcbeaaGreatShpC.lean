import Derived.Test.YtfjekhmnjfcbeaaGreatSoA
set_option maxRecDepth 100000
namespace Go.Proofs.YtfjekhmnjfcbeaaGreat
open Go.RowKit
set_option maxHeartbeats 1000000 in
theorem rArgs_any (s:ByteArray) (hs:s.size≤maxLen) (w:World):Calls Tryz.prog 191 #[.string s] w fun e w'=>e=.returned (.tuple #[.int .i64 ((pdD s.data.toList).1.length:Int),.int .i64 (pdE s.data.toList)])∧Below w.heap.size w w':=by
  have HD:Hid (∀ w,_):=rParseDesc_any s hs
  clear hs
  unfold DOut at HD
  generalize pdE s.data.toList=pd at *
  generalize pdD s.data.toList=dd at *
  go_enter Tryz.func191,Tryz.ntmps191
  go_wp2_with (first
    | (go_at_call 167;refine ((HD.out) _).mono ?_;rintro e w3 ⟨v,rfl,ho3,hb3⟩;obtain ⟨v1,v2,rfl⟩:=own_slice ho3))
  go_ret2
  exact ⟨rfl,hb3.alloc hb3.size _⟩
theorem pdD_len (l:List UInt8):(pdD l).1.length≤20:=by
  unfold pdD
  split
  · rename_i h
    unfold pdE at h
    split at h
    · exact absurd h (by decide)
    · split at h
      · exact absurd h (by decide)
      · rename_i d hd
        split at h
        · exact absurd h (by decide)
        · rename_i hg
          simp only [largeD,Bool.not_eq_true,Bool.or_eq_false_iff,decide_eq_false_iff_not] at hg
          rw [hd]
          have:=hg.1.1
          simp only [Option.getD_some]
          omega
  · simp
def wdsN (ds:List UInt8) (fl:Int):Int:=if pdE ds=0 then ((pdD ds).1.length:Int)+(if hasI fl 8 then 0 else 1) else 0
def wdsE (ds:List UInt8):Int:=if pdE ds=0 then 0 else 1
set_option maxHeartbeats 1000000 in
theorem rWordsM_any (nm ds:ByteArray) (fl lo st:Int) (vc:Value) (hd:ds.size≤maxLen) (w:World):Calls Tryz.prog 168 #[.agg #[.string nm,.string ds,.int .i64 fl,.int .i64 lo,.int .i64 st,vc]] w fun e w'=>e=.returned (.tuple #[.int .i64 (wdsN ds.data.toList fl),.int .i64 (wdsE ds.data.toList)])∧Below w.heap.size w w':=by
  have HD:Hid (∀ w,_):=rArgs_any ds hd
  have HH:Hid (∀ w,_):=has_any fl 8
  have HN:Hid (wdsN ds.data.toList fl=if pdE ds.data.toList=0 then ((pdD ds.data.toList).1.length:Int)+(if hasI fl 8 then 0 else 1) else 0):=rfl
  have HE:Hid (wdsE ds.data.toList=if pdE ds.data.toList=0 then 0 else 1):=rfl
  have hlen:=pdD_len ds.data.toList
  clear hd
  generalize wdsN ds.data.toList fl=wn at *
  generalize wdsE ds.data.toList=we at *
  generalize pdE ds.data.toList=pd at *
  generalize (pdD ds.data.toList).1.length=dd at *
  generalize hasI fl 8=hh at *
  by_cases hpd:pd=0
  · subst hpd
    cases hh with
    | false =>
      go_enter Tryz.func168,Tryz.ntmps168
      go_wp2_with (first
        | (go_at_call 191;refine ((HD.out) _).mono ?_;rintro e w1 ⟨rfl,hb1⟩;have hs1:w.heap.size<w1.heap.size:=(by have:=hb1.size;simp at this;omega);have hc2:w1.cell? ⟨w.heap.size,2,none⟩=some (.int .i64 fl):=(hb1.cell (p:=⟨w.heap.size,2,none⟩) (by simp)).trans (by simp [go_sem, *]))
        | (go_at_call 73;refine ((HH.out) _).mono ?_;rintro e w2 ⟨rfl,hw2⟩;rw [hw2]))
      go_ret2
      exact ⟨by rw [HN.out,HE.out];rfl,Below.step ((Below.refl _ _).alloc (Nat.le_refl _) _) hb1⟩
    | true =>
      go_enter Tryz.func168,Tryz.ntmps168
      go_wp2_with (first
        | (go_at_call 191;refine ((HD.out) _).mono ?_;rintro e w1 ⟨rfl,hb1⟩;have hs1:w.heap.size<w1.heap.size:=(by have:=hb1.size;simp at this;omega);have hc2:w1.cell? ⟨w.heap.size,2,none⟩=some (.int .i64 fl):=(hb1.cell (p:=⟨w.heap.size,2,none⟩) (by simp)).trans (by simp [go_sem, *]))
        | (go_at_call 73;refine ((HH.out) _).mono ?_;rintro e w2 ⟨rfl,hw2⟩;rw [hw2]))
      go_ret2
      exact ⟨by rw [HN.out,HE.out];simp,Below.step ((Below.refl _ _).alloc (Nat.le_refl _) _) hb1⟩
  · have hne:(pd != 0)=true:=by rw [bne_iff_ne];exact hpd
    go_enter Tryz.func168,Tryz.ntmps168
    go_wp2_with (first
      | (go_at_call 191;refine ((HD.out) _).mono ?_;rintro e w1 ⟨rfl,hb1⟩))
    go_ret2
    exact ⟨by rw [HN.out,HE.out,if_neg hpd,if_neg hpd];rfl,Below.step ((Below.refl _ _).alloc (Nat.le_refl _) _) hb1⟩
def mthB (m:Mth) (iface:Bool):Bool :=
  memberL m.nm.data.toList&&(chkM m.fl iface (m.nm.toList == [60,105,110,105,116,62]) == 0)&&(pdE m.ds.data.toList == 0)&&!((m.nm.toList == [60,105,110,105,116,62])&&!voidB (pdD m.ds.data.toList).2) &&
    (if hasI m.fl 1024 then (m.lo == 0) && (m.st == 0) && ((m.code.length : Int) == 0)
     else !decide (m.st<0)&&!decide (40<m.st)&&!decide (m.lo<wdsN m.ds.data.toList m.fl)&&!decide (40<m.lo)&&(allE m.code m.lo == 0))
set_option maxHeartbeats 4000000 in
theorem rMethod_any (nm ds:ByteArray) (fl lo st:Int) (vc:Value) (code:List Ins) (iface:Bool) (hn:nm.size≤maxLen) (hd:ds.size≤maxLen) (w:World) (hI:IsInss w vc code) (hok:∀ i∈code,InsOK i) :
    Calls Tryz.prog 124 #[.agg #[.string nm,.string ds,.int .i64 fl,.int .i64 lo,.int .i64 st,vc],.bool iface] w fun e w'=>e=.returned (.bool (mthB ⟨nm,ds,fl,lo,st,code⟩ iface))∧Below w.heap.size w w':=by
  have HM:Hid (∀ w,_):=rMember_any nm hn
  have HCM:Hid (∀ w,_):=rCheckMethod_any fl iface nm
  have HD:Hid (∀ w,_):=rParseDesc_any ds hd
  have HH:Hid (∀ w,_):=has_any fl 1024
  have HI:Hid (IsInss w vc code):=hI
  have HW:Hid (∀ w,_):=rWordsM_any nm ds fl lo st vc hd
  have HCA:Hid (∀ w',IsInss w' vc code→_):=fun w' h=>rCheckAll_any vc code lo w' h hok
  have HR:Hid (mthB ⟨nm,ds,fl,lo,st,code⟩ iface=(memberL nm.data.toList&&(chkM fl iface (nm.toList == [60,105,110,105,116,62]) == 0)&&(pdE ds.data.toList == 0)&&!((nm.toList == [60,105,110,105,116,62])&&!voidB (pdD ds.data.toList).2) &&
    (if hasI fl 1024 then (lo == 0) && (st == 0) && ((code.length : Int) == 0)
     else !decide (st<0)&&!decide (40<st)&&!decide (lo<wdsN ds.data.toList fl)&&!decide (40<lo)&&(allE code lo == 0)))):=rfl
  unfold DOut at HD
  obtain ⟨ao,cap,rfl,h1,h2,_⟩:=hI
  unfold maxLen at h2
  clear hn hd hok
  obtain ⟨K,hK⟩:∃ K,code.length=K:=⟨_,rfl⟩
  rw [hK] at h1 HI HW HCA HR ⊢
  clear hK
  generalize mthB ⟨nm,ds,fl,lo,st,code⟩ iface=z at *
  generalize memberL nm.data.toList=mm at *
  generalize qi:(nm.toList == [60,105,110,105,116,62])=ini at *
  generalize chkM fl iface ini=ck at *
  generalize wdsN ds.data.toList fl=wn at *
  generalize wdsE ds.data.toList=we at *
  generalize pdE ds.data.toList=pd at *
  generalize (pdD ds.data.toList).1=pa at *
  generalize (pdD ds.data.toList).2=pr at *
  generalize voidB pr=vd at *
  generalize hasI fl 1024=hh at *
  generalize allE code lo=al at *
  cases mm with
  | false =>
    go_enter Tryz.func124,Tryz.ntmps124
    go_wp2_with (first
      | (go_at_call 165;refine ((HM.out) _).mono ?_;rintro e w0 ⟨rfl,hw0⟩;rw [hw0];clear hw0))
    go_ret
    exact ⟨ret_bool (by rw [HR.out];simp [*]),(Below.refl _ _).alloc (Nat.le_refl _) _⟩
  | true =>
    by_cases hck:¬ ck=0
    · have hne:(ck != 0)=true:=by rw [bne_iff_ne];exact hck
      have hne2:(ck == 0)=false:=by rw [beq_eq_false_iff_ne];exact hck
      go_enter Tryz.func124,Tryz.ntmps124
      go_wp2_with (first
        | (go_at_call 165;refine ((HM.out) _).mono ?_;rintro e w0 ⟨rfl,hw0⟩;rw [hw0];clear hw0)
        | (go_at_call 166;refine ((HCM.out) _).mono ?_;rintro e w1 ⟨rfl,hb1⟩;have hs1:w.heap.size<w1.heap.size:=(by have:=hb1.size;simp at this;omega);have a0:w1.cell? ⟨w.heap.size,0,none⟩=some (.string nm):=(hb1.cell (p:=⟨w.heap.size,0,none⟩) (by simp)).trans (by simp [go_sem, *]);have a1:w1.cell? ⟨w.heap.size,1,none⟩=some (.string ds):=(hb1.cell (p:=⟨w.heap.size,1,none⟩) (by simp)).trans (by simp [go_sem, *]);have a2:w1.cell? ⟨w.heap.size,2,none⟩=some (.int .i64 fl):=(hb1.cell (p:=⟨w.heap.size,2,none⟩) (by simp)).trans (by simp [go_sem, *]);have a3:w1.cell? ⟨w.heap.size,3,none⟩=some (.int .i64 lo):=(hb1.cell (p:=⟨w.heap.size,3,none⟩) (by simp)).trans (by simp [go_sem, *]);have a4:w1.cell? ⟨w.heap.size,4,none⟩=some (.int .i64 st):=(hb1.cell (p:=⟨w.heap.size,4,none⟩) (by simp)).trans (by simp [go_sem, *]);have a5:w1.cell? ⟨w.heap.size,5,none⟩=some (.slice ao K cap):=(hb1.cell (p:=⟨w.heap.size,5,none⟩) (by simp)).trans (by simp [go_sem, *]);have B1:Hid (Below w.heap.size w w1):=Below.step ((Below.refl _ _).alloc (Nat.le_refl _) _) hb1;clear hb1))
      go_ret
      exact ⟨ret_bool (by rw [HR.out];simp [*]),B1.out⟩
    have hck2:ck=0:=by omega
    clear hck
    subst hck2
    by_cases hpd:¬ pd=0
    · have hne:(pd != 0)=true:=by rw [bne_iff_ne];exact hpd
      have hne2:(pd == 0)=false:=by rw [beq_eq_false_iff_ne];exact hpd
      go_enter Tryz.func124,Tryz.ntmps124
      go_wp2_with (first
        | (go_at_call 165;refine ((HM.out) _).mono ?_;rintro e w0 ⟨rfl,hw0⟩;rw [hw0];clear hw0)
        | (go_at_call 166;refine ((HCM.out) _).mono ?_;rintro e w1 ⟨rfl,hb1⟩;have hs1:w.heap.size<w1.heap.size:=(by have:=hb1.size;simp at this;omega);have a0:w1.cell? ⟨w.heap.size,0,none⟩=some (.string nm):=(hb1.cell (p:=⟨w.heap.size,0,none⟩) (by simp)).trans (by simp [go_sem, *]);have a1:w1.cell? ⟨w.heap.size,1,none⟩=some (.string ds):=(hb1.cell (p:=⟨w.heap.size,1,none⟩) (by simp)).trans (by simp [go_sem, *]);have a2:w1.cell? ⟨w.heap.size,2,none⟩=some (.int .i64 fl):=(hb1.cell (p:=⟨w.heap.size,2,none⟩) (by simp)).trans (by simp [go_sem, *]);have a3:w1.cell? ⟨w.heap.size,3,none⟩=some (.int .i64 lo):=(hb1.cell (p:=⟨w.heap.size,3,none⟩) (by simp)).trans (by simp [go_sem, *]);have a4:w1.cell? ⟨w.heap.size,4,none⟩=some (.int .i64 st):=(hb1.cell (p:=⟨w.heap.size,4,none⟩) (by simp)).trans (by simp [go_sem, *]);have a5:w1.cell? ⟨w.heap.size,5,none⟩=some (.slice ao K cap):=(hb1.cell (p:=⟨w.heap.size,5,none⟩) (by simp)).trans (by simp [go_sem, *]);have B1:Hid (Below w.heap.size w w1):=Below.step ((Below.refl _ _).alloc (Nat.le_refl _) _) hb1;clear hb1)
        | (go_at_call 167;refine ((HD.out) _).mono ?_;rintro e w2 ⟨v,rfl,ho2,hb2⟩;obtain ⟨v1,v2,rfl⟩:=own_slice ho2;have hs2:w.heap.size<w2.heap.size:=(by have:=hb2.size;omega);have b0:w2.cell? ⟨w.heap.size,0,none⟩=some (.string nm):=(hb2.cell (p:=⟨w.heap.size,0,none⟩) hs1).trans (by simp [go_sem, *]);have b1:w2.cell? ⟨w.heap.size,1,none⟩=some (.string ds):=(hb2.cell (p:=⟨w.heap.size,1,none⟩) hs1).trans (by simp [go_sem, *]);have b2:w2.cell? ⟨w.heap.size,2,none⟩=some (.int .i64 fl):=(hb2.cell (p:=⟨w.heap.size,2,none⟩) hs1).trans (by simp [go_sem, *]);have b3:w2.cell? ⟨w.heap.size,3,none⟩=some (.int .i64 lo):=(hb2.cell (p:=⟨w.heap.size,3,none⟩) hs1).trans (by simp [go_sem, *]);have b4:w2.cell? ⟨w.heap.size,4,none⟩=some (.int .i64 st):=(hb2.cell (p:=⟨w.heap.size,4,none⟩) hs1).trans (by simp [go_sem, *]);have b5:w2.cell? ⟨w.heap.size,5,none⟩=some (.slice ao K cap):=(hb2.cell (p:=⟨w.heap.size,5,none⟩) hs1).trans (by simp [go_sem, *]);clear a0 a1 a2 a3 a4 a5;have B2:Hid (Below w.heap.size w w2):=Below.step B1.out hb2;clear hb2 ho2))
      go_ret
      exact ⟨ret_bool (by rw [HR.out];simp [*]),B2.out.alloc B2.out.size _⟩
    have hpd2:pd=0:=by omega
    clear hpd
    subst hpd2
    by_cases hv:ini=true∧vd=false
    · obtain ⟨rfl,rfl⟩:=hv
      go_enter Tryz.func124,Tryz.ntmps124
      go_wp2_with (first
        | (go_at_call 165;refine ((HM.out) _).mono ?_;rintro e w0 ⟨rfl,hw0⟩;rw [hw0];clear hw0)
        | (go_at_call 166;refine ((HCM.out) _).mono ?_;rintro e w1 ⟨rfl,hb1⟩;have hs1:w.heap.size<w1.heap.size:=(by have:=hb1.size;simp at this;omega);have a0:w1.cell? ⟨w.heap.size,0,none⟩=some (.string nm):=(hb1.cell (p:=⟨w.heap.size,0,none⟩) (by simp)).trans (by simp [go_sem, *]);have a1:w1.cell? ⟨w.heap.size,1,none⟩=some (.string ds):=(hb1.cell (p:=⟨w.heap.size,1,none⟩) (by simp)).trans (by simp [go_sem, *]);have a2:w1.cell? ⟨w.heap.size,2,none⟩=some (.int .i64 fl):=(hb1.cell (p:=⟨w.heap.size,2,none⟩) (by simp)).trans (by simp [go_sem, *]);have a3:w1.cell? ⟨w.heap.size,3,none⟩=some (.int .i64 lo):=(hb1.cell (p:=⟨w.heap.size,3,none⟩) (by simp)).trans (by simp [go_sem, *]);have a4:w1.cell? ⟨w.heap.size,4,none⟩=some (.int .i64 st):=(hb1.cell (p:=⟨w.heap.size,4,none⟩) (by simp)).trans (by simp [go_sem, *]);have a5:w1.cell? ⟨w.heap.size,5,none⟩=some (.slice ao K cap):=(hb1.cell (p:=⟨w.heap.size,5,none⟩) (by simp)).trans (by simp [go_sem, *]);have B1:Hid (Below w.heap.size w w1):=Below.step ((Below.refl _ _).alloc (Nat.le_refl _) _) hb1;clear hb1)
        | (go_at_call 167;refine ((HD.out) _).mono ?_;rintro e w2 ⟨v,rfl,ho2,hb2⟩;obtain ⟨v1,v2,rfl⟩:=own_slice ho2;have hs2:w.heap.size<w2.heap.size:=(by have:=hb2.size;omega);have b0:w2.cell? ⟨w.heap.size,0,none⟩=some (.string nm):=(hb2.cell (p:=⟨w.heap.size,0,none⟩) hs1).trans (by simp [go_sem, *]);have b1:w2.cell? ⟨w.heap.size,1,none⟩=some (.string ds):=(hb2.cell (p:=⟨w.heap.size,1,none⟩) hs1).trans (by simp [go_sem, *]);have b2:w2.cell? ⟨w.heap.size,2,none⟩=some (.int .i64 fl):=(hb2.cell (p:=⟨w.heap.size,2,none⟩) hs1).trans (by simp [go_sem, *]);have b3:w2.cell? ⟨w.heap.size,3,none⟩=some (.int .i64 lo):=(hb2.cell (p:=⟨w.heap.size,3,none⟩) hs1).trans (by simp [go_sem, *]);have b4:w2.cell? ⟨w.heap.size,4,none⟩=some (.int .i64 st):=(hb2.cell (p:=⟨w.heap.size,4,none⟩) hs1).trans (by simp [go_sem, *]);have b5:w2.cell? ⟨w.heap.size,5,none⟩=some (.slice ao K cap):=(hb2.cell (p:=⟨w.heap.size,5,none⟩) hs1).trans (by simp [go_sem, *]);clear a0 a1 a2 a3 a4 a5;have B2:Hid (Below w.heap.size w w2):=Below.step B1.out hb2;clear hb2 ho2))
      go_ret
      exact ⟨ret_bool (by rw [HR.out];simp [*]),B2.out.alloc B2.out.size _⟩
    have hvv:ini=false∨(ini=true∧vd=true):=by cases ini <;> cases vd <;> simp_all
    clear hv
    cases hh with
    | true =>
      cases q1:(lo == 0) with
      | false =>
        rcases hvv with rfl|⟨rfl,rfl⟩
        all_goals
          go_enter Tryz.func124,Tryz.ntmps124
          go_wp2_with (first
            | (go_at_call 165;refine ((HM.out) _).mono ?_;rintro e w0 ⟨rfl,hw0⟩;rw [hw0];clear hw0)
            | (go_at_call 166;refine ((HCM.out) _).mono ?_;rintro e w1 ⟨rfl,hb1⟩;have hs1:w.heap.size<w1.heap.size:=(by have:=hb1.size;simp at this;omega);have a0:w1.cell? ⟨w.heap.size,0,none⟩=some (.string nm):=(hb1.cell (p:=⟨w.heap.size,0,none⟩) (by simp)).trans (by simp [go_sem, *]);have a1:w1.cell? ⟨w.heap.size,1,none⟩=some (.string ds):=(hb1.cell (p:=⟨w.heap.size,1,none⟩) (by simp)).trans (by simp [go_sem, *]);have a2:w1.cell? ⟨w.heap.size,2,none⟩=some (.int .i64 fl):=(hb1.cell (p:=⟨w.heap.size,2,none⟩) (by simp)).trans (by simp [go_sem, *]);have a3:w1.cell? ⟨w.heap.size,3,none⟩=some (.int .i64 lo):=(hb1.cell (p:=⟨w.heap.size,3,none⟩) (by simp)).trans (by simp [go_sem, *]);have a4:w1.cell? ⟨w.heap.size,4,none⟩=some (.int .i64 st):=(hb1.cell (p:=⟨w.heap.size,4,none⟩) (by simp)).trans (by simp [go_sem, *]);have a5:w1.cell? ⟨w.heap.size,5,none⟩=some (.slice ao K cap):=(hb1.cell (p:=⟨w.heap.size,5,none⟩) (by simp)).trans (by simp [go_sem, *]);have B1:Hid (Below w.heap.size w w1):=Below.step ((Below.refl _ _).alloc (Nat.le_refl _) _) hb1;clear hb1)
            | (go_at_call 167;refine ((HD.out) _).mono ?_;rintro e w2 ⟨v,rfl,ho2,hb2⟩;obtain ⟨v1,v2,rfl⟩:=own_slice ho2;have hs2:w.heap.size<w2.heap.size:=(by have:=hb2.size;omega);have b0:w2.cell? ⟨w.heap.size,0,none⟩=some (.string nm):=(hb2.cell (p:=⟨w.heap.size,0,none⟩) hs1).trans (by simp [go_sem, *]);have b1:w2.cell? ⟨w.heap.size,1,none⟩=some (.string ds):=(hb2.cell (p:=⟨w.heap.size,1,none⟩) hs1).trans (by simp [go_sem, *]);have b2:w2.cell? ⟨w.heap.size,2,none⟩=some (.int .i64 fl):=(hb2.cell (p:=⟨w.heap.size,2,none⟩) hs1).trans (by simp [go_sem, *]);have b3:w2.cell? ⟨w.heap.size,3,none⟩=some (.int .i64 lo):=(hb2.cell (p:=⟨w.heap.size,3,none⟩) hs1).trans (by simp [go_sem, *]);have b4:w2.cell? ⟨w.heap.size,4,none⟩=some (.int .i64 st):=(hb2.cell (p:=⟨w.heap.size,4,none⟩) hs1).trans (by simp [go_sem, *]);have b5:w2.cell? ⟨w.heap.size,5,none⟩=some (.slice ao K cap):=(hb2.cell (p:=⟨w.heap.size,5,none⟩) hs1).trans (by simp [go_sem, *]);clear a0 a1 a2 a3 a4 a5;have B2:Hid (Below w.heap.size w w2):=Below.step B1.out hb2;clear hb2 ho2)
            | (go_at_call 73;refine ((HH.out) _).mono ?_;rintro e w9 ⟨rfl,hw9⟩;rw [hw9];clear hw9))
          go_ret
          exact ⟨ret_bool (by rw [HR.out];simp [*]),B2.out.alloc B2.out.size _⟩
      | true =>
        cases q2:(st == 0) with
        | false =>
          rcases hvv with rfl|⟨rfl,rfl⟩
          all_goals
            go_enter Tryz.func124,Tryz.ntmps124
            go_wp2_with (first
              | (go_at_call 165;refine ((HM.out) _).mono ?_;rintro e w0 ⟨rfl,hw0⟩;rw [hw0];clear hw0)
              | (go_at_call 166;refine ((HCM.out) _).mono ?_;rintro e w1 ⟨rfl,hb1⟩;have hs1:w.heap.size<w1.heap.size:=(by have:=hb1.size;simp at this;omega);have a0:w1.cell? ⟨w.heap.size,0,none⟩=some (.string nm):=(hb1.cell (p:=⟨w.heap.size,0,none⟩) (by simp)).trans (by simp [go_sem, *]);have a1:w1.cell? ⟨w.heap.size,1,none⟩=some (.string ds):=(hb1.cell (p:=⟨w.heap.size,1,none⟩) (by simp)).trans (by simp [go_sem, *]);have a2:w1.cell? ⟨w.heap.size,2,none⟩=some (.int .i64 fl):=(hb1.cell (p:=⟨w.heap.size,2,none⟩) (by simp)).trans (by simp [go_sem, *]);have a3:w1.cell? ⟨w.heap.size,3,none⟩=some (.int .i64 lo):=(hb1.cell (p:=⟨w.heap.size,3,none⟩) (by simp)).trans (by simp [go_sem, *]);have a4:w1.cell? ⟨w.heap.size,4,none⟩=some (.int .i64 st):=(hb1.cell (p:=⟨w.heap.size,4,none⟩) (by simp)).trans (by simp [go_sem, *]);have a5:w1.cell? ⟨w.heap.size,5,none⟩=some (.slice ao K cap):=(hb1.cell (p:=⟨w.heap.size,5,none⟩) (by simp)).trans (by simp [go_sem, *]);have B1:Hid (Below w.heap.size w w1):=Below.step ((Below.refl _ _).alloc (Nat.le_refl _) _) hb1;clear hb1)
              | (go_at_call 167;refine ((HD.out) _).mono ?_;rintro e w2 ⟨v,rfl,ho2,hb2⟩;obtain ⟨v1,v2,rfl⟩:=own_slice ho2;have hs2:w.heap.size<w2.heap.size:=(by have:=hb2.size;omega);have b0:w2.cell? ⟨w.heap.size,0,none⟩=some (.string nm):=(hb2.cell (p:=⟨w.heap.size,0,none⟩) hs1).trans (by simp [go_sem, *]);have b1:w2.cell? ⟨w.heap.size,1,none⟩=some (.string ds):=(hb2.cell (p:=⟨w.heap.size,1,none⟩) hs1).trans (by simp [go_sem, *]);have b2:w2.cell? ⟨w.heap.size,2,none⟩=some (.int .i64 fl):=(hb2.cell (p:=⟨w.heap.size,2,none⟩) hs1).trans (by simp [go_sem, *]);have b3:w2.cell? ⟨w.heap.size,3,none⟩=some (.int .i64 lo):=(hb2.cell (p:=⟨w.heap.size,3,none⟩) hs1).trans (by simp [go_sem, *]);have b4:w2.cell? ⟨w.heap.size,4,none⟩=some (.int .i64 st):=(hb2.cell (p:=⟨w.heap.size,4,none⟩) hs1).trans (by simp [go_sem, *]);have b5:w2.cell? ⟨w.heap.size,5,none⟩=some (.slice ao K cap):=(hb2.cell (p:=⟨w.heap.size,5,none⟩) hs1).trans (by simp [go_sem, *]);clear a0 a1 a2 a3 a4 a5;have B2:Hid (Below w.heap.size w w2):=Below.step B1.out hb2;clear hb2 ho2)
              | (go_at_call 73;refine ((HH.out) _).mono ?_;rintro e w9 ⟨rfl,hw9⟩;rw [hw9];clear hw9))
            go_ret
            exact ⟨ret_bool (by rw [HR.out];simp [*]),B2.out.alloc B2.out.size _⟩
        | true =>
          cases q3:((K:Int) == 0) with
          | false =>
            rcases hvv with rfl|⟨rfl,rfl⟩
            all_goals
              go_enter Tryz.func124,Tryz.ntmps124
              go_wp2_with (first
                | (go_at_call 165;refine ((HM.out) _).mono ?_;rintro e w0 ⟨rfl,hw0⟩;rw [hw0];clear hw0)
                | (go_at_call 166;refine ((HCM.out) _).mono ?_;rintro e w1 ⟨rfl,hb1⟩;have hs1:w.heap.size<w1.heap.size:=(by have:=hb1.size;simp at this;omega);have a0:w1.cell? ⟨w.heap.size,0,none⟩=some (.string nm):=(hb1.cell (p:=⟨w.heap.size,0,none⟩) (by simp)).trans (by simp [go_sem, *]);have a1:w1.cell? ⟨w.heap.size,1,none⟩=some (.string ds):=(hb1.cell (p:=⟨w.heap.size,1,none⟩) (by simp)).trans (by simp [go_sem, *]);have a2:w1.cell? ⟨w.heap.size,2,none⟩=some (.int .i64 fl):=(hb1.cell (p:=⟨w.heap.size,2,none⟩) (by simp)).trans (by simp [go_sem, *]);have a3:w1.cell? ⟨w.heap.size,3,none⟩=some (.int .i64 lo):=(hb1.cell (p:=⟨w.heap.size,3,none⟩) (by simp)).trans (by simp [go_sem, *]);have a4:w1.cell? ⟨w.heap.size,4,none⟩=some (.int .i64 st):=(hb1.cell (p:=⟨w.heap.size,4,none⟩) (by simp)).trans (by simp [go_sem, *]);have a5:w1.cell? ⟨w.heap.size,5,none⟩=some (.slice ao K cap):=(hb1.cell (p:=⟨w.heap.size,5,none⟩) (by simp)).trans (by simp [go_sem, *]);have B1:Hid (Below w.heap.size w w1):=Below.step ((Below.refl _ _).alloc (Nat.le_refl _) _) hb1;clear hb1)
                | (go_at_call 167;refine ((HD.out) _).mono ?_;rintro e w2 ⟨v,rfl,ho2,hb2⟩;obtain ⟨v1,v2,rfl⟩:=own_slice ho2;have hs2:w.heap.size<w2.heap.size:=(by have:=hb2.size;omega);have b0:w2.cell? ⟨w.heap.size,0,none⟩=some (.string nm):=(hb2.cell (p:=⟨w.heap.size,0,none⟩) hs1).trans (by simp [go_sem, *]);have b1:w2.cell? ⟨w.heap.size,1,none⟩=some (.string ds):=(hb2.cell (p:=⟨w.heap.size,1,none⟩) hs1).trans (by simp [go_sem, *]);have b2:w2.cell? ⟨w.heap.size,2,none⟩=some (.int .i64 fl):=(hb2.cell (p:=⟨w.heap.size,2,none⟩) hs1).trans (by simp [go_sem, *]);have b3:w2.cell? ⟨w.heap.size,3,none⟩=some (.int .i64 lo):=(hb2.cell (p:=⟨w.heap.size,3,none⟩) hs1).trans (by simp [go_sem, *]);have b4:w2.cell? ⟨w.heap.size,4,none⟩=some (.int .i64 st):=(hb2.cell (p:=⟨w.heap.size,4,none⟩) hs1).trans (by simp [go_sem, *]);have b5:w2.cell? ⟨w.heap.size,5,none⟩=some (.slice ao K cap):=(hb2.cell (p:=⟨w.heap.size,5,none⟩) hs1).trans (by simp [go_sem, *]);clear a0 a1 a2 a3 a4 a5;have B2:Hid (Below w.heap.size w w2):=Below.step B1.out hb2;clear hb2 ho2)
                | (go_at_call 73;refine ((HH.out) _).mono ?_;rintro e w9 ⟨rfl,hw9⟩;rw [hw9];clear hw9))
              go_ret
              exact ⟨ret_bool (by rw [HR.out];simp [*]),B2.out.alloc B2.out.size _⟩
          | true =>
            rcases hvv with rfl|⟨rfl,rfl⟩
            all_goals
              go_enter Tryz.func124,Tryz.ntmps124
              go_wp2_with (first
                | (go_at_call 165;refine ((HM.out) _).mono ?_;rintro e w0 ⟨rfl,hw0⟩;rw [hw0];clear hw0)
                | (go_at_call 166;refine ((HCM.out) _).mono ?_;rintro e w1 ⟨rfl,hb1⟩;have hs1:w.heap.size<w1.heap.size:=(by have:=hb1.size;simp at this;omega);have a0:w1.cell? ⟨w.heap.size,0,none⟩=some (.string nm):=(hb1.cell (p:=⟨w.heap.size,0,none⟩) (by simp)).trans (by simp [go_sem, *]);have a1:w1.cell? ⟨w.heap.size,1,none⟩=some (.string ds):=(hb1.cell (p:=⟨w.heap.size,1,none⟩) (by simp)).trans (by simp [go_sem, *]);have a2:w1.cell? ⟨w.heap.size,2,none⟩=some (.int .i64 fl):=(hb1.cell (p:=⟨w.heap.size,2,none⟩) (by simp)).trans (by simp [go_sem, *]);have a3:w1.cell? ⟨w.heap.size,3,none⟩=some (.int .i64 lo):=(hb1.cell (p:=⟨w.heap.size,3,none⟩) (by simp)).trans (by simp [go_sem, *]);have a4:w1.cell? ⟨w.heap.size,4,none⟩=some (.int .i64 st):=(hb1.cell (p:=⟨w.heap.size,4,none⟩) (by simp)).trans (by simp [go_sem, *]);have a5:w1.cell? ⟨w.heap.size,5,none⟩=some (.slice ao K cap):=(hb1.cell (p:=⟨w.heap.size,5,none⟩) (by simp)).trans (by simp [go_sem, *]);have B1:Hid (Below w.heap.size w w1):=Below.step ((Below.refl _ _).alloc (Nat.le_refl _) _) hb1;clear hb1)
                | (go_at_call 167;refine ((HD.out) _).mono ?_;rintro e w2 ⟨v,rfl,ho2,hb2⟩;obtain ⟨v1,v2,rfl⟩:=own_slice ho2;have hs2:w.heap.size<w2.heap.size:=(by have:=hb2.size;omega);have b0:w2.cell? ⟨w.heap.size,0,none⟩=some (.string nm):=(hb2.cell (p:=⟨w.heap.size,0,none⟩) hs1).trans (by simp [go_sem, *]);have b1:w2.cell? ⟨w.heap.size,1,none⟩=some (.string ds):=(hb2.cell (p:=⟨w.heap.size,1,none⟩) hs1).trans (by simp [go_sem, *]);have b2:w2.cell? ⟨w.heap.size,2,none⟩=some (.int .i64 fl):=(hb2.cell (p:=⟨w.heap.size,2,none⟩) hs1).trans (by simp [go_sem, *]);have b3:w2.cell? ⟨w.heap.size,3,none⟩=some (.int .i64 lo):=(hb2.cell (p:=⟨w.heap.size,3,none⟩) hs1).trans (by simp [go_sem, *]);have b4:w2.cell? ⟨w.heap.size,4,none⟩=some (.int .i64 st):=(hb2.cell (p:=⟨w.heap.size,4,none⟩) hs1).trans (by simp [go_sem, *]);have b5:w2.cell? ⟨w.heap.size,5,none⟩=some (.slice ao K cap):=(hb2.cell (p:=⟨w.heap.size,5,none⟩) hs1).trans (by simp [go_sem, *]);clear a0 a1 a2 a3 a4 a5;have B2:Hid (Below w.heap.size w w2):=Below.step B1.out hb2;clear hb2 ho2)
                | (go_at_call 73;refine ((HH.out) _).mono ?_;rintro e w9 ⟨rfl,hw9⟩;rw [hw9];clear hw9))
              go_ret
              exact ⟨ret_bool (by rw [HR.out];simp [*]),B2.out.alloc B2.out.size _⟩
    | false =>
      by_cases q1:st<0
      · rcases hvv with rfl|⟨rfl,rfl⟩
        all_goals
          go_enter Tryz.func124,Tryz.ntmps124
          go_wp2_with (first
            | (go_at_call 165;refine ((HM.out) _).mono ?_;rintro e w0 ⟨rfl,hw0⟩;rw [hw0];clear hw0)
            | (go_at_call 166;refine ((HCM.out) _).mono ?_;rintro e w1 ⟨rfl,hb1⟩;have hs1:w.heap.size<w1.heap.size:=(by have:=hb1.size;simp at this;omega);have a0:w1.cell? ⟨w.heap.size,0,none⟩=some (.string nm):=(hb1.cell (p:=⟨w.heap.size,0,none⟩) (by simp)).trans (by simp [go_sem, *]);have a1:w1.cell? ⟨w.heap.size,1,none⟩=some (.string ds):=(hb1.cell (p:=⟨w.heap.size,1,none⟩) (by simp)).trans (by simp [go_sem, *]);have a2:w1.cell? ⟨w.heap.size,2,none⟩=some (.int .i64 fl):=(hb1.cell (p:=⟨w.heap.size,2,none⟩) (by simp)).trans (by simp [go_sem, *]);have a3:w1.cell? ⟨w.heap.size,3,none⟩=some (.int .i64 lo):=(hb1.cell (p:=⟨w.heap.size,3,none⟩) (by simp)).trans (by simp [go_sem, *]);have a4:w1.cell? ⟨w.heap.size,4,none⟩=some (.int .i64 st):=(hb1.cell (p:=⟨w.heap.size,4,none⟩) (by simp)).trans (by simp [go_sem, *]);have a5:w1.cell? ⟨w.heap.size,5,none⟩=some (.slice ao K cap):=(hb1.cell (p:=⟨w.heap.size,5,none⟩) (by simp)).trans (by simp [go_sem, *]);have B1:Hid (Below w.heap.size w w1):=Below.step ((Below.refl _ _).alloc (Nat.le_refl _) _) hb1;clear hb1)
            | (go_at_call 167;refine ((HD.out) _).mono ?_;rintro e w2 ⟨v,rfl,ho2,hb2⟩;obtain ⟨v1,v2,rfl⟩:=own_slice ho2;have hs2:w.heap.size<w2.heap.size:=(by have:=hb2.size;omega);have b0:w2.cell? ⟨w.heap.size,0,none⟩=some (.string nm):=(hb2.cell (p:=⟨w.heap.size,0,none⟩) hs1).trans (by simp [go_sem, *]);have b1:w2.cell? ⟨w.heap.size,1,none⟩=some (.string ds):=(hb2.cell (p:=⟨w.heap.size,1,none⟩) hs1).trans (by simp [go_sem, *]);have b2:w2.cell? ⟨w.heap.size,2,none⟩=some (.int .i64 fl):=(hb2.cell (p:=⟨w.heap.size,2,none⟩) hs1).trans (by simp [go_sem, *]);have b3:w2.cell? ⟨w.heap.size,3,none⟩=some (.int .i64 lo):=(hb2.cell (p:=⟨w.heap.size,3,none⟩) hs1).trans (by simp [go_sem, *]);have b4:w2.cell? ⟨w.heap.size,4,none⟩=some (.int .i64 st):=(hb2.cell (p:=⟨w.heap.size,4,none⟩) hs1).trans (by simp [go_sem, *]);have b5:w2.cell? ⟨w.heap.size,5,none⟩=some (.slice ao K cap):=(hb2.cell (p:=⟨w.heap.size,5,none⟩) hs1).trans (by simp [go_sem, *]);clear a0 a1 a2 a3 a4 a5;have B2:Hid (Below w.heap.size w w2):=Below.step B1.out hb2;clear hb2 ho2)
            | (go_at_call 73;refine ((HH.out) _).mono ?_;rintro e w9 ⟨rfl,hw9⟩;rw [hw9];clear hw9)
            | (go_at_call 168;refine ((HW.out) _).mono ?_;rintro e w3 ⟨rfl,hb3⟩;have hs3:w.heap.size<w3.heap.size:=(by have:=hb3.size;simp at this;omega);have c3:w3.cell? ⟨w.heap.size,3,none⟩=some (.int .i64 lo):=(hb3.cell (p:=⟨w.heap.size,3,none⟩) (by simp;omega)).trans (by simp [go_sem, *]);have c4:w3.cell? ⟨w.heap.size,4,none⟩=some (.int .i64 st):=(hb3.cell (p:=⟨w.heap.size,4,none⟩) (by simp;omega)).trans (by simp [go_sem, *]);have c5:w3.cell? ⟨w.heap.size,5,none⟩=some (.slice ao K cap):=(hb3.cell (p:=⟨w.heap.size,5,none⟩) (by simp;omega)).trans (by simp [go_sem, *]);clear b0 b1 b2 b3 b4 b5;have B3:Hid (Below w.heap.size w w3):=Below.step (B2.out.alloc B2.out.size _) hb3;clear hb3))
          go_ret
          exact ⟨ret_bool (by rw [HR.out];simp [*]),B3.out⟩
      by_cases q2:40<st
      · rcases hvv with rfl|⟨rfl,rfl⟩
        all_goals
          go_enter Tryz.func124,Tryz.ntmps124
          go_wp2_with (first
            | (go_at_call 165;refine ((HM.out) _).mono ?_;rintro e w0 ⟨rfl,hw0⟩;rw [hw0];clear hw0)
            | (go_at_call 166;refine ((HCM.out) _).mono ?_;rintro e w1 ⟨rfl,hb1⟩;have hs1:w.heap.size<w1.heap.size:=(by have:=hb1.size;simp at this;omega);have a0:w1.cell? ⟨w.heap.size,0,none⟩=some (.string nm):=(hb1.cell (p:=⟨w.heap.size,0,none⟩) (by simp)).trans (by simp [go_sem, *]);have a1:w1.cell? ⟨w.heap.size,1,none⟩=some (.string ds):=(hb1.cell (p:=⟨w.heap.size,1,none⟩) (by simp)).trans (by simp [go_sem, *]);have a2:w1.cell? ⟨w.heap.size,2,none⟩=some (.int .i64 fl):=(hb1.cell (p:=⟨w.heap.size,2,none⟩) (by simp)).trans (by simp [go_sem, *]);have a3:w1.cell? ⟨w.heap.size,3,none⟩=some (.int .i64 lo):=(hb1.cell (p:=⟨w.heap.size,3,none⟩) (by simp)).trans (by simp [go_sem, *]);have a4:w1.cell? ⟨w.heap.size,4,none⟩=some (.int .i64 st):=(hb1.cell (p:=⟨w.heap.size,4,none⟩) (by simp)).trans (by simp [go_sem, *]);have a5:w1.cell? ⟨w.heap.size,5,none⟩=some (.slice ao K cap):=(hb1.cell (p:=⟨w.heap.size,5,none⟩) (by simp)).trans (by simp [go_sem, *]);have B1:Hid (Below w.heap.size w w1):=Below.step ((Below.refl _ _).alloc (Nat.le_refl _) _) hb1;clear hb1)
            | (go_at_call 167;refine ((HD.out) _).mono ?_;rintro e w2 ⟨v,rfl,ho2,hb2⟩;obtain ⟨v1,v2,rfl⟩:=own_slice ho2;have hs2:w.heap.size<w2.heap.size:=(by have:=hb2.size;omega);have b0:w2.cell? ⟨w.heap.size,0,none⟩=some (.string nm):=(hb2.cell (p:=⟨w.heap.size,0,none⟩) hs1).trans (by simp [go_sem, *]);have b1:w2.cell? ⟨w.heap.size,1,none⟩=some (.string ds):=(hb2.cell (p:=⟨w.heap.size,1,none⟩) hs1).trans (by simp [go_sem, *]);have b2:w2.cell? ⟨w.heap.size,2,none⟩=some (.int .i64 fl):=(hb2.cell (p:=⟨w.heap.size,2,none⟩) hs1).trans (by simp [go_sem, *]);have b3:w2.cell? ⟨w.heap.size,3,none⟩=some (.int .i64 lo):=(hb2.cell (p:=⟨w.heap.size,3,none⟩) hs1).trans (by simp [go_sem, *]);have b4:w2.cell? ⟨w.heap.size,4,none⟩=some (.int .i64 st):=(hb2.cell (p:=⟨w.heap.size,4,none⟩) hs1).trans (by simp [go_sem, *]);have b5:w2.cell? ⟨w.heap.size,5,none⟩=some (.slice ao K cap):=(hb2.cell (p:=⟨w.heap.size,5,none⟩) hs1).trans (by simp [go_sem, *]);clear a0 a1 a2 a3 a4 a5;have B2:Hid (Below w.heap.size w w2):=Below.step B1.out hb2;clear hb2 ho2)
            | (go_at_call 73;refine ((HH.out) _).mono ?_;rintro e w9 ⟨rfl,hw9⟩;rw [hw9];clear hw9)
            | (go_at_call 168;refine ((HW.out) _).mono ?_;rintro e w3 ⟨rfl,hb3⟩;have hs3:w.heap.size<w3.heap.size:=(by have:=hb3.size;simp at this;omega);have c3:w3.cell? ⟨w.heap.size,3,none⟩=some (.int .i64 lo):=(hb3.cell (p:=⟨w.heap.size,3,none⟩) (by simp;omega)).trans (by simp [go_sem, *]);have c4:w3.cell? ⟨w.heap.size,4,none⟩=some (.int .i64 st):=(hb3.cell (p:=⟨w.heap.size,4,none⟩) (by simp;omega)).trans (by simp [go_sem, *]);have c5:w3.cell? ⟨w.heap.size,5,none⟩=some (.slice ao K cap):=(hb3.cell (p:=⟨w.heap.size,5,none⟩) (by simp;omega)).trans (by simp [go_sem, *]);clear b0 b1 b2 b3 b4 b5;have B3:Hid (Below w.heap.size w w3):=Below.step (B2.out.alloc B2.out.size _) hb3;clear hb3))
          go_ret
          exact ⟨ret_bool (by rw [HR.out];simp [*]),B3.out⟩
      by_cases q3:lo<wn
      · rcases hvv with rfl|⟨rfl,rfl⟩
        all_goals
          go_enter Tryz.func124,Tryz.ntmps124
          go_wp2_with (first
            | (go_at_call 165;refine ((HM.out) _).mono ?_;rintro e w0 ⟨rfl,hw0⟩;rw [hw0];clear hw0)
            | (go_at_call 166;refine ((HCM.out) _).mono ?_;rintro e w1 ⟨rfl,hb1⟩;have hs1:w.heap.size<w1.heap.size:=(by have:=hb1.size;simp at this;omega);have a0:w1.cell? ⟨w.heap.size,0,none⟩=some (.string nm):=(hb1.cell (p:=⟨w.heap.size,0,none⟩) (by simp)).trans (by simp [go_sem, *]);have a1:w1.cell? ⟨w.heap.size,1,none⟩=some (.string ds):=(hb1.cell (p:=⟨w.heap.size,1,none⟩) (by simp)).trans (by simp [go_sem, *]);have a2:w1.cell? ⟨w.heap.size,2,none⟩=some (.int .i64 fl):=(hb1.cell (p:=⟨w.heap.size,2,none⟩) (by simp)).trans (by simp [go_sem, *]);have a3:w1.cell? ⟨w.heap.size,3,none⟩=some (.int .i64 lo):=(hb1.cell (p:=⟨w.heap.size,3,none⟩) (by simp)).trans (by simp [go_sem, *]);have a4:w1.cell? ⟨w.heap.size,4,none⟩=some (.int .i64 st):=(hb1.cell (p:=⟨w.heap.size,4,none⟩) (by simp)).trans (by simp [go_sem, *]);have a5:w1.cell? ⟨w.heap.size,5,none⟩=some (.slice ao K cap):=(hb1.cell (p:=⟨w.heap.size,5,none⟩) (by simp)).trans (by simp [go_sem, *]);have B1:Hid (Below w.heap.size w w1):=Below.step ((Below.refl _ _).alloc (Nat.le_refl _) _) hb1;clear hb1)
            | (go_at_call 167;refine ((HD.out) _).mono ?_;rintro e w2 ⟨v,rfl,ho2,hb2⟩;obtain ⟨v1,v2,rfl⟩:=own_slice ho2;have hs2:w.heap.size<w2.heap.size:=(by have:=hb2.size;omega);have b0:w2.cell? ⟨w.heap.size,0,none⟩=some (.string nm):=(hb2.cell (p:=⟨w.heap.size,0,none⟩) hs1).trans (by simp [go_sem, *]);have b1:w2.cell? ⟨w.heap.size,1,none⟩=some (.string ds):=(hb2.cell (p:=⟨w.heap.size,1,none⟩) hs1).trans (by simp [go_sem, *]);have b2:w2.cell? ⟨w.heap.size,2,none⟩=some (.int .i64 fl):=(hb2.cell (p:=⟨w.heap.size,2,none⟩) hs1).trans (by simp [go_sem, *]);have b3:w2.cell? ⟨w.heap.size,3,none⟩=some (.int .i64 lo):=(hb2.cell (p:=⟨w.heap.size,3,none⟩) hs1).trans (by simp [go_sem, *]);have b4:w2.cell? ⟨w.heap.size,4,none⟩=some (.int .i64 st):=(hb2.cell (p:=⟨w.heap.size,4,none⟩) hs1).trans (by simp [go_sem, *]);have b5:w2.cell? ⟨w.heap.size,5,none⟩=some (.slice ao K cap):=(hb2.cell (p:=⟨w.heap.size,5,none⟩) hs1).trans (by simp [go_sem, *]);clear a0 a1 a2 a3 a4 a5;have B2:Hid (Below w.heap.size w w2):=Below.step B1.out hb2;clear hb2 ho2)
            | (go_at_call 73;refine ((HH.out) _).mono ?_;rintro e w9 ⟨rfl,hw9⟩;rw [hw9];clear hw9)
            | (go_at_call 168;refine ((HW.out) _).mono ?_;rintro e w3 ⟨rfl,hb3⟩;have hs3:w.heap.size<w3.heap.size:=(by have:=hb3.size;simp at this;omega);have c3:w3.cell? ⟨w.heap.size,3,none⟩=some (.int .i64 lo):=(hb3.cell (p:=⟨w.heap.size,3,none⟩) (by simp;omega)).trans (by simp [go_sem, *]);have c4:w3.cell? ⟨w.heap.size,4,none⟩=some (.int .i64 st):=(hb3.cell (p:=⟨w.heap.size,4,none⟩) (by simp;omega)).trans (by simp [go_sem, *]);have c5:w3.cell? ⟨w.heap.size,5,none⟩=some (.slice ao K cap):=(hb3.cell (p:=⟨w.heap.size,5,none⟩) (by simp;omega)).trans (by simp [go_sem, *]);clear b0 b1 b2 b3 b4 b5;have B3:Hid (Below w.heap.size w w3):=Below.step (B2.out.alloc B2.out.size _) hb3;clear hb3))
          go_ret
          exact ⟨ret_bool (by rw [HR.out];simp [*]),B3.out⟩
      by_cases q4:40<lo
      · rcases hvv with rfl|⟨rfl,rfl⟩
        all_goals
          go_enter Tryz.func124,Tryz.ntmps124
          go_wp2_with (first
            | (go_at_call 165;refine ((HM.out) _).mono ?_;rintro e w0 ⟨rfl,hw0⟩;rw [hw0];clear hw0)
            | (go_at_call 166;refine ((HCM.out) _).mono ?_;rintro e w1 ⟨rfl,hb1⟩;have hs1:w.heap.size<w1.heap.size:=(by have:=hb1.size;simp at this;omega);have a0:w1.cell? ⟨w.heap.size,0,none⟩=some (.string nm):=(hb1.cell (p:=⟨w.heap.size,0,none⟩) (by simp)).trans (by simp [go_sem, *]);have a1:w1.cell? ⟨w.heap.size,1,none⟩=some (.string ds):=(hb1.cell (p:=⟨w.heap.size,1,none⟩) (by simp)).trans (by simp [go_sem, *]);have a2:w1.cell? ⟨w.heap.size,2,none⟩=some (.int .i64 fl):=(hb1.cell (p:=⟨w.heap.size,2,none⟩) (by simp)).trans (by simp [go_sem, *]);have a3:w1.cell? ⟨w.heap.size,3,none⟩=some (.int .i64 lo):=(hb1.cell (p:=⟨w.heap.size,3,none⟩) (by simp)).trans (by simp [go_sem, *]);have a4:w1.cell? ⟨w.heap.size,4,none⟩=some (.int .i64 st):=(hb1.cell (p:=⟨w.heap.size,4,none⟩) (by simp)).trans (by simp [go_sem, *]);have a5:w1.cell? ⟨w.heap.size,5,none⟩=some (.slice ao K cap):=(hb1.cell (p:=⟨w.heap.size,5,none⟩) (by simp)).trans (by simp [go_sem, *]);have B1:Hid (Below w.heap.size w w1):=Below.step ((Below.refl _ _).alloc (Nat.le_refl _) _) hb1;clear hb1)
            | (go_at_call 167;refine ((HD.out) _).mono ?_;rintro e w2 ⟨v,rfl,ho2,hb2⟩;obtain ⟨v1,v2,rfl⟩:=own_slice ho2;have hs2:w.heap.size<w2.heap.size:=(by have:=hb2.size;omega);have b0:w2.cell? ⟨w.heap.size,0,none⟩=some (.string nm):=(hb2.cell (p:=⟨w.heap.size,0,none⟩) hs1).trans (by simp [go_sem, *]);have b1:w2.cell? ⟨w.heap.size,1,none⟩=some (.string ds):=(hb2.cell (p:=⟨w.heap.size,1,none⟩) hs1).trans (by simp [go_sem, *]);have b2:w2.cell? ⟨w.heap.size,2,none⟩=some (.int .i64 fl):=(hb2.cell (p:=⟨w.heap.size,2,none⟩) hs1).trans (by simp [go_sem, *]);have b3:w2.cell? ⟨w.heap.size,3,none⟩=some (.int .i64 lo):=(hb2.cell (p:=⟨w.heap.size,3,none⟩) hs1).trans (by simp [go_sem, *]);have b4:w2.cell? ⟨w.heap.size,4,none⟩=some (.int .i64 st):=(hb2.cell (p:=⟨w.heap.size,4,none⟩) hs1).trans (by simp [go_sem, *]);have b5:w2.cell? ⟨w.heap.size,5,none⟩=some (.slice ao K cap):=(hb2.cell (p:=⟨w.heap.size,5,none⟩) hs1).trans (by simp [go_sem, *]);clear a0 a1 a2 a3 a4 a5;have B2:Hid (Below w.heap.size w w2):=Below.step B1.out hb2;clear hb2 ho2)
            | (go_at_call 73;refine ((HH.out) _).mono ?_;rintro e w9 ⟨rfl,hw9⟩;rw [hw9];clear hw9)
            | (go_at_call 168;refine ((HW.out) _).mono ?_;rintro e w3 ⟨rfl,hb3⟩;have hs3:w.heap.size<w3.heap.size:=(by have:=hb3.size;simp at this;omega);have c3:w3.cell? ⟨w.heap.size,3,none⟩=some (.int .i64 lo):=(hb3.cell (p:=⟨w.heap.size,3,none⟩) (by simp;omega)).trans (by simp [go_sem, *]);have c4:w3.cell? ⟨w.heap.size,4,none⟩=some (.int .i64 st):=(hb3.cell (p:=⟨w.heap.size,4,none⟩) (by simp;omega)).trans (by simp [go_sem, *]);have c5:w3.cell? ⟨w.heap.size,5,none⟩=some (.slice ao K cap):=(hb3.cell (p:=⟨w.heap.size,5,none⟩) (by simp;omega)).trans (by simp [go_sem, *]);clear b0 b1 b2 b3 b4 b5;have B3:Hid (Below w.heap.size w w3):=Below.step (B2.out.alloc B2.out.size _) hb3;clear hb3))
          go_ret
          exact ⟨ret_bool (by rw [HR.out];simp [*]),B3.out⟩
      cases q5:(al == 0) with
      | false =>
        rcases hvv with rfl|⟨rfl,rfl⟩
        all_goals
          go_enter Tryz.func124,Tryz.ntmps124
          go_wp2_with (first
            | (go_at_call 165;refine ((HM.out) _).mono ?_;rintro e w0 ⟨rfl,hw0⟩;rw [hw0];clear hw0)
            | (go_at_call 166;refine ((HCM.out) _).mono ?_;rintro e w1 ⟨rfl,hb1⟩;have hs1:w.heap.size<w1.heap.size:=(by have:=hb1.size;simp at this;omega);have a0:w1.cell? ⟨w.heap.size,0,none⟩=some (.string nm):=(hb1.cell (p:=⟨w.heap.size,0,none⟩) (by simp)).trans (by simp [go_sem, *]);have a1:w1.cell? ⟨w.heap.size,1,none⟩=some (.string ds):=(hb1.cell (p:=⟨w.heap.size,1,none⟩) (by simp)).trans (by simp [go_sem, *]);have a2:w1.cell? ⟨w.heap.size,2,none⟩=some (.int .i64 fl):=(hb1.cell (p:=⟨w.heap.size,2,none⟩) (by simp)).trans (by simp [go_sem, *]);have a3:w1.cell? ⟨w.heap.size,3,none⟩=some (.int .i64 lo):=(hb1.cell (p:=⟨w.heap.size,3,none⟩) (by simp)).trans (by simp [go_sem, *]);have a4:w1.cell? ⟨w.heap.size,4,none⟩=some (.int .i64 st):=(hb1.cell (p:=⟨w.heap.size,4,none⟩) (by simp)).trans (by simp [go_sem, *]);have a5:w1.cell? ⟨w.heap.size,5,none⟩=some (.slice ao K cap):=(hb1.cell (p:=⟨w.heap.size,5,none⟩) (by simp)).trans (by simp [go_sem, *]);have B1:Hid (Below w.heap.size w w1):=Below.step ((Below.refl _ _).alloc (Nat.le_refl _) _) hb1;clear hb1)
            | (go_at_call 167;refine ((HD.out) _).mono ?_;rintro e w2 ⟨v,rfl,ho2,hb2⟩;obtain ⟨v1,v2,rfl⟩:=own_slice ho2;have hs2:w.heap.size<w2.heap.size:=(by have:=hb2.size;omega);have b0:w2.cell? ⟨w.heap.size,0,none⟩=some (.string nm):=(hb2.cell (p:=⟨w.heap.size,0,none⟩) hs1).trans (by simp [go_sem, *]);have b1:w2.cell? ⟨w.heap.size,1,none⟩=some (.string ds):=(hb2.cell (p:=⟨w.heap.size,1,none⟩) hs1).trans (by simp [go_sem, *]);have b2:w2.cell? ⟨w.heap.size,2,none⟩=some (.int .i64 fl):=(hb2.cell (p:=⟨w.heap.size,2,none⟩) hs1).trans (by simp [go_sem, *]);have b3:w2.cell? ⟨w.heap.size,3,none⟩=some (.int .i64 lo):=(hb2.cell (p:=⟨w.heap.size,3,none⟩) hs1).trans (by simp [go_sem, *]);have b4:w2.cell? ⟨w.heap.size,4,none⟩=some (.int .i64 st):=(hb2.cell (p:=⟨w.heap.size,4,none⟩) hs1).trans (by simp [go_sem, *]);have b5:w2.cell? ⟨w.heap.size,5,none⟩=some (.slice ao K cap):=(hb2.cell (p:=⟨w.heap.size,5,none⟩) hs1).trans (by simp [go_sem, *]);clear a0 a1 a2 a3 a4 a5;have B2:Hid (Below w.heap.size w w2):=Below.step B1.out hb2;clear hb2 ho2)
            | (go_at_call 73;refine ((HH.out) _).mono ?_;rintro e w9 ⟨rfl,hw9⟩;rw [hw9];clear hw9)
            | (go_at_call 168;refine ((HW.out) _).mono ?_;rintro e w3 ⟨rfl,hb3⟩;have hs3:w.heap.size<w3.heap.size:=(by have:=hb3.size;simp at this;omega);have c3:w3.cell? ⟨w.heap.size,3,none⟩=some (.int .i64 lo):=(hb3.cell (p:=⟨w.heap.size,3,none⟩) (by simp;omega)).trans (by simp [go_sem, *]);have c4:w3.cell? ⟨w.heap.size,4,none⟩=some (.int .i64 st):=(hb3.cell (p:=⟨w.heap.size,4,none⟩) (by simp;omega)).trans (by simp [go_sem, *]);have c5:w3.cell? ⟨w.heap.size,5,none⟩=some (.slice ao K cap):=(hb3.cell (p:=⟨w.heap.size,5,none⟩) (by simp;omega)).trans (by simp [go_sem, *]);clear b0 b1 b2 b3 b4 b5;have B3:Hid (Below w.heap.size w w3):=Below.step (B2.out.alloc B2.out.size _) hb3;clear hb3)
            | (go_at_call 169;refine (HCA.out _ (HI.out.keep B3.out)).mono ?_;rintro e w4 ⟨rfl,hb4⟩;have B4:Hid (Below w.heap.size w w4):=Below.step B3.out hb4;clear hb4))
          go_ret
          exact ⟨ret_bool (by rw [HR.out];simp [*]),B4.out⟩
      | true =>
        rcases hvv with rfl|⟨rfl,rfl⟩
        all_goals
          go_enter Tryz.func124,Tryz.ntmps124
          go_wp2_with (first
            | (go_at_call 165;refine ((HM.out) _).mono ?_;rintro e w0 ⟨rfl,hw0⟩;rw [hw0];clear hw0)
            | (go_at_call 166;refine ((HCM.out) _).mono ?_;rintro e w1 ⟨rfl,hb1⟩;have hs1:w.heap.size<w1.heap.size:=(by have:=hb1.size;simp at this;omega);have a0:w1.cell? ⟨w.heap.size,0,none⟩=some (.string nm):=(hb1.cell (p:=⟨w.heap.size,0,none⟩) (by simp)).trans (by simp [go_sem, *]);have a1:w1.cell? ⟨w.heap.size,1,none⟩=some (.string ds):=(hb1.cell (p:=⟨w.heap.size,1,none⟩) (by simp)).trans (by simp [go_sem, *]);have a2:w1.cell? ⟨w.heap.size,2,none⟩=some (.int .i64 fl):=(hb1.cell (p:=⟨w.heap.size,2,none⟩) (by simp)).trans (by simp [go_sem, *]);have a3:w1.cell? ⟨w.heap.size,3,none⟩=some (.int .i64 lo):=(hb1.cell (p:=⟨w.heap.size,3,none⟩) (by simp)).trans (by simp [go_sem, *]);have a4:w1.cell? ⟨w.heap.size,4,none⟩=some (.int .i64 st):=(hb1.cell (p:=⟨w.heap.size,4,none⟩) (by simp)).trans (by simp [go_sem, *]);have a5:w1.cell? ⟨w.heap.size,5,none⟩=some (.slice ao K cap):=(hb1.cell (p:=⟨w.heap.size,5,none⟩) (by simp)).trans (by simp [go_sem, *]);have B1:Hid (Below w.heap.size w w1):=Below.step ((Below.refl _ _).alloc (Nat.le_refl _) _) hb1;clear hb1)
            | (go_at_call 167;refine ((HD.out) _).mono ?_;rintro e w2 ⟨v,rfl,ho2,hb2⟩;obtain ⟨v1,v2,rfl⟩:=own_slice ho2;have hs2:w.heap.size<w2.heap.size:=(by have:=hb2.size;omega);have b0:w2.cell? ⟨w.heap.size,0,none⟩=some (.string nm):=(hb2.cell (p:=⟨w.heap.size,0,none⟩) hs1).trans (by simp [go_sem, *]);have b1:w2.cell? ⟨w.heap.size,1,none⟩=some (.string ds):=(hb2.cell (p:=⟨w.heap.size,1,none⟩) hs1).trans (by simp [go_sem, *]);have b2:w2.cell? ⟨w.heap.size,2,none⟩=some (.int .i64 fl):=(hb2.cell (p:=⟨w.heap.size,2,none⟩) hs1).trans (by simp [go_sem, *]);have b3:w2.cell? ⟨w.heap.size,3,none⟩=some (.int .i64 lo):=(hb2.cell (p:=⟨w.heap.size,3,none⟩) hs1).trans (by simp [go_sem, *]);have b4:w2.cell? ⟨w.heap.size,4,none⟩=some (.int .i64 st):=(hb2.cell (p:=⟨w.heap.size,4,none⟩) hs1).trans (by simp [go_sem, *]);have b5:w2.cell? ⟨w.heap.size,5,none⟩=some (.slice ao K cap):=(hb2.cell (p:=⟨w.heap.size,5,none⟩) hs1).trans (by simp [go_sem, *]);clear a0 a1 a2 a3 a4 a5;have B2:Hid (Below w.heap.size w w2):=Below.step B1.out hb2;clear hb2 ho2)
            | (go_at_call 73;refine ((HH.out) _).mono ?_;rintro e w9 ⟨rfl,hw9⟩;rw [hw9];clear hw9)
            | (go_at_call 168;refine ((HW.out) _).mono ?_;rintro e w3 ⟨rfl,hb3⟩;have hs3:w.heap.size<w3.heap.size:=(by have:=hb3.size;simp at this;omega);have c3:w3.cell? ⟨w.heap.size,3,none⟩=some (.int .i64 lo):=(hb3.cell (p:=⟨w.heap.size,3,none⟩) (by simp;omega)).trans (by simp [go_sem, *]);have c4:w3.cell? ⟨w.heap.size,4,none⟩=some (.int .i64 st):=(hb3.cell (p:=⟨w.heap.size,4,none⟩) (by simp;omega)).trans (by simp [go_sem, *]);have c5:w3.cell? ⟨w.heap.size,5,none⟩=some (.slice ao K cap):=(hb3.cell (p:=⟨w.heap.size,5,none⟩) (by simp;omega)).trans (by simp [go_sem, *]);clear b0 b1 b2 b3 b4 b5;have B3:Hid (Below w.heap.size w w3):=Below.step (B2.out.alloc B2.out.size _) hb3;clear hb3)
            | (go_at_call 169;refine (HCA.out _ (HI.out.keep B3.out)).mono ?_;rintro e w4 ⟨rfl,hb4⟩;have B4:Hid (Below w.heap.size w w4):=Below.step B3.out hb4;clear hb4))
          go_ret
          exact ⟨ret_bool (by rw [HR.out];simp [*]),B4.out⟩
end Go.Proofs.YtfjekhmnjfcbeaaGreat
