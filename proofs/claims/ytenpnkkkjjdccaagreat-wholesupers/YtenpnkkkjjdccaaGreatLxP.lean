import Derived.Test.YtenpnkkkjjdccaaGreatAcT
import Derived.Test.YtenpnkkkjjdccaaGreatSoD
import Derived.Test.YtenpnkkkjjdccaaGreatOvA
import Derived.Test.YtenpnkkkjjdccaaGreatTyC
import Derived.Test.YtenpnkkkjjdccaaGreatAcE
import Derived.Test.YtenpnkkkjjdccaaGreatOwnQ
import Derived.Deep.LoopGhost
set_option maxRecDepth 100000
namespace Go.Proofs.YtenpnkkkjjdccaaGreat
open Go.RowKit Go.Maps
def intB (d:Int) (s:ByteArray):Bool:=(d == 0)&&s.toList.isEmpty
theorem isInt_c (d:Int) (s:ByteArray) (W:World):Calls Tryz.prog 147 #[.agg #[.int .i64 d,.string s]] W fun e w'=>e=.returned (.bool (intB d s))∧Below W.heap.size W w':=by
  obtain ⟨R,hR⟩:∃ R,intB d s=R:=⟨_,rfl⟩
  have HR:Hid (((d == 0)&&s.toList.isEmpty)=R):=hR
  rw [hR]
  clear hR
  go_enter Tryz.func147,Tryz.ntmps147
  go_wp2
  all_goals go_ret
  all_goals exact ⟨retB (by rw [← HR.out];simp [*]),(by repeat (first|exact Below.refl _ _|refine Below.setCell ?_ (by simp;try omega) _|refine Below.alloc ?_ (by simp;try omega) _|refine Below.drew ?_))⟩
def sObj:List UInt8:=[79,98,106,101,99,116]
def sClo:List UInt8:=[67,108,111,110,101,97,98,108,101]
def sSer:List UInt8:=[83,101,114,105,97,108,105,122,97,98,108,101]
def abv3:List (List UInt8):=[sObj,sClo,sSer]
theorem above3_c (W:World):Calls Tryz.prog 333 #[] W fun e w'=>(∃ v,e=.returned v∧IsStrs w' v abv3)∧Below W.heap.size W w':=by
  go_enter Tryz.func333,Tryz.ntmps333
  go_wp2
  refine bodyPost_ret (results_tmp rfl _ _ _) rfl ⟨⟨_,rfl,_,_,rfl,by decide,by decide,fun _=>⟨W.heap.size,0,rfl,by simp,fun k p hk=>?_⟩⟩,(by repeat (first|exact Below.refl _ _|refine Below.setCell ?_ (by simp;try omega) _|refine Below.alloc ?_ (by simp;try omega) _|refine Below.drew ?_))⟩
  match k,hk with
  | 0,hk=>cases hk;simp [go_sem,sObj]
  | 1,hk=>cases hk;simp [go_sem,sClo]
  | 2,hk=>cases hk;simp [go_sem,sSer]
  | (k+3),hk=>simp [abv3] at hk
theorem aExt_c {b:Nat} {ps:List Plc} {W:World} (h:WAt b ps W) (hi:WI ps) (s t:ByteArray) (hs:s.size≤maxLen) (ht:t.size≤maxLen) (x y:Nat) (hx:lookL ps s.data.toList=some x) (hy:lookL ps t.data.toList=some y):Calls Tryz.prog 334 #[.pointer (some ⟨b,0,none⟩),.string s,.string t] W fun e w'=>e=.returned (.bool (extB (ps.map nd) x y))∧Below W.heap.size W w':=by
  obtain ⟨p,hp,_⟩:=look_place hx
  obtain ⟨q,hq,_⟩:=look_place hy
  have he:extI ps x y=extB (ps.map nd) x y:=by rw [extI,plcI_nat,plcI_nat,hp,hq];rfl
  have HX:Hid (∀ u w,Below W.heap.size W w→u=s→Calls Tryz.prog 148 #[.pointer (some ⟨b,0,none⟩),.string u] w fun e w'=>e=.returned (.tuple #[.int .i64 (x:Int),.int .i64 0])∧Below W.heap.size W w'):=fun u w hb hu=>(byName_c (h.below hb) u (by rw [hu];exact hs)).mono fun e w' zz=>⟨by rw [zz.1,hu,hx];rfl,bstep hb zz.2⟩
  have HY:Hid (∀ u w,Below W.heap.size W w→u=t→Calls Tryz.prog 148 #[.pointer (some ⟨b,0,none⟩),.string u] w fun e w'=>e=.returned (.tuple #[.int .i64 (y:Int),.int .i64 0])∧Below W.heap.size W w'):=fun u w hb hu=>(byName_c (h.below hb) u (by rw [hu];exact ht)).mono fun e w' zz=>⟨by rw [zz.1,hu,hy];rfl,bstep hb zz.2⟩
  have HE:Hid (∀ w,Below W.heap.size W w→Calls Tryz.prog 9 #[.pointer (some ⟨b,0,none⟩),.int .i64 (x:Int),.int .i64 (y:Int)] w fun e w'=>e=.returned (.bool (extB (ps.map nd) x y))∧Below W.heap.size W w'):=fun w hb=>(extends_c (h.below hb) hi x y).mono fun e w' zz=>⟨by rw [zz.1,he],bstep hb zz.2⟩
  generalize extB (ps.map nd) x y=R at *
  clear h hi hs ht hx hy hp hq he
  go_enter Tryz.func334,Tryz.ntmps334
  go_wp2_with (first
    | (go_at_call 148;refine (HX.out _ _ (Below.refl _ _) (by rfl)).mono ?_;rintro e w1 ⟨rfl,hb⟩;have B1:Hid (Below W.heap.size W w1):=hb;clear hb HX)
    | (go_at_call 148;refine (HY.out _ _ B1.out (by rfl)).mono ?_;rintro e w2 ⟨rfl,hb⟩;have B2:Hid (Below W.heap.size W w2):=hb;clear hb HY)
    | (go_at_call 9;refine (HE.out _ B2.out).mono ?_;rintro e w3 ⟨rfl,hb⟩;have B3:Hid (Below W.heap.size W w3):=hb;clear hb HE))
  exact bodyPost_ret (results_tmp rfl _ _ _) rfl ⟨rfl,B3.out⟩
theorem lby_c {b:Nat} {ps:List Plc} {W:World} (h:WAt b ps W) (hi:WI ps) (c:Int) (y:Bool) (cn nm ds:ByteArray):Calls Tryz.prog 180 #[.pointer (some ⟨b,0,none⟩),.int .i64 c,.agg #[.bool y,.string cn,.string nm,.string ds]] W fun e w'=>e=.returned (idE (lbyR ps y nm ds c))∧Below W.heap.size W w':=by
  have HL:Hid (∀ w,Below W.heap.size W w→Calls Tryz.prog 218 #[.pointer (some ⟨b,0,none⟩),.int .i64 c,.string nm,.string ds] w fun e w'=>e=.returned (idE (lookR ps nm ds c))∧Below w.heap.size w w'):=fun w hb=>look_c (h.below hb) hi c nm ds
  have HF:Hid (∀ w,Below W.heap.size W w→Calls Tryz.prog 217 #[.pointer (some ⟨b,0,none⟩),.int .i64 c,.string nm,.string ds] w fun e w'=>e=.returned (idE (lifR ps nm ds c))∧Below w.heap.size w w'):=fun w hb=>lif_c (h.below hb) hi c nm ds
  unfold lbyR
  generalize lookR ps nm ds c=R at *
  generalize lifR ps nm ds c=S at *
  obtain ⟨⟨R1,R2⟩,R3⟩:=R
  obtain ⟨⟨S1,S2⟩,S3⟩:=S
  simp only [idE] at HL HF
  clear h hi
  cases y with
  | true =>
    rw [if_pos rfl]
    go_enter Tryz.func180,Tryz.ntmps180
    go_wp2_with (first
      | (go_at_call 217;refine (HF.out _ (by repeat (first|exact Below.refl _ _|refine Below.setCell ?_ (by simp;try omega) _|refine Below.alloc ?_ (by simp;try omega) _|refine Below.drew ?_))).mono ?_;rintro e w2 ⟨rfl,hb⟩;have zd:=kp2 (n:=W.heap.size+1) hb;(try clear zB z0 z1 zf zL zN);obtain ⟨zB,z0,z1,zf,zL,zN⟩:=zd;have B2:Hid (Below W.heap.size W w2):=bstep (by repeat (first|exact Below.refl _ _|refine Below.setCell ?_ (by simp;try omega) _|refine Below.alloc ?_ (by simp;try omega) _|refine Below.drew ?_)) hb;clear hb HF))
    exact bodyPost_ret (v:=idE ((S1,S2),S3)) (by simp [results,Tryz.results180,go_sem,idE, *]) rfl ⟨rfl,(by repeat (first|exact B2.out|refine Below.setCell ?_ (by simp;try omega) _|refine Below.alloc ?_ (by have:=B2.out.size;simp;try omega) _|refine Below.drew ?_))⟩
  | false =>
    rw [if_neg (by simp)]
    go_enter Tryz.func180,Tryz.ntmps180
    go_wp2_with (first
      | (go_at_call 218;refine (HL.out _ (by repeat (first|exact Below.refl _ _|refine Below.setCell ?_ (by simp;try omega) _|refine Below.alloc ?_ (by simp;try omega) _|refine Below.drew ?_))).mono ?_;rintro e w2 ⟨rfl,hb⟩;have zd:=kp2 (n:=W.heap.size+1) hb;(try clear zB z0 z1 zf zL zN);obtain ⟨zB,z0,z1,zf,zL,zN⟩:=zd;have B2:Hid (Below W.heap.size W w2):=bstep (by repeat (first|exact Below.refl _ _|refine Below.setCell ?_ (by simp;try omega) _|refine Below.alloc ?_ (by simp;try omega) _|refine Below.drew ?_)) hb;clear hb HL))
    exact bodyPost_ret (v:=idE ((R1,R2),R3)) (by simp [results,Tryz.results180,go_sem,idE, *]) rfl ⟨rfl,(by repeat (first|exact B2.out|refine Below.setCell ?_ (by simp;try omega) _|refine Below.alloc ?_ (by have:=B2.out.size;simp;try omega) _|refine Below.drew ?_))⟩
def toP (ps:List Plc) (d x:Int) (s:ByteArray):Bool×Int:=match plcI ps d with
  | some p=>if ldI ps x s=0 then (tyO ps p s,0) else (false,ldI ps x s)
  | none=>(false,3)
theorem toI_eq (ps:List Plc) (d x:Int) (s:ByteArray):toI ps d x s=.tuple #[.bool (toP ps d x s).1,.int .i64 (toP ps d x s).2]:=by
  unfold toI toP
  cases plcI ps d with
  | none=>rfl
  | some p=>by_cases h:ldI ps x s=0 <;> simp [h]
def tyE (x:(Int×ByteArray)×Int):Value:=.tuple #[.agg #[.int .i64 x.1.1,.string x.1.2],.int .i64 x.2]
def tyS (l:List UInt8):ByteArray:=⟨(prfT l).2.toArray⟩
def tyX (ps:List Plc) (d:Int) (l:List UInt8):Int:=shuI (toP ps d (prfT l).1 (tyS l)).1 (toP ps d (prfT l).1 (tyS l)).2
def clsR (ps:List Plc) (d:Int) (l:List UInt8):(Int×ByteArray)×Int :=
  if rckI ps d=0 then (if prfE l=0 then (if tyX ps d l=0 then ((((prfT l).1:Int),tyS l),0) else ((0,⟨#[]⟩),tyX ps d l)) else ((0,⟨#[]⟩),4)) else ((0,⟨#[]⟩),rckI ps d)
theorem prf_len2 (l:List UInt8) (h:prfE l=0):(prfT l).2.length≤2000∧(prfT l).1≤2000:=by
  unfold prfE at h
  unfold prfT
  by_cases h1:2000<l.length
  · rw [if_pos h1] at h;exact absurd h (by decide)
  · rw [if_neg h1] at h
    rw [if_neg h1]
    by_cases h2:l.head?=some 91
    · rw [if_pos h2] at h
      rw [if_pos h2]
      unfold parT
      rw [if_pos h]
      split
      · rename_i t r e
        have hw:=(write_read e).1
        have hl:=congrArg List.length hw
        rw [List.length_append,writeT_length] at hl
        split at hl
        · rename_i e0;rw [e0];simp;omega
        · omega
      all_goals simp
    · rw [if_neg h2] at h
      rw [if_neg h2]
      split
      · simp;omega
      · simp
set_option maxHeartbeats 1000000 in
theorem cls_c {b:Nat} {ps:List Plc} {W:World} (h:WAt b ps W) (hi:WI ps) (d:Int) (s:ByteArray) (hs:s.size≤maxLen):Calls Tryz.prog 179 #[.pointer (some ⟨b,0,none⟩),.int .i64 d,.string s] W fun e w'=>e=.returned (tyE (clsR ps d s.data.toList))∧Below W.heap.size W w':=by
  have HC:Hid (∀ w,Below W.heap.size W w→Calls Tryz.prog 178 #[.pointer (some ⟨b,0,none⟩),.int .i64 d] w fun e w'=>e=.returned (.int .i64 (rckI ps d))∧Below w.heap.size w w'):=fun w hb=>(rck_c (h.below hb) d).mono fun e w' zz=>⟨zz.1,by rw [zz.2];exact Below.refl _ _⟩
  have HP:Hid (∀ w:World,Calls Tryz.prog 52 #[.string s] w fun e w'=>e=.returned (.tuple #[.agg #[.int .i64 ((prfT s.data.toList).1:Int),.string (tyS s.data.toList)],.int .i64 (prfE s.data.toList)])∧Below w.heap.size w w'):=parseRef_any s hs
  have HS:Hid (∀ o x (w:World),Calls Tryz.prog 181 #[.bool o,.int .i64 x] w fun e w'=>e=.returned (.int .i64 (shuI o x))∧w'=w):=shut_c
  have HT:Hid (prfE s.data.toList=0→∀ w,Below W.heap.size W w→Calls Tryz.prog 216 #[.pointer (some ⟨b,0,none⟩),.int .i64 d,.agg #[.int .i64 ((prfT s.data.toList).1:Int),.string (tyS s.data.toList)]] w fun e w'=>e=.returned (.tuple #[.bool (toP ps d (prfT s.data.toList).1 (tyS s.data.toList)).1,.int .i64 (toP ps d (prfT s.data.toList).1 (tyS s.data.toList)).2])∧Below w.heap.size w w'):=fun h0 w hb=>by
    have hl:=(prf_len2 _ h0).1
    refine (typeOpen_c (h.below hb) hi.pb d _ _ ?_).mono fun e w' zz=>⟨by rw [zz.1,toI_eq],zz.2⟩
    have:(tyS s.data.toList).size=(prfT s.data.toList).2.length:=by simp [tyS,ByteArray.size]
    rw [this];unfold maxLen;omega
  unfold clsR tyX
  generalize ((prfT s.data.toList).1:Int)=x at *
  generalize tyS s.data.toList=t at *
  generalize toP ps d x t=P at *
  obtain ⟨P1,P2⟩:=P
  simp only at HT ⊢
  generalize prfE s.data.toList=pe at *
  generalize rckI ps d=ck at *
  replace HS:Hid (∀ (w:World),Calls Tryz.prog 181 #[.bool P1,.int .i64 P2] w fun e w'=>e=.returned (.int .i64 (shuI P1 P2))∧w'=w):=HS.out P1 P2
  generalize shuI P1 P2=sh at *
  clear h hi hs
  by_cases h0:ck=0
  · subst h0
    rw [if_pos rfl]
    by_cases h1:pe=0
    · subst h1
      rw [if_pos rfl]
      replace HT:Hid (∀ w,Below W.heap.size W w→Calls Tryz.prog 216 #[.pointer (some ⟨b,0,none⟩),.int .i64 d,.agg #[.int .i64 x,.string t]] w fun e w'=>e=.returned (.tuple #[.bool P1,.int .i64 P2])∧Below w.heap.size w w'):=HT.out rfl
      by_cases h2:sh=0
      · subst h2
        rw [if_pos rfl]
        go_enter Tryz.func179,Tryz.ntmps179
        go_wp2_with (first
          | (go_at_call 178;refine (HC.out _ (by repeat (first|exact Below.refl _ _|refine Below.setCell ?_ (by simp;try omega) _|refine Below.alloc ?_ (by simp;try omega) _|refine Below.drew ?_))).mono ?_;rintro e w1 ⟨rfl,hb⟩;have zd:=kp2 (n:=W.heap.size) hb;(try clear zB z0 z1 zf zL zN);obtain ⟨zB,z0,z1,zf,zL,zN⟩:=zd;have B1:Hid (Below W.heap.size W w1):=bstep (by repeat (first|exact Below.refl _ _|refine Below.setCell ?_ (by simp;try omega) _|refine Below.alloc ?_ (by simp;try omega) _|refine Below.drew ?_)) hb;clear hb HC)
          | (go_at_call 52;refine (HP.out _).mono ?_;rintro e w2 ⟨rfl,hb⟩;have zd:=kp2 (n:=W.heap.size) hb;(try clear zB z0 z1 zf zL zN);obtain ⟨zB,z0,z1,zf,zL,zN⟩:=zd;have B2:Hid (Below W.heap.size W w2):=bstep B1.out hb;clear hb HP)
          | (go_at_call 216;refine (HT.out _ (B2.out.alloc B2.out.size _)).mono ?_;rintro e w3 ⟨rfl,hb⟩;have hn3:¬ w2.heap.size=W.heap.size:=(by omega);have hm3:¬ W.heap.size=w2.heap.size:=(by omega);have zd:=kp2 (n:=W.heap.size) hb;(try clear zB z0 z1 zf zL zN);obtain ⟨zB,z0,z1,zf,zL,zN⟩:=zd;have gd:=kp2 (n:=w2.heap.size) hb;(try clear gB g0 g1 gf gL gN);obtain ⟨gB,g0,g1,gf,gL,gN⟩:=gd;have B3:Hid (Below W.heap.size W w3):=bstep (B2.out.alloc B2.out.size _) hb;clear hb HT)
          | (go_at_call 181;refine (HS.out _).mono ?_;rintro e w9 ⟨rfl,hw9⟩;rw [hw9];clear hw9 w9))
        exact bodyPost_ret (v:=tyE ((x,t),0)) (by simp [results,Tryz.results179,go_sem,tyE, *]) rfl ⟨rfl,(by repeat (first|exact B3.out|refine Below.setCell ?_ (by simp;try omega) _|refine Below.alloc ?_ (by have:=B3.out.size;simp;try omega) _|refine Below.drew ?_))⟩
      · rw [if_neg h2]
        go_enter Tryz.func179,Tryz.ntmps179
        go_wp2_with (first
          | (go_at_call 178;refine (HC.out _ (by repeat (first|exact Below.refl _ _|refine Below.setCell ?_ (by simp;try omega) _|refine Below.alloc ?_ (by simp;try omega) _|refine Below.drew ?_))).mono ?_;rintro e w1 ⟨rfl,hb⟩;have zd:=kp2 (n:=W.heap.size) hb;(try clear zB z0 z1 zf zL zN);obtain ⟨zB,z0,z1,zf,zL,zN⟩:=zd;have B1:Hid (Below W.heap.size W w1):=bstep (by repeat (first|exact Below.refl _ _|refine Below.setCell ?_ (by simp;try omega) _|refine Below.alloc ?_ (by simp;try omega) _|refine Below.drew ?_)) hb;clear hb HC)
          | (go_at_call 52;refine (HP.out _).mono ?_;rintro e w2 ⟨rfl,hb⟩;have zd:=kp2 (n:=W.heap.size) hb;(try clear zB z0 z1 zf zL zN);obtain ⟨zB,z0,z1,zf,zL,zN⟩:=zd;have B2:Hid (Below W.heap.size W w2):=bstep B1.out hb;clear hb HP)
          | (go_at_call 216;refine (HT.out _ (B2.out.alloc B2.out.size _)).mono ?_;rintro e w3 ⟨rfl,hb⟩;have zd:=kp2 (n:=W.heap.size) hb;(try clear zB z0 z1 zf zL zN);obtain ⟨zB,z0,z1,zf,zL,zN⟩:=zd;have B3:Hid (Below W.heap.size W w3):=bstep (B2.out.alloc B2.out.size _) hb;clear hb HT)
          | (go_at_call 181;refine (HS.out _).mono ?_;rintro e w9 ⟨rfl,hw9⟩;rw [hw9];clear hw9 w9))
        exact bodyPost_ret (v:=tyE ((0,⟨#[]⟩),sh)) (by simp [results,Tryz.results179,go_sem,tyE, *]) rfl ⟨rfl,(by repeat (first|exact B3.out|refine Below.setCell ?_ (by simp;try omega) _|refine Below.alloc ?_ (by have:=B3.out.size;simp;try omega) _|refine Below.drew ?_))⟩
    · rw [if_neg h1]
      go_enter Tryz.func179,Tryz.ntmps179
      go_wp2_with (first
        | (go_at_call 178;refine (HC.out _ (by repeat (first|exact Below.refl _ _|refine Below.setCell ?_ (by simp;try omega) _|refine Below.alloc ?_ (by simp;try omega) _|refine Below.drew ?_))).mono ?_;rintro e w1 ⟨rfl,hb⟩;have zd:=kp2 (n:=W.heap.size) hb;(try clear zB z0 z1 zf zL zN);obtain ⟨zB,z0,z1,zf,zL,zN⟩:=zd;have B1:Hid (Below W.heap.size W w1):=bstep (by repeat (first|exact Below.refl _ _|refine Below.setCell ?_ (by simp;try omega) _|refine Below.alloc ?_ (by simp;try omega) _|refine Below.drew ?_)) hb;clear hb HC)
        | (go_at_call 52;refine (HP.out _).mono ?_;rintro e w2 ⟨rfl,hb⟩;have zd:=kp2 (n:=W.heap.size) hb;(try clear zB z0 z1 zf zL zN);obtain ⟨zB,z0,z1,zf,zL,zN⟩:=zd;have B2:Hid (Below W.heap.size W w2):=bstep B1.out hb;clear hb HP))
      exact bodyPost_ret (v:=tyE ((0,⟨#[]⟩),4)) (by simp [results,Tryz.results179,go_sem,tyE, *]) rfl ⟨rfl,(by repeat (first|exact B2.out|refine Below.setCell ?_ (by simp;try omega) _|refine Below.alloc ?_ (by have:=B2.out.size;simp;try omega) _|refine Below.drew ?_))⟩
  · rw [if_neg h0]
    go_enter Tryz.func179,Tryz.ntmps179
    go_wp2_with (first
      | (go_at_call 178;refine (HC.out _ (by repeat (first|exact Below.refl _ _|refine Below.setCell ?_ (by simp;try omega) _|refine Below.alloc ?_ (by simp;try omega) _|refine Below.drew ?_))).mono ?_;rintro e w2 ⟨rfl,hb⟩;have zd:=kp2 (n:=W.heap.size) hb;(try clear zB z0 z1 zf zL zN);obtain ⟨zB,z0,z1,zf,zL,zN⟩:=zd;have B2:Hid (Below W.heap.size W w2):=bstep (by repeat (first|exact Below.refl _ _|refine Below.setCell ?_ (by simp;try omega) _|refine Below.alloc ?_ (by simp;try omega) _|refine Below.drew ?_)) hb;clear hb HC))
    exact bodyPost_ret (v:=tyE ((0,⟨#[]⟩),ck)) (by simp [results,Tryz.results179,go_sem,tyE, *]) rfl ⟨rfl,(by repeat (first|exact B2.out|refine Below.setCell ?_ (by simp;try omega) _|refine Below.alloc ?_ (by have:=B2.out.size;simp;try omega) _|refine Below.drew ?_))⟩
def hldR (ps:List Plc) (x:Int) (s:ByteArray):Int×Int:=if ldI ps x s=0 then (if intB x s then (0,2) else if 0<x then (0,0) else match lookL ps s.data.toList with
  | some k=>((k:Int),0)
  | none=>(0,6)) else (0,ldI ps x s)
set_option maxHeartbeats 1000000 in
theorem hld_c {b:Nat} {ps:List Plc} {W:World} (h:WAt b ps W) (x:Int) (s:ByteArray) (hs:s.size≤maxLen):Calls Tryz.prog 94 #[.pointer (some ⟨b,0,none⟩),.agg #[.int .i64 x,.string s]] W fun e w'=>e=.returned (.tuple #[.int .i64 (hldR ps x s).1,.int .i64 (hldR ps x s).2])∧Below W.heap.size W w':=by
  have HL:Hid (∀ w,Below W.heap.size W w→Calls Tryz.prog 146 #[.pointer (some ⟨b,0,none⟩),.agg #[.int .i64 x,.string s]] w fun e w'=>e=.returned (.int .i64 (ldI ps x s))∧Below w.heap.size w w'):=fun w hb=>loaded_c (h.below hb) x s hs
  have HI:Hid (∀ w:World,Calls Tryz.prog 147 #[.agg #[.int .i64 x,.string s]] w fun e w'=>e=.returned (.bool (intB x s))∧Below w.heap.size w w'):=isInt_c x s
  have HN:Hid (∀ w:World,Below W.heap.size W w→Calls Tryz.prog 148 #[.pointer (some ⟨b,0,none⟩),.string s] w fun e w'=>e=.returned (bnV (lookL ps s.data.toList))∧Below w.heap.size w w'):=fun w hb=>byName_c (h.below hb) s hs
  unfold hldR
  generalize ldI ps x s=ld at *
  generalize intB x s=iB at *
  generalize lookL ps s.data.toList=lk at *
  clear h hs
  by_cases h0:ld=0
  · subst h0
    rw [if_pos rfl]
    cases iB with
    | true =>
      rw [if_pos rfl]
      go_enter Tryz.func94,Tryz.ntmps94
      go_wp2_with (first
        | (go_at_call 146;refine (HL.out _ (by repeat (first|exact Below.refl _ _|refine Below.setCell ?_ (by simp;try omega) _|refine Below.alloc ?_ (by simp;try omega) _|refine Below.drew ?_))).mono ?_;rintro e w1 ⟨rfl,hb⟩;have gd:=kp2 (n:=W.heap.size) hb;(try clear gB g0 g1 gf gL gN);obtain ⟨gB,g0,g1,gf,gL,gN⟩:=gd;have B1:Hid (Below W.heap.size W w1):=bstep (by repeat (first|exact Below.refl _ _|refine Below.setCell ?_ (by simp;try omega) _|refine Below.alloc ?_ (by simp;try omega) _|refine Below.drew ?_)) hb;clear hb HL)
        | (go_at_call 147;refine (HI.out _).mono ?_;rintro e w2 ⟨rfl,hb⟩;have B2:Hid (Below W.heap.size W w2):=bstep B1.out hb;clear hb HI))
      exact bodyPost_ret (results_tmp2 rfl _ _ _) rfl ⟨rfl,B2.out⟩
    | false =>
      rw [if_neg (by simp)]
      by_cases hx:0<x
      · rw [if_pos hx]
        go_enter Tryz.func94,Tryz.ntmps94
        go_wp2_with (first
          | (go_at_call 146;refine (HL.out _ (by repeat (first|exact Below.refl _ _|refine Below.setCell ?_ (by simp;try omega) _|refine Below.alloc ?_ (by simp;try omega) _|refine Below.drew ?_))).mono ?_;rintro e w1 ⟨rfl,hb⟩;have gd:=kp2 (n:=W.heap.size) hb;(try clear gB g0 g1 gf gL gN);obtain ⟨gB,g0,g1,gf,gL,gN⟩:=gd;have B1:Hid (Below W.heap.size W w1):=bstep (by repeat (first|exact Below.refl _ _|refine Below.setCell ?_ (by simp;try omega) _|refine Below.alloc ?_ (by simp;try omega) _|refine Below.drew ?_)) hb;clear hb HL)
          | (go_at_call 147;refine (HI.out _).mono ?_;rintro e w2 ⟨rfl,hb⟩;have gd:=kp2 (n:=W.heap.size) hb;(try clear gB g0 g1 gf gL gN);obtain ⟨gB,g0,g1,gf,gL,gN⟩:=gd;have B2:Hid (Below W.heap.size W w2):=bstep B1.out hb;clear hb HI))
        exact bodyPost_ret (results_tmp2 rfl _ _ _) rfl ⟨rfl,B2.out⟩
      · rw [if_neg hx]
        cases lk with
        | none =>
          simp only [bnV] at HN
          go_enter Tryz.func94,Tryz.ntmps94
          go_wp2_with (first
            | (go_at_call 146;refine (HL.out _ (by repeat (first|exact Below.refl _ _|refine Below.setCell ?_ (by simp;try omega) _|refine Below.alloc ?_ (by simp;try omega) _|refine Below.drew ?_))).mono ?_;rintro e w1 ⟨rfl,hb⟩;have gd:=kp2 (n:=W.heap.size) hb;(try clear gB g0 g1 gf gL gN);obtain ⟨gB,g0,g1,gf,gL,gN⟩:=gd;have B1:Hid (Below W.heap.size W w1):=bstep (by repeat (first|exact Below.refl _ _|refine Below.setCell ?_ (by simp;try omega) _|refine Below.alloc ?_ (by simp;try omega) _|refine Below.drew ?_)) hb;clear hb HL)
            | (go_at_call 147;refine (HI.out _).mono ?_;rintro e w2 ⟨rfl,hb⟩;have gd:=kp2 (n:=W.heap.size) hb;(try clear gB g0 g1 gf gL gN);obtain ⟨gB,g0,g1,gf,gL,gN⟩:=gd;have B2:Hid (Below W.heap.size W w2):=bstep B1.out hb;clear hb HI)
            | (go_at_call 148;refine (HN.out _ B2.out).mono ?_;rintro e w3 ⟨rfl,hb⟩;have B3:Hid (Below W.heap.size W w3):=bstep B2.out hb;clear hb HN))
          exact bodyPost_ret (results_tmp2 rfl _ _ _) rfl ⟨rfl,B3.out⟩
        | some k =>
          simp only [bnV] at HN
          go_enter Tryz.func94,Tryz.ntmps94
          go_wp2_with (first
            | (go_at_call 146;refine (HL.out _ (by repeat (first|exact Below.refl _ _|refine Below.setCell ?_ (by simp;try omega) _|refine Below.alloc ?_ (by simp;try omega) _|refine Below.drew ?_))).mono ?_;rintro e w1 ⟨rfl,hb⟩;have gd:=kp2 (n:=W.heap.size) hb;(try clear gB g0 g1 gf gL gN);obtain ⟨gB,g0,g1,gf,gL,gN⟩:=gd;have B1:Hid (Below W.heap.size W w1):=bstep (by repeat (first|exact Below.refl _ _|refine Below.setCell ?_ (by simp;try omega) _|refine Below.alloc ?_ (by simp;try omega) _|refine Below.drew ?_)) hb;clear hb HL)
            | (go_at_call 147;refine (HI.out _).mono ?_;rintro e w2 ⟨rfl,hb⟩;have gd:=kp2 (n:=W.heap.size) hb;(try clear gB g0 g1 gf gL gN);obtain ⟨gB,g0,g1,gf,gL,gN⟩:=gd;have B2:Hid (Below W.heap.size W w2):=bstep B1.out hb;clear hb HI)
            | (go_at_call 148;refine (HN.out _ B2.out).mono ?_;rintro e w3 ⟨rfl,hb⟩;have B3:Hid (Below W.heap.size W w3):=bstep B2.out hb;clear hb HN))
          exact bodyPost_ret (results_tmp2 rfl _ _ _) rfl ⟨rfl,B3.out⟩
  · rw [if_neg h0]
    go_enter Tryz.func94,Tryz.ntmps94
    go_wp2_with (first
      | (go_at_call 146;refine (HL.out _ (by repeat (first|exact Below.refl _ _|refine Below.setCell ?_ (by simp;try omega) _|refine Below.alloc ?_ (by simp;try omega) _|refine Below.drew ?_))).mono ?_;rintro e w1 ⟨rfl,hb⟩;have gd:=kp2 (n:=W.heap.size) hb;(try clear gB g0 g1 gf gL gN);obtain ⟨gB,g0,g1,gf,gL,gN⟩:=gd;have B1:Hid (Below W.heap.size W w1):=bstep (by repeat (first|exact Below.refl _ _|refine Below.setCell ?_ (by simp;try omega) _|refine Below.alloc ?_ (by simp;try omega) _|refine Below.drew ?_)) hb;clear hb HL))
    exact bodyPost_ret (results_tmp2 rfl _ _ _) rfl ⟨rfl,B1.out⟩
def moP (ps:List Plc) (d c i n:Int):Bool×Int:=match plcI ps d,plcI ps n,plcI ps c,methI ps c i with
  | some p,some _,some q,some m=>(mOpen ps d c n m.fl (samePk q p),0)
  | _,_,_,_=>(false,3)
theorem moI_eq (ps:List Plc) (d c i n:Int):moI ps d c i n=.tuple #[.bool (moP ps d c i n).1,.int .i64 (moP ps d c i n).2]:=by
  unfold moI moP
  cases plcI ps d <;> cases plcI ps n <;> cases plcI ps c <;> cases methI ps c i <;> rfl
def metS (ps:List Plc) (d:Int) (y:Bool) (c n ds:ByteArray):(Int×Int)×Int :=
  if (clsR ps d c.data.toList).2=0 then
    (if (hldR ps (clsR ps d c.data.toList).1.1 (clsR ps d c.data.toList).1.2).2=0 then
      (if (lbyR ps y n ds (hldR ps (clsR ps d c.data.toList).1.1 (clsR ps d c.data.toList).1.2).1).2=0 then
        (if shuI (moP ps d (lbyR ps y n ds (hldR ps (clsR ps d c.data.toList).1.1 (clsR ps d c.data.toList).1.2).1).1.1 (lbyR ps y n ds (hldR ps (clsR ps d c.data.toList).1.1 (clsR ps d c.data.toList).1.2).1).1.2 (hldR ps (clsR ps d c.data.toList).1.1 (clsR ps d c.data.toList).1.2).1).1 (moP ps d (lbyR ps y n ds (hldR ps (clsR ps d c.data.toList).1.1 (clsR ps d c.data.toList).1.2).1).1.1 (lbyR ps y n ds (hldR ps (clsR ps d c.data.toList).1.1 (clsR ps d c.data.toList).1.2).1).1.2 (hldR ps (clsR ps d c.data.toList).1.1 (clsR ps d c.data.toList).1.2).1).2=0 then ((lbyR ps y n ds (hldR ps (clsR ps d c.data.toList).1.1 (clsR ps d c.data.toList).1.2).1).1,0)
          else ((0,0),shuI (moP ps d (lbyR ps y n ds (hldR ps (clsR ps d c.data.toList).1.1 (clsR ps d c.data.toList).1.2).1).1.1 (lbyR ps y n ds (hldR ps (clsR ps d c.data.toList).1.1 (clsR ps d c.data.toList).1.2).1).1.2 (hldR ps (clsR ps d c.data.toList).1.1 (clsR ps d c.data.toList).1.2).1).1 (moP ps d (lbyR ps y n ds (hldR ps (clsR ps d c.data.toList).1.1 (clsR ps d c.data.toList).1.2).1).1.1 (lbyR ps y n ds (hldR ps (clsR ps d c.data.toList).1.1 (clsR ps d c.data.toList).1.2).1).1.2 (hldR ps (clsR ps d c.data.toList).1.1 (clsR ps d c.data.toList).1.2).1).2))
        else ((0,0),(lbyR ps y n ds (hldR ps (clsR ps d c.data.toList).1.1 (clsR ps d c.data.toList).1.2).1).2))
      else ((0,0),(hldR ps (clsR ps d c.data.toList).1.1 (clsR ps d c.data.toList).1.2).2))
    else ((0,0),(clsR ps d c.data.toList).2)
def metR (ps:List Plc) (d:Int) (y:Bool) (c n ds:ByteArray):(Int×Int)×Int :=
  if rckI ps d=0 then (if rckE c.data.toList n.data.toList ds.data.toList=0 then metS ps d y c n ds else ((0,0),1)) else ((0,0),rckI ps d)
theorem cls_size (ps:List Plc) (d:Int) (l:List UInt8):(clsR ps d l).1.2.size≤maxLen:=by
  unfold clsR
  split
  · split
    · rename_i h0
      split
      · have hl:=(prf_len2 _ h0).1
        have:(tyS l).size=(prfT l).2.length:=by simp [tyS,ByteArray.size]
        show (tyS l).size≤_
        rw [this];unfold maxLen;omega
      · exact Nat.zero_le _
    · exact Nat.zero_le _
  · exact Nat.zero_le _
set_option maxHeartbeats 4000000 in
theorem met_c {b:Nat} {ps:List Plc} {W:World} (h:WAt b ps W) (hi:WI ps) (d:Int) (y:Bool) (c n ds:ByteArray) (hc:c.size≤maxLen) (hn:n.size≤maxLen) (hd:ds.size≤maxLen):Calls Tryz.prog 141 #[.pointer (some ⟨b,0,none⟩),.int .i64 d,.agg #[.bool y,.string c,.string n,.string ds]] W fun e w'=>e=.returned (idE (metR ps d y c n ds))∧Below W.heap.size W w':=by
  have HC:Hid (∀ w,Below W.heap.size W w→Calls Tryz.prog 178 #[.pointer (some ⟨b,0,none⟩),.int .i64 d] w fun e w'=>e=.returned (.int .i64 (rckI ps d))∧Below w.heap.size w w'):=fun w hb=>(rck_c (h.below hb) d).mono fun e w' zz=>⟨zz.1,by rw [zz.2];exact Below.refl _ _⟩
  have HR:Hid (∀ w:World,Calls Tryz.prog 31 #[.agg #[.bool y,.string c,.string n,.string ds]] w fun e w'=>e=.returned (.int .i64 (rckE c.data.toList n.data.toList ds.data.toList))∧Below w.heap.size w w'):=refCheck_any y c n ds hc hn hd
  have HK:Hid (∀ w,Below W.heap.size W w→Calls Tryz.prog 179 #[.pointer (some ⟨b,0,none⟩),.int .i64 d,.string c] w fun e w'=>e=.returned (tyE (clsR ps d c.data.toList))∧Below w.heap.size w w'):=fun w hb=>cls_c (h.below hb) hi d c hc
  have hsz:=cls_size ps d c.data.toList
  have HS:Hid (∀ o x (w:World),Calls Tryz.prog 181 #[.bool o,.int .i64 x] w fun e w'=>e=.returned (.int .i64 (shuI o x))∧w'=w):=shut_c
  unfold metR metS
  generalize clsR ps d c.data.toList=K at *
  obtain ⟨⟨t1,t2⟩,t3⟩:=K
  simp only [tyE] at HK hsz ⊢
  have HH:Hid (∀ w,Below W.heap.size W w→Calls Tryz.prog 94 #[.pointer (some ⟨b,0,none⟩),.agg #[.int .i64 t1,.string t2]] w fun e w'=>e=.returned (.tuple #[.int .i64 (hldR ps t1 t2).1,.int .i64 (hldR ps t1 t2).2])∧Below w.heap.size w w'):=fun w hb=>hld_c (h.below hb) t1 t2 hsz
  generalize hldR ps t1 t2=H at *
  obtain ⟨h1,h2⟩:=H
  simp only at HH ⊢
  have HB:Hid (∀ w,Below W.heap.size W w→Calls Tryz.prog 180 #[.pointer (some ⟨b,0,none⟩),.int .i64 h1,.agg #[.bool y,.string c,.string n,.string ds]] w fun e w'=>e=.returned (idE (lbyR ps y n ds h1))∧Below w.heap.size w w'):=fun w hb=>lby_c (h.below hb) hi h1 y c n ds
  generalize lbyR ps y n ds h1=M at *
  obtain ⟨⟨m1,m2⟩,m3⟩:=M
  simp only [idE] at HB ⊢
  have HO:Hid (∀ w,Below W.heap.size W w→Calls Tryz.prog 182 #[.pointer (some ⟨b,0,none⟩),.int .i64 d,.agg #[.int .i64 m1,.int .i64 m2],.int .i64 h1] w fun e w'=>e=.returned (.tuple #[.bool (moP ps d m1 m2 h1).1,.int .i64 (moP ps d m1 m2 h1).2])∧Below w.heap.size w w'):=fun w hb=>(methodOpen_c (h.below hb) hi d m1 m2 h1).mono fun e w' zz=>⟨by rw [zz.1,moI_eq],zz.2⟩
  generalize moP ps d m1 m2 h1=O at *
  obtain ⟨o1,o2⟩:=O
  simp only at HO ⊢
  replace HS:Hid (∀ (w:World),Calls Tryz.prog 181 #[.bool o1,.int .i64 o2] w fun e w'=>e=.returned (.int .i64 (shuI o1 o2))∧w'=w):=HS.out o1 o2
  generalize shuI o1 o2=sh at *
  generalize rckI ps d=ck at *
  generalize rckE c.data.toList n.data.toList ds.data.toList=rc at *
  clear h hi hc hn hd hsz
  by_cases h0:ck=0
  · subst h0
    rw [if_pos rfl]
    by_cases h3:rc=0
    · subst h3
      rw [if_pos rfl]
      by_cases h4:t3=0
      · subst h4
        rw [if_pos rfl]
        by_cases h5:h2=0
        · subst h5
          rw [if_pos rfl]
          by_cases h6:m3=0
          · subst h6
            rw [if_pos rfl]
            by_cases h7:sh=0
            · subst h7
              rw [if_pos rfl]
              go_enter Tryz.func141,Tryz.ntmps141
              go_wp2_with (first
                | (go_at_call 178;refine (HC.out _ (by repeat (first|exact Below.refl _ _|refine Below.setCell ?_ (by simp;try omega) _|refine Below.alloc ?_ (by simp;try omega) _|refine Below.drew ?_))).mono ?_;rintro e w1 ⟨rfl,hb⟩;have rd:=kp4 (n:=W.heap.size) hb;(try clear rB r0 r1 r2 r3 rf rL rN);obtain ⟨rB,r0,r1,r2,r3,rf,rL,rN⟩:=rd;have zd:=kp2 (n:=W.heap.size+1) hb;(try clear zB z0 z1 zf zL zN);obtain ⟨zB,z0,z1,zf,zL,zN⟩:=zd;have B1:Hid (Below W.heap.size W w1):=bstep (by repeat (first|exact Below.refl _ _|refine Below.setCell ?_ (by simp;try omega) _|refine Below.alloc ?_ (by simp;try omega) _|refine Below.drew ?_)) hb;clear hb HC)
                | (go_at_call 31;refine (HR.out _).mono ?_;rintro e w2 ⟨rfl,hb⟩;have rd:=kp4 (n:=W.heap.size) hb;(try clear rB r0 r1 r2 r3 rf rL rN);obtain ⟨rB,r0,r1,r2,r3,rf,rL,rN⟩:=rd;have zd:=kp2 (n:=W.heap.size+1) hb;(try clear zB z0 z1 zf zL zN);obtain ⟨zB,z0,z1,zf,zL,zN⟩:=zd;have B2:Hid (Below W.heap.size W w2):=bstep B1.out hb;clear hb HR)
                | (go_at_call 179;refine (HK.out _ B2.out).mono ?_;rintro e w3 ⟨rfl,hb⟩;have rd:=kp4 (n:=W.heap.size) hb;(try clear rB r0 r1 r2 r3 rf rL rN);obtain ⟨rB,r0,r1,r2,r3,rf,rL,rN⟩:=rd;have zd:=kp2 (n:=W.heap.size+1) hb;(try clear zB z0 z1 zf zL zN);obtain ⟨zB,z0,z1,zf,zL,zN⟩:=zd;have B3:Hid (Below W.heap.size W w3):=bstep B2.out hb;clear hb HK)
                | (go_at_call 94;refine (HH.out _ (B3.out.alloc B3.out.size _)).mono ?_;rintro e w4 ⟨rfl,hb⟩;have rd:=kp4 (n:=W.heap.size) hb;(try clear rB r0 r1 r2 r3 rf rL rN);obtain ⟨rB,r0,r1,r2,r3,rf,rL,rN⟩:=rd;have zd:=kp2 (n:=W.heap.size+1) hb;(try clear zB z0 z1 zf zL zN);obtain ⟨zB,z0,z1,zf,zL,zN⟩:=zd;have B4:Hid (Below W.heap.size W w4):=bstep (B3.out.alloc B3.out.size _) hb;clear hb HH)
                | (go_at_call 180;refine (HB.out _ B4.out).mono ?_;rintro e w5 ⟨rfl,hb⟩;have zd:=kp2 (n:=W.heap.size+1) hb;(try clear zB z0 z1 zf zL zN);obtain ⟨zB,z0,z1,zf,zL,zN⟩:=zd;have B5:Hid (Below W.heap.size W w5):=bstep B4.out hb;clear hb HB)
                | (go_at_call 182;refine (HO.out _ (B5.out.alloc B5.out.size _)).mono ?_;rintro e w6 ⟨rfl,hb⟩;have hn6:¬ w5.heap.size=W.heap.size+1:=(by omega);have hm6:¬ W.heap.size+1=w5.heap.size:=(by omega);have zd:=kp2 (n:=W.heap.size+1) hb;(try clear zB z0 z1 zf zL zN);obtain ⟨zB,z0,z1,zf,zL,zN⟩:=zd;have gd:=kp2 (n:=w5.heap.size) hb;(try clear gB g0 g1 gf gL gN);obtain ⟨gB,g0,g1,gf,gL,gN⟩:=gd;have B6:Hid (Below W.heap.size W w6):=bstep (B5.out.alloc B5.out.size _) hb;clear hb HO)
                | (go_at_call 181;refine (HS.out _).mono ?_;rintro e w9 ⟨rfl,hw9⟩;rw [hw9];clear hw9 w9))
              exact bodyPost_ret (v:=idE ((m1,m2),0)) (by simp [results,Tryz.results141,go_sem,idE, *]) rfl ⟨rfl,(by repeat (first|exact B6.out|refine Below.setCell ?_ (by simp;try omega) _|refine Below.alloc ?_ (by have:=B6.out.size;simp;try omega) _|refine Below.drew ?_))⟩
            · rw [if_neg h7]
              go_enter Tryz.func141,Tryz.ntmps141
              go_wp2_with (first
                | (go_at_call 178;refine (HC.out _ (by repeat (first|exact Below.refl _ _|refine Below.setCell ?_ (by simp;try omega) _|refine Below.alloc ?_ (by simp;try omega) _|refine Below.drew ?_))).mono ?_;rintro e w1 ⟨rfl,hb⟩;have rd:=kp4 (n:=W.heap.size) hb;(try clear rB r0 r1 r2 r3 rf rL rN);obtain ⟨rB,r0,r1,r2,r3,rf,rL,rN⟩:=rd;have zd:=kp2 (n:=W.heap.size+1) hb;(try clear zB z0 z1 zf zL zN);obtain ⟨zB,z0,z1,zf,zL,zN⟩:=zd;have B1:Hid (Below W.heap.size W w1):=bstep (by repeat (first|exact Below.refl _ _|refine Below.setCell ?_ (by simp;try omega) _|refine Below.alloc ?_ (by simp;try omega) _|refine Below.drew ?_)) hb;clear hb HC)
                | (go_at_call 31;refine (HR.out _).mono ?_;rintro e w2 ⟨rfl,hb⟩;have rd:=kp4 (n:=W.heap.size) hb;(try clear rB r0 r1 r2 r3 rf rL rN);obtain ⟨rB,r0,r1,r2,r3,rf,rL,rN⟩:=rd;have zd:=kp2 (n:=W.heap.size+1) hb;(try clear zB z0 z1 zf zL zN);obtain ⟨zB,z0,z1,zf,zL,zN⟩:=zd;have B2:Hid (Below W.heap.size W w2):=bstep B1.out hb;clear hb HR)
                | (go_at_call 179;refine (HK.out _ B2.out).mono ?_;rintro e w3 ⟨rfl,hb⟩;have rd:=kp4 (n:=W.heap.size) hb;(try clear rB r0 r1 r2 r3 rf rL rN);obtain ⟨rB,r0,r1,r2,r3,rf,rL,rN⟩:=rd;have zd:=kp2 (n:=W.heap.size+1) hb;(try clear zB z0 z1 zf zL zN);obtain ⟨zB,z0,z1,zf,zL,zN⟩:=zd;have B3:Hid (Below W.heap.size W w3):=bstep B2.out hb;clear hb HK)
                | (go_at_call 94;refine (HH.out _ (B3.out.alloc B3.out.size _)).mono ?_;rintro e w4 ⟨rfl,hb⟩;have rd:=kp4 (n:=W.heap.size) hb;(try clear rB r0 r1 r2 r3 rf rL rN);obtain ⟨rB,r0,r1,r2,r3,rf,rL,rN⟩:=rd;have zd:=kp2 (n:=W.heap.size+1) hb;(try clear zB z0 z1 zf zL zN);obtain ⟨zB,z0,z1,zf,zL,zN⟩:=zd;have B4:Hid (Below W.heap.size W w4):=bstep (B3.out.alloc B3.out.size _) hb;clear hb HH)
                | (go_at_call 180;refine (HB.out _ B4.out).mono ?_;rintro e w5 ⟨rfl,hb⟩;have zd:=kp2 (n:=W.heap.size+1) hb;(try clear zB z0 z1 zf zL zN);obtain ⟨zB,z0,z1,zf,zL,zN⟩:=zd;have B5:Hid (Below W.heap.size W w5):=bstep B4.out hb;clear hb HB)
                | (go_at_call 182;refine (HO.out _ (B5.out.alloc B5.out.size _)).mono ?_;rintro e w6 ⟨rfl,hb⟩;have hn6:¬ w5.heap.size=W.heap.size+1:=(by omega);have hm6:¬ W.heap.size+1=w5.heap.size:=(by omega);have zd:=kp2 (n:=W.heap.size+1) hb;(try clear zB z0 z1 zf zL zN);obtain ⟨zB,z0,z1,zf,zL,zN⟩:=zd;have gd:=kp2 (n:=w5.heap.size) hb;(try clear gB g0 g1 gf gL gN);obtain ⟨gB,g0,g1,gf,gL,gN⟩:=gd;have B6:Hid (Below W.heap.size W w6):=bstep (B5.out.alloc B5.out.size _) hb;clear hb HO)
                | (go_at_call 181;refine (HS.out _).mono ?_;rintro e w9 ⟨rfl,hw9⟩;rw [hw9];clear hw9 w9))
              exact bodyPost_ret (v:=idE ((0,0),sh)) (by simp [results,Tryz.results141,go_sem,idE, *]) rfl ⟨rfl,(by repeat (first|exact B6.out|refine Below.setCell ?_ (by simp;try omega) _|refine Below.alloc ?_ (by have:=B6.out.size;simp;try omega) _|refine Below.drew ?_))⟩
          · rw [if_neg h6]
            go_enter Tryz.func141,Tryz.ntmps141
            go_wp2_with (first
              | (go_at_call 178;refine (HC.out _ (by repeat (first|exact Below.refl _ _|refine Below.setCell ?_ (by simp;try omega) _|refine Below.alloc ?_ (by simp;try omega) _|refine Below.drew ?_))).mono ?_;rintro e w1 ⟨rfl,hb⟩;have rd:=kp4 (n:=W.heap.size) hb;(try clear rB r0 r1 r2 r3 rf rL rN);obtain ⟨rB,r0,r1,r2,r3,rf,rL,rN⟩:=rd;have zd:=kp2 (n:=W.heap.size+1) hb;(try clear zB z0 z1 zf zL zN);obtain ⟨zB,z0,z1,zf,zL,zN⟩:=zd;have B1:Hid (Below W.heap.size W w1):=bstep (by repeat (first|exact Below.refl _ _|refine Below.setCell ?_ (by simp;try omega) _|refine Below.alloc ?_ (by simp;try omega) _|refine Below.drew ?_)) hb;clear hb HC)
              | (go_at_call 31;refine (HR.out _).mono ?_;rintro e w2 ⟨rfl,hb⟩;have rd:=kp4 (n:=W.heap.size) hb;(try clear rB r0 r1 r2 r3 rf rL rN);obtain ⟨rB,r0,r1,r2,r3,rf,rL,rN⟩:=rd;have zd:=kp2 (n:=W.heap.size+1) hb;(try clear zB z0 z1 zf zL zN);obtain ⟨zB,z0,z1,zf,zL,zN⟩:=zd;have B2:Hid (Below W.heap.size W w2):=bstep B1.out hb;clear hb HR)
              | (go_at_call 179;refine (HK.out _ B2.out).mono ?_;rintro e w3 ⟨rfl,hb⟩;have rd:=kp4 (n:=W.heap.size) hb;(try clear rB r0 r1 r2 r3 rf rL rN);obtain ⟨rB,r0,r1,r2,r3,rf,rL,rN⟩:=rd;have zd:=kp2 (n:=W.heap.size+1) hb;(try clear zB z0 z1 zf zL zN);obtain ⟨zB,z0,z1,zf,zL,zN⟩:=zd;have B3:Hid (Below W.heap.size W w3):=bstep B2.out hb;clear hb HK)
              | (go_at_call 94;refine (HH.out _ (B3.out.alloc B3.out.size _)).mono ?_;rintro e w4 ⟨rfl,hb⟩;have rd:=kp4 (n:=W.heap.size) hb;(try clear rB r0 r1 r2 r3 rf rL rN);obtain ⟨rB,r0,r1,r2,r3,rf,rL,rN⟩:=rd;have zd:=kp2 (n:=W.heap.size+1) hb;(try clear zB z0 z1 zf zL zN);obtain ⟨zB,z0,z1,zf,zL,zN⟩:=zd;have B4:Hid (Below W.heap.size W w4):=bstep (B3.out.alloc B3.out.size _) hb;clear hb HH)
              | (go_at_call 180;refine (HB.out _ B4.out).mono ?_;rintro e w5 ⟨rfl,hb⟩;have zd:=kp2 (n:=W.heap.size+1) hb;(try clear zB z0 z1 zf zL zN);obtain ⟨zB,z0,z1,zf,zL,zN⟩:=zd;have B5:Hid (Below W.heap.size W w5):=bstep B4.out hb;clear hb HB))
            exact bodyPost_ret (v:=idE ((0,0),m3)) (by simp [results,Tryz.results141,go_sem,idE, *]) rfl ⟨rfl,(by repeat (first|exact B5.out|refine Below.setCell ?_ (by simp;try omega) _|refine Below.alloc ?_ (by have:=B5.out.size;simp;try omega) _|refine Below.drew ?_))⟩
        · rw [if_neg h5]
          go_enter Tryz.func141,Tryz.ntmps141
          go_wp2_with (first
            | (go_at_call 178;refine (HC.out _ (by repeat (first|exact Below.refl _ _|refine Below.setCell ?_ (by simp;try omega) _|refine Below.alloc ?_ (by simp;try omega) _|refine Below.drew ?_))).mono ?_;rintro e w1 ⟨rfl,hb⟩;have rd:=kp4 (n:=W.heap.size) hb;(try clear rB r0 r1 r2 r3 rf rL rN);obtain ⟨rB,r0,r1,r2,r3,rf,rL,rN⟩:=rd;have zd:=kp2 (n:=W.heap.size+1) hb;(try clear zB z0 z1 zf zL zN);obtain ⟨zB,z0,z1,zf,zL,zN⟩:=zd;have B1:Hid (Below W.heap.size W w1):=bstep (by repeat (first|exact Below.refl _ _|refine Below.setCell ?_ (by simp;try omega) _|refine Below.alloc ?_ (by simp;try omega) _|refine Below.drew ?_)) hb;clear hb HC)
            | (go_at_call 31;refine (HR.out _).mono ?_;rintro e w2 ⟨rfl,hb⟩;have rd:=kp4 (n:=W.heap.size) hb;(try clear rB r0 r1 r2 r3 rf rL rN);obtain ⟨rB,r0,r1,r2,r3,rf,rL,rN⟩:=rd;have zd:=kp2 (n:=W.heap.size+1) hb;(try clear zB z0 z1 zf zL zN);obtain ⟨zB,z0,z1,zf,zL,zN⟩:=zd;have B2:Hid (Below W.heap.size W w2):=bstep B1.out hb;clear hb HR)
            | (go_at_call 179;refine (HK.out _ B2.out).mono ?_;rintro e w3 ⟨rfl,hb⟩;have rd:=kp4 (n:=W.heap.size) hb;(try clear rB r0 r1 r2 r3 rf rL rN);obtain ⟨rB,r0,r1,r2,r3,rf,rL,rN⟩:=rd;have zd:=kp2 (n:=W.heap.size+1) hb;(try clear zB z0 z1 zf zL zN);obtain ⟨zB,z0,z1,zf,zL,zN⟩:=zd;have B3:Hid (Below W.heap.size W w3):=bstep B2.out hb;clear hb HK)
            | (go_at_call 94;refine (HH.out _ (B3.out.alloc B3.out.size _)).mono ?_;rintro e w4 ⟨rfl,hb⟩;have rd:=kp4 (n:=W.heap.size) hb;(try clear rB r0 r1 r2 r3 rf rL rN);obtain ⟨rB,r0,r1,r2,r3,rf,rL,rN⟩:=rd;have zd:=kp2 (n:=W.heap.size+1) hb;(try clear zB z0 z1 zf zL zN);obtain ⟨zB,z0,z1,zf,zL,zN⟩:=zd;have B4:Hid (Below W.heap.size W w4):=bstep (B3.out.alloc B3.out.size _) hb;clear hb HH))
          exact bodyPost_ret (v:=idE ((0,0),h2)) (by simp [results,Tryz.results141,go_sem,idE, *]) rfl ⟨rfl,(by repeat (first|exact B4.out|refine Below.setCell ?_ (by simp;try omega) _|refine Below.alloc ?_ (by have:=B4.out.size;simp;try omega) _|refine Below.drew ?_))⟩
      · rw [if_neg h4]
        go_enter Tryz.func141,Tryz.ntmps141
        go_wp2_with (first
          | (go_at_call 178;refine (HC.out _ (by repeat (first|exact Below.refl _ _|refine Below.setCell ?_ (by simp;try omega) _|refine Below.alloc ?_ (by simp;try omega) _|refine Below.drew ?_))).mono ?_;rintro e w1 ⟨rfl,hb⟩;have rd:=kp4 (n:=W.heap.size) hb;(try clear rB r0 r1 r2 r3 rf rL rN);obtain ⟨rB,r0,r1,r2,r3,rf,rL,rN⟩:=rd;have zd:=kp2 (n:=W.heap.size+1) hb;(try clear zB z0 z1 zf zL zN);obtain ⟨zB,z0,z1,zf,zL,zN⟩:=zd;have B1:Hid (Below W.heap.size W w1):=bstep (by repeat (first|exact Below.refl _ _|refine Below.setCell ?_ (by simp;try omega) _|refine Below.alloc ?_ (by simp;try omega) _|refine Below.drew ?_)) hb;clear hb HC)
          | (go_at_call 31;refine (HR.out _).mono ?_;rintro e w2 ⟨rfl,hb⟩;have rd:=kp4 (n:=W.heap.size) hb;(try clear rB r0 r1 r2 r3 rf rL rN);obtain ⟨rB,r0,r1,r2,r3,rf,rL,rN⟩:=rd;have zd:=kp2 (n:=W.heap.size+1) hb;(try clear zB z0 z1 zf zL zN);obtain ⟨zB,z0,z1,zf,zL,zN⟩:=zd;have B2:Hid (Below W.heap.size W w2):=bstep B1.out hb;clear hb HR)
          | (go_at_call 179;refine (HK.out _ B2.out).mono ?_;rintro e w3 ⟨rfl,hb⟩;have rd:=kp4 (n:=W.heap.size) hb;(try clear rB r0 r1 r2 r3 rf rL rN);obtain ⟨rB,r0,r1,r2,r3,rf,rL,rN⟩:=rd;have zd:=kp2 (n:=W.heap.size+1) hb;(try clear zB z0 z1 zf zL zN);obtain ⟨zB,z0,z1,zf,zL,zN⟩:=zd;have B3:Hid (Below W.heap.size W w3):=bstep B2.out hb;clear hb HK))
        exact bodyPost_ret (v:=idE ((0,0),t3)) (by simp [results,Tryz.results141,go_sem,idE, *]) rfl ⟨rfl,(by repeat (first|exact B3.out|refine Below.setCell ?_ (by simp;try omega) _|refine Below.alloc ?_ (by have:=B3.out.size;simp;try omega) _|refine Below.drew ?_))⟩
    · rw [if_neg h3]
      go_enter Tryz.func141,Tryz.ntmps141
      go_wp2_with (first
        | (go_at_call 178;refine (HC.out _ (by repeat (first|exact Below.refl _ _|refine Below.setCell ?_ (by simp;try omega) _|refine Below.alloc ?_ (by simp;try omega) _|refine Below.drew ?_))).mono ?_;rintro e w1 ⟨rfl,hb⟩;have rd:=kp4 (n:=W.heap.size) hb;(try clear rB r0 r1 r2 r3 rf rL rN);obtain ⟨rB,r0,r1,r2,r3,rf,rL,rN⟩:=rd;have zd:=kp2 (n:=W.heap.size+1) hb;(try clear zB z0 z1 zf zL zN);obtain ⟨zB,z0,z1,zf,zL,zN⟩:=zd;have B1:Hid (Below W.heap.size W w1):=bstep (by repeat (first|exact Below.refl _ _|refine Below.setCell ?_ (by simp;try omega) _|refine Below.alloc ?_ (by simp;try omega) _|refine Below.drew ?_)) hb;clear hb HC)
        | (go_at_call 31;refine (HR.out _).mono ?_;rintro e w2 ⟨rfl,hb⟩;have rd:=kp4 (n:=W.heap.size) hb;(try clear rB r0 r1 r2 r3 rf rL rN);obtain ⟨rB,r0,r1,r2,r3,rf,rL,rN⟩:=rd;have zd:=kp2 (n:=W.heap.size+1) hb;(try clear zB z0 z1 zf zL zN);obtain ⟨zB,z0,z1,zf,zL,zN⟩:=zd;have B2:Hid (Below W.heap.size W w2):=bstep B1.out hb;clear hb HR))
      exact bodyPost_ret (v:=idE ((0,0),1)) (by simp [results,Tryz.results141,go_sem,idE, *]) rfl ⟨rfl,(by repeat (first|exact B2.out|refine Below.setCell ?_ (by simp;try omega) _|refine Below.alloc ?_ (by have:=B2.out.size;simp;try omega) _|refine Below.drew ?_))⟩
  · rw [if_neg h0]
    go_enter Tryz.func141,Tryz.ntmps141
    go_wp2_with (first
      | (go_at_call 178;refine (HC.out _ (by repeat (first|exact Below.refl _ _|refine Below.setCell ?_ (by simp;try omega) _|refine Below.alloc ?_ (by simp;try omega) _|refine Below.drew ?_))).mono ?_;rintro e w1 ⟨rfl,hb⟩;have rd:=kp4 (n:=W.heap.size) hb;(try clear rB r0 r1 r2 r3 rf rL rN);obtain ⟨rB,r0,r1,r2,r3,rf,rL,rN⟩:=rd;have zd:=kp2 (n:=W.heap.size+1) hb;(try clear zB z0 z1 zf zL zN);obtain ⟨zB,z0,z1,zf,zL,zN⟩:=zd;have B1:Hid (Below W.heap.size W w1):=bstep (by repeat (first|exact Below.refl _ _|refine Below.setCell ?_ (by simp;try omega) _|refine Below.alloc ?_ (by simp;try omega) _|refine Below.drew ?_)) hb;clear hb HC))
    exact bodyPost_ret (v:=idE ((0,0),ck)) (by simp [results,Tryz.results141,go_sem,idE, *]) rfl ⟨rfl,(by repeat (first|exact B1.out|refine Below.setCell ?_ (by simp;try omega) _|refine Below.alloc ?_ (by have:=B1.out.size;simp;try omega) _|refine Below.drew ?_))⟩
def FndF (ps:List Plc) (nm ds:ByteArray) (m:Int×Int):Prop:=∃ x,methI ps m.1 m.2=some x∧x.nm.toList=nm.toList∧x.ds.toList=ds.toList
theorem fnd_facts {ps:List Plc} {c:Int} {nm ds:ByteArray} (h:(fndI ps c nm ds).2=0):FndF ps nm ds (c,(fndI ps c nm ds).1)∧∃ (k:Nat) (q:Plc),c=(k:Int)∧ps[k]?=some q:=by
  rcases plcI_cases ps c with ⟨h1,h2⟩|⟨k,q,rfl,h2,h1⟩
  · rw [fndI,h1] at h;exact absurd h (by show ¬ (3:Int)=0;decide)
  · have e:fndI ps k nm ds=if findH nm ds q.c.ms 0<0 then (0,6) else (findH nm ds q.c.ms 0,0):=by rw [fndI,h1]
    refine ⟨?_,k,q,rfl,h2⟩
    rw [e] at h ⊢
    rcases findH_range nm ds q.c.ms 0 with e2|⟨j,x,e2,hj,hn,hd⟩
    · rw [e2,if_pos (by decide)] at h;exact absurd h (by decide)
    · rw [e2,if_neg (by omega)]
      refine ⟨x,?_,hn,hd⟩
      rw [methI,h1]
      show methP q ((0+j:Nat):Int)=some x
      rw [methP,if_pos (Int.natCast_nonneg _)]
      simpa using hj
theorem own_facts2 {ps:List Plc} {c:Int} {nm ds:ByteArray} {m:Int×Int} (h:ownR ps nm ds c=(m,0)):m=(c,(fndI ps c nm ds).1)∧(fndI ps c nm ds).2=0:=by
  unfold ownR at h
  split at h
  · rename_i h0
    exact ⟨(congrArg Prod.fst h).symm,h0⟩
  · rename_i h0
    exact absurd (congrArg Prod.snd h) h0
theorem up_facts {ps:List Plc} {nm ds:ByteArray} {m:Int×Int}:∀ {l:List Nat},upR ps nm ds l=(m,0)→∃ i∈l,ownR ps nm ds (i:Int)=(m,0)
  | [],h=>by simp [upR] at h
  | i::r,h=>by
    rw [upR] at h
    split at h
    · rename_i h0
      refine ⟨i,by simp,?_⟩
      have e1:(ownR ps nm ds (i:Int)).1=m:=by have:=congrArg Prod.fst h;exact this
      exact Prod.ext e1 h0
    · obtain ⟨j,hj,e⟩:=up_facts h
      exact ⟨j,by simp [hj],e⟩
theorem fir_facts {m:Int×Int}:∀ {l:List ((Int×Int)×Int)},firR l=(m,0)→(m,0)∈l
  | [],h=>by simp [firR] at h
  | x::r,h=>by
    rw [firR] at h
    split at h
    · rename_i h0
      have e1:x.1=m:=by have:=congrArg Prod.fst h;exact this
      have:x=(m,0):=Prod.ext e1 h0
      simp [this]
    · exact List.mem_cons_of_mem _ (fir_facts h)
theorem one_mem {ps:List Plc} {l:List (Int×Int)} {m:Int×Int} (h:oneV ps l=(m,0)):m∈l:=by
  unfold oneV at h
  split at h
  · simp at h
  · rename_i x e
    have:x=m:=congrArg Prod.fst h
    subst this
    have:x∈oneL ps l:=by rw [e];simp
    exact max_mem (List.mem_filter.1 this).1
  · simp at h
theorem some_mem {l:List (Int×Int)} {m:Int×Int} (h:someV l=(m,0)):m∈l:=by
  cases l with
  | nil=>simp [someV] at h
  | cons x r=>simp [someV] at h;simp [h]
theorem look_facts {ps:List Plc} (hW:WI ps) {c:Int} {nm ds:ByteArray} {m:Int×Int} (h:lookR ps nm ds c=(m,0)):FndF ps nm ds m∧extI ps c m.1=true∧ifcI ps c=false:=by
  rcases plcI_cases ps c with ⟨h1,h2⟩|⟨k,q,rfl,h2,h1⟩
  · rw [lookR,h1] at h;exact absurd (congrArg Prod.snd h) (by show ¬ (3:Int)=0;decide)
  · have hk:=(List.getElem?_eq_some_iff.1 h2).1
    rw [lookR,h1] at h
    simp only at h
    cases hf:ifcI ps (k:Int) with
    | true=>rw [hf,if_pos rfl] at h;exact absurd (congrArg Prod.snd h) (by show ¬ (23:Int)=0;decide)
    | false =>
      rw [hf,if_neg (by simp)] at h
      have hm:=fir_facts h
      simp only [List.mem_cons,List.not_mem_nil,or_false] at hm
      rcases hm with hm|hm|hm
      · obtain ⟨i,hi,hio⟩:=up_facts hm.symm
        obtain ⟨rfl,h0⟩:=own_facts2 hio
        obtain ⟨hF,j,p,hj,hp⟩:=fnd_facts h0
        have hij:i=j:=by omega
        subst hij
        have hil:=(List.getElem?_eq_some_iff.1 hp).1
        refine ⟨hF,?_,rfl⟩
        show extI ps (k:Int) (i:Int)=true
        rw [extI_nat hk hil,ext_iff]
        exact .inl hi
      · obtain ⟨_,_,he,x,h3,h4,h5,_⟩:=cand_facts hW h2 (one_mem hm.symm)
        exact ⟨⟨x,h3,h4,h5⟩,he,rfl⟩
      · obtain ⟨_,_,he,x,h3,h4,h5,_⟩:=cand_facts hW h2 (some_mem hm.symm)
        exact ⟨⟨x,h3,h4,h5⟩,he,rfl⟩
theorem top_facts {ps:List Plc} {nm ds:ByteArray} {m:Int×Int} (h:topR ps nm ds=(m,0)):ownR ps nm ds 0=(m,0):=by
  unfold topR at h
  split at h
  · split at h
    · split at h
      · exact h
      · exact absurd (congrArg Prod.snd h) (by show ¬ (6:Int)=0;decide)
    · exact absurd (congrArg Prod.snd h) (by show ¬ (3:Int)=0;decide)
  · rename_i h0
    exact absurd (congrArg Prod.snd h) h0
theorem lif_facts {ps:List Plc} (hW:WI ps) {c:Int} {nm ds:ByteArray} {m:Int×Int} (h:lifR ps nm ds c=(m,0)):FndF ps nm ds m∧extI ps c m.1=true∧ifcI ps c=true:=by
  rcases plcI_cases ps c with ⟨h1,h2⟩|⟨k,q,rfl,h2,h1⟩
  · rw [lifR,h1] at h;exact absurd (congrArg Prod.snd h) (by show ¬ (3:Int)=0;decide)
  · have hk:=(List.getElem?_eq_some_iff.1 h2).1
    rw [lifR,h1] at h
    simp only at h
    cases hf:ifcI ps (k:Int) with
    | false=>rw [hf,if_neg (by simp)] at h;exact absurd (congrArg Prod.snd h) (by show ¬ (23:Int)=0;decide)
    | true =>
      rw [hf,if_pos rfl] at h
      have hm:=fir_facts h
      simp only [List.mem_cons,List.not_mem_nil,or_false] at hm
      rcases hm with hm|hm|hm|hm
      · obtain ⟨rfl,h0⟩:=own_facts2 hm.symm
        obtain ⟨hF,_⟩:=fnd_facts h0
        refine ⟨hF,?_,rfl⟩
        show extI ps (k:Int) (k:Int)=true
        rw [extI_nat hk hk];exact ext_self _ _
      · obtain ⟨rfl,h0⟩:=own_facts2 (top_facts hm.symm)
        obtain ⟨hF,_⟩:=fnd_facts h0
        refine ⟨hF,?_,rfl⟩
        have:=hW.lo
        show extI ps (k:Int) ((0:Nat):Int)=true
        rw [extI_nat hk (by omega)];exact ext_top hW.wo (by simpa using hk)
      · obtain ⟨_,_,he,x,h3,h4,h5,_⟩:=cand_facts hW h2 (one_mem hm.symm)
        exact ⟨⟨x,h3,h4,h5⟩,he,rfl⟩
      · obtain ⟨_,_,he,x,h3,h4,h5,_⟩:=cand_facts hW h2 (some_mem hm.symm)
        exact ⟨⟨x,h3,h4,h5⟩,he,rfl⟩
theorem shu_zero {o:Bool} {e:Int} (h:shuI o e=0):o=true∧e=0:=by
  unfold shuI at h
  split at h
  · rename_i h0
    split at h
    · rename_i h1;exact ⟨h1,h0⟩
    · exact absurd h (by decide)
  · rename_i h0;exact absurd h h0
structure MetF (ps:List Plc) (d:Int) (y:Bool) (c n ds:ByteArray) (m:Int×Int):Prop where
  ck:rckI ps d=0
  rc:rckE c.data.toList n.data.toList ds.data.toList=0
  cl:(clsR ps d c.data.toList).2=0
  hl:(hldR ps (clsR ps d c.data.toList).1.1 (clsR ps d c.data.toList).1.2).2=0
  lb:lbyR ps y n ds (hldR ps (clsR ps d c.data.toList).1.1 (clsR ps d c.data.toList).1.2).1=(m,0)
  mo:moP ps d m.1 m.2 (hldR ps (clsR ps d c.data.toList).1.1 (clsR ps d c.data.toList).1.2).1=(true,0)
theorem met_facts {ps:List Plc} {d:Int} {y:Bool} {c n ds:ByteArray} {m:Int×Int} (h:metR ps d y c n ds=(m,0)):MetF ps d y c n ds m:=by
  unfold metR at h
  split at h
  · rename_i hck
    split at h
    · rename_i hrc
      unfold metS at h
      split at h
      · rename_i hcl
        split at h
        · rename_i hhl
          split at h
          · rename_i hlb
            split at h
            · rename_i hsh
              have hm:(lbyR ps y n ds (hldR ps (clsR ps d c.data.toList).1.1 (clsR ps d c.data.toList).1.2).1).1=m:=congrArg Prod.fst h
              obtain ⟨h1,h2⟩:=shu_zero hsh
              rw [hm] at h1 h2
              exact ⟨hck,hrc,hcl,hhl,Prod.ext hm hlb,Prod.ext h1 h2⟩
            · rename_i h0;exact absurd (congrArg Prod.snd h) h0
          · rename_i h0;exact absurd (congrArg Prod.snd h) h0
        · rename_i h0;exact absurd (congrArg Prod.snd h) h0
      · rename_i h0;exact absurd (congrArg Prod.snd h) h0
    · exact absurd (congrArg Prod.snd h) (by show ¬ (1:Int)=0;decide)
  · rename_i h0;exact absurd (congrArg Prod.snd h) h0
theorem lby_facts {ps:List Plc} (hW:WI ps) {y:Bool} {c:Int} {nm ds:ByteArray} {m:Int×Int} (h:lbyR ps y nm ds c=(m,0)):FndF ps nm ds m∧extI ps c m.1=true∧ifcI ps c=y:=by
  cases y with
  | true=>exact lif_facts hW h
  | false=>exact look_facts hW h
end Go.Proofs.YtenpnkkkjjdccaaGreat
