import Derived.Test.YtenpnkkkjjdccaaGreatOvA
import Derived.Test.YtenpnkkkjjdccaaGreatLxP
import Derived.Test.YtenpnkkkjjdccaaGreatMxE
import Derived.Test.YtenpnkkkjjdccaaGreatAcT
import Derived.Test.YtenpnkkkjjdccaaGreatHrV
import Derived.Deep.DeepCutAuto
import Derived.Laws.AppendOwn
import Derived.Lib.SmallJoins
import Derived.WalkSmall
import Derived.Deep.AppendLies
set_option maxRecDepth 100000
namespace Go.Proofs.YtenpnkkkjjdccaaGreat
open Go.RowKit Go.Maps
theorem cck_c {b:Nat} {ps:List Plc} {W:World} (h:WAt b ps W) (i:Int):Calls Tryz.prog 259 #[.pointer (some ⟨b,0,none⟩),.int .i64 i] W fun e w'=>e=.returned (.int .i64 (rckI ps i))∧w'=W:=by
  have HL:Hid (Calls Tryz.prog 21 #[.pointer (some ⟨b,0,none⟩)] W fun e w'=>e=.returned (.int .i64 (ps.length:Int))∧w'=W):=len_c h
  rcases plcI_cases ps i with ⟨h1,h2⟩|⟨k,q,rfl,h2,h1⟩
  · have e:rckI ps i=3:=by rw [rckI,h1];rfl
    rw [e]
    clear h h1 e
    by_cases h0:i<0
    · go_enter Tryz.func259,Tryz.ntmps259
      go_wp2
      exact bodyPost_ret (results_tmp rfl _ _ _) rfl ⟨rfl,rfl⟩
    · have h3:(ps.length:Int)≤i:=by omega
      generalize (ps.length:Int)=n at *
      clear h2
      go_enter Tryz.func259,Tryz.ntmps259
      go_wp2_with (go_at_call 21;refine HL.out.mono ?_;rintro e w9 ⟨rfl,hw9⟩;rw [hw9];clear hw9 w9)
      exact bodyPost_ret (results_tmp rfl _ _ _) rfl ⟨rfl,rfl⟩
  · have e:rckI ps k=0:=by rw [rckI,h1];rfl
    rw [e]
    have h3:(k:Int)<(ps.length:Int):=by have:=(List.getElem?_eq_some_iff.1 h2).1;omega
    have h0:¬ (k:Int)<0:=by omega
    generalize (ps.length:Int)=n at *
    have h4:¬ n≤(k:Int):=by omega
    clear h h1 e h2
    go_enter Tryz.func259,Tryz.ntmps259
    go_wp2_with (go_at_call 21;refine HL.out.mono ?_;rintro e w9 ⟨rfl,hw9⟩;rw [hw9];clear hw9 w9)
    exact bodyPost_ret (results_tmp rfl _ _ _) rfl ⟨rfl,rfl⟩
set_option maxHeartbeats 1000000 in
theorem chS_c {b:Nat} {ps:List Plc} {W:World} (h:WAt b ps W) (hB:∀ q∈ps,PlcB q) (c i fl:Int):Calls Tryz.prog 262 #[.pointer (some ⟨b,0,none⟩),.agg #[.int .i64 c,.int .i64 i],.int .i64 fl] W fun e w'=>e=.returned (.bool (hasS ps c i fl))∧Below W.heap.size W w':=by
  have HM:Hid (∀ w,Below W.heap.size W w→Calls Tryz.prog 142 #[.pointer (some ⟨b,0,none⟩),.agg #[.int .i64 c,.int .i64 i]] w fun e w'=>MthR w.heap.size (methI ps c i) e w'∧Below w.heap.size w w'):=fun w hb=>method_c (h.below hb) hB c i
  have HR:Hid (hasS ps c i fl=match methI ps c i with|some m=>hasI m.fl fl|none=>false):=rfl
  generalize hasS ps c i fl=R at *
  generalize methI ps c i=M at *
  clear h hB
  cases M with
  | none =>
    have hR:R=false:=HR.out
    subst hR
    go_enter Tryz.func262,Tryz.ntmps262
    go_wp2_with (go_at_call 142;refine (HM.out _ (by repeat (first|exact Below.refl _ _|refine Below.setCell ?_ (by simp;try omega) _|refine Below.alloc ?_ (by simp;try omega) _|refine Below.drew ?_))).mono ?_;rintro e w1 ⟨hr,hb⟩;have hr2:e=.returned noM:=hr;subst hr2;rw [noM];have B1:Hid (Below W.heap.size W w1):=bstep (by repeat (first|exact Below.refl _ _|refine Below.setCell ?_ (by simp;try omega) _|refine Below.alloc ?_ (by simp;try omega) _|refine Below.drew ?_)) hb;clear hb HM hr)
    exact bodyPost_ret (v:=.bool false) (by simp [results,Tryz.results262,go_sem]) rfl ⟨rfl,B1.out.alloc B1.out.size _⟩
  | some m =>
    have hR:R=(bits .and .i64 m.fl fl != 0):=HR.out
    cases hq:(bits .and .i64 m.fl fl != 0)
    all_goals
      rw [hq] at hR
      subst hR
      clear HR
      go_enter Tryz.func262,Tryz.ntmps262
      go_wp2_with (go_at_call 142;refine (HM.out _ (by repeat (first|exact Below.refl _ _|refine Below.setCell ?_ (by simp;try omega) _|refine Below.alloc ?_ (by simp;try omega) _|refine Below.drew ?_))).mono ?_;rintro e w1 ⟨⟨v,hr,ho⟩,hb⟩;subst hr;obtain ⟨a',c',rfl⟩:=ownv ho;have B1:Hid (Below W.heap.size W w1):=bstep (by repeat (first|exact Below.refl _ _|refine Below.setCell ?_ (by simp;try omega) _|refine Below.alloc ?_ (by simp;try omega) _|refine Below.drew ?_)) hb;clear hb HM ho)
    · exact bodyPost_ret (v:=.bool false) (by simp [results,Tryz.results262,go_sem, *]) rfl ⟨rfl,B1.out.alloc B1.out.size _⟩
    · exact bodyPost_ret (v:=.bool true) (by simp [results,Tryz.results262,go_sem, *]) rfl ⟨rfl,B1.out.alloc B1.out.size _⟩
def idB (x:(Int×Int)×Bool):Value:=.tuple #[.agg #[.int .i64 x.1.1,.int .i64 x.1.2],.bool x.2]
def owB (ps:List Plc) (nm ds:ByteArray) (c:Int):(Int×Int)×Bool:=if (fndI ps c nm ds).2=0 then ((c,(fndI ps c nm ds).1),true) else ((0,0),false)
theorem chO_c {b:Nat} {ps:List Plc} {W:World} (h:WAt b ps W) (hB:∀ q∈ps,PlcB q) (c:Int) (nm ds:ByteArray) (fl lo st:Int) (sa:Option Addr) (sk so:Nat):Calls Tryz.prog 261 #[.pointer (some ⟨b,0,none⟩),.int .i64 c,.agg #[.string nm,.string ds,.int .i64 fl,.int .i64 lo,.int .i64 st,.slice sa sk so]] W fun e w'=>e=.returned (idB (owB ps nm ds c))∧Below W.heap.size W w':=by
  have HF:Hid (∀ w,Below W.heap.size W w→Calls Tryz.prog 295 #[.pointer (some ⟨b,0,none⟩),.int .i64 c,.string nm,.string ds] w fun e w'=>e=.returned (.tuple #[.int .i64 (fndI ps c nm ds).1,.int .i64 (fndI ps c nm ds).2])∧Below w.heap.size w w'):=fun w hb=>find_c (h.below hb) hB c nm ds
  unfold owB
  generalize fndI ps c nm ds=F at *
  obtain ⟨F1,F2⟩:=F
  simp only at HF ⊢
  clear h hB
  by_cases h0:F2=0
  · subst h0
    rw [if_pos rfl]
    go_enter Tryz.func261,Tryz.ntmps261
    go_wp2_with (go_at_call 295;refine (HF.out _ (by repeat (first|exact Below.refl _ _|refine Below.setCell ?_ (by simp;try omega) _|refine Below.alloc ?_ (by simp;try omega) _|refine Below.drew ?_))).mono ?_;rintro e w1 ⟨rfl,hb⟩;have zd:w1.heap[W.heap.size+1]?=some (.cells #[.int .i64 0,.int .i64 0] 45 (0,0)):=(hb.block (W.heap.size+1) (by first|omega|(simp;try omega))).trans (halloc2 _ _ (by simp));(try clear zB z0 z1 zf zL zN);have zB:Hid _:=zd;obtain ⟨z0,z1,zf,zL⟩:=rw2 zd;have zN:¬ W.heap.size+1=w1.heap.size:=(by omega);clear zd;have B1:Hid (Below W.heap.size W w1):=bstep (by repeat (first|exact Below.refl _ _|refine Below.setCell ?_ (by simp;try omega) _|refine Below.alloc ?_ (by simp;try omega) _|refine Below.drew ?_)) hb;clear hb HF)
    exact bodyPost_ret (v:=idB ((c,F1),true)) (by simp [results,Tryz.results261,go_sem,idB, *]) rfl ⟨rfl,(by repeat (first|refine Below.setCell ?_ (by simp;try omega) _|refine Below.alloc ?_ (by have:=B1.out.size;simp;try omega) _|refine Below.drew ?_|exact B1.out))⟩
  · rw [if_neg h0]
    go_enter Tryz.func261,Tryz.ntmps261
    go_wp2_with (go_at_call 295;refine (HF.out _ (by repeat (first|exact Below.refl _ _|refine Below.setCell ?_ (by simp;try omega) _|refine Below.alloc ?_ (by simp;try omega) _|refine Below.drew ?_))).mono ?_;rintro e w1 ⟨rfl,hb⟩;have zd:w1.heap[W.heap.size+1]?=some (.cells #[.int .i64 0,.int .i64 0] 45 (0,0)):=(hb.block (W.heap.size+1) (by first|omega|(simp;try omega))).trans (halloc2 _ _ (by simp));(try clear zB z0 z1 zf zL zN);have zB:Hid _:=zd;obtain ⟨z0,z1,zf,zL⟩:=rw2 zd;have zN:¬ W.heap.size+1=w1.heap.size:=(by omega);clear zd;have B1:Hid (Below W.heap.size W w1):=bstep (by repeat (first|exact Below.refl _ _|refine Below.setCell ?_ (by simp;try omega) _|refine Below.alloc ?_ (by simp;try omega) _|refine Below.drew ?_)) hb;clear hb HF)
    exact bodyPost_ret (v:=idB ((0,0),false)) (by simp [results,Tryz.results261,go_sem,idB, *]) rfl ⟨rfl,(by repeat (first|refine Below.setCell ?_ (by simp;try omega) _|refine Below.alloc ?_ (by have:=B1.out.size;simp;try omega) _|refine Below.drew ?_|exact B1.out))⟩
def unaI (ps:List Plc) (m:Int×Int):(Int×Int)×Int:=if hasS ps m.1 m.2 1024 then ((0,0),24) else (m,0)
theorem una_c {b:Nat} {ps:List Plc} {W:World} (h:WAt b ps W) (hB:∀ q∈ps,PlcB q) (c i:Int):Calls Tryz.prog 227 #[.pointer (some ⟨b,0,none⟩),.agg #[.int .i64 c,.int .i64 i]] W fun e w'=>e=.returned (idE (unaI ps (c,i)))∧Below W.heap.size W w':=by
  have HS:Hid (∀ w,Below W.heap.size W w→Calls Tryz.prog 262 #[.pointer (some ⟨b,0,none⟩),.agg #[.int .i64 c,.int .i64 i],.int .i64 1024] w fun e w'=>e=.returned (.bool (hasS ps c i 1024))∧Below w.heap.size w w'):=fun w hb=>chS_c (h.below hb) hB c i 1024
  unfold unaI
  simp only
  generalize hasS ps c i 1024=S at *
  clear h hB
  cases S
  all_goals
    go_enter Tryz.func227,Tryz.ntmps227
    go_wp2_with (go_at_call 262;refine (HS.out _ (by repeat (first|exact Below.refl _ _|refine Below.setCell ?_ (by simp;try omega) _|refine Below.alloc ?_ (by simp;try omega) _|refine Below.drew ?_))).mono ?_;rintro e w1 ⟨rfl,hb⟩;have yd:w1.heap[W.heap.size]?=some (.cells #[.int .i64 c,.int .i64 i] 45 (0,0)):=(hb.block (W.heap.size) (by first|omega|(simp;try omega))).trans (hkeep (halloc1 _ _));(try clear yB y0 y1 yf yL yN);have yB:Hid _:=yd;obtain ⟨y0,y1,yf,yL⟩:=rw2 yd;have yN:¬ W.heap.size=w1.heap.size:=(by omega);clear yd;have zd:w1.heap[W.heap.size+1]?=some (.cells #[.int .i64 0,.int .i64 0] 45 (0,0)):=(hb.block (W.heap.size+1) (by first|omega|(simp;try omega))).trans (halloc2 _ _ (by simp));(try clear zB z0 z1 zf zL zN);have zB:Hid _:=zd;obtain ⟨z0,z1,zf,zL⟩:=rw2 zd;have zN:¬ W.heap.size+1=w1.heap.size:=(by omega);clear zd;have B1:Hid (Below W.heap.size W w1):=bstep (by repeat (first|exact Below.refl _ _|refine Below.setCell ?_ (by simp;try omega) _|refine Below.alloc ?_ (by simp;try omega) _|refine Below.drew ?_)) hb;clear hb HS)
  · exact bodyPost_ret (v:=idE ((c,i),0)) (by simp [results,Tryz.results227,go_sem,idE, *]) rfl ⟨rfl,(by repeat (first|refine Below.setCell ?_ (by simp;try omega) _|refine Below.alloc ?_ (by have:=B1.out.size;simp;try omega) _|refine Below.drew ?_|exact B1.out))⟩
  · exact bodyPost_ret (v:=idE ((0,0),24)) (by simp [results,Tryz.results227,go_sem,idE, *]) rfl ⟨rfl,(by repeat (first|refine Below.setCell ?_ (by simp;try omega) _|refine Below.alloc ?_ (by have:=B1.out.size;simp;try omega) _|refine Below.drew ?_|exact B1.out))⟩
def mthE:Except Int HM→Ending→Prop
  | .error x,e=>e=.returned (.tuple #[.agg #[.string ⟨#[]⟩,.string ⟨#[]⟩,.int .i64 0,.int .i64 0,.int .i64 0,.slice none 0 0],.int .i64 x])
  | .ok m,e=>∃ sa sk so,e=.returned (.tuple #[.agg #[.string m.nm,.string m.ds,.int .i64 m.fl,.int .i64 m.lo,.int .i64 m.st,.slice sa sk so],.int .i64 0])
theorem mth_e {b:Nat} {ps:List Plc} {W:World} (h:WAt b ps W) (hB:∀ q∈ps,PlcB q) (c i:Int):Calls Tryz.prog 142 #[.pointer (some ⟨b,0,none⟩),.agg #[.int .i64 c,.int .i64 i]] W fun e w'=>mthE (match methI ps c i with|some m=>.ok m|none=>.error 3) e∧Below W.heap.size W w':=by
  refine (method_c h hB c i).mono fun e w' zz=>⟨?_,zz.2⟩
  have h1:=zz.1
  cases hm:methI ps c i with
  | none=>rw [hm] at h1;exact h1
  | some m =>
    rw [hm] at h1
    obtain ⟨vv,rfl,hown⟩:=h1
    obtain ⟨a1,c1,rfl⟩:=ownv hown
    exact ⟨a1,_,c1,rfl⟩
def crdI (ps:List Plc) (d:Int) (m:Int×Int):Except Int HM:=match plcI ps d,methI ps m.1 m.2 with
  | some _,some x=>.ok x
  | _,_=>.error 3
set_option maxHeartbeats 1000000 in
theorem crd_c {b:Nat} {ps:List Plc} {W:World} (h:WAt b ps W) (hB:∀ q∈ps,PlcB q) (d c i:Int):Calls Tryz.prog 221 #[.pointer (some ⟨b,0,none⟩),.int .i64 d,.agg #[.int .i64 c,.int .i64 i]] W fun e w'=>mthE (crdI ps d (c,i)) e∧Below W.heap.size W w':=by
  have HC:Hid (∀ w,Below W.heap.size W w→Calls Tryz.prog 259 #[.pointer (some ⟨b,0,none⟩),.int .i64 d] w fun e w'=>e=.returned (.int .i64 (rckI ps d))∧w'=w):=fun w hb=>cck_c (h.below hb) d
  have HM:Hid (∀ w,Below W.heap.size W w→Calls Tryz.prog 142 #[.pointer (some ⟨b,0,none⟩),.agg #[.int .i64 c,.int .i64 i]] w fun e w'=>mthE (match methI ps c i with|some m=>.ok m|none=>.error 3) e∧Below w.heap.size w w'):=fun w hb=>mth_e (h.below hb) hB c i
  unfold crdI
  unfold rckI at HC
  simp only
  generalize plcI ps d=D at *
  generalize methI ps c i=M at *
  clear h hB
  cases D with
  | none =>
    clear HM
    simp only [Option.isSome_none,Bool.false_eq_true,if_false] at HC
    go_enter Tryz.func221,Tryz.ntmps221
    go_wp2_with (go_at_call 259;refine (HC.out _ (by repeat (first|exact Below.refl _ _|refine Below.setCell ?_ (by simp;try omega) _|refine Below.alloc ?_ (by simp;try omega) _|refine Below.drew ?_))).mono ?_;rintro e w9 ⟨rfl,hw9⟩;rw [hw9];clear hw9 w9)
    exact bodyPost_ret (v:=.tuple #[.agg #[.string ⟨#[]⟩,.string ⟨#[]⟩,.int .i64 0,.int .i64 0,.int .i64 0,.slice none 0 0],.int .i64 3]) (by simp [results,Tryz.results221,go_sem, *]) rfl ⟨rfl,(by repeat (first|exact Below.refl _ _|refine Below.setCell ?_ (by simp;try omega) _|refine Below.alloc ?_ (by simp;try omega) _|refine Below.drew ?_))⟩
  | some q =>
    simp only [Option.isSome_some,if_true] at HC
    cases M with
    | none =>
      simp only [mthE] at HM
      go_enter Tryz.func221,Tryz.ntmps221
      go_wp2_with (first
        | (go_at_call 259;refine (HC.out _ (by repeat (first|exact Below.refl _ _|refine Below.setCell ?_ (by simp;try omega) _|refine Below.alloc ?_ (by simp;try omega) _|refine Below.drew ?_))).mono ?_;rintro e w9 ⟨rfl,hw9⟩;rw [hw9];clear hw9 w9)
        | (go_at_call 142;refine (HM.out _ (by repeat (first|exact Below.refl _ _|refine Below.setCell ?_ (by simp;try omega) _|refine Below.alloc ?_ (by simp;try omega) _|refine Below.drew ?_))).mono ?_;rintro e w1 ⟨rfl,hb⟩;have zd:w1.heap[W.heap.size+1]?=some (.cells #[.string ⟨#[]⟩,.string ⟨#[]⟩,.int .i64 0,.int .i64 0,.int .i64 0,.slice none 0 0] 127 (0,0)):=(hb.block (W.heap.size+1) (by first|omega|(simp;try omega))).trans (halloc2 _ _ (by simp));(try clear zB z0 z1 z2 z3 z4 z5 zf zL zN);have zB:Hid _:=zd;obtain ⟨z0,z1,z2,z3,z4,z5,zf,zL⟩:=rw6 zd;have zN:¬ W.heap.size+1=w1.heap.size:=(by omega);clear zd;have B1:Hid (Below W.heap.size W w1):=bstep (by repeat (first|exact Below.refl _ _|refine Below.setCell ?_ (by simp;try omega) _|refine Below.alloc ?_ (by simp;try omega) _|refine Below.drew ?_)) hb;clear hb HM))
      exact bodyPost_ret (v:=.tuple #[.agg #[.string ⟨#[]⟩,.string ⟨#[]⟩,.int .i64 0,.int .i64 0,.int .i64 0,.slice none 0 0],.int .i64 3]) (by simp [results,Tryz.results221,go_sem, *]) rfl ⟨rfl,(by repeat (first|refine Below.setCell ?_ (by simp;try omega) _|refine Below.alloc ?_ (by have:=B1.out.size;simp;try omega) _|refine Below.drew ?_|exact B1.out))⟩
    | some m =>
      simp only [mthE] at HM
      go_enter Tryz.func221,Tryz.ntmps221
      go_wp2_with (first
        | (go_at_call 259;refine (HC.out _ (by repeat (first|exact Below.refl _ _|refine Below.setCell ?_ (by simp;try omega) _|refine Below.alloc ?_ (by simp;try omega) _|refine Below.drew ?_))).mono ?_;rintro e w9 ⟨rfl,hw9⟩;rw [hw9];clear hw9 w9)
        | (go_at_call 142;refine (HM.out _ (by repeat (first|exact Below.refl _ _|refine Below.setCell ?_ (by simp;try omega) _|refine Below.alloc ?_ (by simp;try omega) _|refine Below.drew ?_))).mono ?_;rintro e w1 ⟨⟨sa,sk,so,rfl⟩,hb⟩;have zd:w1.heap[W.heap.size+1]?=some (.cells #[.string ⟨#[]⟩,.string ⟨#[]⟩,.int .i64 0,.int .i64 0,.int .i64 0,.slice none 0 0] 127 (0,0)):=(hb.block (W.heap.size+1) (by first|omega|(simp;try omega))).trans (halloc2 _ _ (by simp));(try clear zB z0 z1 z2 z3 z4 z5 zf zL zN);have zB:Hid _:=zd;obtain ⟨z0,z1,z2,z3,z4,z5,zf,zL⟩:=rw6 zd;have zN:¬ W.heap.size+1=w1.heap.size:=(by omega);clear zd;have B1:Hid (Below W.heap.size W w1):=bstep (by repeat (first|exact Below.refl _ _|refine Below.setCell ?_ (by simp;try omega) _|refine Below.alloc ?_ (by simp;try omega) _|refine Below.drew ?_)) hb;clear hb HM))
      exact bodyPost_ret (v:=.tuple #[.agg #[.string m.nm,.string m.ds,.int .i64 m.fl,.int .i64 m.lo,.int .i64 m.st,.slice sa sk so],.int .i64 0]) (by simp [results,Tryz.results221,go_sem, *]) rfl ⟨⟨sa,sk,so,rfl⟩,(by repeat (first|refine Below.setCell ?_ (by simp;try omega) _|refine Below.alloc ?_ (by have:=B1.out.size;simp;try omega) _|refine Below.drew ?_|exact B1.out))⟩
theorem chain_no {b:Nat} {ps:List Plc} {W:World} (h:WAt b ps W) (x:Int) (hx:plcI ps x=none):Calls Tryz.prog 267 #[.pointer (some ⟨b,0,none⟩),.int .i64 x] W fun e w'=>e=.returned (.tuple #[.slice none 0 0,.int .i64 3])∧Below W.heap.size W w':=by
  have HH:Hid (∀ w,Below W.heap.size W w→Calls Tryz.prog 24 #[.pointer (some ⟨b,0,none⟩),.int .i64 x] w fun e w'=>e=.returned (.bool false)∧w'=w):=fun w hb=>by
    have:=has_c (h.below hb) x
    rw [hx] at this
    exact this
  clear h hx
  go_enter Tryz.func267,Tryz.ntmps267
  go_wp2_with (go_at_call 24;refine (HH.out _ (by repeat (first|exact Below.refl _ _|refine Below.setCell ?_ (by simp;try omega) _|refine Below.alloc ?_ (by simp;try omega) _|refine Below.drew ?_))).mono ?_;rintro e w9 ⟨rfl,hw9⟩;rw [hw9];clear hw9 w9)
  exact bodyPost_ret (v:=.tuple #[.slice none 0 0,.int .i64 3]) (by simp [results,Tryz.results267,go_sem, *]) rfl ⟨rfl,(by repeat (first|exact Below.refl _ _|refine Below.setCell ?_ (by simp;try omega) _|refine Below.alloc ?_ (by simp;try omega) _|refine Below.drew ?_))⟩
theorem st2 {w:World} {n:Nat} {t:TypeId} {a0 a1:Value} (h:w.heap[n]?=some (.cells #[a0,a1] t (0,0))) (v0 v1:Value):((w.setCell ⟨n,0,none⟩ v0).setCell ⟨n,1,none⟩ v1).heap[n]?=some (.cells #[v0,v1] t (0,0)):=by
  have h0:=Go.Joins.block_setCell (i:=0) h v0
  have h1:=Go.Joins.block_setCell (i:=1) h0 v1
  exact h1.trans (by simp)
def uppI (ps:List Plc) (nm ds:ByteArray):List Nat→(Int×Int)×Bool
  | []=>((0,0),false)
  | i::r=>if (fndI ps (i:Int) nm ds).2=0∧hasS ps (i:Int) (fndI ps (i:Int) nm ds).1 8=false then (((i:Int),(fndI ps (i:Int) nm ds).1),true) else uppI ps nm ds r
theorem uppI_at {ps:List Plc} {nm ds:ByteArray} {l:List Nat} {j i:Nat} (h:l[j]?=some i):uppI ps nm ds (l.drop j)=if (fndI ps (i:Int) nm ds).2=0∧hasS ps (i:Int) (fndI ps (i:Int) nm ds).1 8=false then (((i:Int),(fndI ps (i:Int) nm ds).1),true) else uppI ps nm ds (l.drop (j+1)):=by
  obtain ⟨h1,h2⟩:=List.getElem?_eq_some_iff.1 h
  rw [List.drop_eq_getElem_cons h1,h2,uppI]
set_option maxHeartbeats 1000000 in
theorem upp_no {b:Nat} {ps:List Plc} {W:World} (h:WAt b ps W) (c:Int) (hc:plcI ps c=none) (nm ds:ByteArray) (fl lo st:Int) (sa:Option Addr) (sk so:Nat):Calls Tryz.prog 260 #[.pointer (some ⟨b,0,none⟩),.int .i64 c,.agg #[.string nm,.string ds,.int .i64 fl,.int .i64 lo,.int .i64 st,.slice sa sk so]] W fun e w'=>e=.returned (idB ((0,0),false))∧Below W.heap.size W w':=by
  have HC:Hid (∀ w,Below W.heap.size W w→Calls Tryz.prog 267 #[.pointer (some ⟨b,0,none⟩),.int .i64 c] w fun e w'=>e=.returned (.tuple #[.slice none 0 0,.int .i64 3])∧Below w.heap.size w w'):=fun w hb=>chain_no (h.below hb) c hc
  clear h hc
  go_enter Tryz.func260,Tryz.ntmps260
  go_wp2
  go_step3
  go_wp2_with (go_at_call 267;refine (HC.out _ (by repeat (first|exact Below.refl _ _|refine Below.setCell ?_ (by simp;try omega) _|refine Below.alloc ?_ (by simp;try omega) _|refine Below.drew ?_))).mono ?_;rintro e w1 ⟨rfl,hb⟩;have yd:w1.heap[W.heap.size]?=some (.cells #[.string nm,.string ds,.int .i64 fl,.int .i64 lo,.int .i64 st,.slice sa sk so] 127 (0,0)):=(hb.block (W.heap.size) (by first|omega|(simp;try omega))).trans (hkeep (halloc1 _ _));(try clear yB y0 y1 y2 y3 y4 y5 yf yL yN);have yB:Hid _:=yd;obtain ⟨y0,y1,y2,y3,y4,y5,yf,yL⟩:=rw6 yd;have yN:¬ W.heap.size=w1.heap.size:=(by omega);clear yd;have zd:w1.heap[W.heap.size+1]?=some (.cells #[.int .i64 0,.int .i64 0] 45 (0,0)):=(hb.block (W.heap.size+1) (by first|omega|(simp;try omega))).trans (halloc2 _ _ (by simp));(try clear zB z0 z1 zf zL zN);have zB:Hid _:=zd;obtain ⟨z0,z1,zf,zL⟩:=rw2 zd;have zN:¬ W.heap.size+1=w1.heap.size:=(by omega);clear zd;have B1:Hid (Below W.heap.size W w1):=bstep (by repeat (first|exact Below.refl _ _|refine Below.setCell ?_ (by simp;try omega) _|refine Below.alloc ?_ (by simp;try omega) _|refine Below.drew ?_)) hb;clear hb HC)
  try rw [Exit.noGoto_ret]
  exact bodyPost_ret (v:=idB ((0,0),false)) (by simp [results,Tryz.results260,go_sem,idB, *]) rfl ⟨rfl,(by repeat (first|refine Below.setCell ?_ (by simp;try omega) _|refine Below.alloc ?_ (by have:=B1.out.size;simp;try omega) _|refine Below.drew ?_|exact B1.out))⟩
set_option maxHeartbeats 4000000 in
theorem upp_yes {b:Nat} {ps:List Plc} {W:World} (h:WAt b ps W) (hi:WI ps) (k:Nat) (q:Plc) (hq:ps[k]?=some q) (nm ds:ByteArray) (fl lo st:Int) (sa:Option Addr) (sk so:Nat):Calls Tryz.prog 260 #[.pointer (some ⟨b,0,none⟩),.int .i64 (k:Int),.agg #[.string nm,.string ds,.int .i64 fl,.int .i64 lo,.int .i64 st,.slice sa sk so]] W fun e w'=>e=.returned (idB (uppI ps nm ds (chL (ps.map nd) k)))∧Below W.heap.size W w':=by
  have HW0:Hid (WAt b ps W):=h
  have HPB:Hid (∀ q∈ps,PlcB q):=hi.pb
  have hKb:=chL_len hi (List.getElem?_eq_some_iff.1 hq).1
  have HC:Hid (∀ w,Below W.heap.size W w→Calls Tryz.prog 267 #[.pointer (some ⟨b,0,none⟩),.int .i64 (k:Int)] w fun e w'=>∃ v,e=.returned (.tuple #[v,.int .i64 0])∧w'.ownsRow w.heap.size 3 1 v (chL (ps.map nd) k).length ((chL (ps.map nd) k).map numV)∧Below w.heap.size w w'):=fun w hb=>by
    obtain ⟨N,mb,vp,pv,h⟩:=h.below hb
    exact chain_yes N b mb ps vp pv k (List.getElem?_eq_some_iff.1 hq).1 hi.wo hi.hi w h
  generalize chL (ps.map nd) k=l at *
  obtain ⟨R,hR⟩:∃ R,uppI ps nm ds l=R:=⟨_,rfl⟩
  have HR:Hid (uppI ps nm ds l=R):=hR
  rw [hR]
  obtain ⟨K,hK⟩:∃ K,l.length=K:=⟨_,rfl⟩
  have HK:Hid (l.length=K):=hK
  rw [hK] at hKb HC
  clear h hi hq hR hK
  go_enter Tryz.func260,Tryz.ntmps260
  go_wp2
  go_step3
  go_wp2_with (first
    | (go_at_call 267;refine (HC.out _ (by repeat (first|exact Below.refl _ _|refine Below.setCell ?_ (by simp;try omega) _|refine Below.alloc ?_ (by simp;try omega) _|refine Below.drew ?_))).mono ?_;rintro e w1 ⟨v,rfl,ho,hb⟩;obtain ⟨ca,cc,rfl⟩:=ownv ho;have yd:w1.heap[W.heap.size]?=some (.cells #[.string nm,.string ds,.int .i64 fl,.int .i64 lo,.int .i64 st,.slice sa sk so] 127 (0,0)):=(hb.block (W.heap.size) (by first|omega|(simp;try omega))).trans (hkeep (halloc1 _ _));(try clear yB y0 y1 y2 y3 y4 y5 yf yL yN);have yB:Hid _:=yd;obtain ⟨y0,y1,y2,y3,y4,y5,yf,yL⟩:=rw6 yd;have yN:¬ W.heap.size=w1.heap.size:=(by omega);clear yd;have zd:w1.heap[W.heap.size+1]?=some (.cells #[.int .i64 0,.int .i64 0] 45 (0,0)):=(hb.block (W.heap.size+1) (by first|omega|(simp;try omega))).trans (halloc2 _ _ (by simp));(try clear zB z0 z1 zf zL zN);have zB:Hid _:=zd;obtain ⟨z0,z1,zf,zL⟩:=rw2 zd;have zN:¬ W.heap.size+1=w1.heap.size:=(by omega);clear zd;have hz1:W.heap.size+1<w1.heap.size:=zL;have O1:Hid (w1.ownsRow W.heap.size 3 1 (.slice ca K cc) K (l.map numV)):=Go.Joins.ownsRow_le ho (by simp;try omega);have B1:Hid (Below W.heap.size W w1):=bstep (by repeat (first|exact Below.refl _ _|refine Below.setCell ?_ (by simp;try omega) _|refine Below.alloc ?_ (by simp;try omega) _|refine Below.drew ?_)) hb;have HW1:Hid (WAt b ps w1):=HW0.out.below B1.out;clear ho hb HC))
  go_step3
  go_wp2
  go_loopw [7,25] (fun tv kv wr=>∃ (j:Nat),tv=.bool false∧kv=.int .i64 j∧j≤K∧Hid (uppI ps nm ds (l.drop j)=R)∧Hid (Below w1.heap.size w1 wr)) (fun _ kv _=>K - (intOf kv).toNat)
  case atStart=>exact ⟨0,rfl,rfl,Nat.zero_le _,HR,Below.refl _ _⟩
  case round =>
    obtain ⟨j,rfl,rfl,hj,hU,hB⟩:=hrel
    have hb:=hB.out
    have yd:wr.heap[W.heap.size]?=some (.cells #[.string nm,.string ds,.int .i64 fl,.int .i64 lo,.int .i64 st,.slice sa sk so] 127 (0,0)):=(hb.block (W.heap.size) (by first|omega|(simp;try omega))).trans (yB.out);(try clear yB y0 y1 y2 y3 y4 y5 yf yL yN);have yB:Hid _:=yd;obtain ⟨y0,y1,y2,y3,y4,y5,yf,yL⟩:=rw6 yd;have yN:¬ W.heap.size=wr.heap.size:=(by omega);clear yd;have zd:wr.heap[W.heap.size+1]?=some (.cells #[.int .i64 0,.int .i64 0] 45 (0,0)):=(hb.block (W.heap.size+1) (by first|omega|(simp;try omega))).trans (zB.out);(try clear zB z0 z1 zf zL zN);have zB:Hid _:=zd;obtain ⟨z0,z1,zf,zL⟩:=rw2 zd;have zN:¬ W.heap.size+1=wr.heap.size:=(by omega);clear zd
    clear hb
    by_cases hlt:j<K
    · have hjl:j<l.length:=by rw [HK.out];exact hlt
      obtain ⟨i,hi⟩:∃ i,l[j]?=some i:=⟨_,List.getElem?_eq_getElem hjl⟩
      obtain ⟨g,c2,hform⟩:=Go.Joins.ownsRow_form O1.out (by omega)
      have hce:w1.cell? ⟨g,j,none⟩=some (.int .i64 (i:Int)):=by
        have hrow:=O1.out
        rw [hform] at hrow
        rw [hrow.cellAt j (by omega),List.getElem?_map,hi];rfl
      injection hform with hca _ hcc
      subst hca hcc
      have hgl:g<w1.heap.size:=World.block_lt_of_cell? w1 _ hce
      have hcr:=(hB.out.cell (p:=⟨g,j,none⟩) hgl).trans hce
      have HF:Hid (Calls Tryz.prog 261 #[.pointer (some ⟨b,0,none⟩),.int .i64 (i:Int),.agg #[.string nm,.string ds,.int .i64 fl,.int .i64 lo,.int .i64 st,.slice sa sk so]] wr fun e w'=>e=.returned (idB (owB ps nm ds i))∧Below wr.heap.size wr w'):=chO_c (HW1.out.below hB.out) HPB.out i nm ds fl lo st sa sk so
      have HS:Hid (∀ w,Below w1.heap.size w1 w→Calls Tryz.prog 262 #[.pointer (some ⟨b,0,none⟩),.agg #[.int .i64 (i:Int),.int .i64 (fndI ps (i:Int) nm ds).1],.int .i64 8] w fun e w'=>e=.returned (.bool (hasS ps i (fndI ps (i:Int) nm ds).1 8))∧Below w.heap.size w w'):=fun w hb=>chS_c (HW1.out.below hb) HPB.out i _ 8
      have hst:=uppI_at (ps:=ps) (nm:=nm) (ds:=ds) hi
      rw [hU.out] at hst
      have HST:Hid _:=hst
      unfold owB at HF
      generalize fndI ps (i:Int) nm ds=Fd at *
      obtain ⟨F1,F2⟩:=Fd
      simp only [idB] at HF HST HS
      generalize hasS ps (i:Int) F1 8=S at *
      clear hce hi hjl hst hU
      by_cases hF:F2=0
      · subst hF
        simp only [if_true] at HF
        cases S
        case false =>
          have eR:R=(((i:Int),F1),true):=by rw [HST.out,if_pos ⟨rfl,rfl⟩]
          subst eR
          clear HST HR
          go_wp2_with (first
            | (go_at_call 261;refine HF.out.mono ?_;rintro e w2 ⟨rfl,hb⟩;have yd:w2.heap[W.heap.size]?=some (.cells #[.string nm,.string ds,.int .i64 fl,.int .i64 lo,.int .i64 st,.slice sa sk so] 127 (0,0)):=(hb.block (W.heap.size) (by first|omega|(simp;try omega))).trans (yB.out);(try clear yB y0 y1 y2 y3 y4 y5 yf yL yN);have yB:Hid _:=yd;obtain ⟨y0,y1,y2,y3,y4,y5,yf,yL⟩:=rw6 yd;have yN:¬ W.heap.size=w2.heap.size:=(by omega);clear yd;have zd:w2.heap[W.heap.size+1]?=some (.cells #[.int .i64 0,.int .i64 0] 45 (0,0)):=(hb.block (W.heap.size+1) (by first|omega|(simp;try omega))).trans (zB.out);(try clear zB z0 z1 zf zL zN);have zB:Hid _:=zd;obtain ⟨z0,z1,zf,zL⟩:=rw2 zd;have zN:¬ W.heap.size+1=w2.heap.size:=(by omega);clear zd;have B2:Hid (Below w1.heap.size w1 w2):=bstep hB.out hb;clear hb HF)
            | (go_at_call 262;refine (HS.out _ (B2.out.alloc B2.out.size _)).mono ?_;rintro e w3 ⟨rfl,hb⟩;have yd:w3.heap[W.heap.size]?=some (.cells #[.string nm,.string ds,.int .i64 fl,.int .i64 lo,.int .i64 st,.slice sa sk so] 127 (0,0)):=(hb.block (W.heap.size) (by first|omega|(simp;try omega))).trans (hkeep yB.out);(try clear yB y0 y1 y2 y3 y4 y5 yf yL yN);have yB:Hid _:=yd;obtain ⟨y0,y1,y2,y3,y4,y5,yf,yL⟩:=rw6 yd;have yN:¬ W.heap.size=w3.heap.size:=(by omega);clear yd;have zd:w3.heap[W.heap.size+1]?=some (.cells #[.int .i64 0,.int .i64 0] 45 (0,0)):=(hb.block (W.heap.size+1) (by first|omega|(simp;try omega))).trans (hkeep zB.out);(try clear zB z0 z1 zf zL zN);have zB:Hid _:=zd;obtain ⟨z0,z1,zf,zL⟩:=rw2 zd;have zN:¬ W.heap.size+1=w3.heap.size:=(by omega);clear zd;have ud:w3.heap[w2.heap.size]?=some (.cells #[.int .i64 (i:Int),.int .i64 F1] 45 (0,0)):=(hb.block (w2.heap.size) (by first|omega|(simp;try omega))).trans (halloc1 _ _);(try clear uB u0 u1 uf uL uN);have uB:Hid _:=ud;obtain ⟨u0,u1,uf,uL⟩:=rw2 ud;have uN:¬ w2.heap.size=w3.heap.size:=(by omega);clear ud;have B3:Hid (Below w1.heap.size w1 w3):=bstep (B2.out.alloc B2.out.size _) hb;clear hb HS))
          have B4:Hid (Below W.heap.size W w3):=B1.out.trans (B3.out.mono B1.out.size)
          have hu2:¬ w2.heap.size=W.heap.size+1:=by have h1:=B1.out.size;have h2:=B2.out.size;have h3:=hz1;omega
          obtain ⟨k0,k1,kf,kL⟩:=rw2 (st2 (st2 zB.out (.int .i64 (i:Int)) (.int .i64 F1)) (.int .i64 (i:Int)) (.int .i64 F1))
          try rw [Exit.noGoto_ret]
          exact bodyPost_ret (v:=idB (((i:Int),F1),true)) (by simp [results,Tryz.results260,go_sem,idB, *]) rfl ⟨rfl,(by repeat (first|refine Below.setCell ?_ (by simp;try omega) _|refine Below.alloc ?_ (by have:=B4.out.size;simp;try omega) _|refine Below.drew ?_|exact B4.out))⟩
        case true =>
          have HU2:Hid (uppI ps nm ds (l.drop (j+1))=R):=by rw [Hid,HST.out,if_neg (by simp)]
          clear HST
          go_wp2_with (first
            | (go_at_call 261;refine HF.out.mono ?_;rintro e w2 ⟨rfl,hb⟩;have yd:w2.heap[W.heap.size]?=some (.cells #[.string nm,.string ds,.int .i64 fl,.int .i64 lo,.int .i64 st,.slice sa sk so] 127 (0,0)):=(hb.block (W.heap.size) (by first|omega|(simp;try omega))).trans (yB.out);(try clear yB y0 y1 y2 y3 y4 y5 yf yL yN);have yB:Hid _:=yd;obtain ⟨y0,y1,y2,y3,y4,y5,yf,yL⟩:=rw6 yd;have yN:¬ W.heap.size=w2.heap.size:=(by omega);clear yd;have zd:w2.heap[W.heap.size+1]?=some (.cells #[.int .i64 0,.int .i64 0] 45 (0,0)):=(hb.block (W.heap.size+1) (by first|omega|(simp;try omega))).trans (zB.out);(try clear zB z0 z1 zf zL zN);have zB:Hid _:=zd;obtain ⟨z0,z1,zf,zL⟩:=rw2 zd;have zN:¬ W.heap.size+1=w2.heap.size:=(by omega);clear zd;have B2:Hid (Below w1.heap.size w1 w2):=bstep hB.out hb;clear hb HF)
            | (go_at_call 262;refine (HS.out _ (B2.out.alloc B2.out.size _)).mono ?_;rintro e w3 ⟨rfl,hb⟩;have yd:w3.heap[W.heap.size]?=some (.cells #[.string nm,.string ds,.int .i64 fl,.int .i64 lo,.int .i64 st,.slice sa sk so] 127 (0,0)):=(hb.block (W.heap.size) (by first|omega|(simp;try omega))).trans (hkeep yB.out);(try clear yB y0 y1 y2 y3 y4 y5 yf yL yN);have yB:Hid _:=yd;obtain ⟨y0,y1,y2,y3,y4,y5,yf,yL⟩:=rw6 yd;have yN:¬ W.heap.size=w3.heap.size:=(by omega);clear yd;have zd:w3.heap[W.heap.size+1]?=some (.cells #[.int .i64 0,.int .i64 0] 45 (0,0)):=(hb.block (W.heap.size+1) (by first|omega|(simp;try omega))).trans (hkeep zB.out);(try clear zB z0 z1 zf zL zN);have zB:Hid _:=zd;obtain ⟨z0,z1,zf,zL⟩:=rw2 zd;have zN:¬ W.heap.size+1=w3.heap.size:=(by omega);clear zd;have ud:w3.heap[w2.heap.size]?=some (.cells #[.int .i64 (i:Int),.int .i64 F1] 45 (0,0)):=(hb.block (w2.heap.size) (by first|omega|(simp;try omega))).trans (halloc1 _ _);(try clear uB u0 u1 uf uL uN);have uB:Hid _:=ud;obtain ⟨u0,u1,uf,uL⟩:=rw2 ud;have uN:¬ w2.heap.size=w3.heap.size:=(by omega);clear ud;have B3:Hid (Below w1.heap.size w1 w3):=bstep (B2.out.alloc B2.out.size _) hb;clear hb HS))
          go_roundw
          case rel=>exact ⟨j+1,rfl,by go_num,by omega,HU2,B3⟩
          case measure=>simp [intOf];omega
      · have HU2:Hid (uppI ps nm ds (l.drop (j+1))=R):=by rw [Hid,HST.out,if_neg (fun h=>hF h.1)]
        rw [if_neg hF] at HF
        clear HST HS
        go_wp2_with (first
          | (go_at_call 261;refine HF.out.mono ?_;rintro e w2 ⟨rfl,hb⟩;have yd:w2.heap[W.heap.size]?=some (.cells #[.string nm,.string ds,.int .i64 fl,.int .i64 lo,.int .i64 st,.slice sa sk so] 127 (0,0)):=(hb.block (W.heap.size) (by first|omega|(simp;try omega))).trans (yB.out);(try clear yB y0 y1 y2 y3 y4 y5 yf yL yN);have yB:Hid _:=yd;obtain ⟨y0,y1,y2,y3,y4,y5,yf,yL⟩:=rw6 yd;have yN:¬ W.heap.size=w2.heap.size:=(by omega);clear yd;have zd:w2.heap[W.heap.size+1]?=some (.cells #[.int .i64 0,.int .i64 0] 45 (0,0)):=(hb.block (W.heap.size+1) (by first|omega|(simp;try omega))).trans (zB.out);(try clear zB z0 z1 zf zL zN);have zB:Hid _:=zd;obtain ⟨z0,z1,zf,zL⟩:=rw2 zd;have zN:¬ W.heap.size+1=w2.heap.size:=(by omega);clear zd;have B2:Hid (Below w1.heap.size w1 w2):=bstep hB.out hb;clear hb HF))
        go_roundw
        case rel=>exact ⟨j+1,rfl,by go_num,by omega,HU2,B2.out.alloc B2.out.size _⟩
        case measure=>simp [intOf];omega
    · have e:j=K:=by omega
      subst e
      have eR:R=((0,0),false):=by rw [← hU.out,List.drop_of_length_le (by rw [HK.out];exact Nat.le_refl _)];rfl
      subst eR
      clear hU HR
      have B4:Hid (Below W.heap.size W wr):=B1.out.trans (hB.out.mono B1.out.size)
      go_wp2
      try rw [Exit.noGoto_ret]
      exact bodyPost_ret (v:=idB ((0,0),false)) (by simp [results,Tryz.results260,go_sem,idB, *]) rfl ⟨rfl,(by repeat (first|refine Below.setCell ?_ (by simp;try omega) _|refine Below.alloc ?_ (by have:=B4.out.size;simp;try omega) _|refine Below.drew ?_|exact B4.out))⟩
def uchI (ps:List Plc) (nm ds:ByteArray) (c:Int):(Int×Int)×Bool:=match plcI ps c with
  | some _=>uppI ps nm ds (chL (ps.map nd) c.toNat)
  | none=>((0,0),false)
theorem uch_c {b:Nat} {ps:List Plc} {W:World} (h:WAt b ps W) (hi:WI ps) (c:Int) (nm ds:ByteArray) (fl lo st:Int) (sa:Option Addr) (sk so:Nat):Calls Tryz.prog 260 #[.pointer (some ⟨b,0,none⟩),.int .i64 c,.agg #[.string nm,.string ds,.int .i64 fl,.int .i64 lo,.int .i64 st,.slice sa sk so]] W fun e w'=>e=.returned (idB (uchI ps nm ds c))∧Below W.heap.size W w':=by
  rcases plcI_cases ps c with ⟨h1,_⟩|⟨k,q,rfl,h2,h1⟩
  · have e:uchI ps nm ds c=((0,0),false):=by rw [uchI,h1]
    rw [e];exact upp_no h c h1 nm ds fl lo st sa sk so
  · have e:uchI ps nm ds (k:Int)=uppI ps nm ds (chL (ps.map nd) k):=by rw [uchI,h1];rfl
    rw [e];exact upp_yes h hi k q h2 nm ds fl lo st sa sk so
def onI (ps:List Plc) (c:Int) (nm ds:ByteArray):(Int×Int)×Int:=match plcI ps c with
  | some q=>oneV ps (candL ps nm ds q.cl)
  | none=>((0,0),3)
theorem one_c {b:Nat} {ps:List Plc} {W:World} (h:WAt b ps W) (hi:WI ps) (c:Int) (nm ds:ByteArray):Calls Tryz.prog 226 #[.pointer (some ⟨b,0,none⟩),.int .i64 c,.string nm,.string ds] W fun e w'=>e=.returned (idE (onI ps c nm ds))∧Below W.heap.size W w':=by
  rcases plcI_cases ps c with ⟨h1,_⟩|⟨k,q,rfl,h2,h1⟩
  · have e:onI ps c nm ds=((0,0),3):=by rw [onI,h1]
    rw [e];exact one_no h c h1 nm ds
  · have e:onI ps (k:Int) nm ds=oneV ps (candL ps nm ds q.cl):=by rw [onI,h1]
    rw [e];exact one_yes h hi k q h2 nm ds
end Go.Proofs.YtenpnkkkjjdccaaGreat
