import Derived.Test.YtfbhjfpkhofifaaGreatDoorRdD
import Derived.Test.YtfbhjfpkhofifaaGreatDoorFReadF
import Derived.Test.YtfbhjfpkhofifaaGreatDoorDcA
set_option maxHeartbeats 2000000
set_option maxRecDepth 100000
namespace Go.Proofs.YtfbhjfpkhofifaaGreatDoor
open Go.RowKit
theorem Zda (fv:Value) (w:World):Calls Tryz.prog 182 #[.string ⟨#[]⟩,fv] w fun e w'=>e=.returned (.tuple #[.int .i64 0,.nilIface])∧w'=w:=by
 go_enter Tryz.func182,Tryz.ntmps182;go_wp2
 go_ret2
 exact ⟨rfl,rfl⟩
theorem Zcl (s P:ByteArray) (f x:Int) (w:World) (hS:SIn w) (hs:s.toList.isEmpty=false) (HT:∀ w:World,Calls Tryz.prog 180 #[.string s,.string ⟨#[32]⟩] w fun e w'=>e=.returned (.string P)∧w'=w)
 (HP:Calls Tryz.prog 183 #[.string P] w fun e w'=>e=.returned (.tuple #[.int .i64 f,.int .i64 x])∧Bw w w') (q:Bool) (hq:q=(!P.toList.isEmpty&&(x == 0))) :
 Calls Tryz.prog 182 #[.string s,.func (.func 183) #[] #[]] w fun e w'=>(∃ er,e=.returned (.tuple #[.int .i64 (if q then f else 0),er])∧if q then er=.nilIface else ErrV er)∧Bw w w':=by
 have HT:Hid (∀ w:World,_):=HT;have HP:Hid (Calls Tryz.prog 183 _ w _):=HP;have HS:Hid (SIn w):=hS;clear hS;generalize hA:P.toList.isEmpty=qa at *;generalize hB:(x == 0)=qb at *;have hB2:(x != 0)=!qb:=by rw [bne,hB]
 cases qa with
 | true =>
   obtain rfl:q=false:=by rw [hq];rfl
   clear hq;go_enter Tryz.func182,Tryz.ntmps182;go_wp2_with (first
    | (go_at_call 180;refine (HT.out _).mono ?_;rintro e w1 ⟨rfl,hw1⟩;rw [hw1];clear hw1 HT)
    | (go_at_call 183;refine HP.out.mono ?_;rintro e w2 ⟨rfl,hb2⟩;obtain ⟨_,⟨h5,tp,a,hc⟩,_⟩:=HS.out.keep hb2;clear HP HS))
   all_goals (try go_region)
   all_goals (try go_wp2)
   all_goals go_ret2
   all_goals first
    | exact ⟨⟨_,rfl,tp,a,rfl⟩,hb2⟩
    | exact ⟨⟨_,rfl,tp,a,rfl⟩,hb2.drew⟩
 | false =>
   cases qb with
   | true =>
     obtain rfl:q=true:=by rw [hq];rfl
     clear hq;go_enter Tryz.func182,Tryz.ntmps182;go_wp2_with (first
      | (go_at_call 180;refine (HT.out _).mono ?_;rintro e w1 ⟨rfl,hw1⟩;rw [hw1];clear hw1 HT)
      | (go_at_call 183;refine HP.out.mono ?_;rintro e w2 ⟨rfl,hb2⟩;obtain ⟨_,⟨h5,tp,a,hc⟩,_⟩:=HS.out.keep hb2;clear HP HS))
     all_goals go_ret2
     all_goals first
      | exact ⟨⟨_,rfl,rfl⟩,hb2⟩
      | exact ⟨rfl,hb2⟩
   | false =>
     obtain rfl:q=false:=by rw [hq];rfl
     clear hq;go_enter Tryz.func182,Tryz.ntmps182;go_wp2_with (first
      | (go_at_call 180;refine (HT.out _).mono ?_;rintro e w1 ⟨rfl,hw1⟩;rw [hw1];clear hw1 HT)
      | (go_at_call 183;refine HP.out.mono ?_;rintro e w2 ⟨rfl,hb2⟩;obtain ⟨_,⟨h5,tp,a,hc⟩,_⟩:=HS.out.keep hb2;clear HP HS))
     all_goals (try go_region)
     all_goals (try go_wp2)
     all_goals go_ret2
     all_goals first
      | exact ⟨⟨_,rfl,tp,a,rfl⟩,hb2⟩
      | exact ⟨⟨_,rfl,tp,a,rfl⟩,hb2.drew⟩
theorem Za9 (s:ByteArray) (hs:s.size≤40000) (h:s.data.toList=[]∨∃ r,s.data.toList=32::r) (w:World) (hG:GP w) :
 Calls Tryz.prog 182 #[.string s,.func (.func 183) #[] #[]] w fun e w'=>(∃ er,e=.returned (.tuple #[.int .i64 (if fgB clsP s.data.toList then fgN clsP s.data.toList else 0),er])∧if fgB clsP s.data.toList then er=.nilIface else ErrV er)∧Bw w w':=by
 rcases h with h|⟨r,h⟩
 ·obtain rfl:s=⟨#[]⟩:=Zf h;exact (Zda _ w).mono fun e w' ⟨h1,h2⟩=>⟨⟨.nilIface,h1,rfl⟩,by rw [h2];exact Below.refl _ _⟩
 ·have hl:r.length≤40000:=by have:=Ql s;rw [h,List.length_cons] at this;omega
  have HT:∀ w:World,Calls Tryz.prog 180 #[.string s,.string ⟨#[32]⟩] w fun e w'=>e=.returned (.string ⟨r.toArray⟩)∧w'=w:=fun w=>by
   have h1:=Zap s ⟨#[32]⟩ w;have e:(if hpB s ⟨#[32]⟩ then s.extract (⟨#[32]⟩:ByteArray).size s.size else s)=⟨r.toArray⟩:=by
    rw [Zon _ _ h,if_pos (by simp)];apply Zf;rw [Lib.extract_to_end,h];rfl
   rw [e] at h1;exact h1
  have HP:=Fl.ParseClass_any ⟨r.toArray⟩ (by rw [Zk];omega) w hG.1.2;have e1:(⟨r.toArray⟩:ByteArray).data.toList=r:=by simp
  rw [e1] at HP;have e2:fgB clsP s.data.toList=(!(⟨r.toArray⟩:ByteArray).toList.isEmpty&&(parX clsP r == 0)):=by
   rw [fgB,h,Lib.toList_data]
   cases r <;> rfl
  have e3:fgN clsP s.data.toList=parF clsP r:=by rw [fgN,h];rfl
  rw [e3];exact Zcl s ⟨r.toArray⟩ _ _ w hG.2.2.2 (by rw [Lib.toList_data,h];rfl) HT HP _ e2
theorem Zbz (s P:ByteArray) (f x:Int) (w:World) (hS:SIn w) (hs:s.toList.isEmpty=false) (HT:∀ w:World,Calls Tryz.prog 180 #[.string s,.string ⟨#[32]⟩] w fun e w'=>e=.returned (.string P)∧w'=w)
 (HP:Calls Tryz.prog 186 #[.string P] w fun e w'=>e=.returned (.tuple #[.int .i64 f,.int .i64 x])∧Bw w w') (q:Bool) (hq:q=(!P.toList.isEmpty&&(x == 0))) :
 Calls Tryz.prog 182 #[.string s,.func (.func 186) #[] #[]] w fun e w'=>(∃ er,e=.returned (.tuple #[.int .i64 (if q then f else 0),er])∧if q then er=.nilIface else ErrV er)∧Bw w w':=by
 have HT:Hid (∀ w:World,_):=HT;have HP:Hid (Calls Tryz.prog 186 _ w _):=HP;have HS:Hid (SIn w):=hS;clear hS;generalize hA:P.toList.isEmpty=qa at *;generalize hB:(x == 0)=qb at *;have hB2:(x != 0)=!qb:=by rw [bne,hB]
 cases qa with
 | true =>
   obtain rfl:q=false:=by rw [hq];rfl
   clear hq;go_enter Tryz.func182,Tryz.ntmps182;go_wp2_with (first
    | (go_at_call 180;refine (HT.out _).mono ?_;rintro e w1 ⟨rfl,hw1⟩;rw [hw1];clear hw1 HT)
    | (go_at_call 186;refine HP.out.mono ?_;rintro e w2 ⟨rfl,hb2⟩;obtain ⟨_,⟨h5,tp,a,hc⟩,_⟩:=HS.out.keep hb2;clear HP HS))
   all_goals (try go_region)
   all_goals (try go_wp2)
   all_goals go_ret2
   all_goals first
    | exact ⟨⟨_,rfl,tp,a,rfl⟩,hb2⟩
    | exact ⟨⟨_,rfl,tp,a,rfl⟩,hb2.drew⟩
 | false =>
   cases qb with
   | true =>
     obtain rfl:q=true:=by rw [hq];rfl
     clear hq;go_enter Tryz.func182,Tryz.ntmps182;go_wp2_with (first
      | (go_at_call 180;refine (HT.out _).mono ?_;rintro e w1 ⟨rfl,hw1⟩;rw [hw1];clear hw1 HT)
      | (go_at_call 186;refine HP.out.mono ?_;rintro e w2 ⟨rfl,hb2⟩;obtain ⟨_,⟨h5,tp,a,hc⟩,_⟩:=HS.out.keep hb2;clear HP HS))
     all_goals go_ret2
     all_goals first
      | exact ⟨⟨_,rfl,rfl⟩,hb2⟩
      | exact ⟨rfl,hb2⟩
   | false =>
     obtain rfl:q=false:=by rw [hq];rfl
     clear hq;go_enter Tryz.func182,Tryz.ntmps182;go_wp2_with (first
      | (go_at_call 180;refine (HT.out _).mono ?_;rintro e w1 ⟨rfl,hw1⟩;rw [hw1];clear hw1 HT)
      | (go_at_call 186;refine HP.out.mono ?_;rintro e w2 ⟨rfl,hb2⟩;obtain ⟨_,⟨h5,tp,a,hc⟩,_⟩:=HS.out.keep hb2;clear HP HS))
     all_goals (try go_region)
     all_goals (try go_wp2)
     all_goals go_ret2
     all_goals first
      | exact ⟨⟨_,rfl,tp,a,rfl⟩,hb2⟩
      | exact ⟨⟨_,rfl,tp,a,rfl⟩,hb2.drew⟩
theorem Zat (s:ByteArray) (hs:s.size≤40000) (h:s.data.toList=[]∨∃ r,s.data.toList=32::r) (w:World) (hG:GP w) :
 Calls Tryz.prog 182 #[.string s,.func (.func 186) #[] #[]] w fun e w'=>(∃ er,e=.returned (.tuple #[.int .i64 (if fgB mthP s.data.toList then fgN mthP s.data.toList else 0),er])∧if fgB mthP s.data.toList then er=.nilIface else ErrV er)∧Bw w w':=by
 rcases h with h|⟨r,h⟩
 ·obtain rfl:s=⟨#[]⟩:=Zf h;exact (Zda _ w).mono fun e w' ⟨h1,h2⟩=>⟨⟨.nilIface,h1,rfl⟩,by rw [h2];exact Below.refl _ _⟩
 ·have hl:r.length≤40000:=by have:=Ql s;rw [h,List.length_cons] at this;omega
  have HT:∀ w:World,Calls Tryz.prog 180 #[.string s,.string ⟨#[32]⟩] w fun e w'=>e=.returned (.string ⟨r.toArray⟩)∧w'=w:=fun w=>by
   have h1:=Zap s ⟨#[32]⟩ w;have e:(if hpB s ⟨#[32]⟩ then s.extract (⟨#[32]⟩:ByteArray).size s.size else s)=⟨r.toArray⟩:=by
    rw [Zon _ _ h,if_pos (by simp)];apply Zf;rw [Lib.extract_to_end,h];rfl
   rw [e] at h1;exact h1
  have HP:=Fl.ParseMethod_any ⟨r.toArray⟩ (by rw [Zk];omega) w hG.1.2;have e1:(⟨r.toArray⟩:ByteArray).data.toList=r:=by simp
  rw [e1] at HP;have e2:fgB mthP s.data.toList=(!(⟨r.toArray⟩:ByteArray).toList.isEmpty&&(parX mthP r == 0)):=by
   rw [fgB,h,Lib.toList_data]
   cases r <;> rfl
  have e3:fgN mthP s.data.toList=parF mthP r:=by rw [fgN,h];rfl
  rw [e3];exact Zbz s ⟨r.toArray⟩ _ _ w hG.2.2.2 (by rw [Lib.toList_data,h];rfl) HT HP _ e2
theorem Za {W w:World} (h:Bw W w) {b:Nat} (hb:W.heap.size≤b) (k:Nat) (v:Value):Bw W (w.setCell ⟨b,k,none⟩ v):=h.setCell hb v
def mtV (nm ds:ByteArray) (f:Int):Value:=.agg #[.string nm,.string ds,.int .i64 f,.int .i64 0,.int .i64 0,.slice none 0 0]
theorem Zfx (s R:ByteArray) (w:World) (HW:∀ w',Bw w w'→Calls Tryz.prog 155 #[.string s,.string ⟨#[109,101,116,104,111,100]⟩] w' fun e w''=>(∃ er,e=.returned (.tuple #[.string R,er])∧ErrV er)∧Below w'.heap.size w' w'') :
 Calls Tryz.prog 160 #[.string s] w fun e w'=>(∃ er,e=.returned (.tuple #[mtV ⟨#[]⟩ ⟨#[]⟩ 0,er])∧ErrV er)∧Bw w w':=by
 have HW:Hid _:=HW;unfold mtV;go_enter Tryz.func160,Tryz.ntmps160;go_wp2_with (go_at_call 155;refine (HW.out _ ((Below.refl _ _).alloc (Nat.le_refl _) _)).mono ?_;rintro e w1 ⟨⟨er,rfl,tp,a,rfl⟩,hb1⟩;have hk:=hb1.block w.heap.size (by simp);rw [heap_alloc_new] at hk;have z0:=cell_of_row w1 w.heap.size 0 _ _ _ hk;have y0:=frozen_of_row w1 w.heap.size 0 _ _ hk;have z1:=cell_of_row w1 w.heap.size 1 _ _ _ hk;have y1:=frozen_of_row w1 w.heap.size 1 _ _ hk;have z2:=cell_of_row w1 w.heap.size 2 _ _ _ hk;have y2:=frozen_of_row w1 w.heap.size 2 _ _ hk;have z3:=cell_of_row w1 w.heap.size 3 _ _ _ hk;have y3:=frozen_of_row w1 w.heap.size 3 _ _ hk;have z4:=cell_of_row w1 w.heap.size 4 _ _ _ hk;have y4:=frozen_of_row w1 w.heap.size 4 _ _ hk;have z5:=cell_of_row w1 w.heap.size 5 _ _ _ hk;have y5:=frozen_of_row w1 w.heap.size 5 _ _ hk;simp only [List.getElem?_toArray,List.getElem?_cons_zero,List.getElem?_cons_succ] at z0 z1 z2 z3 z4 z5;have hlt:w.heap.size<w1.heap.size:=(Array.getElem?_eq_some_iff.1 hk).1;have HK:Hid _:=hk;clear hk;have B1:Hid (Bw w w1):=sqT hb1;clear hb1 HW)
 exact bodyPost_ret (v:=.tuple #[.agg #[.string ⟨#[]⟩,.string ⟨#[]⟩,.int .i64 0,.int .i64 0,.int .i64 0,.slice none 0 0],.iface tp (.pointer a)]) (by simp [results,Tryz.results160,go_sem, *]) rfl ⟨⟨_,rfl,tp,a,rfl⟩,(Za (Za (Za (Za (Za (Za B1.out (Nat.le_refl _) _ _) (Nat.le_refl _) _ _) (Nat.le_refl _) _ _) (Nat.le_refl _) _ _) (Nat.le_refl _) _ _) (Nat.le_refl _) _ _)⟩
theorem Zaj (s R A R2 D F:ByteArray) (w:World) (hS:SIn w) (HW:∀ w',Bw w w'→Calls Tryz.prog 155 #[.string s,.string ⟨#[109,101,116,104,111,100]⟩] w' fun e w''=>e=.returned (.tuple #[.string R,.nilIface])∧Below w'.heap.size w' w'')
 (HP:∀ w,Calls Tryz.prog 156 #[.string R] w fun e w'=>e=.returned (.tuple #[.string A,.string R2])∧∃ n,w'=w.drewN n) (HQ:∀ w,Calls Tryz.prog 156 #[.string R2] w fun e w'=>e=.returned (.tuple #[.string D,.string F])∧∃ n,w'=w.drewN n)
 (hq:(A.toList.isEmpty||D.toList.isEmpty)=true) :
 Calls Tryz.prog 160 #[.string s] w fun e w'=>(∃ er,e=.returned (.tuple #[mtV ⟨#[]⟩ ⟨#[]⟩ 0,er])∧ErrV er)∧Bw w w':=by
 have HW:Hid _:=HW;have HP:Hid (∀ w:World,_):=HP;have HQ:Hid (∀ w:World,_):=HQ;have HS:Hid (SIn w):=hS;clear hS;unfold mtV;generalize hA:A.toList.isEmpty=qa at *;generalize hB:D.toList.isEmpty=qb at *
 cases qa with
 | true =>
   clear hq;go_enter Tryz.func160,Tryz.ntmps160;go_wp2_with (first
    | (go_at_call 155;refine (HW.out _ ((Below.refl _ _).alloc (Nat.le_refl _) _)).mono ?_;rintro e w1 ⟨rfl,hb1⟩;have hk:=hb1.block w.heap.size (by simp);rw [heap_alloc_new] at hk;have z0:=cell_of_row w1 w.heap.size 0 _ _ _ hk;have y0:=frozen_of_row w1 w.heap.size 0 _ _ hk;have z1:=cell_of_row w1 w.heap.size 1 _ _ _ hk;have y1:=frozen_of_row w1 w.heap.size 1 _ _ hk;have z2:=cell_of_row w1 w.heap.size 2 _ _ _ hk;have y2:=frozen_of_row w1 w.heap.size 2 _ _ hk;have z3:=cell_of_row w1 w.heap.size 3 _ _ _ hk;have y3:=frozen_of_row w1 w.heap.size 3 _ _ hk;have z4:=cell_of_row w1 w.heap.size 4 _ _ _ hk;have y4:=frozen_of_row w1 w.heap.size 4 _ _ hk;have z5:=cell_of_row w1 w.heap.size 5 _ _ _ hk;have y5:=frozen_of_row w1 w.heap.size 5 _ _ hk;simp only [List.getElem?_toArray,List.getElem?_cons_zero,List.getElem?_cons_succ] at z0 z1 z2 z3 z4 z5;have hlt:w.heap.size<w1.heap.size:=(Array.getElem?_eq_some_iff.1 hk).1;have HK:Hid _:=hk;clear hk;have B1:Hid (Bw w w1):=sqT hb1;have h5w:5<w.heap.size:=HS.out.2.1.1;have h5n:¬ w.heap.size=5:=(by omega);obtain ⟨_,⟨h5,tp,a,hc⟩,_⟩:=HS.out.keep B1.out;clear hb1 HW HS)
    | (go_at_call 156;refine (HP.out _).mono ?_;rintro e w2 ⟨rfl,n,rfl⟩;clear HP)
    | (go_at_call 156;refine (HQ.out _).mono ?_;rintro e w3 ⟨rfl,m,rfl⟩;clear HQ))
   all_goals (try go_region)
   all_goals (try go_wp2)
   all_goals first
    | exact bodyPost_ret (v:=.tuple #[.agg #[.string ⟨#[]⟩,.string ⟨#[]⟩,.int .i64 0,.int .i64 0,.int .i64 0,.slice none 0 0],.iface tp (.pointer a)]) (by simp [results,Tryz.results160,go_sem, *]) rfl ⟨⟨_,rfl,tp,a,rfl⟩,(Za (Za (Za (Za (Za (Za (Xe _ B1.out) (Nat.le_refl _) _ _) (Nat.le_refl _) _ _) (Nat.le_refl _) _ _) (Nat.le_refl _) _ _) (Nat.le_refl _) _ _) (Nat.le_refl _) _ _)⟩
    | exact bodyPost_ret (v:=.tuple #[.agg #[.string ⟨#[]⟩,.string ⟨#[]⟩,.int .i64 0,.int .i64 0,.int .i64 0,.slice none 0 0],.iface tp (.pointer a)]) (by simp [results,Tryz.results160,go_sem, *]) rfl ⟨⟨_,rfl,tp,a,rfl⟩,(Za (Za (Za (Za (Za (Za B1.out (Nat.le_refl _) _ _) (Nat.le_refl _) _ _) (Nat.le_refl _) _ _) (Nat.le_refl _) _ _) (Nat.le_refl _) _ _) (Nat.le_refl _) _ _)⟩
 | false =>
   obtain rfl:qb=true:=by simpa using hq
   clear hq;go_enter Tryz.func160,Tryz.ntmps160;go_wp2_with (first
    | (go_at_call 155;refine (HW.out _ ((Below.refl _ _).alloc (Nat.le_refl _) _)).mono ?_;rintro e w1 ⟨rfl,hb1⟩;have hk:=hb1.block w.heap.size (by simp);rw [heap_alloc_new] at hk;have z0:=cell_of_row w1 w.heap.size 0 _ _ _ hk;have y0:=frozen_of_row w1 w.heap.size 0 _ _ hk;have z1:=cell_of_row w1 w.heap.size 1 _ _ _ hk;have y1:=frozen_of_row w1 w.heap.size 1 _ _ hk;have z2:=cell_of_row w1 w.heap.size 2 _ _ _ hk;have y2:=frozen_of_row w1 w.heap.size 2 _ _ hk;have z3:=cell_of_row w1 w.heap.size 3 _ _ _ hk;have y3:=frozen_of_row w1 w.heap.size 3 _ _ hk;have z4:=cell_of_row w1 w.heap.size 4 _ _ _ hk;have y4:=frozen_of_row w1 w.heap.size 4 _ _ hk;have z5:=cell_of_row w1 w.heap.size 5 _ _ _ hk;have y5:=frozen_of_row w1 w.heap.size 5 _ _ hk;simp only [List.getElem?_toArray,List.getElem?_cons_zero,List.getElem?_cons_succ] at z0 z1 z2 z3 z4 z5;have hlt:w.heap.size<w1.heap.size:=(Array.getElem?_eq_some_iff.1 hk).1;have HK:Hid _:=hk;clear hk;have B1:Hid (Bw w w1):=sqT hb1;have h5w:5<w.heap.size:=HS.out.2.1.1;have h5n:¬ w.heap.size=5:=(by omega);obtain ⟨_,⟨h5,tp,a,hc⟩,_⟩:=HS.out.keep B1.out;clear hb1 HW HS)
    | (go_at_call 156;refine (HP.out _).mono ?_;rintro e w2 ⟨rfl,n,rfl⟩;clear HP)
    | (go_at_call 156;refine (HQ.out _).mono ?_;rintro e w3 ⟨rfl,m,rfl⟩;clear HQ))
   all_goals (try go_region)
   all_goals (try go_wp2)
   all_goals first
    | exact bodyPost_ret (v:=.tuple #[.agg #[.string ⟨#[]⟩,.string ⟨#[]⟩,.int .i64 0,.int .i64 0,.int .i64 0,.slice none 0 0],.iface tp (.pointer a)]) (by simp [results,Tryz.results160,go_sem, *]) rfl ⟨⟨_,rfl,tp,a,rfl⟩,(Za (Za (Za (Za (Za (Za (Xe _ B1.out) (Nat.le_refl _) _ _) (Nat.le_refl _) _ _) (Nat.le_refl _) _ _) (Nat.le_refl _) _ _) (Nat.le_refl _) _ _) (Nat.le_refl _) _ _)⟩
    | exact bodyPost_ret (v:=.tuple #[.agg #[.string ⟨#[]⟩,.string ⟨#[]⟩,.int .i64 0,.int .i64 0,.int .i64 0,.slice none 0 0],.iface tp (.pointer a)]) (by simp [results,Tryz.results160,go_sem, *]) rfl ⟨⟨_,rfl,tp,a,rfl⟩,(Za (Za (Za (Za (Za (Za B1.out (Nat.le_refl _) _ _) (Nat.le_refl _) _ _) (Nat.le_refl _) _ _) (Nat.le_refl _) _ _) (Nat.le_refl _) _ _) (Nat.le_refl _) _ _)⟩
theorem Zfw (s R A R2 D F:ByteArray) (f:Int) (E:Value→Prop) (w:World) (HW:∀ w',Bw w w'→Calls Tryz.prog 155 #[.string s,.string ⟨#[109,101,116,104,111,100]⟩] w' fun e w''=>e=.returned (.tuple #[.string R,.nilIface])∧Below w'.heap.size w' w'')
 (HP:∀ w,Calls Tryz.prog 156 #[.string R] w fun e w'=>e=.returned (.tuple #[.string A,.string R2])∧∃ n,w'=w.drewN n) (HQ:∀ w,Calls Tryz.prog 156 #[.string R2] w fun e w'=>e=.returned (.tuple #[.string D,.string F])∧∃ n,w'=w.drewN n)
 (HF:∀ w',Bw w w'→Calls Tryz.prog 182 #[.string F,.func (.func 186) #[] #[]] w' fun e w''=>(∃ er,e=.returned (.tuple #[.int .i64 f,er])∧E er)∧Below w'.heap.size w' w'')
 (hA:A.toList.isEmpty=false) (hD:D.toList.isEmpty=false) :
 Calls Tryz.prog 160 #[.string s] w fun e w'=>(∃ er,e=.returned (.tuple #[mtV A D f,er])∧E er)∧Bw w w':=by
 have HW:Hid _:=HW;have HP:Hid (∀ w:World,_):=HP;have HQ:Hid (∀ w:World,_):=HQ;have HF:Hid (∀ w:World,_→_):=HF;unfold mtV;go_enter Tryz.func160,Tryz.ntmps160;go_wp2_with (first
  | (go_at_call 155;refine (HW.out _ ((Below.refl _ _).alloc (Nat.le_refl _) _)).mono ?_;rintro e w1 ⟨rfl,hb1⟩;have hk:=hb1.block w.heap.size (by simp);rw [heap_alloc_new] at hk;have z0:=cell_of_row w1 w.heap.size 0 _ _ _ hk;have y0:=frozen_of_row w1 w.heap.size 0 _ _ hk;have z1:=cell_of_row w1 w.heap.size 1 _ _ _ hk;have y1:=frozen_of_row w1 w.heap.size 1 _ _ hk;have z2:=cell_of_row w1 w.heap.size 2 _ _ _ hk;have y2:=frozen_of_row w1 w.heap.size 2 _ _ hk;have z3:=cell_of_row w1 w.heap.size 3 _ _ _ hk;have y3:=frozen_of_row w1 w.heap.size 3 _ _ hk;have z4:=cell_of_row w1 w.heap.size 4 _ _ _ hk;have y4:=frozen_of_row w1 w.heap.size 4 _ _ hk;have z5:=cell_of_row w1 w.heap.size 5 _ _ _ hk;have y5:=frozen_of_row w1 w.heap.size 5 _ _ hk;simp only [List.getElem?_toArray,List.getElem?_cons_zero,List.getElem?_cons_succ] at z0 z1 z2 z3 z4 z5;have hlt:w.heap.size<w1.heap.size:=(Array.getElem?_eq_some_iff.1 hk).1;have HK:Hid _:=hk;clear hk;have B1:Hid (Bw w w1):=sqT hb1;clear hb1 HW)
  | (go_at_call 156;refine (HP.out _).mono ?_;rintro e w2 ⟨rfl,n,rfl⟩;clear HP)
  | (go_at_call 156;refine (HQ.out _).mono ?_;rintro e w3 ⟨rfl,m,rfl⟩;clear HQ)
  | (go_at_call 182;refine (HF.out _ (Xe _ B1.out)).mono ?_;rintro e w4 ⟨⟨er,rfl,her⟩,hb4⟩;have HK0:Hid _:=HK.out;clear z0 z1 z2 z3 z4 z5 y0 y1 y2 y3 y4 y5;have hk:=(hb4.block w.heap.size hlt).trans HK0.out;have z0:=cell_of_row w4 w.heap.size 0 _ _ _ hk;have y0:=frozen_of_row w4 w.heap.size 0 _ _ hk;have z1:=cell_of_row w4 w.heap.size 1 _ _ _ hk;have y1:=frozen_of_row w4 w.heap.size 1 _ _ hk;have z2:=cell_of_row w4 w.heap.size 2 _ _ _ hk;have y2:=frozen_of_row w4 w.heap.size 2 _ _ hk;have z3:=cell_of_row w4 w.heap.size 3 _ _ _ hk;have y3:=frozen_of_row w4 w.heap.size 3 _ _ hk;have z4:=cell_of_row w4 w.heap.size 4 _ _ _ hk;have y4:=frozen_of_row w4 w.heap.size 4 _ _ hk;have z5:=cell_of_row w4 w.heap.size 5 _ _ _ hk;have y5:=frozen_of_row w4 w.heap.size 5 _ _ hk;simp only [List.getElem?_toArray,List.getElem?_cons_zero,List.getElem?_cons_succ] at z0 z1 z2 z3 z4 z5;have hlt4:w.heap.size<w4.heap.size:=(Array.getElem?_eq_some_iff.1 hk).1;clear hk;have B4:Hid (Bw w w4):=Below.step (Xe _ B1.out) hb4;have HER:Hid (E er):=her;clear hb4 HF her))
 all_goals (try go_region)
 all_goals (try go_wp2)
 all_goals first
  | exact bodyPost_ret (v:=.tuple #[.agg #[.string A,.string D,.int .i64 f,.int .i64 0,.int .i64 0,.slice none 0 0],er]) (by simp [results,Tryz.results160,go_sem, *]) rfl ⟨⟨_,rfl,HER.out⟩,(Za (Za (Za (Za (Za (Za B4.out (Nat.le_refl _) _ _) (Nat.le_refl _) _ _) (Nat.le_refl _) _ _) (Nat.le_refl _) _ _) (Nat.le_refl _) _ _) (Nat.le_refl _) _ _)⟩
  | exact bodyPost_ret (v:=.tuple #[.agg #[.string A,.string D,.int .i64 f,.int .i64 0,.int .i64 0,.slice none 0 0],er]) (by simp [results,Tryz.results160,go_sem, *]) rfl ⟨⟨_,rfl,HER.out⟩,(Za (Za (Za (Za (Za (Za (Xe _ B4.out) (Nat.le_refl _) _ _) (Nat.le_refl _) _ _) (Nat.le_refl _) _ _) (Nat.le_refl _) _ _) (Nat.le_refl _) _ _) (Nat.le_refl _) _ _)⟩
theorem Zd4 (s:ByteArray) (hs:s.size≤40000) (w:World) (hG:GP w) :
 Calls Tryz.prog 160 #[.string s] w fun e w'=>(∃ nm ds f er,e=.returned (.tuple #[mtV nm ds f,er])∧if (fstW s.data.toList == Zq)&&mlB s.data.toList then er=.nilIface∧nm=⟨(mlN s.data.toList).toArray⟩∧ds=⟨(mlD s.data.toList).toArray⟩∧f=fgN mthP (mlF s.data.toList) else ErrV er)∧Bw w w':=by
 have HW:∀ w',Bw w w'→Calls Tryz.prog 155 #[.string s,.string ⟨#[109,101,116,104,111,100]⟩] w' fun e w''=>(∃ er,e=.returned (.tuple #[.string (if fstW s.data.toList == Zq then ⟨(Z2 s.data.toList).toArray⟩ else ⟨#[]⟩),er])∧if fstW s.data.toList == Zq then er=.nilIface else ErrV er)∧Below w'.heap.size w' w'':=fun w' h=>Zbm s ⟨#[109,101,116,104,111,100]⟩ (by decide) w' (hG.keep h).2.2.2.1
 cases hq:(fstW s.data.toList == Zq) with
 | false =>
   simp only [hq,Bool.false_eq_true,if_false] at HW;exact (Zfx s _ w HW).mono fun e w' ⟨⟨er,h1,h2⟩,h3⟩=>⟨⟨_,_,_,er,h1,h2⟩,h3⟩
 | true =>
   have hr:=(X4 s.data.toList).1;rw [Ql] at hr;simp only [hq,if_true] at HW;have HW2:∀ w',Bw w w'→Calls Tryz.prog 155 #[.string s,.string ⟨#[109,101,116,104,111,100]⟩] w' fun e w''=>e=.returned (.tuple #[.string ⟨(Z2 s.data.toList).toArray⟩,.nilIface])∧Below w'.heap.size w' w'':=fun w' h=>(HW w' h).mono fun e w' ⟨⟨er,h1,h2⟩,h3⟩=>⟨by rw [h1,h2],h3⟩;have hd:(⟨(Z2 s.data.toList).toArray⟩:ByteArray).data.toList=Z2 s.data.toList:=by simp
   have HP:=Zaw ⟨(Z2 s.data.toList).toArray⟩ (by rw [Zk];omega) (by rw [hd];exact Ye _);rw [hd] at HP;have hr2:=X4 ((Z2 s.data.toList).drop 1);rw [List.length_drop] at hr2;have hd2:(⟨(mlR s.data.toList).toArray⟩:ByteArray).data.toList=mlR s.data.toList:=by simp
   have HQ:=Zaw ⟨(mlR s.data.toList).toArray⟩ (by rw [Zk,mlR];omega) (by rw [hd2];exact Ye _);rw [hd2] at HQ;have hd3:(⟨(mlF s.data.toList).toArray⟩:ByteArray).data.toList=mlF s.data.toList:=by simp
   have hml:=ml_len s.data.toList;rw [Ql] at hml;have HF:=fun (w':World) (h:Bw w w')=>Zat ⟨(mlF s.data.toList).toArray⟩ (by rw [Zk];omega) (by rw [hd3];exact Ye _) w' (hG.keep h);rw [hd3] at HF;have ea:(⟨(mlN s.data.toList).toArray⟩:ByteArray).toList.isEmpty=(mlN s.data.toList == []):=by rw [Lib.toList_data];cases mlN s.data.toList <;> rfl
   have ed:(⟨(mlD s.data.toList).toArray⟩:ByteArray).toList.isEmpty=(mlD s.data.toList == []):=by rw [Lib.toList_data];cases mlD s.data.toList <;> rfl
   cases h1:(mlN s.data.toList == []) with
   | true =>
     have hb:mlB s.data.toList=false:=by rw [mlB,h1];rfl
     rw [hb];exact (Zaj s _ _ _ _ _ w hG.2.2.2 HW2 HP HQ (by
      have:(⟨(fstW ((Z2 s.data.toList).drop 1)).toArray⟩:ByteArray).toList.isEmpty=true:=ea.trans h1;rw [this];rfl)).mono fun e w' ⟨⟨er,h1,h2⟩,h3⟩=>⟨⟨_,_,_,er,h1,h2⟩,h3⟩
   | false =>
     cases h2:(mlD s.data.toList == []) with
     | true =>
       have hb:mlB s.data.toList=false:=by rw [mlB,h2];simp
       rw [hb];exact (Zaj s _ _ _ _ _ w hG.2.2.2 HW2 HP HQ (by
        have:(⟨(fstW ((mlR s.data.toList).drop 1)).toArray⟩:ByteArray).toList.isEmpty=true:=ed.trans h2;rw [this];simp)).mono fun e w' ⟨⟨er,h1,h2⟩,h3⟩=>⟨⟨_,_,_,er,h1,h2⟩,h3⟩
     | false =>
       have hb:mlB s.data.toList=fgB mthP (mlF s.data.toList):=by rw [mlB,h1,h2];rfl
       refine (Zfw s _ ⟨(mlN s.data.toList).toArray⟩ _ ⟨(mlD s.data.toList).toArray⟩ ⟨(mlF s.data.toList).toArray⟩ _ _ w HW2 HP HQ HF (ea.trans h1) (ed.trans h2)).mono fun e w' ⟨⟨er,h3,h4⟩,h5⟩=>⟨⟨_,_,_,er,h3,?_⟩,h5⟩;rw [hb]
       cases h6:fgB mthP (mlF s.data.toList) with
       | false=>rw [h6] at h4;exact h4
       | true=>rw [h6] at h4;exact ⟨h4,rfl,rfl,rfl⟩
def Rdr (w:World) (N b st:Nat) (c:Cls):Prop:=∃ vi vm pm B,N≤b∧w.heap[b]?=some (.cells #[.int .i64 (st:Int),.string c.nm,.string c.su,vi,.int .i64 c.fl,.int .i64 c.ld,vm] 123 (0,0))∧RowC w N vi vm c pm B
def Took (W:World) (b:Nat) (r:Option (Nat×Cls)) (e:Ending) (w':World):Prop:=(∃ er,e=.returned er∧match r with
 | some (st',c')=>er=.nilIface∧Rdr w' W.heap.size b st' c'
 | none=>ErrV er)∧Bw W w'
theorem Qu {W w':World} {b:Nat} {er:Value} (h:ErrV er) (hb:Bw W w'):Took W b none (.returned er) w':=⟨⟨er,rfl,h⟩,hb⟩
theorem Xn {W w':World} {b st':Nat} {c':Cls} (h:Rdr w' W.heap.size b st' c') (hb:Bw W w'):Took W b (some (st',c')) (.returned .nilIface) w':=⟨⟨_,rfl,rfl,h⟩,hb⟩
theorem Rdr.keep {w w':World} {N b st:Nat} {c:Cls} (h:Rdr w N b st c) (hb:Bw w w'):Rdr w' N b st c:=by
 obtain ⟨vi,vm,pm,B,h1,h2,h3⟩:=h;exact ⟨vi,vm,pm,B,h1,by rw [hb.block b (Array.getElem?_eq_some_iff.1 h2).1];exact h2,h3.below hb⟩
theorem Qm {w:World} {N b:Nat} {cs:Array Value} {vi vm:Value} {c:Cls} {pm:List (Mth×Value)} {B:Nat} (h:w.heap[b]?=some (.cells cs 123 (0,0))) (hr:RowC w N vi vm c pm B) (k:Nat) (v:Value) :
 (w.setCell ⟨b,k,none⟩ v).heap[b]?=some (.cells (cs.setIfInBounds k v) 123 (0,0))∧RowC (w.setCell ⟨b,k,none⟩ v) N vi vm c pm B :=
 ⟨Go.Joins.block_setCell h v,hr.other h (by decide) (by decide) (by decide) (Jc w b k v)⟩
theorem take_0 (W w:World) (b:Nat) (c:Cls) (s:ByteArray) (hs:s.size≤40000) (hG:GP W) (hb:Bw W w) (hr:Rdr w W.heap.size b 0 c) :
 Calls Tryz.prog 87 #[.pointer (some ⟨b,0,none⟩),.string s] w fun e w'=>Took W b (Zt 0 c s.data.toList) e w':=by
 obtain ⟨vi,vm,pm,B,hNb,hh,hR⟩:=hr;have hlt:b<w.heap.size:=(Array.getElem?_eq_some_iff.1 hh).1;have HC:Hid (Calls Tryz.prog 124 _ w _):=Zaa s ⟨#[99,108,97,115,115]⟩ hs (by decide) w (hG.keep hb).2.2.2;have hw:(⟨#[99,108,97,115,115]⟩:ByteArray).data.toList=wClass:=rfl;rw [hw] at HC;clear hw;have HR:Hid _:=hR;have HB:Hid _:=hb;have hst:Zt 0 c s.data.toList=if rnB s.data.toList wClass then some (1,{ c with nm:=⟨(rnS s.data.toList wClass).toArray⟩ }) else none:=rfl
 rw [hst];clear hst hR hG hs hb;have c0:=cell_of_row w b 0 _ _ _ hh;simp only [List.getElem?_toArray,List.getElem?_cons_zero] at c0
 cases hq:(rnB s.data.toList wClass) with
 | false =>
   rw [hq] at HC;go_enter Tryz.func87,Tryz.ntmps87;go_wp2_with (go_at_call 124;refine HC.out.mono ?_;rintro e w1 ⟨⟨er,rfl,her⟩,hb1⟩;obtain ⟨tp,a,rfl⟩:=her;have hb2:=hb1.block b hlt;rw [hh] at hb2;have z0:=cell_of_row w1 b 0 _ _ _ hb2;have z1:=cell_of_row w1 b 1 _ _ _ hb2;have y0:=frozen_of_row w1 b 0 _ _ hb2;have y1:=frozen_of_row w1 b 1 _ _ hb2;simp only [List.getElem?_toArray,List.getElem?_cons_zero,List.getElem?_cons_succ] at z0 z1;have HH:Hid _:=hb2;have B1:Hid (Bw w w1):=hb1;clear hb2 hb1 c0;clear HC)
   go_ret
   exact Qu ⟨tp,a,rfl⟩ (Za (Za (Below.step HB.out B1.out) hNb _ _) hNb _ _)
 | true =>
   rw [hq] at HC;go_enter Tryz.func87,Tryz.ntmps87;go_wp2_with (go_at_call 124;refine HC.out.mono ?_;rintro e w1 ⟨⟨er,rfl,her⟩,hb1⟩;subst her;have hb2:=hb1.block b hlt;rw [hh] at hb2;have z0:=cell_of_row w1 b 0 _ _ _ hb2;have z1:=cell_of_row w1 b 1 _ _ _ hb2;have y0:=frozen_of_row w1 b 0 _ _ hb2;have y1:=frozen_of_row w1 b 1 _ _ hb2;simp only [List.getElem?_toArray,List.getElem?_cons_zero,List.getElem?_cons_succ] at z0 z1;have HH:Hid _:=hb2;have B1:Hid (Bw w w1):=hb1;clear hb2 hb1 c0;clear HC)
   go_ret
   refine Xn ?_ (Za (Za (Below.step HB.out B1.out) hNb _ _) hNb _ _);obtain ⟨h1,r1⟩:=Qm HH.out (HR.out.below B1.out) 1 (.string ⟨(rnS s.data.toList wClass).toArray⟩);obtain ⟨h2,r2⟩:=Qm h1 r1 0 (.int .i64 1);exact ⟨vi,vm,pm,B,hNb,h2,r2.scal rfl rfl⟩
theorem take_1 (W w:World) (b:Nat) (c:Cls) (s:ByteArray) (hs:s.size≤40000) (hG:GP W) (hb:Bw W w) (hr:Rdr w W.heap.size b 1 c) :
 Calls Tryz.prog 87 #[.pointer (some ⟨b,0,none⟩),.string s] w fun e w'=>Took W b (Zt 1 c s.data.toList) e w':=by
 obtain ⟨vi,vm,pm,B,hNb,hh,hR⟩:=hr;have hlt:b<w.heap.size:=(Array.getElem?_eq_some_iff.1 hh).1;have HC:Hid (Calls Tryz.prog 124 _ w _):=Zaa s ⟨#[115,117,112,101,114]⟩ hs (by decide) w (hG.keep hb).2.2.2;have hw:(⟨#[115,117,112,101,114]⟩:ByteArray).data.toList=wSup:=rfl;rw [hw] at HC;clear hw;have HR:Hid _:=hR;have HB:Hid _:=hb;have hst:Zt 1 c s.data.toList=if rnB s.data.toList wSup then some (2,{ c with su:=⟨(rnS s.data.toList wSup).toArray⟩ }) else none:=rfl
 rw [hst];clear hst hR hG hs hb;have c0:=cell_of_row w b 0 _ _ _ hh;simp only [List.getElem?_toArray,List.getElem?_cons_zero] at c0
 cases hq:(rnB s.data.toList wSup) with
 | false =>
   rw [hq] at HC;go_enter Tryz.func87,Tryz.ntmps87;go_wp2_with (go_at_call 124;refine HC.out.mono ?_;rintro e w1 ⟨⟨er,rfl,her⟩,hb1⟩;obtain ⟨tp,a,rfl⟩:=her;have hb2:=hb1.block b hlt;rw [hh] at hb2;have z0:=cell_of_row w1 b 0 _ _ _ hb2;have z2:=cell_of_row w1 b 2 _ _ _ hb2;have y0:=frozen_of_row w1 b 0 _ _ hb2;have y2:=frozen_of_row w1 b 2 _ _ hb2;simp only [List.getElem?_toArray,List.getElem?_cons_zero,List.getElem?_cons_succ] at z0 z2;have HH:Hid _:=hb2;have B1:Hid (Bw w w1):=hb1;clear hb2 hb1 c0;clear HC)
   go_ret
   exact Qu ⟨tp,a,rfl⟩ (Za (Za (Below.step HB.out B1.out) hNb _ _) hNb _ _)
 | true =>
   rw [hq] at HC;go_enter Tryz.func87,Tryz.ntmps87;go_wp2_with (go_at_call 124;refine HC.out.mono ?_;rintro e w1 ⟨⟨er,rfl,her⟩,hb1⟩;subst her;have hb2:=hb1.block b hlt;rw [hh] at hb2;have z0:=cell_of_row w1 b 0 _ _ _ hb2;have z2:=cell_of_row w1 b 2 _ _ _ hb2;have y0:=frozen_of_row w1 b 0 _ _ hb2;have y2:=frozen_of_row w1 b 2 _ _ hb2;simp only [List.getElem?_toArray,List.getElem?_cons_zero,List.getElem?_cons_succ] at z0 z2;have HH:Hid _:=hb2;have B1:Hid (Bw w w1):=hb1;clear hb2 hb1 c0;clear HC)
   go_ret
   refine Xn ?_ (Za (Za (Below.step HB.out B1.out) hNb _ _) hNb _ _);obtain ⟨h1,r1⟩:=Qm HH.out (HR.out.below B1.out) 2 (.string ⟨(rnS s.data.toList wSup).toArray⟩);obtain ⟨h2,r2⟩:=Qm h1 r1 0 (.int .i64 2);exact ⟨vi,vm,pm,B,hNb,h2,r2.scal rfl rfl⟩
theorem take_3 (W w:World) (b:Nat) (c:Cls) (s:ByteArray) (hs:s.size≤40000) (hG:GP W) (hb:Bw W w) (hr:Rdr w W.heap.size b 3 c) :
 Calls Tryz.prog 87 #[.pointer (some ⟨b,0,none⟩),.string s] w fun e w'=>Took W b (Zt 3 c s.data.toList) e w':=by
 obtain ⟨vi,vm,pm,B,hNb,hh,hR⟩:=hr;have hlt:b<w.heap.size:=(Array.getElem?_eq_some_iff.1 hh).1;have HC:Hid (Calls Tryz.prog 126 _ w _):=Jz s ⟨#[108,111,97,100,101,114]⟩ hs (by decide) w (hG.keep hb);have hw:(⟨#[108,111,97,100,101,114]⟩:ByteArray).data.toList=wLoader:=rfl;rw [hw] at HC;clear hw;have HR:Hid _:=hR;have HB:Hid _:=hb;have hst:Zt 3 c s.data.toList=if rnB s.data.toList wLoader&&num9 (rnS s.data.toList wLoader) then some (4,{ c with ld:=(numR (rnS s.data.toList wLoader)).1 }) else none:=rfl
 rw [hst];clear hst hR hG hs hb;have c0:=cell_of_row w b 0 _ _ _ hh;simp only [List.getElem?_toArray,List.getElem?_cons_zero] at c0
 cases hq:(rnB s.data.toList wLoader&&num9 (rnS s.data.toList wLoader)) with
 | false =>
   rw [hq] at HC;go_enter Tryz.func87,Tryz.ntmps87;go_wp2_with (go_at_call 126;refine HC.out.mono ?_;rintro e w1 ⟨⟨n,er,rfl,her⟩,hb1⟩;obtain ⟨tp,a,rfl⟩:=her;have hb2:=hb1.block b hlt;rw [hh] at hb2;have z0:=cell_of_row w1 b 0 _ _ _ hb2;have z5:=cell_of_row w1 b 5 _ _ _ hb2;have y0:=frozen_of_row w1 b 0 _ _ hb2;have y5:=frozen_of_row w1 b 5 _ _ hb2;simp only [List.getElem?_toArray,List.getElem?_cons_zero,List.getElem?_cons_succ] at z0 z5;have HH:Hid _:=hb2;have B1:Hid (Bw w w1):=hb1;clear hb2 hb1 c0;clear HC)
   go_ret
   exact Qu ⟨tp,a,rfl⟩ (Za (Za (Below.step HB.out B1.out) hNb _ _) hNb _ _)
 | true =>
   rw [hq] at HC;go_enter Tryz.func87,Tryz.ntmps87;go_wp2_with (go_at_call 126;refine HC.out.mono ?_;rintro e w1 ⟨⟨n,er,rfl,her⟩,hb1⟩;obtain ⟨rfl,rfl⟩:=her;have hb2:=hb1.block b hlt;rw [hh] at hb2;have z0:=cell_of_row w1 b 0 _ _ _ hb2;have z5:=cell_of_row w1 b 5 _ _ _ hb2;have y0:=frozen_of_row w1 b 0 _ _ hb2;have y5:=frozen_of_row w1 b 5 _ _ hb2;simp only [List.getElem?_toArray,List.getElem?_cons_zero,List.getElem?_cons_succ] at z0 z5;have HH:Hid _:=hb2;have B1:Hid (Bw w w1):=hb1;clear hb2 hb1 c0;clear HC)
   go_ret
   refine Xn ?_ (Za (Za (Below.step HB.out B1.out) hNb _ _) hNb _ _);obtain ⟨h1,r1⟩:=Qm HH.out (HR.out.below B1.out) 5 (.int .i64 (numR (rnS s.data.toList wLoader)).1);obtain ⟨h2,r2⟩:=Qm h1 r1 0 (.int .i64 4);exact ⟨vi,vm,pm,B,hNb,h2,r2.scal rfl rfl⟩
theorem Xc {w:World} {N e s:Nat} {v:Value} {n:Nat} {xs:List Value} (h:w.ownsRow N e s v n xs):∃ va cap,v=.slice va n cap:=by
 rcases h.2 with ⟨h1,h2⟩|⟨g,cap,_,h1,_⟩
 ·exact ⟨none,0,by rw [h1,h2]⟩
 ·exact ⟨_,_,h1⟩
theorem Q5 {W:World} {b:Nat} {r r':Option (Nat×Cls)} {e:Ending} {w':World} (h:Took W b r e w') (he:r=r'):Took W b r' e w':=he ▸ h
theorem if_rel {W w1 w2:World} {b:Nat} {cs:Array Value} {vi vi' vm:Value} {c:Cls} {pm:List (Mth×Value)} {B:Nat} {o:Obj} {p:List UInt8} (hb:Bw W w1) (hh:w1.heap[b]?=some (.cells cs 123 (0,0))) (hr:RowC w1 W.heap.size vi vm c pm B)
 (hg:(w1.alloc o).grownBy w2 vi.ownBlock) (ho:w2.ownsRow W.heap.size 9 1 vi' (c.ifs.length+1) (c.ifs.map strV++[strV p])) :
 w2.heap[b]?=some (.cells cs 123 (0,0))∧RowC w2 W.heap.size vi' vm { c with ifs:=c.ifs++[p] } pm B∧Bw W w2:=by
 have hlt:b<w1.heap.size:=(Array.getElem?_eq_some_iff.1 hh).1;have ha:(w1.alloc o).heap[b]?=some (.cells cs 123 (0,0)):=((World.grownBy_alloc w1 o none).block b hlt (by simp)).trans hh;have hra:RowC (w1.alloc o) W.heap.size vi vm c pm B:=hr.below ((Below.refl _ _).alloc (Nat.le_refl _) _);refine ⟨?_,hra.iface hg ho,?_⟩
 ·rw [hg.block b (by simp;omega) (Qe hra.ifs ha (by decide))];exact ha
 ·exact (hb.alloc hb.size o).grown hg (by have:=hb.size;simp;omega) (fun k hk=>(hr.ifs.lt k hk).1)
theorem Zfi (W w:World) (b:Nat) (c:Cls) (s:ByteArray) (hs:s.size≤40000) (hG:GP W) (hb:Bw W w) (hr:Rdr w W.heap.size b 2 c) (hk:c.ifs.length≤50000) :
 Calls Tryz.prog 157 #[.pointer (some ⟨b,0,none⟩),.string s] w fun e w'=>Took W b (if rnB s.data.toList wIface then some (2,{ c with ifs:=c.ifs++[rnS s.data.toList wIface] }) else none) e w':=by
 obtain ⟨i0,hi,hz0,hz1,hz2⟩:=info_parts Tryz.info9;obtain ⟨vi,vm,pm,B,hNb,hh,hR⟩:=hr;have hlt:b<w.heap.size:=(Array.getElem?_eq_some_iff.1 hh).1;have HC:Hid (Calls Tryz.prog 124 _ w _):=Zaa s ⟨#[105,102,97,99,101]⟩ hs (by decide) w (hG.keep hb).2.2.2;have hw:(⟨#[105,102,97,99,101]⟩:ByteArray).data.toList=wIface:=rfl;rw [hw] at HC;clear hw;have HR:Hid _:=hR;have HB:Hid _:=hb;have hbs:=hb.size;clear hR hG hs hb;obtain ⟨RR,hRR⟩:∃ r,(if rnB s.data.toList wIface then some (2,{ c with ifs:=c.ifs++[rnS s.data.toList wIface] }) else none)=r:=⟨_,rfl⟩;rw [hRR];have HRR:Hid _:=hRR;clear hRR;obtain ⟨P,hP⟩:∃ P:ByteArray,P=⟨(rnS s.data.toList wIface).toArray⟩:=⟨_,rfl⟩;have HPV:Hid (Value.string P=strV (rnS s.data.toList wIface)):=by rw [Hid,hP];rfl
 rw [← hP] at HC;clear hP;generalize rnS s.data.toList wIface=nm at *;go_enter Tryz.func157,Tryz.ntmps157;go_wp2_with (first
  | (go_at_call 124;refine HC.out.mono ?_;rintro e w1 ⟨⟨er,rfl,her⟩,hb1⟩;have HER:Hid (if rnB s.data.toList wIface=true then er=.nilIface else ErrV er):=her;have hb2:=hb1.block b hlt;rw [hh] at hb2;have z3:=cell_of_row w1 b 3 _ _ _ hb2;simp only [List.getElem?_toArray,List.getElem?_cons_zero,List.getElem?_cons_succ] at z3;have HH:Hid _:=hb2;have B1:Hid (Bw W w1):=Below.step HB.out hb1;have R1:Hid _:=HR.out.below hb1;have hs1:=B1.out.size;clear hb2 hb1 HC her HB HR)
  | (at_builtin;refine wpList_append_own _ rfl _ _ 22 rfl W.heap.size 9 i0 (.string ⟨#[]⟩) 1 16 Tryz.underlying22 hi hz0 hz1 hz2 rfl (by decide) _ _ _ rfl (R1.out.ifs.alloc _) ⟨w1.heap.size,0,none⟩ 1 1 [.string P] rfl rfl ?c1 ?c2 ?c3 ?c4 ?c5 ?_))
 case c1=>exact cell_one_new _ _ _
 case c2=>intro u hu;simp at hu;subst hu;rfl
 case c3=>unfold maxLen;omega
 case c4=>omega
 case c5=>simp;omega
 ·intro v' w2 hown' hgrow _;obtain ⟨va',vcap',rfl⟩:=Xc hown';rw [HPV.out] at hown';obtain ⟨q1,q2,q3⟩:=if_rel B1.out HH.out R1.out hgrow hown';have z3':=cell_of_row w2 b 3 _ _ _ q1;have y3':=frozen_of_row w2 b 3 _ _ q1;simp only [List.getElem?_toArray,List.getElem?_cons_zero,List.getElem?_cons_succ] at z3';have Q1:Hid _:=q1;have Q2:Hid _:=q2;have Q3:Hid _:=q3;clear q1 q2 q3 hown' hgrow HH R1 B1 z3;go_wp2;go_ret
  obtain ⟨h1,r1⟩:=Qm Q1.out Q2.out 3 (.slice va' (c.ifs.length+1) vcap');refine Q5 ?_ HRR.out
  cases hq:rnB s.data.toList wIface with
  | false =>
    have:=HER.out;rw [hq] at this;exact Qu this (Za Q3.out hNb _ _)
  | true =>
    have:=HER.out;rw [hq] at this;simp only [if_true] at this;subst this;exact Xn ⟨_,vm,pm,B,hNb,h1,r1⟩ (Za Q3.out hNb _ _)
theorem Zfj (W w:World) (b:Nat) (c:Cls) (s:ByteArray) (hs:s.size≤40000) (hG:GP W) (hb:Bw W w) (hr:Rdr w W.heap.size b 2 c) :
 Calls Tryz.prog 158 #[.pointer (some ⟨b,0,none⟩),.string s] w fun e w'=>Took W b (if (fstW s.data.toList == wFlags)&&fgB clsP (Z2 s.data.toList) then some (3,{ c with fl:=fgN clsP (Z2 s.data.toList) }) else none) e w':=by
 obtain ⟨vi,vm,pm,B,hNb,hh,hR⟩:=hr;have hlt:b<w.heap.size:=(Array.getElem?_eq_some_iff.1 hh).1;have hG':=hG.keep hb;have HC:Hid (Calls Tryz.prog 155 _ w _):=Zbm s ⟨#[102,108,97,103,115]⟩ (by decide) w hG'.2.2.2.1;have hw:(⟨#[102,108,97,103,115]⟩:ByteArray).data.toList=wFlags:=rfl;rw [hw] at HC;clear hw;have HR:Hid _:=hR;have HB:Hid _:=hb
 cases hq:(fstW s.data.toList == wFlags) with
 | false =>
   simp only [hq] at HC;clear hR hG hs hb hG';go_enter Tryz.func158,Tryz.ntmps158;go_wp2_with (go_at_call 155;refine HC.out.mono ?_;rintro e w1 ⟨⟨er,rfl,tp,a,rfl⟩,hb1⟩;clear HC)
   go_ret
   exact Qu ⟨tp,a,rfl⟩ (Below.step HB.out hb1)
 | true =>
   rw [hq] at HC;simp only [if_true,Bool.true_and] at HC ⊢;have hd3:(⟨(Z2 s.data.toList).toArray⟩:ByteArray).data.toList=Z2 s.data.toList:=by simp
   have hr:=(X4 s.data.toList).1;rw [Ql] at hr;have HF:Hid _:=fun (w':World) (h:Bw w w')=>Za9 ⟨(Z2 s.data.toList).toArray⟩ (by rw [Zk];omega) (by rw [hd3];exact Ye _) w' (hG'.keep h);rw [hd3] at HF;clear hd3 hr hR hG hs hb hG' hq;generalize (⟨(Z2 s.data.toList).toArray⟩:ByteArray)=R at *
   cases hf:fgB clsP (Z2 s.data.toList) with
   | false =>
     rw [hf] at HF;go_enter Tryz.func158,Tryz.ntmps158;go_wp2_with (first
      | (go_at_call 155;refine HC.out.mono ?_;rintro e w1 ⟨⟨er,rfl,rfl⟩,hb1⟩;clear HC)
      | (go_at_call 182;refine (HF.out _ hb1).mono ?_;rintro e w2 ⟨⟨er,rfl,tp,a,rfl⟩,hb2⟩;have hb3:=Below.step hb1 hb2;have q1:=hb3.block b hlt;rw [hh] at q1;have z0:=cell_of_row w2 b 0 _ _ _ q1;have y0:=frozen_of_row w2 b 0 _ _ q1;have z4:=cell_of_row w2 b 4 _ _ _ q1;have y4:=frozen_of_row w2 b 4 _ _ q1;simp only [List.getElem?_toArray,List.getElem?_cons_zero,List.getElem?_cons_succ] at z0 z4;have B3:Hid (Bw w w2):=hb3;clear hb1 hb2 hb3 q1 HF))
     go_ret
     exact Qu ⟨tp,a,rfl⟩ (Za (Za (Below.step HB.out B3.out) hNb _ _) hNb _ _)
   | true =>
     rw [hf] at HF;go_enter Tryz.func158,Tryz.ntmps158;go_wp2_with (first
      | (go_at_call 155;refine HC.out.mono ?_;rintro e w1 ⟨⟨er,rfl,rfl⟩,hb1⟩;clear HC)
      | (go_at_call 182;refine (HF.out _ hb1).mono ?_;rintro e w2 ⟨⟨er,rfl,rfl⟩,hb2⟩;have hb3:=Below.step hb1 hb2;have q1:=hb3.block b hlt;rw [hh] at q1;have z0:=cell_of_row w2 b 0 _ _ _ q1;have y0:=frozen_of_row w2 b 0 _ _ q1;have z4:=cell_of_row w2 b 4 _ _ _ q1;have y4:=frozen_of_row w2 b 4 _ _ q1;simp only [List.getElem?_toArray,List.getElem?_cons_zero,List.getElem?_cons_succ] at z0 z4;have HH:Hid _:=q1;have B3:Hid (Bw w w2):=hb3;clear hb1 hb2 hb3 q1 HF))
     go_ret
     refine Xn ?_ (Za (Za (Below.step HB.out B3.out) hNb _ _) hNb _ _);obtain ⟨h1,r1⟩:=Qm HH.out (HR.out.below B3.out) 4 (.int .i64 (fgN clsP (Z2 s.data.toList)));obtain ⟨h2,r2⟩:=Qm h1 r1 0 (.int .i64 3);exact ⟨vi,vm,pm,B,hNb,h2,r2.scal rfl rfl⟩
theorem Zih (W w:World) (b:Nat) (c:Cls) (s:ByteArray) (hs:s.size≤40000) (hG:GP W) (hb:Bw W w) (hr:Rdr w W.heap.size b 2 c) (hk:c.ifs.length≤50000) :
 Calls Tryz.prog 125 #[.pointer (some ⟨b,0,none⟩),.string s] w fun e w'=>Took W b (Zt 2 c s.data.toList) e w':=by
 have HC:Hid (Calls Tryz.prog 155 _ w _):=Zbm s ⟨#[105,102,97,99,101]⟩ (by decide) w (hG.keep hb).2.2.2.1;have hw:(⟨#[105,102,97,99,101]⟩:ByteArray).data.toList=wIface:=rfl;rw [hw] at HC;clear hw;have H1:Hid _:=fun (w':World) (h:Bw w w')=>Zfi W w' b c s hs hG (Below.step hb h) (hr.keep h) hk;have H2:Hid _:=fun (w':World) (h:Bw w w')=>Zfj W w' b c s hs hG (Below.step hb h) (hr.keep h);have hst:Zt 2 c s.data.toList=if rnB s.data.toList wIface then some (2,{ c with ifs:=c.ifs++[rnS s.data.toList wIface] }) else if (fstW s.data.toList == wFlags)&&fgB clsP (Z2 s.data.toList) then some (3,{ c with fl:=fgN clsP (Z2 s.data.toList) }) else none:=rfl
 clear hr hb hG hs hk
 cases hq:(fstW s.data.toList == wIface) with
 | false =>
   have e1:rnB s.data.toList wIface=false:=by rw [rnB,hq];rfl
   rw [e1] at hst;have HS:Hid (_=_):=hst.symm;simp only [hq] at HC;clear e1 H1 hst;go_enter Tryz.func125,Tryz.ntmps125;go_wp2_with (first
    | (go_at_call 155;refine HC.out.mono ?_;rintro e w1 ⟨⟨er,rfl,tp,a,rfl⟩,hb1⟩;clear HC)
    | (go_at_call 158;refine (H2.out _ hb1).mono ?_;rintro e w2 ⟨⟨er,rfl,h1⟩,h2⟩;have HE:Hid (Took W b _ (.returned er) w2):=⟨⟨er,rfl,h1⟩,h2⟩;clear h1 h2 H2))
   go_ret
   exact Q5 HE.out HS.out
 | true =>
   have e1:(fstW s.data.toList == wFlags)=false:=by rw [eq_of_beq hq];decide
   rw [e1] at hst;have HS:Hid (_=_):=hst.symm;rw [hq] at HC;simp only [if_true] at HC;clear e1 H2 hst;generalize (⟨(Z2 s.data.toList).toArray⟩:ByteArray)=R at *;go_enter Tryz.func125,Tryz.ntmps125;go_wp2_with (first
    | (go_at_call 155;refine HC.out.mono ?_;rintro e w1 ⟨⟨er,rfl,rfl⟩,hb1⟩;clear HC)
    | (go_at_call 157;refine (H1.out _ hb1).mono ?_;rintro e w2 ⟨⟨er,rfl,h1⟩,h2⟩;have HE:Hid (Took W b _ (.returned er) w2):=⟨⟨er,rfl,h1⟩,h2⟩;clear h1 h2 H1))
   go_ret
   exact Q5 HE.out HS.out
theorem take_2 (W w:World) (b:Nat) (c:Cls) (s:ByteArray) (hs:s.size≤40000) (hG:GP W) (hb:Bw W w) (hr:Rdr w W.heap.size b 2 c) (hk:c.ifs.length≤50000) :
 Calls Tryz.prog 87 #[.pointer (some ⟨b,0,none⟩),.string s] w fun e w'=>Took W b (Zt 2 c s.data.toList) e w':=by
 have H1:Hid (Calls Tryz.prog 125 _ w _):=Zih W w b c s hs hG hb hr hk;obtain ⟨vi,vm,pm,B,hNb,hh,hR⟩:=hr;have c0:=cell_of_row w b 0 _ _ _ hh;simp only [List.getElem?_toArray,List.getElem?_cons_zero] at c0;clear hR hG hs hb hh hk;go_enter Tryz.func87,Tryz.ntmps87;go_wp2_with (go_at_call 125;refine H1.out.mono ?_;rintro e w2 ⟨⟨er,rfl,h1⟩,h2⟩;have HE:Hid (Took W b _ (.returned er) w2):=⟨⟨er,rfl,h1⟩,h2⟩;clear h1 h2 H1)
 go_ret
 exact HE.out
end Go.Proofs.YtfbhjfpkhofifaaGreatDoor
