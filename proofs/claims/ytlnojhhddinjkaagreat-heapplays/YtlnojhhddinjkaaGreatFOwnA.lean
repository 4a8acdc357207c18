import Derived.Test.YtlnojhhddinjkaaGreatFlagsMask
import Derived.Handy
set_option maxHeartbeats 2000000
set_option maxRecDepth 100000
namespace Go.Proofs.YtlnojhhddinjkaaGreat.Fl
open Go.RowKit
theorem Qp (f x:Int) (w:World):Calls Tryz.prog 148 #[.int .i64 f,.int .i64 x] w fun e w'=>e=.returned (.bool (hasI f x))∧w'=w:=by
 go_enter Tryz.func148,Tryz.ntmps148
 go_wp2
 go_ret
 exact ⟨rfl,rfl⟩
def allI (f x:Int):Bool:=bits .and .i64 f x == x
theorem Ziq (f x:Int) (w:World):Calls Tryz.prog 125 #[.int .i64 f,.int .i64 x] w fun e w'=>e=.returned (.bool (allI f x))∧w'=w:=by
 go_enter Tryz.func125,Tryz.ntmps125
 go_wp2
 go_ret
 exact ⟨rfl,rfl⟩
def ones7:Int→Int
 | 0=>0|1=>1|2=>1|3=>2|4=>1|5=>2|6=>2|_=>3
theorem ones_any (k:Int) (hk:k∈[0,1,2,3,4,5,6,7]) (w:World):Calls Tryz.prog 190 #[.int .u64 k] w fun e w'=>e=.returned (.int .i64 (ones7 k))∧w'=w:=by
 simp only [List.mem_cons,List.not_mem_nil,or_false] at hk
 rcases hk with rfl|rfl|rfl|rfl|rfl|rfl|rfl|rfl <;>
 ·go_enter Tryz.func190,Tryz.ntmps190
  go_wp2
  go_ret
  exact ⟨by kernel_rfl,rfl⟩
def fitI (f:Int):Bool:=!hasI f 512||(hasI f 1024&&!hasI f 48)
theorem Zag (f:Int) (w:World):Calls Tryz.prog 124 #[.int .i64 f] w fun e w'=>e=.returned (.bool (fitI f))∧w'=w:=by
 have HH:Hid (∀ (x:Int) (w:World),_):=Qp f
 have HR:Hid (fitI f=(!hasI f 512||(hasI f 1024&&!hasI f 48))):=rfl
 generalize fitI f=r at *
 go_enter Tryz.func124,Tryz.ntmps124
 go_wp2_with (go_at_call 148;refine (HH.out _ _).mono ?_;rintro e w1 ⟨rfl,rfl⟩)
 all_goals go_ret
 all_goals exact ⟨Jw (by rw [HR.out];simp [*]),rfl⟩
def fitM (f:Int):Bool:=decide (ones7 (bits .and .i64 f 7)≤1)&&(!hasI f 1024||!hasI f 26)
theorem Xb (f:Int) (hf:bits .and .i64 f 7∈[0,1,2,3,4,5,6,7]) (w:World):Calls Tryz.prog 174 #[.int .i64 f] w fun e w'=>e=.returned (.bool (fitM f))∧w'=w:=by
 have HH:Hid (∀ (x:Int) (w:World),_):=Qp f
 have HO:Hid (∀ (w:World),_):=ones_any _ hf
 have HR:Hid (fitM f=(decide (ones7 (bits .and .i64 f 7)≤1)&&(!hasI f 1024||!hasI f 26))):=rfl
 have hr:IntKind.u64.wrap (bits .and .i64 f 7)=bits .and .i64 f 7:=by
  generalize bits .and .i64 f 7=k at hf
  simp only [List.mem_cons,List.not_mem_nil,or_false] at hf
  rcases hf with rfl|rfl|rfl|rfl|rfl|rfl|rfl|rfl <;> decide
 clear hf
 generalize fitM f=r at *
 generalize hk:bits .and .i64 f 7=k at *
 go_enter Tryz.func174,Tryz.ntmps174
 go_wp2_with (first|(go_at_call 148;refine (HH.out _ _).mono ?_;rintro e w1 ⟨rfl,rfl⟩)|(go_at_call 190;refine (HO.out _).mono ?_;rintro e w1 ⟨rfl,rfl⟩))
 all_goals go_ret
 all_goals exact ⟨Jw (by rw [HR.out];first|(simp [*];done)|(simp [*];omega)),rfl⟩
def Zko (f:Int):Bool:=hasI f 3&&!hasI f 20
theorem Xt (f:Int) (w:World):Calls Tryz.prog 175 #[.int .i64 f] w fun e w'=>e=.returned (.bool (Zko f))∧w'=w:=by
 have HH:Hid (∀ (x:Int) (w:World),_):=Qp f
 have HR:Hid (Zko f=(hasI f 3&&!hasI f 20)):=rfl
 generalize Zko f=r at *
 go_enter Tryz.func175,Tryz.ntmps175
 go_wp2_with (go_at_call 148;refine (HH.out _ _).mono ?_;rintro e w1 ⟨rfl,rfl⟩)
 all_goals go_ret
 all_goals exact ⟨Jw (by rw [HR.out];simp [*]),rfl⟩
theorem Zfb (f:Int) (w:World):Calls Tryz.prog 176 #[.int .i64 f] w fun e w'=>e=.returned (.bool (!hasI f 1048))∧w'=w:=by
 have HH:Hid (∀ (x:Int) (w:World),_):=Qp f
 go_enter Tryz.func176,Tryz.ntmps176
 go_wp2_with (go_at_call 148;refine (HH.out _ _).mono ?_;rintro e w1 ⟨rfl,rfl⟩)
 all_goals go_ret
 all_goals exact ⟨rfl,rfl⟩
theorem own_cls:∀ q∈sums clsP,chkC q.1=if !fitI q.1||allI q.1 1040 then 1 else 0:=by decide
theorem own_mth:∀ q∈sums mthP,bits .and .i64 q.1 7∈[0,1,2,3,4,5,6,7]∧∀ iface ini:Bool,chkM q.1 iface ini=if !fitM q.1 then 1 else if (iface&&(ini||!Zko q.1))||(ini&&hasI q.1 1048) then 1 else 0:=by decide
theorem CheckClass_any (f:Int) (hf:-9223372036854775808≤f∧f≤9223372036854775807) (w:World):Calls Tryz.prog 93 #[.int .i64 f] w fun e w'=>e=.returned (.int .i64 (chkC f))∧w'=w:=by
 have HI:Hid (∀ (w:World),_):=Zag f
 have HA:Hid (∀ (x:Int) (w:World),_):=Ziq f
 have hm:=mask_cls f hf
 cases ho:Xf f clsP with
 | false =>
   have HR:Hid (chkC f=1):=by rw [Hid,chkC,ho];rfl
   rw [ho] at hm
   generalize chkC f=r at *
   go_enter Tryz.func93,Tryz.ntmps93
   go_wp2_with (first|(go_at_call 124;refine (HI.out _).mono ?_;rintro e w1 ⟨rfl,rfl⟩)|(go_at_call 125;refine (HA.out _ _).mono ?_;rintro e w1 ⟨rfl,rfl⟩))
   all_goals go_ret
   all_goals exact ⟨Zd HR.out.symm,rfl⟩
 | true =>
   have HR:Hid (chkC f=if !fitI f||allI f 1040 then 1 else 0):=own_cls (f,Xx f clsP) (Jq ho)
   rw [ho] at hm
   generalize chkC f=r at *
   go_enter Tryz.func93,Tryz.ntmps93
   go_wp2_with (first|(go_at_call 124;refine (HI.out _).mono ?_;rintro e w1 ⟨rfl,rfl⟩)|(go_at_call 125;refine (HA.out _ _).mono ?_;rintro e w1 ⟨rfl,rfl⟩))
   all_goals go_ret
   all_goals exact ⟨Zd (by rw [HR.out];simp [*]),rfl⟩
theorem CheckMethod_any (f:Int) (hf:-9223372036854775808≤f∧f≤9223372036854775807) (iface:Bool) (nm:ByteArray) (w:World):Calls Tryz.prog 151 #[.int .i64 f,.bool iface,.string nm] w fun e w'=>e=.returned (.int .i64 (chkM f iface (nm.toList == [60,105,110,105,116,62])))∧w'=w:=by
 have HI:Hid (∀ (w:World),_):=Xt f
 have HN:Hid (∀ (w:World),_):=Zfb f
 have hm:=mask_mth f hf
 cases ho:Xf f mthP with
 | false =>
   have HR:Hid (∀ a b,chkM f a b=1):=fun a b=>by rw [chkM,ho];rfl
   rw [ho] at hm
   go_enter Tryz.func151,Tryz.ntmps151
   go_wp2
   go_ret
   exact ⟨Zd (HR.out _ _).symm,rfl⟩
 | true =>
   obtain ⟨h7,h2⟩:=own_mth (f,Xx f mthP) (Jq ho)
   have HM:Hid (∀ (w:World),_):=Xb f h7
   have HR:=h2 iface (nm.toList == [60,105,110,105,116,62])
   clear h7 h2
   rw [ho] at hm
   have HR:Hid _:=HR
   generalize chkM f iface (nm.toList == [60,105,110,105,116,62])=r at *
   dsimp only at HR
   generalize fitM f=b1 at *
   generalize Zko f=b2 at *
   generalize hasI f 1048=b3 at *
   generalize hini:(nm.toList == [60,105,110,105,116,62])=ini at *
   cases b1 with
   | false =>
     go_enter Tryz.func151,Tryz.ntmps151
     go_wp2_with (go_at_call 174;refine (HM.out _).mono ?_;rintro e w1 ⟨rfl,rfl⟩)
     go_ret
     exact ⟨Zd (by rw [HR.out];rfl),rfl⟩
   | true =>
     cases iface <;> cases ini <;> cases b2 <;> cases b3 <;>
     ·go_enter Tryz.func151,Tryz.ntmps151
      go_wp2_with (first|(go_at_call 174;refine (HM.out _).mono ?_;rintro e w1 ⟨rfl,rfl⟩)|(go_at_call 175;refine (HI.out _).mono ?_;rintro e w1 ⟨rfl,rfl⟩)|(go_at_call 176;refine (HN.out _).mono ?_;rintro e w1 ⟨rfl,rfl⟩))
      go_ret
      exact ⟨Zd (by rw [HR.out];rfl),rfl⟩
end Go.Proofs.YtlnojhhddinjkaaGreat.Fl
