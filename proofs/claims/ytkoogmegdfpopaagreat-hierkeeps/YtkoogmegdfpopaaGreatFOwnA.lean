import Derived.Test.YtkoogmegdfpopaaGreatFlagsMask
import Derived.Handy
set_option maxHeartbeats 2000000
set_option maxRecDepth 100000
namespace Go.Proofs.YtkoogmegdfpopaaGreat.Fl
open Go.RowKit
theorem X0 (f x:Int) (w:World):Calls Tryz.prog 91 #[.int .i64 f,.int .i64 x] w fun e w'=>e=.returned (.bool (hasI f x))∧w'=w:=by
 go_enter Tryz.func91,Tryz.ntmps91
 go_wp2
 go_ret
 exact ⟨rfl,rfl⟩
def allI (f x:Int):Bool:=bits .and .i64 f x == x
theorem Zg1 (f x:Int) (w:World):Calls Tryz.prog 73 #[.int .i64 f,.int .i64 x] w fun e w'=>e=.returned (.bool (allI f x))∧w'=w:=by
 go_enter Tryz.func73,Tryz.ntmps73
 go_wp2
 go_ret
 exact ⟨rfl,rfl⟩
def ones7:Int→Int
 | 0=>0|1=>1|2=>1|3=>2|4=>1|5=>2|6=>2|_=>3
theorem ones_any (k:Int) (hk:k∈[0,1,2,3,4,5,6,7]) (w:World):Calls Tryz.prog 130 #[.int .u64 k] w fun e w'=>e=.returned (.int .i64 (ones7 k))∧w'=w:=by
 simp only [List.mem_cons,List.not_mem_nil,or_false] at hk
 rcases hk with rfl|rfl|rfl|rfl|rfl|rfl|rfl|rfl <;>
 ·go_enter Tryz.func130,Tryz.ntmps130
  go_wp2
  go_ret
  exact ⟨by kernel_rfl,rfl⟩
def fitI (f:Int):Bool:=!hasI f 512||(hasI f 1024&&!hasI f 48)
theorem Jn (f:Int) (w:World):Calls Tryz.prog 72 #[.int .i64 f] w fun e w'=>e=.returned (.bool (fitI f))∧w'=w:=by
 have HH:Hid (∀ (x:Int) (w:World),_):=X0 f
 have HR:Hid (fitI f=(!hasI f 512||(hasI f 1024&&!hasI f 48))):=rfl
 generalize fitI f=r at *
 go_enter Tryz.func72,Tryz.ntmps72
 go_wp2_with (go_at_call 91;refine (HH.out _ _).mono ?_;rintro e w1 ⟨rfl,rfl⟩)
 all_goals go_ret
 all_goals exact ⟨Qy (by rw [HR.out];simp [*]),rfl⟩
def fitM (f:Int):Bool:=decide (ones7 (bits .and .i64 f 7)≤1)&&(!hasI f 1024||!hasI f 26)
theorem Y6 (f:Int) (hf:bits .and .i64 f 7∈[0,1,2,3,4,5,6,7]) (w:World):Calls Tryz.prog 115 #[.int .i64 f] w fun e w'=>e=.returned (.bool (fitM f))∧w'=w:=by
 have HH:Hid (∀ (x:Int) (w:World),_):=X0 f
 have HO:Hid (∀ (w:World),_):=ones_any _ hf
 have HR:Hid (fitM f=(decide (ones7 (bits .and .i64 f 7)≤1)&&(!hasI f 1024||!hasI f 26))):=rfl
 have hr:IntKind.u64.wrap (bits .and .i64 f 7)=bits .and .i64 f 7:=by
  generalize bits .and .i64 f 7=k at hf
  simp only [List.mem_cons,List.not_mem_nil,or_false] at hf
  rcases hf with rfl|rfl|rfl|rfl|rfl|rfl|rfl|rfl <;> decide
 clear hf
 generalize fitM f=r at *
 generalize hk:bits .and .i64 f 7=k at *
 go_enter Tryz.func115,Tryz.ntmps115
 go_wp2_with (first|(go_at_call 91;refine (HH.out _ _).mono ?_;rintro e w1 ⟨rfl,rfl⟩)|(go_at_call 130;refine (HO.out _).mono ?_;rintro e w1 ⟨rfl,rfl⟩))
 all_goals go_ret
 all_goals exact ⟨Qy (by rw [HR.out];first|(simp [*];done)|(simp [*];omega)),rfl⟩
def Zir (f:Int):Bool:=hasI f 3&&!hasI f 20
theorem Xh (f:Int) (w:World):Calls Tryz.prog 116 #[.int .i64 f] w fun e w'=>e=.returned (.bool (Zir f))∧w'=w:=by
 have HH:Hid (∀ (x:Int) (w:World),_):=X0 f
 have HR:Hid (Zir f=(hasI f 3&&!hasI f 20)):=rfl
 generalize Zir f=r at *
 go_enter Tryz.func116,Tryz.ntmps116
 go_wp2_with (go_at_call 91;refine (HH.out _ _).mono ?_;rintro e w1 ⟨rfl,rfl⟩)
 all_goals go_ret
 all_goals exact ⟨Qy (by rw [HR.out];simp [*]),rfl⟩
theorem Zd7 (f:Int) (w:World):Calls Tryz.prog 117 #[.int .i64 f] w fun e w'=>e=.returned (.bool (!hasI f 1048))∧w'=w:=by
 have HH:Hid (∀ (x:Int) (w:World),_):=X0 f
 go_enter Tryz.func117,Tryz.ntmps117
 go_wp2_with (go_at_call 91;refine (HH.out _ _).mono ?_;rintro e w1 ⟨rfl,rfl⟩)
 all_goals go_ret
 all_goals exact ⟨rfl,rfl⟩
theorem own_cls:∀ q∈sums clsP,chkC q.1=if !fitI q.1||allI q.1 1040 then 1 else 0:=by decide
theorem own_mth:∀ q∈sums mthP,bits .and .i64 q.1 7∈[0,1,2,3,4,5,6,7]∧∀ iface ini:Bool,chkM q.1 iface ini=if !fitM q.1 then 1 else if (iface&&(ini||!Zir q.1))||(ini&&hasI q.1 1048) then 1 else 0:=by decide
theorem CheckClass_any (f:Int) (hf:-9223372036854775808≤f∧f≤9223372036854775807) (w:World):Calls Tryz.prog 50 #[.int .i64 f] w fun e w'=>e=.returned (.int .i64 (chkC f))∧w'=w:=by
 have HI:Hid (∀ (w:World),_):=Jn f
 have HA:Hid (∀ (x:Int) (w:World),_):=Zg1 f
 have hm:=mask_cls f hf
 cases ho:Y9 f clsP with
 | false =>
   have HR:Hid (chkC f=1):=by rw [Hid,chkC,ho];rfl
   rw [ho] at hm
   generalize chkC f=r at *
   go_enter Tryz.func50,Tryz.ntmps50
   go_wp2_with (first|(go_at_call 72;refine (HI.out _).mono ?_;rintro e w1 ⟨rfl,rfl⟩)|(go_at_call 73;refine (HA.out _ _).mono ?_;rintro e w1 ⟨rfl,rfl⟩))
   all_goals go_ret
   all_goals exact ⟨Zb HR.out.symm,rfl⟩
 | true =>
   have HR:Hid (chkC f=if !fitI f||allI f 1040 then 1 else 0):=own_cls (f,Xk f clsP) (Qs ho)
   rw [ho] at hm
   generalize chkC f=r at *
   go_enter Tryz.func50,Tryz.ntmps50
   go_wp2_with (first|(go_at_call 72;refine (HI.out _).mono ?_;rintro e w1 ⟨rfl,rfl⟩)|(go_at_call 73;refine (HA.out _ _).mono ?_;rintro e w1 ⟨rfl,rfl⟩))
   all_goals go_ret
   all_goals exact ⟨Zb (by rw [HR.out];simp [*]),rfl⟩
theorem CheckMethod_any (f:Int) (hf:-9223372036854775808≤f∧f≤9223372036854775807) (iface:Bool) (nm:ByteArray) (w:World):Calls Tryz.prog 94 #[.int .i64 f,.bool iface,.string nm] w fun e w'=>e=.returned (.int .i64 (chkM f iface (nm.toList == [60,105,110,105,116,62])))∧w'=w:=by
 have HI:Hid (∀ (w:World),_):=Xh f
 have HN:Hid (∀ (w:World),_):=Zd7 f
 have hm:=mask_mth f hf
 cases ho:Y9 f mthP with
 | false =>
   have HR:Hid (∀ a b,chkM f a b=1):=fun a b=>by rw [chkM,ho];rfl
   rw [ho] at hm
   go_enter Tryz.func94,Tryz.ntmps94
   go_wp2
   go_ret
   exact ⟨Zb (HR.out _ _).symm,rfl⟩
 | true =>
   obtain ⟨h7,h2⟩:=own_mth (f,Xk f mthP) (Qs ho)
   have HM:Hid (∀ (w:World),_):=Y6 f h7
   have HR:=h2 iface (nm.toList == [60,105,110,105,116,62])
   clear h7 h2
   rw [ho] at hm
   have HR:Hid _:=HR
   generalize chkM f iface (nm.toList == [60,105,110,105,116,62])=r at *
   dsimp only at HR
   generalize fitM f=b1 at *
   generalize Zir f=b2 at *
   generalize hasI f 1048=b3 at *
   generalize hini:(nm.toList == [60,105,110,105,116,62])=ini at *
   cases b1 with
   | false =>
     go_enter Tryz.func94,Tryz.ntmps94
     go_wp2_with (go_at_call 115;refine (HM.out _).mono ?_;rintro e w1 ⟨rfl,rfl⟩)
     go_ret
     exact ⟨Zb (by rw [HR.out];rfl),rfl⟩
   | true =>
     cases iface <;> cases ini <;> cases b2 <;> cases b3 <;>
     ·go_enter Tryz.func94,Tryz.ntmps94
      go_wp2_with (first|(go_at_call 115;refine (HM.out _).mono ?_;rintro e w1 ⟨rfl,rfl⟩)|(go_at_call 116;refine (HI.out _).mono ?_;rintro e w1 ⟨rfl,rfl⟩)|(go_at_call 117;refine (HN.out _).mono ?_;rintro e w1 ⟨rfl,rfl⟩))
      go_ret
      exact ⟨Zb (by rw [HR.out];rfl),rfl⟩
end Go.Proofs.YtkoogmegdfpopaaGreat.Fl
