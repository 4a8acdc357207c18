import Derived.Test.YtlohdfpinmdljaaGreatDoorFlagsMask
import Derived.Handy
set_option maxRecDepth 100000
namespace Go.Proofs.YtlohdfpinmdljaaGreatDoor.Fl
open Go.RowKit
set_option maxHeartbeats 400000 in
theorem hasAny_any (f x:Int) (w:World):Calls Tryz.prog 192 #[.int .i64 f,.int .i64 x] w fun e w'=>e=.returned (.bool (hasI f x))∧w'=w:=by
  go_enter Tryz.func192,Tryz.ntmps192
  go_wp2
  go_ret
  exact ⟨rfl,rfl⟩
def allI (f x:Int):Bool:=bits .and .i64 f x == x
set_option maxHeartbeats 400000 in
theorem hasAll_any (f x:Int) (w:World):Calls Tryz.prog 118 #[.int .i64 f,.int .i64 x] w fun e w'=>e=.returned (.bool (allI f x))∧w'=w:=by
  go_enter Tryz.func118,Tryz.ntmps118
  go_wp2
  go_ret
  exact ⟨rfl,rfl⟩
def ones7:Int→Int
  | 0=>0|1=>1|2=>1|3=>2|4=>1|5=>2|6=>2|_=>3
set_option maxHeartbeats 1000000 in
theorem ones_any (k:Int) (hk:k∈[0,1,2,3,4,5,6,7]) (w:World):Calls Tryz.prog 299 #[.int .u64 k] w fun e w'=>e=.returned (.int .i64 (ones7 k))∧w'=w:=by
  simp only [List.mem_cons,List.not_mem_nil,or_false] at hk
  rcases hk with rfl|rfl|rfl|rfl|rfl|rfl|rfl|rfl <;>
  · go_enter Tryz.func299,Tryz.ntmps299
    go_wp2
    go_ret
    exact ⟨by kernel_rfl,rfl⟩
def fitI (f:Int):Bool:=!hasI f 512||(hasI f 1024&&!hasI f 48)
set_option maxHeartbeats 400000 in
theorem fitsInterface_any (f:Int) (w:World):Calls Tryz.prog 117 #[.int .i64 f] w fun e w'=>e=.returned (.bool (fitI f))∧w'=w:=by
  have HH:Hid (∀ (x:Int) (w:World),_):=hasAny_any f
  have HR:Hid (fitI f=(!hasI f 512||(hasI f 1024&&!hasI f 48))):=rfl
  generalize fitI f=r at *
  go_enter Tryz.func117,Tryz.ntmps117
  go_wp2_with (go_at_call 192;refine (HH.out _ _).mono ?_;rintro e w1 ⟨rfl,rfl⟩)
  all_goals go_ret
  all_goals exact ⟨fret_bool (by rw [HR.out];simp [*]),rfl⟩
def fitM (f:Int):Bool:=decide (ones7 (bits .and .i64 f 7)≤1)&&(!hasI f 1024||!hasI f 26)
set_option maxHeartbeats 1000000 in
theorem fitsMethod_any (f:Int) (hf:bits .and .i64 f 7∈[0,1,2,3,4,5,6,7]) (w:World):Calls Tryz.prog 247 #[.int .i64 f] w fun e w'=>e=.returned (.bool (fitM f))∧w'=w:=by
  have HH:Hid (∀ (x:Int) (w:World),_):=hasAny_any f
  have HO:Hid (∀ (w:World),_):=ones_any _ hf
  have HR:Hid (fitM f=(decide (ones7 (bits .and .i64 f 7)≤1)&&(!hasI f 1024||!hasI f 26))):=rfl
  have hr:IntKind.u64.wrap (bits .and .i64 f 7)=bits .and .i64 f 7:=by
    generalize bits .and .i64 f 7=k at hf
    simp only [List.mem_cons,List.not_mem_nil,or_false] at hf
    rcases hf with rfl|rfl|rfl|rfl|rfl|rfl|rfl|rfl <;> decide
  clear hf
  generalize fitM f=r at *
  generalize hk:bits .and .i64 f 7=k at *
  go_enter Tryz.func247,Tryz.ntmps247
  go_wp2_with (first|(go_at_call 192;refine (HH.out _ _).mono ?_;rintro e w1 ⟨rfl,rfl⟩)|(go_at_call 299;refine (HO.out _).mono ?_;rintro e w1 ⟨rfl,rfl⟩))
  all_goals go_ret
  all_goals exact ⟨fret_bool (by rw [HR.out];first|(simp [*];done)|(simp [*];omega)),rfl⟩
def fitIM (f:Int):Bool:=hasI f 3&&!hasI f 20
set_option maxHeartbeats 400000 in
theorem fitsInterfaceMethod_any (f:Int) (w:World):Calls Tryz.prog 248 #[.int .i64 f] w fun e w'=>e=.returned (.bool (fitIM f))∧w'=w:=by
  have HH:Hid (∀ (x:Int) (w:World),_):=hasAny_any f
  have HR:Hid (fitIM f=(hasI f 3&&!hasI f 20)):=rfl
  generalize fitIM f=r at *
  go_enter Tryz.func248,Tryz.ntmps248
  go_wp2_with (go_at_call 192;refine (HH.out _ _).mono ?_;rintro e w1 ⟨rfl,rfl⟩)
  all_goals go_ret
  all_goals exact ⟨fret_bool (by rw [HR.out];simp [*]),rfl⟩
set_option maxHeartbeats 400000 in
theorem fitsInit_any (f:Int) (w:World):Calls Tryz.prog 249 #[.int .i64 f] w fun e w'=>e=.returned (.bool (!hasI f 1048))∧w'=w:=by
  have HH:Hid (∀ (x:Int) (w:World),_):=hasAny_any f
  go_enter Tryz.func249,Tryz.ntmps249
  go_wp2_with (go_at_call 192;refine (HH.out _ _).mono ?_;rintro e w1 ⟨rfl,rfl⟩)
  all_goals go_ret
  all_goals exact ⟨rfl,rfl⟩
theorem own_open (f:Int):openI f=if hasI f 1 then 1 else if hasI f 4 then 4 else bits .and .i64 f 2:=by
  have h:bits .and .i64 f 2=0∨bits .and .i64 f 2=2:=by
    have e:bits .and .i64 f 2=IntKind.wrap .i64 (((BitVec.ofInt 64 f).toNat &&& 2:Nat):Int):=rfl
    rw [e]
    have h1:(BitVec.ofInt 64 f).toNat &&& 2≤2:=Nat.and_le_right
    have h2:((BitVec.ofInt 64 f).toNat &&& 2).testBit 0=false:=by rw [Nat.testBit_and];simp
    generalize (BitVec.ofInt 64 f).toNat &&& 2=m at h1 h2
    have:m=0∨m=1∨m=2:=by omega
    rcases this with rfl|rfl|rfl
    · exact .inl rfl
    · simp at h2
    · exact .inr rfl
  unfold openI
  by_cases h1:hasI f 1=true
  · rw [if_pos h1,if_pos h1]
  · rw [if_neg h1,if_neg h1]
    by_cases h4:hasI f 4=true
    · rw [if_pos h4,if_pos h4]
    · rw [if_neg h4,if_neg h4]
      unfold hasI
      rcases h with h|h <;> rw [h] <;> rfl
theorem own_cls:∀ q∈sums clsP,chkC q.1=if !fitI q.1||allI q.1 1040 then 1 else 0:=by decide
theorem own_mth:∀ q∈sums mthP,bits .and .i64 q.1 7∈[0,1,2,3,4,5,6,7]∧∀ iface ini:Bool,chkM q.1 iface ini=if !fitM q.1 then 1 else if (iface&&(ini||!fitIM q.1))||(ini&&hasI q.1 1048) then 1 else 0:=by decide
set_option maxHeartbeats 1000000 in
theorem CheckClass_any (f:Int) (hf:-9223372036854775808≤f∧f≤9223372036854775807) (w:World):Calls Tryz.prog 56 #[.int .i64 f] w fun e w'=>e=.returned (.int .i64 (chkC f))∧w'=w:=by
  have HI:Hid (∀ (w:World),_):=fitsInterface_any f
  have HA:Hid (∀ (x:Int) (w:World),_):=hasAll_any f
  have hm:=mask_cls f hf
  cases ho:onlyB f clsP with
  | false =>
    have HR:Hid (chkC f=1):=by rw [Hid,chkC,ho];rfl
    rw [ho] at hm
    generalize chkC f=r at *
    go_enter Tryz.func56,Tryz.ntmps56
    go_wp2_with (first|(go_at_call 117;refine (HI.out _).mono ?_;rintro e w1 ⟨rfl,rfl⟩)|(go_at_call 118;refine (HA.out _ _).mono ?_;rintro e w1 ⟨rfl,rfl⟩))
    all_goals go_ret
    all_goals exact ⟨fret_int HR.out.symm,rfl⟩
  | true =>
    have HR:Hid (chkC f=if !fitI f||allI f 1040 then 1 else 0):=own_cls (f,chosenW f clsP) (only_sums ho)
    rw [ho] at hm
    generalize chkC f=r at *
    go_enter Tryz.func56,Tryz.ntmps56
    go_wp2_with (first|(go_at_call 117;refine (HI.out _).mono ?_;rintro e w1 ⟨rfl,rfl⟩)|(go_at_call 118;refine (HA.out _ _).mono ?_;rintro e w1 ⟨rfl,rfl⟩))
    all_goals go_ret
    all_goals exact ⟨fret_int (by rw [HR.out];simp [*]),rfl⟩
set_option maxHeartbeats 2000000 in
theorem CheckMethod_any (f:Int) (hf:-9223372036854775808≤f∧f≤9223372036854775807) (iface:Bool) (nm:ByteArray) (w:World):Calls Tryz.prog 193 #[.int .i64 f,.bool iface,.string nm] w fun e w'=>e=.returned (.int .i64 (chkM f iface (nm.toList == [60,105,110,105,116,62])))∧w'=w:=by
  have HI:Hid (∀ (w:World),_):=fitsInterfaceMethod_any f
  have HN:Hid (∀ (w:World),_):=fitsInit_any f
  have hm:=mask_mth f hf
  cases ho:onlyB f mthP with
  | false =>
    have HR:Hid (∀ a b,chkM f a b=1):=fun a b=>by rw [chkM,ho];rfl
    rw [ho] at hm
    go_enter Tryz.func193,Tryz.ntmps193
    go_wp2
    go_ret
    exact ⟨fret_int (HR.out _ _).symm,rfl⟩
  | true =>
    obtain ⟨h7,h2⟩:=own_mth (f,chosenW f mthP) (only_sums ho)
    have HM:Hid (∀ (w:World),_):=fitsMethod_any f h7
    have HR:=h2 iface (nm.toList == [60,105,110,105,116,62])
    clear h7 h2
    rw [ho] at hm
    have HR:Hid _:=HR
    generalize chkM f iface (nm.toList == [60,105,110,105,116,62])=r at *
    dsimp only at HR
    generalize fitM f=b1 at *
    generalize fitIM f=b2 at *
    generalize hasI f 1048=b3 at *
    generalize hini:(nm.toList == [60,105,110,105,116,62])=ini at *
    cases b1 with
    | false =>
      go_enter Tryz.func193,Tryz.ntmps193
      go_wp2_with (go_at_call 247;refine (HM.out _).mono ?_;rintro e w1 ⟨rfl,rfl⟩)
      go_ret
      exact ⟨fret_int (by rw [HR.out];rfl),rfl⟩
    | true =>
      cases iface <;> cases ini <;> cases b2 <;> cases b3 <;>
      · go_enter Tryz.func193,Tryz.ntmps193
        go_wp2_with (first|(go_at_call 247;refine (HM.out _).mono ?_;rintro e w1 ⟨rfl,rfl⟩)|(go_at_call 248;refine (HI.out _).mono ?_;rintro e w1 ⟨rfl,rfl⟩)|(go_at_call 249;refine (HN.out _).mono ?_;rintro e w1 ⟨rfl,rfl⟩))
        go_ret
        exact ⟨fret_int (by rw [HR.out];rfl),rfl⟩
end Go.Proofs.YtlohdfpinmdljaaGreatDoor.Fl
