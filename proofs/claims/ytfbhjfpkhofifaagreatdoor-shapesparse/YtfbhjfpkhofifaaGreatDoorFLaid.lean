import Derived.Test.YtfbhjfpkhofifaaGreatDoorFlagsMask
import Derived.Handy
import Derived.Lib.LaidU8
set_option maxHeartbeats 2000000
set_option maxRecDepth 100000
namespace Go.Proofs.YtfbhjfpkhofifaaGreatDoor.Fl
open Go.RowKit
theorem Jb (f x:Int) (w:World):Calls Tryz.prog 102 #[.int .i64 f,.int .i64 x] w fun e w'=>e=.returned (.bool (hasI f x))∧w'=w:=by
 go_enter Tryz.func102,Tryz.ntmps102;go_wp2;go_ret
 exact ⟨rfl,rfl⟩
def allI (f x:Int):Bool:=bits .and .i64 f x == x
theorem Zmn (f x:Int) (w:World):Calls Tryz.prog 56 #[.int .i64 f,.int .i64 x] w fun e w'=>e=.returned (.bool (allI f x))∧w'=w:=by
 go_enter Tryz.func56,Tryz.ntmps56;go_wp2;go_ret
 exact ⟨rfl,rfl⟩
def ones7:Int→Int
 | 0=>0|1=>1|2=>1|3=>2|4=>1|5=>2|6=>2|_=>3
theorem ones_any (k:Int) (hk:k∈[0,1,2,3,4,5,6,7]) (w:World):Calls Tryz.prog 163 #[.int .u64 k] w fun e w'=>e=.returned (.int .i64 (ones7 k))∧w'=w:=by
 simp only [List.mem_cons,List.not_mem_nil,or_false] at hk;rcases hk with rfl|rfl|rfl|rfl|rfl|rfl|rfl|rfl <;>
 ·go_enter Tryz.func163,Tryz.ntmps163;go_wp2;go_ret
  exact ⟨by kernel_rfl,rfl⟩
def fitI (f:Int):Bool:=!hasI f 512||(hasI f 1024&&!hasI f 48)
theorem Zca (f:Int) (w:World):Calls Tryz.prog 55 #[.int .i64 f] w fun e w'=>e=.returned (.bool (fitI f))∧w'=w:=by
 have HH:Hid (∀ (x:Int) (w:World),_):=Jb f;have HR:Hid (fitI f=(!hasI f 512||(hasI f 1024&&!hasI f 48))):=rfl;generalize fitI f=r at *;go_enter Tryz.func55,Tryz.ntmps55;go_wp2_with (go_at_call 102;refine (HH.out _ _).mono ?_;rintro e w1 ⟨rfl,rfl⟩)
 all_goals go_ret
 all_goals exact ⟨Zbk (by rw [HR.out];simp [*]),rfl⟩
def fitM (f:Int):Bool:=decide (ones7 (bits .and .i64 f 7)≤1)&&(!hasI f 1024||!hasI f 26)
theorem Qx (f:Int) (hf:bits .and .i64 f 7∈[0,1,2,3,4,5,6,7]) (w:World):Calls Tryz.prog 137 #[.int .i64 f] w fun e w'=>e=.returned (.bool (fitM f))∧w'=w:=by
 have HH:Hid (∀ (x:Int) (w:World),_):=Jb f;have HO:Hid (∀ (w:World),_):=ones_any _ hf;have HR:Hid (fitM f=(decide (ones7 (bits .and .i64 f 7)≤1)&&(!hasI f 1024||!hasI f 26))):=rfl;have hr:IntKind.u64.wrap (bits .and .i64 f 7)=bits .and .i64 f 7:=by
  generalize bits .and .i64 f 7=k at hf;simp only [List.mem_cons,List.not_mem_nil,or_false] at hf;rcases hf with rfl|rfl|rfl|rfl|rfl|rfl|rfl|rfl <;> decide
 clear hf;generalize fitM f=r at *;generalize hk:bits .and .i64 f 7=k at *;go_enter Tryz.func137,Tryz.ntmps137;go_wp2_with (first|(go_at_call 102;refine (HH.out _ _).mono ?_;rintro e w1 ⟨rfl,rfl⟩)|(go_at_call 163;refine (HO.out _).mono ?_;rintro e w1 ⟨rfl,rfl⟩))
 all_goals go_ret
 all_goals exact ⟨Zbk (by rw [HR.out];first|(simp [*];done)|(simp [*];omega)),rfl⟩
def Zou (f:Int):Bool:=hasI f 3&&!hasI f 20
theorem Jm (f:Int) (w:World):Calls Tryz.prog 138 #[.int .i64 f] w fun e w'=>e=.returned (.bool (Zou f))∧w'=w:=by
 have HH:Hid (∀ (x:Int) (w:World),_):=Jb f;have HR:Hid (Zou f=(hasI f 3&&!hasI f 20)):=rfl;generalize Zou f=r at *;go_enter Tryz.func138,Tryz.ntmps138;go_wp2_with (go_at_call 102;refine (HH.out _ _).mono ?_;rintro e w1 ⟨rfl,rfl⟩)
 all_goals go_ret
 all_goals exact ⟨Zbk (by rw [HR.out];simp [*]),rfl⟩
theorem Zhx (f:Int) (w:World):Calls Tryz.prog 139 #[.int .i64 f] w fun e w'=>e=.returned (.bool (!hasI f 1048))∧w'=w:=by
 have HH:Hid (∀ (x:Int) (w:World),_):=Jb f;go_enter Tryz.func139,Tryz.ntmps139;go_wp2_with (go_at_call 102;refine (HH.out _ _).mono ?_;rintro e w1 ⟨rfl,rfl⟩)
 all_goals go_ret
 all_goals exact ⟨rfl,rfl⟩
theorem own_cls:∀ q∈sums clsP,chkC q.1=if !fitI q.1||allI q.1 1040 then 1 else 0:=by decide
theorem own_mth:∀ q∈sums mthP,bits .and .i64 q.1 7∈[0,1,2,3,4,5,6,7]∧∀ iface ini:Bool,chkM q.1 iface ini=if !fitM q.1 then 1 else if (iface&&(ini||!Zou q.1))||(ini&&hasI q.1 1048) then 1 else 0:=by decide
theorem CheckClass_any (f:Int) (hf:-9223372036854775808≤f∧f≤9223372036854775807) (w:World):Calls Tryz.prog 23 #[.int .i64 f] w fun e w'=>e=.returned (.int .i64 (chkC f))∧w'=w:=by
 have HI:Hid (∀ (w:World),_):=Zca f;have HA:Hid (∀ (x:Int) (w:World),_):=Zmn f;have hm:=Zk1 f hf
 cases ho:Y4 f clsP with
 | false =>
   have HR:Hid (chkC f=1):=by rw [Hid,chkC,ho];rfl
   rw [ho] at hm;generalize chkC f=r at *;go_enter Tryz.func23,Tryz.ntmps23;go_wp2_with (first|(go_at_call 55;refine (HI.out _).mono ?_;rintro e w1 ⟨rfl,rfl⟩)|(go_at_call 56;refine (HA.out _ _).mono ?_;rintro e w1 ⟨rfl,rfl⟩))
   all_goals go_ret
   all_goals exact ⟨Ze HR.out.symm,rfl⟩
 | true =>
   have HR:Hid (chkC f=if !fitI f||allI f 1040 then 1 else 0):=own_cls (f,Zo f clsP) (Ja ho);rw [ho] at hm;generalize chkC f=r at *;go_enter Tryz.func23,Tryz.ntmps23;go_wp2_with (first|(go_at_call 55;refine (HI.out _).mono ?_;rintro e w1 ⟨rfl,rfl⟩)|(go_at_call 56;refine (HA.out _ _).mono ?_;rintro e w1 ⟨rfl,rfl⟩))
   all_goals go_ret
   all_goals exact ⟨Ze (by rw [HR.out];simp [*]),rfl⟩
theorem CheckMethod_any (f:Int) (hf:-9223372036854775808≤f∧f≤9223372036854775807) (iface:Bool) (nm:ByteArray) (w:World):Calls Tryz.prog 104 #[.int .i64 f,.bool iface,.string nm] w fun e w'=>e=.returned (.int .i64 (chkM f iface (nm.toList == [60,105,110,105,116,62])))∧w'=w:=by
 have HI:Hid (∀ (w:World),_):=Jm f;have HN:Hid (∀ (w:World),_):=Zhx f;have hm:=Zk0 f hf
 cases ho:Y4 f mthP with
 | false =>
   have HR:Hid (∀ a b,chkM f a b=1):=fun a b=>by rw [chkM,ho];rfl
   rw [ho] at hm;go_enter Tryz.func104,Tryz.ntmps104;go_wp2;go_ret
   exact ⟨Ze (HR.out _ _).symm,rfl⟩
 | true =>
   obtain ⟨h7,h2⟩:=own_mth (f,Zo f mthP) (Ja ho);have HM:Hid (∀ (w:World),_):=Qx f h7;have HR:=h2 iface (nm.toList == [60,105,110,105,116,62]);clear h7 h2;rw [ho] at hm;have HR:Hid _:=HR;generalize chkM f iface (nm.toList == [60,105,110,105,116,62])=r at *
   dsimp only at HR
   generalize fitM f=b1 at *;generalize Zou f=b2 at *;generalize hasI f 1048=b3 at *;generalize hini:(nm.toList == [60,105,110,105,116,62])=ini at *
   cases b1 with
   | false =>
     go_enter Tryz.func104,Tryz.ntmps104;go_wp2_with (go_at_call 137;refine (HM.out _).mono ?_;rintro e w1 ⟨rfl,rfl⟩)
     go_ret
     exact ⟨Ze (by rw [HR.out];rfl),rfl⟩
   | true =>
     cases iface <;> cases ini <;> cases b2 <;> cases b3 <;>
     ·go_enter Tryz.func104,Tryz.ntmps104;go_wp2_with (first|(go_at_call 137;refine (HM.out _).mono ?_;rintro e w1 ⟨rfl,rfl⟩)|(go_at_call 138;refine (HI.out _).mono ?_;rintro e w1 ⟨rfl,rfl⟩)|(go_at_call 139;refine (HN.out _).mono ?_;rintro e w1 ⟨rfl,rfl⟩))
      go_ret
      exact ⟨Ze (by rw [HR.out];rfl),rfl⟩
def wd11:List (List UInt8):=[wPublic,wPrivate,wProtected,wStatic,wFinal,wSuper,[],[],[],wInterface,wAbstract]
def WordsIn (w:World):Prop:=2<w.heap.size∧∀ i t,wd11[i]?=some t→w.cell? ⟨2,i,none⟩=some (.string ⟨t.toArray⟩)
theorem WordsIn.keep {w w':World} (h:WordsIn w) (hb:Bw w w'):WordsIn w' :=
 ⟨Nat.lt_of_lt_of_le h.1 hb.size,fun i t ht=>(hb.cell (p:=⟨2,i,none⟩) h.1).trans (h.2 i t ht)⟩
def wv:Array Value:=#[.string ⟨wPublic.toArray⟩,.string ⟨wPrivate.toArray⟩,.string ⟨wProtected.toArray⟩,.string ⟨wStatic.toArray⟩,.string ⟨wFinal.toArray⟩,.string ⟨wSuper.toArray⟩,.string ⟨#[]⟩,.string ⟨#[]⟩,.string ⟨#[]⟩,.string ⟨wInterface.toArray⟩,.string ⟨wAbstract.toArray⟩]
theorem wv_at (i:Nat) (t:List UInt8) (h:wd11[i]?=some t):wv[i]?=some (.string ⟨t.toArray⟩):=by
 have e:wv.toList=wd11.map txtV:=rfl;rw [← Array.getElem?_toList,e,List.getElem?_map,h];rfl
theorem Za5 (w:World) (i:Nat) (t:List UInt8) (h:wd11[i]?=some t):(Instr.index 157 (.agg wv) (.int .i64 i)).run Tryz.prog w=.ok (.string ⟨t.toArray⟩) w:=by
 have hi:i<11:=(List.getElem?_eq_some_iff.1 h).1;simp [Instr.index,run_underlying Tryz.underlying157,asIntOf,go_sem,hi,wv_at i t h]
def Xj (t:List UInt8):Int:=if t=wPublic then 1 else if t=wPrivate then 2 else if t=wProtected then 4 else if t=wStatic then 8 else if t=wFinal then 16 else if t=wSuper then 32 else if t=wInterface then 512 else if t=wAbstract then 1024 else 0
theorem flagN_at:∀ i:Fin 11,∀ t,wd11[i.val]?=some t→t≠[]→Xj t=(2 ^ i.val:Nat):=by
 intro i t h hne;have:∀ i:Fin 11,wd11[i.val]?≠some []→Xj (wd11[i.val]?.getD [])=(2 ^ i.val:Nat):=by decide
 have h2:=this i (by rw [h];simpa using hne);rw [h] at h2;exact h2
theorem Zmq (t:List UInt8) (h:∀ (j:Nat) (u:List UInt8),wd11[j]?=some u→u≠t):Xj t=0:=by
 unfold Xj;rw [if_neg (h 0 _ rfl).symm,if_neg (h 1 _ rfl).symm,if_neg (h 2 _ rfl).symm,if_neg (h 3 _ rfl).symm,if_neg (h 4 _ rfl).symm,if_neg (h 5 _ rfl).symm,if_neg (h 9 _ rfl).symm,if_neg (h 10 _ rfl).symm]
theorem pow_wrap (i:Nat) (h:i<11):wrap64 (2 ^ i)=((2 ^ i:Nat):Int):=by
 have:∀ i:Fin 11,wrap64 (2 ^ i.val)=((2 ^ i.val:Nat):Int):=by decide +kernel
 exact this ⟨i,h⟩
theorem Ze2 (s:ByteArray) (w:World) (h:WordsIn w):Calls Tryz.prog 206 #[.string s] w fun e w'=>e=.returned (.int .i64 (Xj s.data.toList))∧w'=w:=by
 have h0:=h.2 0 _ rfl;have h1:=h.2 1 _ rfl;have h2:=h.2 2 _ rfl;have h3:=h.2 3 _ rfl;have h4:=h.2 4 _ rfl;have h5:=h.2 5 _ rfl;have h6:=h.2 6 _ rfl;have h7:=h.2 7 _ rfl;have h8:=h.2 8 _ rfl;have h9:=h.2 9 _ rfl;have h10:=h.2 10 _ rfl;have HI:Hid (∀ (i:Nat) (t:List UInt8) (w:World),_→_):=fun i t w=>Za5 w i t;have HF:Hid (∀ (i:Fin 11) t,_):=flagN_at;have hse:s.toList.isEmpty=decide (s.data.toList=[]):=Zds s;have HZ:Hid _:=Zmq s.data.toList;clear h;simp only [wv] at HI;by_cases hem:s.data.toList=[]
 ·have hr:Xj s.data.toList=0:=by rw [hem];rfl
  rw [hr];simp only [hem,decide_true] at hse;go_enter Tryz.func206,Tryz.ntmps206;go_wp2;go_ret
  exact ⟨rfl,rfl⟩
 ·simp only [hem,decide_false] at hse;go_enter Tryz.func206,Tryz.ntmps206;go_wp2
  go_loop [8] (fun iv=>∃ (i:Nat),iv=.int .i64 i∧i≤11∧Hid (∀ (j:Nat) (u:List UInt8),j<i→wd11[j]?=some u→u≠s.data.toList)) (fun iv=>11 - (intOf iv).toNat)
  case atStart=>exact ⟨0,rfl,Nat.zero_le _,fun j u hj=>absurd hj (Nat.not_lt_zero _)⟩
  case round =>
   obtain ⟨i,rfl,hi,HN⟩:=hrel;by_cases hlt:i<11
   ·obtain ⟨t,ht⟩:∃ t,wd11[i]?=some t:=⟨_,List.getElem?_eq_getElem hlt⟩;have hix:∀ w,_:=fun w=>HI.out i t w ht;go_wp2
    ·rename_i hc _
     go_ret
     refine ⟨Ze ?_,rfl⟩;have e:s.data.toList=t:=by rw [← Lib.toList_data];exact eq_of_beq hc
     rw [e] at hem ⊢;rw [HF.out ⟨i,hlt⟩ t ht hem];exact pow_wrap i hlt
    ·rename_i hc
     have HN2:Hid (∀ (j:Nat) (u:List UInt8),j<i+1→wd11[j]?=some u→u≠s.data.toList):=by
      intro j u hj hu e;by_cases hji:j<i
      ·exact HN.out j u hji hu e
      ·obtain rfl:j=i:=by omega
       rw [ht] at hu;obtain rfl:=Option.some.inj hu;rw [Lib.toList_data,e] at hc;simp at hc
     go_round
     case rel=>exact ⟨i+1,by go_num,by omega,HN2⟩
     case measure=>simp [intOf];omega
   ·have hr:Xj s.data.toList=0:=HZ.out (fun j u hu=>HN.out j u (by have:=(List.getElem?_eq_some_iff.1 hu).1;simp [wd11] at this;omega) hu);clear HN HI HF HZ;go_wp2;go_ret
    exact ⟨rfl,rfl⟩
theorem Tryz.wordsG : Tryz.prog.globalNamed "arbiter/flags.words" = some 2 := by kernel_rfl
theorem Tryz.wordsT:(Tryz.prog.globals[2]?).map (·.type)=some 157:=by kernel_rfl
theorem Tryz.cells157:Tryz.prog.cellsOf 157=11:=by kernel_rfl
theorem Tryz.cells9:Tryz.prog.cellsOf 9=1:=by kernel_rfl
theorem Zbg {H:Type}:(Rows.laid_arbiter_flags_words:DataW H)=.agg (wd11.map fun t=>.lit (.string t)):=rfl
theorem Xv {H:Type} {enc:TypeId×Value→H} {w:World} {base:Nat} {sp:Nat→Bool} {held:Bool} {fuel:Nat} {cs:List Value} {p:List MemPlace}
 (h:DataW.trod enc Tryz.prog w base sp held fuel 157 cs=some (.agg (wd11.map fun t=>.lit (.string t)),p)) (i:Nat) (t:List UInt8) (ht:wd11[i]?=some t):cs[i]?=some (.string ⟨t.toArray⟩):=by
 have hi:i<11:=(List.getElem?_eq_some_iff.1 ht).1
 cases fuel with
 | zero=>simp [DataW.trod] at h
 | succ fuel =>
   simp only [DataW.trod,Tryz.underlying157,Tryz.cells9,Tryz.cells157,Nat.mul_one] at h
   split at h
   ·obtain ⟨xs,hm,hx⟩:=Option.map_eq_some_iff.1 h;have hxs:xs.map (·.1)=wd11.map fun t=>(DataW.lit (.string t):DataW H):=by
     have:=congrArg Prod.fst hx
     simpa using this
    obtain ⟨b,hb,hf⟩:=Lib.mapM_at hm i i (by simp [hi]);obtain ⟨s,hc,rfl,_⟩:=DataW.trod_string Tryz.underlying9 hf;have h1:cs[i]?=some (.string s):=by
     have:=congrArg (·[0]?) hc
     simpa [List.getElem?_take,List.getElem?_drop] using this
    have h2:(xs.map (·.1))[i]?=some (DataW.lit (.string s.data.toList):DataW H):=by simp [hb]
    rw [hxs,List.getElem?_map,ht] at h2;simp at h2;rw [h1,h2]
   ·cases h
theorem words_in {W : World} (h : Lib.VarReads Tryz.prog W "arbiter/flags.words" Rows.laid_arbiter_flags_words) : WordsIn W := by
 obtain ⟨g,t,cs,fuel,p,hg,ht,hvar,hd⟩:=h;obtain rfl:=Option.some.inj (Tryz.wordsG.symm.trans hg);obtain rfl:=Option.some.inj (Tryz.wordsT.symm.trans ht);rw [Zbg] at hd;have hc:∀ i t,wd11[i]?=some t→W.cell? ⟨2,i,none⟩=some (.string ⟨t.toArray⟩):=by
  intro i t hi;rw [World.var?_cell hg hvar i,← Array.getElem?_toList];exact Xv hd i t hi
 refine ⟨?_,hc⟩;have h0:=hc 0 _ rfl;unfold World.cell? at h0
 split at h0
 ·rename_i hh
  exact (Array.getElem?_eq_some_iff.1 hh).1
 ·cases h0
end Go.Proofs.YtfbhjfpkhofifaaGreatDoor.Fl
