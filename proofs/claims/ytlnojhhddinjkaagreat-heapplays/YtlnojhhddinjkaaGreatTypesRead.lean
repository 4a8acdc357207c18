import Derived.Test.YtlnojhhddinjkaaGreatRows
import Derived.Test.YtlnojhhddinjkaaGreatTypesPure
import Derived.Test.YtlnojhhddinjkaaGreatProg
import Derived.WalkSpells
import Derived.WalkLawsBesides
import Derived.Lib.Walk
import Derived.Lib.Join
import Derived.BigQuiet
import Derived.Test.YtlnojhhddinjkaaGreatSq
set_option maxHeartbeats 4000000
set_option maxRecDepth 100000
namespace Go.Proofs.YtlnojhhddinjkaaGreat
open Go.RowKit
theorem Zb {a b:Bool} (h:a=b):Ending.returned (.bool a)=.returned (.bool b):=by rw [h]
theorem Ze {k:IntKind} {a b:Int} (h:a=b):Ending.returned (.int k a)=.returned (.int k b):=by rw [h]
theorem Zcy {a b:ByteArray} (h:a=b):Ending.returned (.string a)=.returned (.string b):=by rw [h]
theorem Yp {a b:ByteArray} (h:a.data.toList=b.data.toList):a=b:=by
 obtain ⟨⟨x⟩⟩:=a;obtain ⟨⟨y⟩⟩:=b;simp at h;rw [h]
theorem Jb (c:Int) (w:World) :
 Calls Tryz.prog 168 #[.int .u8 c] w fun e w'=>e=.returned (.bool (digI c))∧w'=w:=by
 by_cases h1:(48:Int)≤c
 ·by_cases h2:c≤57
  ·go_enter Tryz.func168,Tryz.ntmps168
   go_wp2
   go_ret
   exact ⟨Zb (by rw [Bool.eq_iff_iff];simp [digI];omega),rfl⟩
  ·go_enter Tryz.func168,Tryz.ntmps168
   go_wp2
   go_ret
   exact ⟨Zb (by rw [Bool.eq_iff_iff];simp [digI];omega),rfl⟩
 ·go_enter Tryz.func168,Tryz.ntmps168
  go_wp2
  go_ret
  exact ⟨Zb (by rw [Bool.eq_iff_iff];simp [digI];omega),rfl⟩
theorem Zeq (c:Int) (w:World) :
 Calls Tryz.prog 169 #[.int .u8 c] w fun e w'=>e=.returned (.bool (ltrI c))∧w'=w:=by
 go_enter Tryz.func169,Tryz.ntmps169
 go_wp2
 all_goals (go_ret;exact ⟨Zb (by rw [Bool.eq_iff_iff];simp [ltrI];try omega),rfl⟩)
theorem Zkf (s:ByteArray):-1≤Qw s.data.toList∧Qw s.data.toList<s.size:=by
 have:=Zel s.data.toList
 simpa using this
theorem J7 (s:ByteArray) (n:Nat):(s.extract 0 n)=⟨(s.data.toList.take n).toArray⟩:=by
 apply Yp;rw [Lib.extract_data];simp
theorem Zcg (s:ByteArray) (n:Nat):(s.extract n s.size)=⟨(s.data.toList.drop n).toArray⟩:=by
 apply Yp;rw [Lib.extract_to_end]
theorem Zdd (s:ByteArray) (w:World) :
 Calls Tryz.prog 207 #[.string s,.int .u8 47] w fun e w'=>e=.returned (.int .i64 (Lib.indexByte s.data.toList 47))∧w'=w:=by
 go_enter Tryz.func207,Tryz.ntmps207
 go_wp2
 rw [run_callFunc_extern Tryz.func218 (by kernel_rfl) (by kernel_rfl) (by kernel_rfl) (e:=Extern.BytealgIndexByte.indexByte) (by kernel_rfl),Lib.run_indexByteString]
 simp only [Result.andThen]
 rw [Oper.upon_value]
 go_wp2
 go_ret
 exact ⟨rfl,rfl⟩
theorem Zer (s:ByteArray) (w:World) :
 Calls Tryz.prog 195 #[.string s,.string ⟨#[47]⟩] w fun e w'=>e=.returned (.int .i64 (Lib.indexByte s.data.toList 47))∧w'=w:=by
 by_cases hq:([47] == s.toList)=true
 ·have hi:Lib.indexByte s.data.toList 47=0:=by
   have:s.data.toList=[47]:=by rw [← Lib.toList_data];exact (beq_iff_eq.1 hq).symm
   rw [this];rfl
  have HI:Hid (Lib.indexByte s.data.toList 47=0):=hi
  clear hi
  go_enter Tryz.func195,Tryz.ntmps195
  go_wp2
  go_ret
  exact ⟨Ze HI.out.symm,rfl⟩
 ·have hq':([47] == s.toList)=false:=by simpa using hq
  clear hq
  go_enter Tryz.func195,Tryz.ntmps195
  go_wp2_with (go_at_call 207;refine (Zdd s _).mono ?_;rintro e w' ⟨rfl,rfl⟩)
  go_ret
  exact ⟨rfl,rfl⟩
theorem Zek (s:ByteArray) (w:World) (h:Lib.indexByte s.data.toList 47=-1) :
 Calls Tryz.prog 185 #[.string s,.string ⟨#[47]⟩] w fun e w'=>e=.returned (.tuple #[.string s,.string ⟨#[]⟩,.bool false])∧∃ n,w'=w.drewN n:=by
 have HB:Hid (∀ w,_):=Zer s
 rw [h] at HB
 clear h
 go_enter Tryz.func185,Tryz.ntmps185
 go_wp2_with (go_at_call 195;refine ((HB.out) _).mono ?_;rintro e w' ⟨rfl,rfl⟩)
 go_ret3
 exact ⟨rfl,0,rfl⟩
theorem Zf5 (s:ByteArray) (hs:s.size≤maxLen) (w:World) (n:Nat) (hn:n<s.size) (h:Lib.indexByte s.data.toList 47=n) :
 Calls Tryz.prog 185 #[.string s,.string ⟨#[47]⟩] w fun e w'=>e=.returned (.tuple #[.string (s.extract 0 n),.string (s.extract (n+1) s.size),.bool true])∧∃ n,w'=w.drewN n:=by
 have HB:Hid (∀ w,_):=Zer s
 rw [h] at HB
 clear h
 unfold maxLen at hs
 go_enter Tryz.func185,Tryz.ntmps185
 go_wp2_with (go_at_call 195;refine ((HB.out) _).mono ?_;rintro e w' ⟨rfl,rfl⟩)
 go_region
 all_goals (go_wp2;go_ret3;exact ⟨rfl,1,rfl⟩)
theorem cut_miss (s:ByteArray) (w:World) (h:Lib.indexByte s.data.toList 47=-1) :
 Calls Tryz.prog 167 #[.string s,.string ⟨#[47]⟩] w fun e w'=>e=.returned (.tuple #[.string s,.string ⟨#[]⟩,.bool false])∧∃ n,w'=w.drewN n:=by
 have HB:Hid (∀ w,_):=fun w=>Zek s w h
 clear h
 go_enter Tryz.func167,Tryz.ntmps167
 go_wp2_with (go_at_call 185;refine ((HB.out) _).mono ?_;rintro e w' ⟨rfl,n,rfl⟩)
 go_ret3
 exact ⟨rfl,_,rfl⟩
theorem cut_hit (s:ByteArray) (hs:s.size≤maxLen) (w:World) (n:Nat) (hn:n<s.size) (h:Lib.indexByte s.data.toList 47=n) :
 Calls Tryz.prog 167 #[.string s,.string ⟨#[47]⟩] w fun e w'=>e=.returned (.tuple #[.string (s.extract 0 n),.string (s.extract (n+1) s.size),.bool true])∧∃ n,w'=w.drewN n:=by
 have HB:Hid (∀ w,_):=fun w=>Zf5 s hs w n hn h
 clear h
 go_enter Tryz.func167,Tryz.ntmps167
 go_wp2_with (go_at_call 185;refine ((HB.out) _).mono ?_;rintro e w' ⟨rfl,n,rfl⟩)
 go_ret3
 exact ⟨rfl,_,rfl⟩
theorem Zem (s:ByteArray) (hs:s.size≤maxLen) (w:World) :
 Calls Tryz.prog 204 #[.string s,.int .u8 47] w fun e w'=>e=.returned (.int .i64 (Qw s.data.toList))∧w'=w:=by
 unfold maxLen at hs
 go_enter Tryz.func204,Tryz.ntmps204
 go_wp2
 go_loop [5] (fun vi=>∃ k:Nat,k≤s.size∧vi=.int .i64 ((k:Int) - 1)∧Hid (Qw s.data.toList=Lib.Pa.lastIdx s.data.toList 47 k)) (fun vi=>((RowKit.intOf vi)+1).toNat)
 case atStart=>exact ⟨s.size,Nat.le_refl _,by first|rfl|go_num|(congr 1;omega),rfl⟩
 case round =>
  obtain ⟨k,hk,rfl,hh⟩:=hrel
  go_wp2
  ·have hc:(((s[k - 1]).toNat:Int) == 47)=true:=by assumption
   have k1:1≤k:=by omega
   have e1:Lib.Pa.lastIdx s.data.toList 47 k=((k - 1:Nat):Int):=by
    rw [show k=(k - 1)+1 by omega,Lib.Pa.lastIdx,Lib.Pa.at_eq s (k - 1) (by omega),if_pos]
    ·rfl
    ·congr 1;apply UInt8.toNat_inj.1;have:=beq_iff_eq.1 hc;simpa using (by omega:(s[k-1]).toNat=47)
   have e2:((k - 1:Nat):Int)=(k:Int) - 1:=by omega
   go_ret
   rw [hh.out,e1,e2]
   exact ⟨rfl,rfl⟩
  ·have hc:(((s[k - 1]).toNat:Int) == 47)=false:=by assumption
   have k1:1≤k:=by omega
   have e1:Lib.Pa.lastIdx s.data.toList 47 k=Lib.Pa.lastIdx s.data.toList 47 (k - 1):=by
    conv=>lhs;rw [show k=(k - 1)+1 by omega]
    rw [Lib.Pa.lastIdx,Lib.Pa.at_eq s (k - 1) (by omega),if_neg]
    intro h
    have h':s[k-1]=47:=by simpa using h
    rw [h'] at hc;simp at hc
   refine ⟨⟨k - 1,by omega,by congr 1;omega,hh.out.trans e1⟩,?_⟩
   simp [RowKit.intOf];omega
  ·have k0:k=0:=by omega
   subst k0
   go_ret
   rw [hh.out]
   exact ⟨rfl,rfl⟩
theorem Zda (s:ByteArray) (hs:s.size≤maxLen) (w:World) :
 Calls Tryz.prog 193 #[.string s,.string ⟨#[47]⟩] w fun e w'=>e=.returned (.int .i64 (Qw s.data.toList))∧w'=w:=by
 go_enter Tryz.func193,Tryz.ntmps193
 go_wp2_with (go_at_call 204;refine (Zem s hs _).mono ?_;rintro e w' ⟨rfl,rfl⟩)
 go_ret
 exact ⟨rfl,rfl⟩
theorem Zf6 (s:ByteArray) (hs:s.size≤maxLen) (w:World) :
 Calls Tryz.prog 179 #[.string s] w fun e w'=>e=.returned (.int .i64 (Qw s.data.toList))∧w'=w:=by
 go_enter Tryz.func179,Tryz.ntmps179
 go_wp2_with (go_at_call 193;refine (Zda s hs _).mono ?_;rintro e w' ⟨rfl,rfl⟩)
 go_ret
 exact ⟨rfl,rfl⟩
theorem Zfx (s:ByteArray) (hs:s.size≤maxLen) (w:World) :
 Calls Tryz.prog 155 #[.string s] w fun e w'=>e=.returned (.string ⟨(pkgL s.data.toList).toArray⟩)∧w'=w:=by
 have hl:=Zkf s
 have HP:Hid (pkgL s.data.toList=s.data.toList.take (Qw s.data.toList).toNat):=rfl
 have hm:=hs
 unfold maxLen at hm
 have HB:Hid (∀ w,_):=Zf6 s hs
 generalize Qw s.data.toList=x at *
 by_cases hx:x=-1
 ·subst hx
  go_enter Tryz.func155,Tryz.ntmps155
  go_wp2_with (go_at_call 179;refine ((HB.out) _).mono ?_;rintro e w' ⟨rfl,rfl⟩)
  go_ret
  refine ⟨Zcy ?_,rfl⟩
  rw [HP.out]
  apply Yp;simp;left;omega
 ·obtain ⟨n,rfl⟩:∃ n:Nat,x=n:=⟨x.toNat,by omega⟩
  have hn:n<s.size:=by omega
  clear hx hl
  go_enter Tryz.func155,Tryz.ntmps155
  go_wp2_with (go_at_call 179;refine ((HB.out) _).mono ?_;rintro e w' ⟨rfl,rfl⟩)
  go_ret
  refine ⟨Zcy ?_,rfl⟩
  rw [HP.out]
  apply Yp;simp
theorem J0 (s:ByteArray) (p:UInt8→Bool) (k:Nat) (h:k<s.size):(s.data.toList.take (k+1)).all p=((s.data.toList.take k).all p&&p s[k]):=by
 rw [List.take_succ_eq_append_getElem (by simpa using h),List.all_append]
 simp
 rfl
theorem J1 (s:ByteArray) (p:UInt8→Bool):(s.data.toList.take s.size).all p=s.data.toList.all p:=by
 rw [List.take_of_length_le (by simp)]
theorem Zal (s:ByteArray) (p:UInt8→Bool) (k:Nat) (h:k<s.size) (hp:p s[k]=false):s.data.toList.all p=false:=by
 rw [List.all_eq_false]
 exact ⟨s[k],by have:=Lib.Pa.at_eq s k h;exact List.mem_of_getElem? this,by simp [hp]⟩
theorem Zb6 (s:ByteArray) (h:0<s.size):Yq s.data.toList=(!digI (s[0]).toNat&&s.data.toList.all J5):=by
 have e:=Lib.Pa.at_eq s 0 h
 cases hl:s.data.toList with
 | nil=>rw [hl] at e;simp at e
 | cons c r =>
   rw [hl] at e
   have:c=s[0]:=by simpa using e
   rw [this];rfl
theorem Zcb (s:ByteArray) (hs:s.size≤maxLen) (w:World) :
 Calls Tryz.prog 146 #[.string s] w fun e w'=>e=.returned (.bool (Yq s.data.toList))∧w'=w:=by
 unfold maxLen at hs
 by_cases h0:s.size=0
 ·have h1 : s = ⟨#[]⟩ := by apply Yp; have : s.data.toList.length = 0 := by simpa using h0
                            simpa using List.eq_nil_of_length_eq_zero this
  subst h1
  go_enter Tryz.func146,Tryz.ntmps146
  go_wp2
  go_ret
  exact ⟨rfl,rfl⟩
 ·have hpos:0<s.size:=by omega
  have HP:Hid (Yq s.data.toList=(!digI (s[0]).toNat&&s.data.toList.all J5)):=Zb6 s hpos
  have hne:s.toList.isEmpty=false:=by
   rw [Lib.toList_data,List.isEmpty_eq_false_iff]
   intro h;have h2:s.data.toList.length=0:=by rw [h];rfl
   have h3:s.data.toList.length=s.size:=by simp
   omega
  generalize Yq s.data.toList=b at *
  by_cases hd:digI (s[0]).toNat=true
  ·have HD:Hid (∀ w,Calls Tryz.prog 168 #[.int .u8 (s[0]).toNat] w fun e w'=>e=.returned (.bool true)∧w'=w):=by
    have:=Jb (s[0]).toNat;rw [hd] at this;exact this
   have HB:Hid (b=false):=by have:=HP.out;rw [hd] at this;exact this
   clear hd HP
   go_enter Tryz.func146,Tryz.ntmps146
   go_wp2_with (go_at_call 168;refine ((HD.out) _).mono ?_;rintro e w' ⟨rfl,rfl⟩)
   go_ret
   exact ⟨Zb HB.out.symm,rfl⟩
  ·have hd':digI (s[0]).toNat=false:=by simpa using hd
   have HD:Hid (∀ w,Calls Tryz.prog 168 #[.int .u8 (s[0]).toNat] w fun e w'=>e=.returned (.bool false)∧w'=w):=by
    have:=Jb (s[0]).toNat;rw [hd'] at this;exact this
   have HB:Hid (b=s.data.toList.all J5):=by have:=HP.out;rw [hd'] at this;exact this
   clear hd hd' HP
   go_enter Tryz.func146,Tryz.ntmps146
   go_wp2_with (go_at_call 168;refine ((HD.out) _).mono ?_;rintro e w' ⟨rfl,rfl⟩)
   go_loop [13] (fun i=>∃ k:Nat,k≤s.size∧i=.int .i64 k∧Hid ((s.data.toList.take k).all J5=true)) (fun i=>s.size - (intOf i).toNat)
   case atStart=>exact ⟨0,Nat.zero_le _,rfl,by simp [Hid]⟩
   case round =>
    obtain ⟨k,hk,rfl,hr⟩:=hrel
    clear HD
    by_cases hlt:k<s.size
    ·have HS:Hid _:=J0 s J5 k hlt
     have HF:Hid _:=Zal s J5 k hlt
     have hw:J5 s[k]=(ltrI (s[k]).toNat||digI (s[k]).toNat):=rfl
     rw [hw] at HS HF
     clear hw
     have HL:Hid (∀ w,_):=Zeq (s[k]).toNat
     have HG:Hid (∀ w,_):=Jb (s[k]).toNat
     generalize ltrI (s[k]).toNat=l at *
     generalize digI (s[k]).toNat=d at *
     cases l
     ·cases d
      ·go_wp2_with (first|(go_at_call 169;refine ((HL.out) _).mono ?_;rintro e w' ⟨rfl,rfl⟩)|(go_at_call 168;refine ((HG.out) _).mono ?_;rintro e w' ⟨rfl,rfl⟩))
       go_ret
       exact ⟨Zb (by rw [HB.out];exact (HF.out rfl).symm),rfl⟩
      ·go_wp2_with (first|(go_at_call 169;refine ((HL.out) _).mono ?_;rintro e w' ⟨rfl,rfl⟩)|(go_at_call 168;refine ((HG.out) _).mono ?_;rintro e w' ⟨rfl,rfl⟩))
       go_round
       case rel=>exact ⟨k+1,by omega,by go_num,by rw [Hid,HS.out,hr.out];rfl⟩
       case measure=>simp [intOf];omega
     ·go_wp2_with (first|(go_at_call 169;refine ((HL.out) _).mono ?_;rintro e w' ⟨rfl,rfl⟩)|(go_at_call 168;refine ((HG.out) _).mono ?_;rintro e w' ⟨rfl,rfl⟩))
      go_round
      case rel=>exact ⟨k+1,by omega,by go_num,by rw [Hid,HS.out,hr.out];rfl⟩
      case measure=>simp [intOf];omega
    ·have hk':k=s.size:=by omega
     go_wp2
     go_ret
     refine ⟨Zb ?_,rfl⟩
     rw [HB.out,← J1,← hk',hr.out]
def strV (p:List UInt8):Value:=.string ⟨p.toArray⟩
def lenV:Value→Nat | .string s=>s.size|_=>0
def boolV:Value→Nat | .bool true=>1|_=>0
theorem Tryz.info9:(Tryz.prog.info? 9).map (fun i=>(i.zero,i.size,i.bytes))=some (some (.string ⟨#[]⟩),1,16):=by kernel_rfl
theorem Zec {w wr w1:World} {nq:Nat} {B:Nat} {v v':Value} {done:List (List UInt8)} {part:ByteArray} {o:Obj}
 (hB:B≤wr.heap.size) (hown:wr.ownsRow B 9 1 v done.length (done.map strV)) (hbel:Below B w wr)
 (hown':w1.ownsRow B 9 1 v' (done.length+1) (done.map strV++[.string part])) (hg:((wr.drewN nq).alloc o).grownBy w1 v.ownBlock) :
 w1.ownsRow B 9 1 v' (done++[part.data.toList]).length ((done++[part.data.toList]).map strV)∧Below B w w1:=by
 constructor
 ·simpa [strV] using hown'
 ·refine ((below_drewN hbel nq).alloc (by simpa using hB) o).grown hg (by simp;omega) ?_
  intro k hk
  exact (hown.lt k hk).1
theorem Ja (b:List UInt8):(⟨b.toArray⟩:ByteArray).size=b.length:=by show b.toArray.size=_;simp
theorem Zes {w:World} {base:Nat} {e:TypeId} {size:Nat} {v:Value} {n:Nat} {xs:List Value} (h:w.ownsRow base e size v n xs) (q:Nat):(w.drewN q).ownsRow base e size v n xs:=h
theorem Zj3 (s:ByteArray) (hs:s.size≤1099511627776) (w:World) :
 Calls Tryz.prog 145 #[.string s] w fun e w'=>∃ v,e=.returned v∧w'.ownsRow w.heap.size 9 1 v (Zo s.data.toList).length ((Zo s.data.toList).map strV)∧Bw w w':=by
 obtain ⟨i0,hi,hz0,hz1,hz2⟩:=info_parts Tryz.info9
 have HL:Hid _:=Yr s.data.toList
 go_enter Tryz.func145,Tryz.ntmps145
 go_wp2
 go_loopw [3,4,5] (fun v r m wr=>∃ (done:List (List UInt8)) (rest:ByteArray) (b:Bool),r=.string rest∧m=.bool b∧rest.size≤s.size ∧
  wr.ownsRow w.heap.size 9 1 v done.length (done.map strV)∧Bw w wr∧Hid (done++(if b then Zo rest.data.toList else [])=Zo s.data.toList))
  (fun _ r m _=>(lenV r+1) * boolV m)
 case atStart=>exact ⟨[],s,true,rfl,rfl,Nat.le_refl _,World.ownsRow_nil _ _ _ _,Below.refl _ _,by simp [Hid]⟩
 case round =>
  obtain ⟨done,rest,b,rfl,rfl,hrs,hown,hbel,hp⟩:=hrel
  cases b
  ·go_wp2
   go_ret
   have he:done=Zo s.data.toList:=by have:=hp.out;simpa using this
   rw [← he]
   exact ⟨_,rfl,hown,hbel⟩
  ·have hbs:=hbel.size
   by_cases hx:Lib.indexByte rest.data.toList 47=-1
   ·have HC:Hid (∀ w,_):=fun w=>cut_miss rest w hx
    have hd:done++[rest.data.toList]=Zo s.data.toList:=by have:=hp.out;rw [if_pos rfl,Za7 _ (Zbv _ hx)] at this;exact this
    have hdl:done.length+1≤s.size+1:=by have:=HL.out;rw [← hd] at this;simpa using this
    have HD:Hid _:=hd
    clear hx hp hd HL
    go_wp2_with (first
     | (go_at_call 167;refine ((HC.out) _).mono ?_;rintro e w' ⟨rfl,nq,rfl⟩)
     | (at_builtin;refine wpList_append_own _ rfl _ _ 52 rfl w.heap.size 9 i0 (.string ⟨#[]⟩) 1 16 Tryz.underlying52 hi hz0 hz1 hz2 rfl (by decide) _ _ _ rfl ((Zes hown _).alloc _) ⟨wr.heap.size,0,none⟩ 1 1 [.string rest] rfl rfl ?c1 ?c2 ?c3 ?c4 ?c5 ?_))
    case c1=>exact cell_one_new _ _ _
    case c2=>intro u hu;simp at hu;subst hu;rfl
    case c3=>unfold maxLen;omega
    case c4=>omega
    case c5=>simp;omega
    ·intro v' w1 hown' hgrow _
     have R:=Zec hbs hown hbel hown' hgrow
     clear hown' hgrow hown
     go_wp2
     go_roundw
     case rel=>exact ⟨done++[rest.data.toList],⟨#[]⟩,false,rfl,rfl,Nat.zero_le _,R.1,R.2,by have:=HD.out;simpa [Hid] using this⟩
     case measure=>simp [lenV,boolV]
   ·obtain ⟨a,b,hab,ha,hix⟩:=Zdc _ hx
    have hsz : rest.size = a.length + 1 + b.length := by have : rest.data.toList.length = rest.size := by simp
                                                         rw [← this,hab];simp;omega
    have han:a.length<rest.size:=by omega
    have HC:Hid (∀ w,_):=fun w=>cut_hit rest (by unfold maxLen;omega) w a.length han hix
    have e1:rest.extract 0 a.length=⟨a.toArray⟩:=by rw [J7,hab];simp
    have e2:rest.extract (a.length+1) rest.size=⟨b.toArray⟩:=by
     rw [Zcg,hab,show a++47::b=(a++[47])++b by simp,List.drop_left' (by simp)]
    rw [e1,e2] at HC
    have hd:done++[a]++Zo b=Zo s.data.toList:=by have:=hp.out;rw [if_pos rfl,hab,Zb5 _ _ ha] at this;simpa using this
    have hdl:done.length+1≤s.size+1:=by have:=HL.out;rw [← hd] at this;simp at this;omega
    have HD:Hid _:=hd
    clear hx hp hd HL hab ha hix e1 e2
    go_wp2_with (first
     | (go_at_call 167;refine ((HC.out) _).mono ?_;rintro e w' ⟨rfl,nq,rfl⟩)
     | (at_builtin;refine wpList_append_own _ rfl _ _ 52 rfl w.heap.size 9 i0 (.string ⟨#[]⟩) 1 16 Tryz.underlying52 hi hz0 hz1 hz2 rfl (by decide) _ _ _ rfl ((Zes hown _).alloc _) ⟨wr.heap.size,0,none⟩ 1 1 [.string ⟨a.toArray⟩] rfl rfl ?d1 ?d2 ?d3 ?d4 ?d5 ?_))
    case d1=>exact cell_one_new _ _ _
    case d2=>intro u hu;simp at hu;subst hu;rfl
    case d3=>unfold maxLen;omega
    case d4=>omega
    case d5=>simp;omega
    ·intro v' w1 hown' hgrow _
     have R:=Zec hbs hown hbel hown' hgrow
     clear hown' hgrow hown
     go_wp2
     go_roundw
     case rel=>exact ⟨done++[a],⟨b.toArray⟩,true,rfl,rfl,by rw [Ja];omega,R.1,R.2,HD.out⟩
     case measure=>simp [lenV,boolV,Ja];omega
theorem Zee {w:World} {base:Nat} {v:Value} {ps:List (List UInt8)} (h:w.ownsRow base 9 1 v ps.length (ps.map strV)) (hne:ps≠[]) :
 ∃ g cap,v=.slice (some ⟨g,0,none⟩) ps.length cap∧base≤g∧g<w.heap.size∧ps.length≤cap∧cap≤maxLen∧∀ k p,ps[k]?=some p→w.cell? ⟨g,k,none⟩=some (.string ⟨p.toArray⟩):=by
 have h':=h
 rcases h.2 with ⟨_,h0⟩|⟨g,cap,cur,rfl,hb,hg,hn,hm,_,_⟩
 ·exact absurd (List.eq_nil_of_length_eq_zero h0) hne
 ·refine ⟨g,cap,rfl,hb,(Array.getElem?_eq_some_iff.1 hg).1,hn,hm,fun k p hk=>?_⟩
  have hlt:k<ps.length:=(List.getElem?_eq_some_iff.1 hk).1
  rw [h'.cellAt k (by omega),List.getElem?_map,hk]
  rfl
theorem Zb4 (l:List UInt8):∀ p∈Zo l,p.length≤l.length:=by
 induction l with
 | nil=>intro p hp;simp [Zo] at hp;simp [hp]
 | cons c l ih =>
   intro p hp
   unfold Zo at hp
   split at hp
   ·rcases List.mem_cons.1 hp with rfl|h
    ·simp
    ·have:=ih p h;simp;omega
   ·split at hp
    ·simp at hp;simp [hp]
    ·rename_i q qs e
     rw [e] at ih
     rcases List.mem_cons.1 hp with rfl|h
     ·have:=ih q (List.mem_cons_self ..);simp;omega
     ·have:=ih p (List.mem_cons_of_mem _ h);simp;omega
theorem Zhu (ps:List (List UInt8)) (k:Nat) (p:List UInt8) (h:ps[k]?=some p):(ps.take (k+1)).all Yq=((ps.take k).all Yq&&Yq p):=by
 obtain ⟨hlt,rfl⟩:=List.getElem?_eq_some_iff.1 h
 rw [List.take_succ_eq_append_getElem hlt,List.all_append]
 simp
theorem Zht (ps:List (List UInt8)) (k:Nat) (p:List UInt8) (h:ps[k]?=some p) (hp:Yq p=false):ps.all Yq=false:=by
 rw [List.all_eq_false]
 exact ⟨p,List.mem_of_getElem? h,by simp [hp]⟩
theorem Yx (s:ByteArray) (hs:s.size≤maxLen) (w:World) :
 Calls Tryz.prog 122 #[.string s] w fun e w'=>e=.returned (.bool (Zj s.data.toList))∧Bw w w':=by
 have hlen:s.data.toList.length=s.size:=by simp
 unfold maxLen at hs
 by_cases h60:s.size≤60
 ·have HV:Hid (Zj s.data.toList=(Zo s.data.toList).all Yq):=by unfold Zj;rw [hlen];simp [Hid,h60]
  have HP:Hid (∀ w,_):=Zj3 s (by omega)
  have hne:=Jp s.data.toList
  have hpl:=Yr s.data.toList
  rw [hlen] at hpl
  have hel:∀ p∈Zo s.data.toList,p.length≤60:=fun p hp=>by have:=Zb4 s.data.toList p hp;omega
  generalize Zj s.data.toList=b at *
  generalize Zo s.data.toList=ps at *
  have HN:Hid (ps≠[]):=hne
  have HE:Hid (∀ p∈ps,p.length≤60):=hel
  clear hne hlen hel
  go_enter Tryz.func122,Tryz.ntmps122
  go_wp2_with (go_at_call 145;refine ((HP.out) _).mono ?_;rintro e w1 ⟨v,rfl,hown,hbel⟩;obtain ⟨g,cap,rfl,hg,hgl,hcap,hcm,hcell⟩:=Zee hown HN.out;clear hown)
  have HC:Hid (∀ k p,ps[k]?=some p→w1.cell? ⟨g,k,none⟩=some (.string ⟨p.toArray⟩)):=hcell
  clear hcell HP HN
  go_loop [11] (fun i=>∃ k:Nat,k≤ps.length∧i=.int .i64 k∧Hid ((ps.take k).all Yq=true)) (fun i=>ps.length - (intOf i).toNat)
  case atStart=>exact ⟨0,Nat.zero_le _,rfl,by simp [Hid]⟩
  case round =>
   obtain ⟨k,hk,rfl,hr⟩:=hrel
   by_cases hlt:k<ps.length
   ·obtain ⟨p,hp⟩:∃ p,ps[k]?=some p:=⟨_,List.getElem?_eq_getElem hlt⟩
    have hc:=HC.out k p hp
    have HS:Hid _:=Zhu ps k p hp
    have HF:Hid _:=Zht ps k p hp
    have hl60:=HE.out p (List.mem_of_getElem? hp)
    have HI:Hid (∀ w,_):=Zcb ⟨p.toArray⟩ (by rw [Ja];unfold maxLen;omega)
    clear hp
    have e:(⟨p.toArray⟩:ByteArray).data.toList=p:=by simp
    rw [e] at HI
    clear e
    generalize Yq p=d at *
    cases d
    ·go_wp2_with (go_at_call 146;refine ((HI.out) _).mono ?_;rintro e w' ⟨rfl,rfl⟩)
     go_ret
     exact ⟨Zb (by rw [HV.out];exact (HF.out trivial).symm),hbel⟩
    ·go_wp2_with (go_at_call 146;refine ((HI.out) _).mono ?_;rintro e w' ⟨rfl,rfl⟩)
     go_round
     case rel=>exact ⟨k+1,by omega,by go_num,by rw [Hid,HS.out,hr.out];rfl⟩
     case measure=>simp [intOf];omega
   ·have hk':k=ps.length:=by omega
    go_wp2
    go_ret
    refine ⟨Zb ?_,hbel⟩
    rw [HV.out,← hr.out,hk',List.take_length]
 ·have HV:Hid (Zj s.data.toList=false):=by unfold Zj;rw [hlen];simp [Hid,h60]
  clear hlen
  go_enter Tryz.func122,Tryz.ntmps122
  go_wp2
  go_ret
  exact ⟨Zb HV.out.symm,Below.refl _ _⟩
theorem Zhc (s:ByteArray):(s.toList == [60,105,110,105,116,62])=(s.data.toList == initL):=by rw [Lib.toList_data];rfl
theorem Zb8 (s:ByteArray) (hs:s.size≤maxLen) (w:World) :
 Calls Tryz.prog 150 #[.string s] w fun e w'=>e=.returned (.bool (Z2 s.data.toList))∧w'=w:=by
 have hlen:s.data.toList.length=s.size:=by simp
 have HM:Hid (Z2 s.data.toList=((s.toList == [60,105,110,105,116,62])||(decide (s.size≤60)&&Yq s.data.toList))):=by
  unfold Z2;rw [Zhc,hlen];rfl
 have HI:Hid (∀ w,_):=Zcb s hs
 unfold maxLen at hs
 generalize Z2 s.data.toList=b at *
 generalize Yq s.data.toList=d at *
 clear hlen
 by_cases hq:(s.toList == [60,105,110,105,116,62])=true
 ·go_enter Tryz.func150,Tryz.ntmps150
  go_wp2
  go_ret
  exact ⟨Zb (by rw [HM.out];simp [hq]),rfl⟩
 ·have hq':(s.toList == [60,105,110,105,116,62])=false:=by simpa using hq
  clear hq
  by_cases h60:s.size≤60
  ·go_enter Tryz.func150,Tryz.ntmps150
   go_wp2_with (go_at_call 146;refine ((HI.out) _).mono ?_;rintro e w' ⟨rfl,rfl⟩)
   go_ret
   exact ⟨Zb (by rw [HM.out,hq'];simp [h60]),rfl⟩
  ·go_enter Tryz.func150,Tryz.ntmps150
   go_wp2
   go_ret
   exact ⟨Zb (by rw [HM.out,hq'];simp [h60]),rfl⟩
def IsStrs (w:World) (v:Value) (ps:List (List UInt8)):Prop :=
 ∃ ao cap,v=.slice ao ps.length cap∧ps.length≤cap∧cap≤maxLen ∧
   (ps≠[]→∃ bk o,ao=some ⟨bk,o,none⟩∧bk<w.heap.size∧∀ k p,ps[k]?=some p→w.cell? ⟨bk,o+k,none⟩=some (.string ⟨p.toArray⟩))
theorem IsStrs.keep {w w':World} {v:Value} {ps:List (List UInt8)} (h:IsStrs w v ps) (hb:Bw w w'):IsStrs w' v ps:=by
 obtain ⟨ao,cap,rfl,h1,h2,h3⟩:=h
 refine ⟨ao,cap,rfl,h1,h2,fun hne=>?_⟩
 obtain ⟨bk,o,e,hlt,hc⟩:=h3 hne
 exact ⟨bk,o,e,Nat.lt_of_lt_of_le hlt hb.size,fun k p hk=>(hb.cell hlt).trans (hc k p hk)⟩
theorem Zfq (c:Int) (w:World) :
 Calls Tryz.prog 156 #[.int .u8 c] w fun e w'=>e=.returned (.bool (ltrI c))∧w'=w:=by
 go_enter Tryz.func156,Tryz.ntmps156
 go_wp2
 all_goals (go_ret;exact ⟨Zb (by rw [Bool.eq_iff_iff];simp [ltrI];try omega),rfl⟩)
theorem lastIdx_hit (s:ByteArray) (k:Nat) (h:k<s.size) (e:((s[k].toNat:Int) == 47)=true):Lib.Pa.lastIdx s.data.toList 47 (k+1)=(k:Int):=by
 rw [Lib.Pa.lastIdx,Lib.Pa.at_eq s k h,if_pos]
 congr 1;apply UInt8.toNat_inj.1;have:=beq_iff_eq.1 e;simpa using (by omega:(s[k]).toNat=47)
theorem lastIdx_miss (s:ByteArray) (k:Nat) (h:k<s.size) (e:((s[k].toNat:Int) == 47)=false):Lib.Pa.lastIdx s.data.toList 47 (k+1)=Lib.Pa.lastIdx s.data.toList 47 k:=by
 rw [Lib.Pa.lastIdx,Lib.Pa.at_eq s k h,if_neg]
 intro q
 have h':s[k]=47:=by simpa using q
 rw [h'] at e;simp at e
theorem Zf4 (c:Int) (h:ltrI c=true):digI c=false:=by
 simp [ltrI] at h
 simp [digI]
 omega
theorem Zd7 (s:ByteArray) (hs:s.size≤maxLen) (w:World) :
 Calls Tryz.prog 130 #[.string s] w fun e w'=>e=.returned (.bool (Yq s.data.toList))∧w'=w:=by
 unfold maxLen at hs
 have HP:Hid (∀ h:0<s.size,Yq s.data.toList=(!digI (s[0]).toNat&&s.data.toList.all J5)):=Zb6 s
 have H0:Hid (s.size=0→Yq s.data.toList=false):=fun h=>by
  have:s.data.toList.length=0:=by simpa using h
  rw [List.eq_nil_of_length_eq_zero this];rfl
 generalize Yq s.data.toList=b at *
 go_enter Tryz.func130,Tryz.ntmps130
 go_wp2
 go_loop [3] (fun i=>∃ k:Nat,k≤s.size∧i=.int .i64 k∧Hid ((s.data.toList.take k).all J5=true)∧Hid (∀ h:0<s.size,0<k→digI (s[0]).toNat=false)) (fun i=>s.size - (intOf i).toNat)
 case atStart=>exact ⟨0,Nat.zero_le _,rfl,by simp [Hid],fun _ h=>absurd h (by omega)⟩
 case round =>
  obtain ⟨k,hk,rfl,hr,hd0⟩:=hrel
  by_cases hlt:k<s.size
  ·have HS:Hid _:=J0 s J5 k hlt
   have HF:Hid _:=Zal s J5 k hlt
   have hw:J5 s[k]=(ltrI (s[k]).toNat||digI (s[k]).toNat):=rfl
   rw [hw] at HS HF
   clear hw
   have HL:Hid (∀ w,_):=Zfq (s[k]).toNat
   have HN:Hid _:=Zf4 (s[k]).toNat
   have HD:Hid (digI (s[k]).toNat=(decide (48≤((s[k]).toNat:Int))&&decide (((s[k]).toNat:Int)≤57))):=rfl
   have HK:Hid (k=0→∀ h:0<s.size,digI (s[0]).toNat=digI (s[k]).toNat):=fun e h=>by subst e;rfl
   generalize ltrI (s[k]).toNat=l at *
   cases l
   ·by_cases h0:k=0
    ·have hb:b=false:=by
      rw [HP.out (by omega)]
      rw [HK.out h0 (by omega)]
      have:=HF.out
      generalize digI (s[k]).toNat=d at *
      cases d
      ·rw [this rfl];rfl
      ·rfl
     subst hb
     subst h0
     clear HP H0 HS HF HN HD HK hr hd0
     go_wp2_with (go_at_call 156;refine ((HL.out) _).mono ?_;rintro e w' ⟨rfl,rfl⟩)
     go_ret
     exact ⟨rfl,rfl⟩
    ·have hkb:((k:Int) == 0)=false:=by rw [beq_eq_false_iff_ne];omega
     generalize digI (s[k]).toNat=d at *
     cases d
     ·have hb:b=false:=by rw [HP.out (by omega),HF.out rfl];simp
      subst hb
      have hor:((s[k]).toNat:Int)<48∨57<((s[k]).toNat:Int):=by have:=HD.out;simp at this;omega
      clear HP H0 HS HF HN HD HK hr hd0
      rcases hor with h|h
      ·go_wp2_with (go_at_call 156;refine ((HL.out) _).mono ?_;rintro e w' ⟨rfl,rfl⟩)
       go_ret
       exact ⟨rfl,rfl⟩
      ·go_wp2_with (go_at_call 156;refine ((HL.out) _).mono ?_;rintro e w' ⟨rfl,rfl⟩)
       go_ret
       exact ⟨rfl,rfl⟩
     ·have h1:(48:Int)≤((s[k]).toNat:Int):=by have:=HD.out;simp at this;omega
      have h2:((s[k]).toNat:Int)≤57:=by have:=HD.out;simp at this;omega
      clear HP H0 HF HN HD HK
      go_wp2_with (go_at_call 156;refine ((HL.out) _).mono ?_;rintro e w' ⟨rfl,rfl⟩)
      go_round
      case rel=>exact ⟨k+1,by omega,by go_num,by rw [Hid,HS.out,hr.out];rfl,fun h _=>hd0.out h (by omega)⟩
      case measure=>simp [intOf];omega
   ·have HQ:Hid (∀ h:0<s.size,0<k+1→digI (s[0]).toNat=false):=fun h _=>by
     by_cases h0:k=0
     ·rw [HK.out h0 h];exact HN.out rfl
     ·exact hd0.out h (by omega)
    clear HP H0 HF HN HD HK
    go_wp2_with (go_at_call 156;refine ((HL.out) _).mono ?_;rintro e w' ⟨rfl,rfl⟩)
    go_round
    case rel=>exact ⟨k+1,by omega,by go_num,by rw [Hid,HS.out,hr.out];rfl,HQ⟩
    case measure=>simp [intOf];omega
  ·have hk':k=s.size:=by omega
   by_cases hz:s.size=0
   ·have hb:=H0.out hz
    clear HP H0 hr hd0 hk'
    go_wp2
    go_ret
    exact ⟨Zb rfl,rfl⟩
   ·have hb:b=true:=by
     rw [HP.out (by omega),hd0.out (by omega) (by omega),← J1,← hk',hr.out];rfl
    clear HP H0 hr hd0 hk'
    go_wp2
    go_ret
    exact ⟨Zb (by simp;omega),rfl⟩
theorem Za5 (s:ByteArray) (hs:s.size≤maxLen) (w:World) :
 Calls Tryz.prog 133 #[.string s] w fun e w'=>e=.returned (.bool (Z2 s.data.toList))∧w'=w:=by
 have hlen:s.data.toList.length=s.size:=by simp
 have HM:Hid (Z2 s.data.toList=((s.toList == [60,105,110,105,116,62])||(decide (s.size≤60)&&Yq s.data.toList))):=by
  unfold Z2;rw [Zhc,hlen];rfl
 have HI:Hid (∀ w,_):=Zd7 s hs
 unfold maxLen at hs
 generalize Z2 s.data.toList=b at *
 generalize Yq s.data.toList=d at *
 clear hlen
 by_cases hq:(s.toList == [60,105,110,105,116,62])=true
 ·go_enter Tryz.func133,Tryz.ntmps133
  go_wp2
  go_ret
  exact ⟨Zb (by rw [HM.out];simp [hq]),rfl⟩
 ·have hq':(s.toList == [60,105,110,105,116,62])=false:=by simpa using hq
  clear hq
  by_cases h60:s.size≤60
  ·go_enter Tryz.func133,Tryz.ntmps133
   go_wp2_with (go_at_call 130;refine ((HI.out) _).mono ?_;rintro e w' ⟨rfl,rfl⟩)
   go_ret
   exact ⟨Zb (by rw [HM.out,hq'];simp [h60]),rfl⟩
  ·go_enter Tryz.func133,Tryz.ntmps133
   go_wp2
   go_ret
   exact ⟨Zb (by rw [HM.out,hq'];simp [h60]),rfl⟩
theorem Zjy (s:ByteArray) (hs:s.size≤maxLen) (w:World) :
 Calls Tryz.prog 162 #[.string s] w fun e w'=>e=.returned (.int .i64 (Qw s.data.toList))∧w'=w:=by
 unfold maxLen at hs
 have HE:Hid (Qw s.data.toList=Lib.Pa.lastIdx s.data.toList 47 s.size):=by
  unfold Qw Lib.Pa.lastIndexByte;rw [Hid];congr 1
 go_enter Tryz.func162,Tryz.ntmps162
 go_wp2
 go_loop [3,4] (fun t i=>∃ k:Nat,k≤s.size∧i=.int .i64 k∧t=.int .i64 (Lib.Pa.lastIdx s.data.toList 47 k)) (fun _ i=>s.size - (intOf i).toNat)
 case atStart=>exact ⟨0,Nat.zero_le _,rfl,rfl⟩
 case round =>
  obtain ⟨k,hk,rfl,rfl⟩:=hrel
  by_cases hlt:k<s.size
  ·cases he:(((s[k]).toNat:Int) == 47) with
   | true =>
     have H1:Hid _:=lastIdx_hit s k hlt he
     go_wp2
     go_round
     case rel=>exact ⟨k+1,by omega,by go_num,by rw [H1.out]⟩
     case measure=>simp [intOf];omega
   | false =>
     have H1:Hid _:=lastIdx_miss s k hlt he
     go_wp2
     go_round
     case rel=>exact ⟨k+1,by omega,by go_num,by rw [H1.out]⟩
     case measure=>simp [intOf];omega
  ·have hk':k=s.size:=by omega
   go_wp2
   go_ret
   exact ⟨Ze (by rw [HE.out]),rfl⟩
theorem Zaj (s:ByteArray) (hs:s.size≤maxLen) (w:World) :
 Calls Tryz.prog 138 #[.string s] w fun e w'=>e=.returned (.string ⟨(pkgL s.data.toList).toArray⟩)∧w'=w:=by
 have hl:=Zkf s
 have HP:Hid (pkgL s.data.toList=s.data.toList.take (Qw s.data.toList).toNat):=rfl
 have hm:=hs
 unfold maxLen at hm
 have HB:Hid (∀ w,_):=Zjy s hs
 generalize Qw s.data.toList=x at *
 by_cases hx:x=-1
 ·subst hx
  go_enter Tryz.func138,Tryz.ntmps138
  go_wp2_with (go_at_call 162;refine ((HB.out) _).mono ?_;rintro e w' ⟨rfl,rfl⟩)
  go_ret
  refine ⟨Zcy ?_,rfl⟩
  rw [HP.out]
  apply Yp;simp
 ·obtain ⟨n,rfl⟩:∃ n:Nat,x=n:=⟨x.toNat,by omega⟩
  have hn:n<s.size:=by omega
  clear hx hl
  go_enter Tryz.func138,Tryz.ntmps138
  go_wp2_with (go_at_call 162;refine ((HB.out) _).mono ?_;rintro e w' ⟨rfl,rfl⟩)
  go_ret
  refine ⟨Zcy ?_,rfl⟩
  rw [HP.out]
  apply Yp;simp
theorem Zb2 {w wr w1:World} {B:Nat} {v v':Value} {done:List (List UInt8)} {part:ByteArray} {o:Obj}
 (hB:B≤wr.heap.size) (hown:wr.ownsRow B 9 1 v done.length (done.map strV)) (hbel:Below B w wr)
 (hown':w1.ownsRow B 9 1 v' (done.length+1) (done.map strV++[.string part])) (hg:(wr.alloc o).grownBy w1 v.ownBlock) :
 w1.ownsRow B 9 1 v' (done++[part.data.toList]).length ((done++[part.data.toList]).map strV)∧Below B w w1:=by
 constructor
 ·simpa [strV] using hown'
 ·refine (hbel.alloc hB o).grown hg (by simp;omega) ?_
  intro k hk
  exact (hown.lt k hk).1
theorem Zkk (s:ByteArray) (f k:Nat) (hf:f≤k) (hlt:k<s.size) (h:(47:UInt8) ∉ (s.data.toList.drop f).take (k - f)) (e:(((s[k]).toNat:Int) == 47)=false) :
 (47:UInt8) ∉ (s.data.toList.drop f).take (k+1 - f):=by
 have hl:k - f<(s.data.toList.drop f).length:=by rw [List.length_drop];simp;omega
 rw [show k+1 - f=(k - f)+1 by omega,List.take_succ_eq_append_getElem hl]
 intro m
 rcases List.mem_append.1 m with m|m
 ·exact h m
 ·have m2:=List.mem_singleton.1 m
  rw [List.getElem_drop] at m2
  have e3:s.data.toList[f+(k - f)]?=some s[k]:=by rw [show f+(k - f)=k by omega];exact Lib.Pa.at_eq s k hlt
  rw [List.getElem?_eq_getElem (by simp;omega)] at e3
  have e4:s[k]=47:=by rw [m2];exact (Option.some.inj e3).symm
  rw [e4] at e;simp at e
theorem cut_here (s:ByteArray) (f k:Nat) (hf:f≤k) (hlt:k<s.size) (e:(((s[k]).toNat:Int) == 47)=true) :
 s.data.toList.drop f=(s.data.toList.drop f).take (k - f)++47::s.data.toList.drop (k+1):=by
 have h1:s.data.toList.drop f=(s.data.toList.drop f).take (k - f)++(s.data.toList.drop f).drop (k - f):=(List.take_append_drop _ _).symm
 have h2:(s.data.toList.drop f).drop (k - f)=s.data.toList.drop k:=by rw [List.drop_drop];congr 1;omega
 have h3:s.data.toList.drop k=47::s.data.toList.drop (k+1):=by
  rw [List.drop_eq_getElem_cons (by simpa using hlt)]
  congr 1
  have e3:=Lib.Pa.at_eq s k hlt
  rw [List.getElem?_eq_getElem (by simpa using hlt)] at e3
  rw [Option.some.inj e3]
  apply UInt8.toNat_inj.1;have:=beq_iff_eq.1 e;simpa using (by omega:(s[k]).toNat=47)
 rw [h2,h3] at h1
 exact h1
theorem Zh6 (s:ByteArray) (hs:s.size≤1099511627776) (w:World) :
 Calls Tryz.prog 129 #[.string s] w fun e w'=>∃ v,e=.returned v∧w'.ownsRow w.heap.size 9 1 v (Zo s.data.toList).length ((Zo s.data.toList).map strV)∧Bw w w':=by
 obtain ⟨i0,hi,hz0,hz1,hz2⟩:=info_parts Tryz.info9
 have HL:Hid _:=Yr s.data.toList
 have HZ:Hid (s.data.toList.length=s.size):=by simp [Hid]
 go_enter Tryz.func129,Tryz.ntmps129
 go_wp2
 go_loopw [3,4,5] (fun v fr i wr=>∃ (done:List (List UInt8)) (f k:Nat),fr=.int .i64 f∧i=.int .i64 k∧f≤k∧k≤s.size ∧
  wr.ownsRow w.heap.size 9 1 v done.length (done.map strV)∧Bw w wr∧Hid ((47:UInt8) ∉ (s.data.toList.drop f).take (k - f))∧Hid (done++Zo (s.data.toList.drop f)=Zo s.data.toList))
  (fun _ _ i _=>s.size - (intOf i).toNat)
 case atStart=>exact ⟨[],0,0,rfl,rfl,Nat.le_refl _,Nat.zero_le _,World.ownsRow_nil _ _ _ _,Below.refl _ _,by simp [Hid],by simp [Hid]⟩
 case round =>
  obtain ⟨done,f,k,rfl,rfl,hfk,hks,hown,hbel,hfree,hp⟩:=hrel
  have hbs:=hbel.size
  have hn1:=Jp (s.data.toList.drop f)
  have hn2:1≤(Zo (s.data.toList.drop f)).length:=by
   cases e:Zo (s.data.toList.drop f) with
   | nil=>exact absurd e hn1
   | cons a b=>simp
  have hdl:done.length+1≤s.size+1:=by have:=HL.out;rw [← hp.out,HZ.out,List.length_append] at this;omega
  clear hn1 hn2
  by_cases hlt:k<s.size
  ·cases he:(((s[k]).toNat:Int) == 47) with
   | true =>
     have HC:Hid _:=cut_here s f k hfk hlt he
     have hd:done++[(s.extract f k).data.toList]++Zo (s.data.toList.drop (k+1))=Zo s.data.toList:=by
      rw [← hp.out,Lib.extract_data]
      conv=>rhs;rw [HC.out,Zb5 _ _ hfree.out]
      simp
     have HD:Hid _:=hd
     clear hd HC hp hfree
     have hex:(s.extract f k).size≤s.size:=by simp;omega
     go_wp2_with (at_builtin;refine wpList_append_own _ rfl _ _ 52 rfl w.heap.size 9 i0 (.string ⟨#[]⟩) 1 16 Tryz.underlying52 hi hz0 hz1 hz2 rfl (by decide) _ _ _ rfl (hown.alloc _) ⟨wr.heap.size,0,none⟩ 1 1 [.string (s.extract f k)] rfl rfl ?c1 ?c2 ?c3 ?c4 ?c5 ?_)
     case c1=>exact cell_one_new _ _ _
     case c2=>intro u hu;simp at hu;subst hu;rfl
     case c3=>unfold maxLen;omega
     case c4=>omega
     case c5=>simp;omega
     ·intro v' w1 hown' hgrow _
      have R:=Zb2 hbs hown hbel hown' hgrow
      clear hown' hgrow hown
      go_wp2
      go_roundw
      case rel=>exact ⟨done++[(s.extract f k).data.toList],k+1,k+1,by go_num,by go_num,Nat.le_refl _,by omega,R.1,R.2,by simp [Hid],HD.out⟩
      case measure=>simp [intOf];omega
   | false =>
     have HF:Hid _:=Zkk s f k hfk hlt hfree.out he
     clear hfree
     go_wp2
     go_roundw
     case rel=>exact ⟨done,f,k+1,rfl,by go_num,by omega,by omega,hown,hbel,HF,hp⟩
     case measure=>simp [intOf];omega
  ·have hk':k=s.size:=by omega
   have hd:done++[(s.extract f s.size).data.toList]=Zo s.data.toList:=by
    rw [← hp.out,Lib.extract_to_end]
    congr 1
    have:(47:UInt8) ∉ s.data.toList.drop f:=by
     have:=hfree.out
     rw [hk',List.take_of_length_le (by rw [List.length_drop,HZ.out];omega)] at this
     exact this
    rw [Za7 _ this]
   have HD:Hid _:=hd
   subst hk'
   clear hd hp hfree
   go_wp2_with (at_builtin;refine wpList_append_own _ rfl _ _ 52 rfl w.heap.size 9 i0 (.string ⟨#[]⟩) 1 16 Tryz.underlying52 hi hz0 hz1 hz2 rfl (by decide) _ _ _ rfl (hown.alloc _) ⟨wr.heap.size,0,none⟩ 1 1 [.string (s.extract f s.size)] rfl rfl ?d1 ?d2 ?d3 ?d4 ?d5 ?_)
   case d1=>exact cell_one_new _ _ _
   case d2=>intro u hu;simp at hu;subst hu;rfl
   case d3=>unfold maxLen;omega
   case d4=>omega
   case d5=>simp;omega
   ·intro v' w1 hown' hgrow _
    have R:=Zb2 hbs hown hbel hown' hgrow
    rw [HD.out] at R
    clear hown' hgrow hown
    go_wp2
    go_ret
    exact ⟨_,rfl,R⟩
theorem Yk (s:ByteArray) (hs:s.size≤maxLen) (w:World) :
 Calls Tryz.prog 100 #[.string s] w fun e w'=>e=.returned (.bool (Zj s.data.toList))∧Bw w w':=by
 have hlen:s.data.toList.length=s.size:=by simp
 unfold maxLen at hs
 by_cases h60:s.size≤60
 ·have HV:Hid (Zj s.data.toList=(Zo s.data.toList).all Yq):=by unfold Zj;rw [hlen];simp [Hid,h60]
  have HP:Hid (∀ w,_):=Zh6 s (by omega)
  have hne:=Jp s.data.toList
  have hpl:=Yr s.data.toList
  rw [hlen] at hpl
  have hel:∀ p∈Zo s.data.toList,p.length≤60:=fun p hp=>by have:=Zb4 s.data.toList p hp;omega
  generalize Zj s.data.toList=b at *
  generalize Zo s.data.toList=ps at *
  have HN:Hid (ps≠[]):=hne
  have HE:Hid (∀ p∈ps,p.length≤60):=hel
  clear hne hlen hel
  go_enter Tryz.func100,Tryz.ntmps100
  go_wp2_with (go_at_call 129;refine ((HP.out) _).mono ?_;rintro e w1 ⟨v,rfl,hown,hbel⟩;obtain ⟨g,cap,rfl,hg,hgl,hcap,hcm,hcell⟩:=Zee hown HN.out;clear hown)
  have HC:Hid (∀ k p,ps[k]?=some p→w1.cell? ⟨g,k,none⟩=some (.string ⟨p.toArray⟩)):=hcell
  clear hcell HP HN
  go_loop [4] (fun i=>∃ k:Nat,k≤ps.length∧i=.int .i64 k∧Hid ((ps.take k).all Yq=true)) (fun i=>ps.length - (intOf i).toNat)
  case atStart=>exact ⟨0,Nat.zero_le _,rfl,by simp [Hid]⟩
  case round =>
   obtain ⟨k,hk,rfl,hr⟩:=hrel
   by_cases hlt:k<ps.length
   ·obtain ⟨p,hp⟩:∃ p,ps[k]?=some p:=⟨_,List.getElem?_eq_getElem hlt⟩
    have hc:=HC.out k p hp
    have HS:Hid _:=Zhu ps k p hp
    have HF:Hid _:=Zht ps k p hp
    have hl60:=HE.out p (List.mem_of_getElem? hp)
    have HI:Hid (∀ w,_):=Zd7 ⟨p.toArray⟩ (by rw [Ja];unfold maxLen;omega)
    clear hp
    have e:(⟨p.toArray⟩:ByteArray).data.toList=p:=by simp
    rw [e] at HI
    clear e
    generalize Yq p=d at *
    cases d
    ·go_wp2_with (go_at_call 130;refine ((HI.out) _).mono ?_;rintro e w' ⟨rfl,rfl⟩)
     go_ret
     exact ⟨Zb (by rw [HV.out];exact (HF.out trivial).symm),hbel⟩
    ·go_wp2_with (go_at_call 130;refine ((HI.out) _).mono ?_;rintro e w' ⟨rfl,rfl⟩)
     go_round
     case rel=>exact ⟨k+1,by omega,by go_num,by rw [Hid,HS.out,hr.out];rfl⟩
     case measure=>simp [intOf];omega
   ·have hk':k=ps.length:=by omega
    go_wp2
    go_ret
    refine ⟨Zb ?_,hbel⟩
    rw [HV.out,← hr.out,hk',List.take_length]
 ·have HV:Hid (Zj s.data.toList=false):=by unfold Zj;rw [hlen];simp [Hid,h60]
  clear hlen
  go_enter Tryz.func100,Tryz.ntmps100
  go_wp2
  go_ret
  exact ⟨Zb HV.out.symm,Below.refl _ _⟩
def sndB (d:Int) (l:List UInt8):Bool:=decide (0≤d)&&decide (d≤255)&&(l.isEmpty||Zj l)
def chkI (b:Bool):Int:=if b then 0 else 1
theorem Below.step {w w1 w2:World} (h1:Bw w w1) (h2:Bw w1 w2):Bw w w2:=h1.trans (h2.mono h1.size)
theorem Zcr {d:Int} {l:List UInt8} (h:sndB d l=true):∃ k:Nat,d=k∧k≤255:=by
 unfold sndB at h
 simp at h
 exact ⟨d.toNat,by omega,by omega⟩
def arrE (d:Int) (l:List UInt8):Int:=if sndB d l then (if d=255 then 5 else 0) else 1
def cmpE (d:Int) (l:List UInt8):Int:=if sndB d l then (if d=0 then 6 else 0) else 1
def outD (e x:Int):Int:=if e=0 then x else 0
def outS (e:Int) (s:ByteArray):ByteArray:=if e=0 then s else ⟨#[]⟩
theorem Zdz (l:List UInt8) (h:(59:UInt8) ∉ l):semi l=none:=by
 induction l with
 | nil=>rfl
 | cons c l ih =>
   have hc:c≠59:=fun e=>h (by simp [e])
   simp [semi,hc,ih (fun m=>h (List.mem_cons_of_mem _ m))]
theorem Zl (s:ByteArray) (i:Nat) (h:i<s.size):s.data.toList.drop i=s[i]::s.data.toList.drop (i+1):=by
 rw [List.drop_eq_getElem_cons (by simpa using h)]
 congr 1
theorem Y9 (s:ByteArray) (i:Nat) (h:s.size≤i):s.data.toList.drop i=[]:=List.drop_of_length_le (by simpa using h)
theorem Ym (s:ByteArray) (i:Nat) (h:i<s.size) (c:UInt8):(((s[i]).toNat:Int) == (c.toNat:Int))=decide (s[i]=c):=by
 rw [Bool.eq_iff_iff]
 simp only [beq_iff_eq,decide_eq_true_eq,Int.ofNat_inj]
 exact UInt8.toNat_inj
structure Rd (w:World) (x:Int) (nm:ByteArray) (wr:World):Prop where
 t:wr.heap[w.heap.size+1]?=some (.cells #[.int .i64 x,.string nm] 40 (0,0))
 r:wr.heap[w.heap.size]?=some (.cells #[.int .i64 0,.string ⟨#[]⟩] 40 (0,0))
 bel:Bw w wr
theorem Rd.cells {w wr:World} {x:Int} {nm:ByteArray} (h:Rd w x nm wr) :
 wr.cell? ⟨w.heap.size+1,0,none⟩=some (.int .i64 x)∧wr.cell? ⟨w.heap.size+1,1,none⟩=some (.string nm)∧wr.cell? ⟨w.heap.size,0,none⟩=some (.int .i64 0)∧wr.cell? ⟨w.heap.size,1,none⟩=some (.string ⟨#[]⟩) ∧
 wr.frozen? ⟨w.heap.size+1,0,none⟩=false∧wr.frozen? ⟨w.heap.size+1,1,none⟩=false∧wr.frozen? ⟨w.heap.size,0,none⟩=false∧wr.frozen? ⟨w.heap.size,1,none⟩=false:=by
 refine ⟨?_,?_,?_,?_,?_,?_,?_,?_⟩
 ·rw [cell_of_row _ (w.heap.size+1) 0 _ 40 (0,0) h.t];rfl
 ·rw [cell_of_row _ (w.heap.size+1) 1 _ 40 (0,0) h.t];rfl
 ·rw [cell_of_row _ w.heap.size 0 _ 40 (0,0) h.r];rfl
 ·rw [cell_of_row _ w.heap.size 1 _ 40 (0,0) h.r];rfl
 all_goals simp [World.frozen?,h.t,h.r]
theorem Rd.dims {w wr:World} {x:Int} {nm:ByteArray} (h:Rd w x nm wr) (y:Int):Rd w y nm (wr.setCell ⟨w.heap.size+1,0,none⟩ (.int .i64 y)) :=
 ⟨by rw [heap_setCell_same wr (w.heap.size+1) 0 _ 40 _ h.t];rfl,by rw [heap_setCell_other wr ⟨w.heap.size+1,0,none⟩ _ _ (by simp)];exact h.r,h.bel.setCell (by show w.heap.size≤w.heap.size+1;omega) _⟩
theorem Rd.name {w wr:World} {x:Int} {nm:ByteArray} (h:Rd w x nm wr) (s:ByteArray):Rd w x s (wr.setCell ⟨w.heap.size+1,1,none⟩ (.string s)) :=
 ⟨by rw [heap_setCell_same wr (w.heap.size+1) 1 _ 40 _ h.t];rfl,by rw [heap_setCell_other wr ⟨w.heap.size+1,1,none⟩ _ _ (by simp)];exact h.r,h.bel.setCell (by show w.heap.size≤w.heap.size+1;omega) _⟩
theorem Rd.keep {w wr w1:World} {x:Int} {nm:ByteArray} (h:Rd w x nm wr) (hb:Bw wr w1):Rd w x nm w1 :=
 ⟨by rw [hb.block _ (Array.getElem?_eq_some_iff.1 h.t).1];exact h.t,by rw [hb.block _ (Array.getElem?_eq_some_iff.1 h.r).1];exact h.r,h.bel.trans (hb.mono h.bel.size)⟩
def Yn (s:ByteArray) (a:Nat) (e:Ending):Prop:=match Zy (s.data.toList.drop a) with
 | some (t,r)=>e=.returned (.tuple #[.agg #[.int .i64 t.1,.string ⟨t.2.toArray⟩],.int .i64 ((s.size:Int) - r.length)])
 | none=>∃ x y,e=.returned (.tuple #[.agg #[.int .i64 x,.string y],.int .i64 (-1)])
theorem Jo {s:ByteArray} {a:Nat} {x:Int} {y:ByteArray} (h:Zy (s.data.toList.drop a)=none):Yn s a (.returned (.tuple #[.agg #[.int .i64 x,.string y],.int .i64 (-1)])):=by
 unfold Yn;rw [h];exact ⟨x,y,rfl⟩
theorem Zeb {s:ByteArray} {a:Nat} {k:Nat} {nm r:List UInt8} {p:Int} (h:Zy (s.data.toList.drop a)=some ((k,nm),r)) (hp:p=(s.size:Int) - r.length) :
 Yn s a (.returned (.tuple #[.agg #[.int .i64 k,.string ⟨nm.toArray⟩],.int .i64 p])):=by
 unfold Yn;rw [h,hp]
theorem Zgs {l:List UInt8} {j:Nat} (hb:Zq l=(j,[])):Zy l=none:=by unfold Zy;rw [hb]
theorem Zgt {l r:List UInt8} {j:Nat} (hb:Zq l=(j,73::r)):Zy l=some ((j,[]),r):=by unfold Zy;rw [hb];rfl
theorem Zgu {l r x y:List UInt8} {j:Nat} (hb:Zq l=(j,76::r)) (hs:semi r=some (x,y)) (hv:Zj x=true):Zy l=some ((j,x),y):=by
 unfold Zy;rw [hb];simp [hs,hv]
theorem Zgv {l r x y:List UInt8} {j:Nat} (hb:Zq l=(j,76::r)) (hs:semi r=some (x,y)) (hv:Zj x=false):Zy l=none:=by
 unfold Zy;rw [hb];simp [hs,hv]
theorem Zd3 {l r:List UInt8} {j:Nat} (hb:Zq l=(j,76::r)) (hs:semi r=none):Zy l=none:=by
 unfold Zy;rw [hb];simp [hs]
theorem Zb0 {l r:List UInt8} {c:UInt8} {j:Nat} (hb:Zq l=(j,c::r)) (h1:c≠73) (h2:c≠76):Zy l=none:=by
 unfold Zy;rw [hb];simp [h1,h2]
theorem Zbm (s:ByteArray) (i:Nat) (h:i<s.size) (e:s[i]=91):Zq (s.data.toList.drop i)=((Zq (s.data.toList.drop (i+1))).1+1,(Zq (s.data.toList.drop (i+1))).2):=by
 rw [Zl s i h,Zq,if_pos e]
theorem Zbl (s:ByteArray) (i:Nat) (h:i<s.size) (e:s[i]≠91):Zq (s.data.toList.drop i)=(0,s.data.toList.drop i):=by
 rw [Zl s i h,Zq,if_neg e]
theorem Yv {w wr:World} {x:Int} {nm:ByteArray} (h:Rd w x nm wr) (u v:Value):Bw w ((wr.setCell ⟨w.heap.size,0,none⟩ u).setCell ⟨w.heap.size,1,none⟩ v) :=
 (h.bel.setCell (Nat.le_refl _) _).setCell (Nat.le_refl _) _
theorem Jl (s:ByteArray) (hs:s.size≤1000000) (a:Nat) (ha:a≤s.size) (w:World) :
 Calls Tryz.prog 158 #[.string s,.int .i64 a] w fun e w'=>Yn s a e∧Bw w w':=by
 have H0:Hid (Rd w 0 ⟨#[]⟩ ((w.alloc (.cells #[.int .i64 0,.string ⟨#[]⟩] 40)).alloc (.cells #[.int .i64 0,.string ⟨#[]⟩] 40))):=by
  refine ⟨?_,?_,((Below.refl _ _).alloc (Nat.le_refl _) _).alloc (by simp) _⟩
  ·have:=heap_alloc_new (w.alloc (.cells #[.int .i64 0,.string ⟨#[]⟩] 40)) (.cells #[.int .i64 0,.string ⟨#[]⟩] 40)
   simpa using this
  ·rw [Below.heap_alloc _ _ _ (by simp)];exact heap_alloc_new w _
 have hsz:s.data.toList.length=s.size:=by simp
 have HSZ:Hid _:=hsz
 clear hsz
 go_enter Tryz.func158,Tryz.ntmps158
 go_wp2
 go_loopw [1] (fun p wr=>∃ j:Nat,p=.int .i64 ((a+j:Nat):Int)∧a+j≤s.size∧Hid (Rd w j ⟨#[]⟩ wr) ∧
  Hid (Zq (s.data.toList.drop a)=((Zq (s.data.toList.drop (a+j))).1+j,(Zq (s.data.toList.drop (a+j))).2))) (fun p _=>s.size - (intOf p).toNat)
 case atStart=>exact ⟨0,rfl,ha,H0,rfl⟩
 case round =>
  clear H0
  obtain ⟨j,rfl,hj,hR,hbr⟩:=hrel
  obtain ⟨c0,c1,c2,c3,f0,f1,f2,f3⟩:=hR.out.cells
  by_cases hlt:a+j<s.size
  ·by_cases h91:s[a+j]=91
   ·have hq:(((s[a+j]).toNat:Int) == 91)=true:=by have:=Ym s (a+j) hlt 91;rw [h91] at this ⊢;rfl
    have HB:Hid (Zq (s.data.toList.drop a)=((Zq (s.data.toList.drop (a+(j+1)))).1+(j+1),(Zq (s.data.toList.drop (a+(j+1)))).2)):=by
     rw [Hid,hbr.out,Zbm s (a+j) hlt h91]
     simp only [Prod.mk.injEq]
     exact ⟨by rw [show a+j+1=a+(j+1) by omega];omega,by rw [show a+j+1=a+(j+1) by omega]⟩
    have R:Hid (Rd w ((j:Int)+1) ⟨#[]⟩ (wr.setCell ⟨w.heap.size+1,0,none⟩ (.int .i64 ((j:Int)+1)))):=hR.out.dims _
    clear hR hbr h91
    go_wp2
    go_roundw
    case rel=>exact ⟨j+1,by go_num,by omega,by simpa using R,HB⟩
    case measure=>simp [intOf];omega
   ·have hb0:Zq (s.data.toList.drop a)=(j,s.data.toList.drop (a+j)):=by rw [hbr.out,Zbl s (a+j) hlt h91,Nat.zero_add]
    rw [Zl s (a+j) hlt] at hb0
    have q91:(((s[a+j]).toNat:Int) == 91)=false:=by have:=Ym s (a+j) hlt 91;simp only [h91,decide_false] at this;exact this
    by_cases h73:s[a+j]=73
    ·have q73:(((s[a+j]).toNat:Int) == 73)=true:=by have:=Ym s (a+j) hlt 73;simp only [h73,decide_true] at this;rw [h73];rfl
     have HP:Hid _:=Zeb (p:=((a+j:Nat):Int)+1) (Zgt (by rw [h73] at hb0;exact hb0)) (by rw [List.length_drop,HSZ.out];omega)
     have HB:Hid _:=Yv hR.out (.int .i64 j) (.string ⟨#[]⟩)
     clear hR hbr h91 hb0 h73
     go_wp2
     refine bodyPost_ret (v:=.tuple #[.agg #[.int .i64 j,.string ⟨#[]⟩],.int .i64 (((a+j:Nat):Int)+1)]) (by simp [results,Tryz.results158,go_sem, *]) rfl ⟨HP.out,HB.out⟩
    ·have q73:(((s[a+j]).toNat:Int) == 73)=false:=by have:=Ym s (a+j) hlt 73;simp only [h73,decide_false] at this;exact this
     by_cases h76:s[a+j]=76
     ·have q76:(((s[a+j]).toNat:Int) == 76)=true:=by have:=Ym s (a+j) hlt 76;simp only [h76,decide_true] at this;rw [h76];rfl
      have n76:(((s[a+j]).toNat:Int) != 76)=false:=by rw [bne,q76];rfl
      rw [h76] at hb0
      have HB0:Hid _:=hb0
      clear hbr h91 h73 h76 hb0
      go_wp2
      go_loop [7] (fun iv=>∃ i:Nat,iv=.int .i64 i∧a+j+1≤i∧i≤s.size∧Hid ((59:UInt8) ∉ (s.data.toList.drop (a+j+1)).take (i - (a+j+1)))) (fun iv=>s.size - (intOf iv).toNat)
      case atStart=>exact ⟨a+j+1,by go_num,Nat.le_refl _,by omega,by simp [Hid]⟩
      case round =>
       obtain ⟨i,rfl,hi1,hi2,hfr⟩:=hrel
       by_cases hil:i<s.size
       ·by_cases h59:s[i]=59
        ·have q59:(((s[i]).toNat:Int) == 59)=true:=by have:=Ym s i hil 59;simp only [h59,decide_true] at this;rw [h59];rfl
         have hsm:semi (s.data.toList.drop (a+j+1))=some ((s.extract (a+j+1) i).data.toList,s.data.toList.drop (i+1)):=by
          have e1:s.data.toList.drop (a+j+1)=(s.data.toList.drop (a+j+1)).take (i - (a+j+1))++59::s.data.toList.drop (i+1):=by
           have e2:(s.data.toList.drop (a+j+1)).drop (i - (a+j+1))=s.data.toList.drop i:=by rw [List.drop_drop];congr 1;omega
           have e3:=Zl s i hil
           rw [h59] at e3
           rw [← e3,← e2,List.take_append_drop]
          rw [Lib.extract_data]
          conv=>lhs;rw [e1]
          exact Zgr _ _ hfr.out
         have hex:(s.extract (a+j+1) i).size≤maxLen:=by simp;unfold maxLen;omega
         have HV:Hid (∀ w,_):=Yk (s.extract (a+j+1) i) hex
         have HN:Hid (Rd w j (s.extract (a+j+1) i) (wr.setCell ⟨w.heap.size+1,1,none⟩ (.string (s.extract (a+j+1) i)))):=hR.out.name _
         cases hv:Zj (s.extract (a+j+1) i).data.toList with
         | true =>
           have HP:Hid _:=Zeb (p:=(i:Int)+1) (Zgu HB0.out hsm hv) (by rw [List.length_drop,HSZ.out];omega)
           rw [hv] at HV
           clear hv hsm h59 hfr hR HB0 hex
           go_wp2_with (go_at_call 100;refine ((HV.out) _).mono ?_;rintro e w2 ⟨rfl,hb2⟩;have R2:Hid (Rd w j (s.extract (a+j+1) i) w2):=HN.out.keep hb2;obtain ⟨d0,d1,d2,d3,e0,e1,e2,e3⟩:=R2.out.cells;clear hb2)
           refine bodyPost_ret (v:=.tuple #[.agg #[.int .i64 j,.string (s.extract (a+j+1) i)],.int .i64 ((i:Int)+1)]) (by simp [results,Tryz.results158,go_sem, *]) rfl ⟨HP.out,Yv R2.out _ _⟩
         | false =>
           have HP:Hid _:=Jo (x:=(j:Int)) (y:=s.extract (a+j+1) i) (Zgv HB0.out hsm hv)
           rw [hv] at HV
           clear hv hsm h59 hfr hR HB0 hex
           go_wp2_with (go_at_call 100;refine ((HV.out) _).mono ?_;rintro e w2 ⟨rfl,hb2⟩;have R2:Hid (Rd w j (s.extract (a+j+1) i) w2):=HN.out.keep hb2;obtain ⟨d0,d1,d2,d3,e0,e1,e2,e3⟩:=R2.out.cells;clear hb2)
           refine bodyPost_ret (v:=.tuple #[.agg #[.int .i64 j,.string (s.extract (a+j+1) i)],.int .i64 (-1)]) (by simp [results,Tryz.results158,go_sem, *]) rfl ⟨HP.out,Yv R2.out _ _⟩
        ·have q59:(((s[i]).toNat:Int) == 59)=false:=by have:=Ym s i hil 59;simp only [h59,decide_false] at this;exact this
         have HF:Hid ((59:UInt8) ∉ (s.data.toList.drop (a+j+1)).take (i+1 - (a+j+1))):=by
          have hl:i - (a+j+1)<(s.data.toList.drop (a+j+1)).length:=by rw [List.length_drop,HSZ.out];omega
          rw [Hid,show i+1 - (a+j+1)=(i - (a+j+1))+1 by omega,List.take_succ_eq_append_getElem hl]
          intro m
          rcases List.mem_append.1 m with m|m
          ·exact hfr.out m
          ·have m2:=List.mem_singleton.1 m
           rw [List.getElem_drop] at m2
           have e3:s.data.toList[a+j+1+(i - (a+j+1))]?=some s[i]:=by rw [show a+j+1+(i - (a+j+1))=i by omega];exact Lib.Pa.at_eq s i hil
           rw [List.getElem?_eq_getElem (by simp;omega)] at e3
           exact h59 (by rw [m2];exact (Option.some.inj e3).symm)
         clear h59 hfr hR HB0
         go_wp2
         go_round
         case rel=>exact ⟨i+1,by go_num,by omega,by omega,HF⟩
         case measure=>simp [intOf];omega
       ·have HP:Hid _:=Jo (x:=(j:Int)) (y:=⟨#[]⟩) (Zd3 HB0.out (Zdz _ (by
         have:=hfr.out
         rw [List.take_of_length_le (by rw [List.length_drop,HSZ.out];omega)] at this
         exact this)))
        have HB:Hid _:=Yv hR.out (.int .i64 j) (.string ⟨#[]⟩)
        clear hR hfr HB0
        go_wp2
        refine bodyPost_ret (v:=.tuple #[.agg #[.int .i64 j,.string ⟨#[]⟩],.int .i64 (-1)]) (by simp [results,Tryz.results158,go_sem, *]) rfl ⟨HP.out,HB.out⟩
     ·have q76:(((s[a+j]).toNat:Int) == 76)=false:=by have:=Ym s (a+j) hlt 76;simp only [h76,decide_false] at this;exact this
      have n76:(((s[a+j]).toNat:Int) != 76)=true:=by rw [bne,q76];rfl
      have HP:Hid _:=Jo (x:=(j:Int)) (y:=⟨#[]⟩) (Zb0 hb0 h73 h76)
      have HB:Hid _:=Yv hR.out (.int .i64 j) (.string ⟨#[]⟩)
      clear hR hbr h91 hb0 h73 h76
      go_wp2
      refine bodyPost_ret (v:=.tuple #[.agg #[.int .i64 j,.string ⟨#[]⟩],.int .i64 (-1)]) (by simp [results,Tryz.results158,go_sem, *]) rfl ⟨HP.out,HB.out⟩
  ·have hend:a+j=s.size:=by omega
   have HP:Hid _:=Jo (s:=s) (a:=a) (x:=(j:Int)) (y:=⟨#[]⟩) (Zgs (j:=j) (by rw [hbr.out,Y9 s (a+j) (by omega)];simp [Zq]))
   have HB:Hid _:=Yv hR.out (.int .i64 j) (.string ⟨#[]⟩)
   clear hR hbr hend
   go_wp2
   refine bodyPost_ret (v:=.tuple #[.agg #[.int .i64 j,.string ⟨#[]⟩],.int .i64 (-1)]) (by simp [results,Tryz.results158,go_sem, *]) rfl ⟨HP.out,HB.out⟩
end Go.Proofs.YtlnojhhddinjkaaGreat
