import Derived.Test.YtkoogmegdfpopaaGreatChecked
import Derived.Test.YtkoogmegdfpopaaGreatTypesPure
import Derived.Test.YtkoogmegdfpopaaGreatProg
import Derived.WalkSpells
import Derived.WalkLawsBesides
import Derived.Lib.Walk
import Derived.Lib.Join
import Derived.BigQuiet
import Derived.Test.YtkoogmegdfpopaaGreatSq
set_option maxHeartbeats 1000000
set_option maxRecDepth 100000
namespace Go.Proofs.YtkoogmegdfpopaaGreat
open Go.RowKit
theorem Za {a b:Bool} (h:a=b):Ending.returned (.bool a)=.returned (.bool b):=by rw [h]
theorem Zf {k:IntKind} {a b:Int} (h:a=b):Ending.returned (.int k a)=.returned (.int k b):=by rw [h]
theorem Zb3 {a b:ByteArray} (h:a=b):Ending.returned (.string a)=.returned (.string b):=by rw [h]
theorem Yw {a b:ByteArray} (h:a.data.toList=b.data.toList):a=b:=by
 obtain ⟨⟨x⟩⟩:=a;obtain ⟨⟨y⟩⟩:=b;simp at h;rw [h]
theorem Qg (c:Int) (w:World) :
 Calls Tryz.prog 108 #[.int .u8 c] w fun e w'=>e=.returned (.bool (digI c))∧w'=w:=by
 by_cases h1:(48:Int)≤c
 ·by_cases h2:c≤57
  ·go_enter Tryz.func108,Tryz.ntmps108
   go_wp2
   go_ret
   exact ⟨Za (by rw [Bool.eq_iff_iff];simp [digI];omega),rfl⟩
  ·go_enter Tryz.func108,Tryz.ntmps108
   go_wp2
   go_ret
   exact ⟨Za (by rw [Bool.eq_iff_iff];simp [digI];omega),rfl⟩
 ·go_enter Tryz.func108,Tryz.ntmps108
  go_wp2
  go_ret
  exact ⟨Za (by rw [Bool.eq_iff_iff];simp [digI];omega),rfl⟩
theorem Zds (c:Int) (w:World) :
 Calls Tryz.prog 109 #[.int .u8 c] w fun e w'=>e=.returned (.bool (ltrI c))∧w'=w:=by
 go_enter Tryz.func109,Tryz.ntmps109
 go_wp2
 all_goals (go_ret;exact ⟨Za (by rw [Bool.eq_iff_iff];simp [ltrI];try omega),rfl⟩)
theorem Zig (s:ByteArray):-1≤X8 s.data.toList∧X8 s.data.toList<s.size:=by
 have:=Zdn s.data.toList
 simpa using this
theorem Jf (s:ByteArray) (n:Nat):(s.extract 0 n)=⟨(s.data.toList.take n).toArray⟩:=by
 apply Yw;rw [Lib.extract_data];simp
theorem Zbn (s:ByteArray) (n:Nat):(s.extract n s.size)=⟨(s.data.toList.drop n).toArray⟩:=by
 apply Yw;rw [Lib.extract_to_end]
theorem Zcj (s:ByteArray) (w:World) :
 Calls Tryz.prog 145 #[.string s,.int .u8 47] w fun e w'=>e=.returned (.int .i64 (Lib.indexByte s.data.toList 47))∧w'=w:=by
 go_enter Tryz.func145,Tryz.ntmps145
 go_wp2
 rw [run_callFunc_extern Tryz.func156 (by kernel_rfl) (by kernel_rfl) (by kernel_rfl) (e:=Extern.BytealgIndexByte.indexByte) (by kernel_rfl),Lib.run_indexByteString]
 simp only [Result.andThen]
 rw [Oper.upon_value]
 go_wp2
 go_ret
 exact ⟨rfl,rfl⟩
theorem Zdt (s:ByteArray) (w:World) :
 Calls Tryz.prog 134 #[.string s,.string ⟨#[47]⟩] w fun e w'=>e=.returned (.int .i64 (Lib.indexByte s.data.toList 47))∧w'=w:=by
 by_cases hq:([47] == s.toList)=true
 ·have hi:Lib.indexByte s.data.toList 47=0:=by
   have:s.data.toList=[47]:=by rw [← Lib.toList_data];exact (beq_iff_eq.1 hq).symm
   rw [this];rfl
  have HI:Hid (Lib.indexByte s.data.toList 47=0):=hi
  clear hi
  go_enter Tryz.func134,Tryz.ntmps134
  go_wp2
  go_ret
  exact ⟨Zf HI.out.symm,rfl⟩
 ·have hq':([47] == s.toList)=false:=by simpa using hq
  clear hq
  go_enter Tryz.func134,Tryz.ntmps134
  go_wp2_with (go_at_call 145;refine (Zcj s _).mono ?_;rintro e w' ⟨rfl,rfl⟩)
  go_ret
  exact ⟨rfl,rfl⟩
theorem Zdm (s:ByteArray) (w:World) (h:Lib.indexByte s.data.toList 47=-1) :
 Calls Tryz.prog 125 #[.string s,.string ⟨#[47]⟩] w fun e w'=>e=.returned (.tuple #[.string s,.string ⟨#[]⟩,.bool false])∧∃ n,w'=w.drewN n:=by
 have HB:Hid (∀ w,_):=Zdt s
 rw [h] at HB
 clear h
 go_enter Tryz.func125,Tryz.ntmps125
 go_wp2_with (go_at_call 134;refine ((HB.out) _).mono ?_;rintro e w' ⟨rfl,rfl⟩)
 go_ret3
 exact ⟨rfl,0,rfl⟩
theorem Zev (s:ByteArray) (hs:s.size≤maxLen) (w:World) (n:Nat) (hn:n<s.size) (h:Lib.indexByte s.data.toList 47=n) :
 Calls Tryz.prog 125 #[.string s,.string ⟨#[47]⟩] w fun e w'=>e=.returned (.tuple #[.string (s.extract 0 n),.string (s.extract (n+1) s.size),.bool true])∧∃ n,w'=w.drewN n:=by
 have HB:Hid (∀ w,_):=Zdt s
 rw [h] at HB
 clear h
 unfold maxLen at hs
 go_enter Tryz.func125,Tryz.ntmps125
 go_wp2_with (go_at_call 134;refine ((HB.out) _).mono ?_;rintro e w' ⟨rfl,rfl⟩)
 go_region
 all_goals (go_wp2;go_ret3;exact ⟨rfl,1,rfl⟩)
theorem cut_miss (s:ByteArray) (w:World) (h:Lib.indexByte s.data.toList 47=-1) :
 Calls Tryz.prog 107 #[.string s,.string ⟨#[47]⟩] w fun e w'=>e=.returned (.tuple #[.string s,.string ⟨#[]⟩,.bool false])∧∃ n,w'=w.drewN n:=by
 have HB:Hid (∀ w,_):=fun w=>Zdm s w h
 clear h
 go_enter Tryz.func107,Tryz.ntmps107
 go_wp2_with (go_at_call 125;refine ((HB.out) _).mono ?_;rintro e w' ⟨rfl,n,rfl⟩)
 go_ret3
 exact ⟨rfl,_,rfl⟩
theorem cut_hit (s:ByteArray) (hs:s.size≤maxLen) (w:World) (n:Nat) (hn:n<s.size) (h:Lib.indexByte s.data.toList 47=n) :
 Calls Tryz.prog 107 #[.string s,.string ⟨#[47]⟩] w fun e w'=>e=.returned (.tuple #[.string (s.extract 0 n),.string (s.extract (n+1) s.size),.bool true])∧∃ n,w'=w.drewN n:=by
 have HB:Hid (∀ w,_):=fun w=>Zev s hs w n hn h
 clear h
 go_enter Tryz.func107,Tryz.ntmps107
 go_wp2_with (go_at_call 125;refine ((HB.out) _).mono ?_;rintro e w' ⟨rfl,n,rfl⟩)
 go_ret3
 exact ⟨rfl,_,rfl⟩
theorem Zdo (s:ByteArray) (hs:s.size≤maxLen) (w:World) :
 Calls Tryz.prog 143 #[.string s,.int .u8 47] w fun e w'=>e=.returned (.int .i64 (X8 s.data.toList))∧w'=w:=by
 unfold maxLen at hs
 go_enter Tryz.func143,Tryz.ntmps143
 go_wp2
 go_loop [5] (fun vi=>∃ k:Nat,k≤s.size∧vi=.int .i64 ((k:Int) - 1)∧Hid (X8 s.data.toList=Lib.Pa.lastIdx s.data.toList 47 k)) (fun vi=>((RowKit.intOf vi)+1).toNat)
 case atStart=>exact ⟨s.size,Nat.le_refl _,by first|rfl|go_num|(congr 1;omega),rfl⟩
 case round =>
  obtain ⟨k,hk,rfl,hh⟩:=hrel
  go_wp2
  ·have hc:(((s[k - 1]).toNat:Int) == 47)=true:=by assumption
   have k1:1≤k:=by omega
   have e1:Lib.Pa.lastIdx s.data.toList 47 k=((k - 1:Nat):Int):=by
    rw [show k=(k - 1)+1 by omega,Lib.Pa.lastIdx,Lib.Pa.at_eq s (k - 1) (by omega),if_pos]
    ·rfl
    ·congr 1;apply UInt8.toNat_inj.1;have:=beq_iff_eq.1 hc;simpa using (by omega:(s[k-1]).toNat=47)
   have e2:((k - 1:Nat):Int)=(k:Int) - 1:=by omega
   go_ret
   rw [hh.out,e1,e2]
   exact ⟨rfl,rfl⟩
  ·have hc:(((s[k - 1]).toNat:Int) == 47)=false:=by assumption
   have k1:1≤k:=by omega
   have e1:Lib.Pa.lastIdx s.data.toList 47 k=Lib.Pa.lastIdx s.data.toList 47 (k - 1):=by
    conv=>lhs;rw [show k=(k - 1)+1 by omega]
    rw [Lib.Pa.lastIdx,Lib.Pa.at_eq s (k - 1) (by omega),if_neg]
    intro h
    have h':s[k-1]=47:=by simpa using h
    rw [h'] at hc;simp at hc
   refine ⟨⟨k - 1,by omega,by congr 1;omega,hh.out.trans e1⟩,?_⟩
   simp [RowKit.intOf];omega
  ·have k0:k=0:=by omega
   subst k0
   go_ret
   rw [hh.out]
   exact ⟨rfl,rfl⟩
theorem Zcg (s:ByteArray) (hs:s.size≤maxLen) (w:World) :
 Calls Tryz.prog 133 #[.string s,.string ⟨#[47]⟩] w fun e w'=>e=.returned (.int .i64 (X8 s.data.toList))∧w'=w:=by
 go_enter Tryz.func133,Tryz.ntmps133
 go_wp2_with (go_at_call 143;refine (Zdo s hs _).mono ?_;rintro e w' ⟨rfl,rfl⟩)
 go_ret
 exact ⟨rfl,rfl⟩
theorem Zew (s:ByteArray) (hs:s.size≤maxLen) (w:World) :
 Calls Tryz.prog 120 #[.string s] w fun e w'=>e=.returned (.int .i64 (X8 s.data.toList))∧w'=w:=by
 go_enter Tryz.func120,Tryz.ntmps120
 go_wp2_with (go_at_call 133;refine (Zcg s hs _).mono ?_;rintro e w' ⟨rfl,rfl⟩)
 go_ret
 exact ⟨rfl,rfl⟩
theorem Zer (s:ByteArray) (hs:s.size≤maxLen) (w:World) :
 Calls Tryz.prog 98 #[.string s] w fun e w'=>e=.returned (.string ⟨(pkgL s.data.toList).toArray⟩)∧w'=w:=by
 have hl:=Zig s
 have HP:Hid (pkgL s.data.toList=s.data.toList.take (X8 s.data.toList).toNat):=rfl
 have hm:=hs
 unfold maxLen at hm
 have HB:Hid (∀ w,_):=Zew s hs
 generalize X8 s.data.toList=x at *
 by_cases hx:x=-1
 ·subst hx
  go_enter Tryz.func98,Tryz.ntmps98
  go_wp2_with (go_at_call 120;refine ((HB.out) _).mono ?_;rintro e w' ⟨rfl,rfl⟩)
  go_ret
  refine ⟨Zb3 ?_,rfl⟩
  rw [HP.out]
  apply Yw;simp;left;omega
 ·obtain ⟨n,rfl⟩:∃ n:Nat,x=n:=⟨x.toNat,by omega⟩
  have hn:n<s.size:=by omega
  clear hx hl
  go_enter Tryz.func98,Tryz.ntmps98
  go_wp2_with (go_at_call 120;refine ((HB.out) _).mono ?_;rintro e w' ⟨rfl,rfl⟩)
  go_ret
  refine ⟨Zb3 ?_,rfl⟩
  rw [HP.out]
  apply Yw;simp
theorem Q9 (s:ByteArray) (p:UInt8→Bool) (k:Nat) (h:k<s.size):(s.data.toList.take (k+1)).all p=((s.data.toList.take k).all p&&p s[k]):=by
 rw [List.take_succ_eq_append_getElem (by simpa using h),List.all_append]
 simp
 rfl
theorem Ja (s:ByteArray) (p:UInt8→Bool):(s.data.toList.take s.size).all p=s.data.toList.all p:=by
 rw [List.take_of_length_le (by simp)]
theorem Ju (s:ByteArray) (p:UInt8→Bool) (k:Nat) (h:k<s.size) (hp:p s[k]=false):s.data.toList.all p=false:=by
 rw [List.all_eq_false]
 exact ⟨s[k],by have:=Lib.Pa.at_eq s k h;exact List.mem_of_getElem? this,by simp [hp]⟩
theorem Zbg (s:ByteArray) (h:0<s.size):Yn s.data.toList=(!digI (s[0]).toNat&&s.data.toList.all Je):=by
 have e:=Lib.Pa.at_eq s 0 h
 cases hl:s.data.toList with
 | nil=>rw [hl] at e;simp at e
 | cons c r =>
   rw [hl] at e
   have:c=s[0]:=by simpa using e
   rw [this];rfl
theorem Zbl (s:ByteArray) (hs:s.size≤maxLen) (w:World) :
 Calls Tryz.prog 89 #[.string s] w fun e w'=>e=.returned (.bool (Yn s.data.toList))∧w'=w:=by
 unfold maxLen at hs
 by_cases h0:s.size=0
 ·have h1 : s = ⟨#[]⟩ := by apply Yw; have : s.data.toList.length = 0 := by simpa using h0
                            simpa using List.eq_nil_of_length_eq_zero this
  subst h1
  go_enter Tryz.func89,Tryz.ntmps89
  go_wp2
  go_ret
  exact ⟨rfl,rfl⟩
 ·have hpos:0<s.size:=by omega
  have HP:Hid (Yn s.data.toList=(!digI (s[0]).toNat&&s.data.toList.all Je)):=Zbg s hpos
  have hne:s.toList.isEmpty=false:=by
   rw [Lib.toList_data,List.isEmpty_eq_false_iff]
   intro h;have h2:s.data.toList.length=0:=by rw [h];rfl
   have h3:s.data.toList.length=s.size:=by simp
   omega
  generalize Yn s.data.toList=b at *
  by_cases hd:digI (s[0]).toNat=true
  ·have HD:Hid (∀ w,Calls Tryz.prog 108 #[.int .u8 (s[0]).toNat] w fun e w'=>e=.returned (.bool true)∧w'=w):=by
    have:=Qg (s[0]).toNat;rw [hd] at this;exact this
   have HB:Hid (b=false):=by have:=HP.out;rw [hd] at this;exact this
   clear hd HP
   go_enter Tryz.func89,Tryz.ntmps89
   go_wp2_with (go_at_call 108;refine ((HD.out) _).mono ?_;rintro e w' ⟨rfl,rfl⟩)
   go_ret
   exact ⟨Za HB.out.symm,rfl⟩
  ·have hd':digI (s[0]).toNat=false:=by simpa using hd
   have HD:Hid (∀ w,Calls Tryz.prog 108 #[.int .u8 (s[0]).toNat] w fun e w'=>e=.returned (.bool false)∧w'=w):=by
    have:=Qg (s[0]).toNat;rw [hd'] at this;exact this
   have HB:Hid (b=s.data.toList.all Je):=by have:=HP.out;rw [hd'] at this;exact this
   clear hd hd' HP
   go_enter Tryz.func89,Tryz.ntmps89
   go_wp2_with (go_at_call 108;refine ((HD.out) _).mono ?_;rintro e w' ⟨rfl,rfl⟩)
   go_loop [13] (fun i=>∃ k:Nat,k≤s.size∧i=.int .i64 k∧Hid ((s.data.toList.take k).all Je=true)) (fun i=>s.size - (intOf i).toNat)
   case atStart=>exact ⟨0,Nat.zero_le _,rfl,by simp [Hid]⟩
   case round =>
    obtain ⟨k,hk,rfl,hr⟩:=hrel
    clear HD
    by_cases hlt:k<s.size
    ·have HS:Hid _:=Q9 s Je k hlt
     have HF:Hid _:=Ju s Je k hlt
     have hw:Je s[k]=(ltrI (s[k]).toNat||digI (s[k]).toNat):=rfl
     rw [hw] at HS HF
     clear hw
     have HL:Hid (∀ w,_):=Zds (s[k]).toNat
     have HG:Hid (∀ w,_):=Qg (s[k]).toNat
     generalize ltrI (s[k]).toNat=l at *
     generalize digI (s[k]).toNat=d at *
     cases l
     ·cases d
      ·go_wp2_with (first|(go_at_call 109;refine ((HL.out) _).mono ?_;rintro e w' ⟨rfl,rfl⟩)|(go_at_call 108;refine ((HG.out) _).mono ?_;rintro e w' ⟨rfl,rfl⟩))
       go_ret
       exact ⟨Za (by rw [HB.out];exact (HF.out rfl).symm),rfl⟩
      ·go_wp2_with (first|(go_at_call 109;refine ((HL.out) _).mono ?_;rintro e w' ⟨rfl,rfl⟩)|(go_at_call 108;refine ((HG.out) _).mono ?_;rintro e w' ⟨rfl,rfl⟩))
       go_round
       case rel=>exact ⟨k+1,by omega,by go_num,by rw [Hid,HS.out,hr.out];rfl⟩
       case measure=>simp [intOf];omega
     ·go_wp2_with (first|(go_at_call 109;refine ((HL.out) _).mono ?_;rintro e w' ⟨rfl,rfl⟩)|(go_at_call 108;refine ((HG.out) _).mono ?_;rintro e w' ⟨rfl,rfl⟩))
      go_round
      case rel=>exact ⟨k+1,by omega,by go_num,by rw [Hid,HS.out,hr.out];rfl⟩
      case measure=>simp [intOf];omega
    ·have hk':k=s.size:=by omega
     go_wp2
     go_ret
     refine ⟨Za ?_,rfl⟩
     rw [HB.out,← Ja,← hk',hr.out]
def strV (p:List UInt8):Value:=.string ⟨p.toArray⟩
def lenV:Value→Nat | .string s=>s.size|_=>0
def boolV:Value→Nat | .bool true=>1|_=>0
theorem Tryz.info9:(Tryz.prog.info? 9).map (fun i=>(i.zero,i.size,i.bytes))=some (some (.string ⟨#[]⟩),1,16):=by kernel_rfl
theorem Zde {w wr w1:World} {nq:Nat} {B:Nat} {v v':Value} {done:List (List UInt8)} {part:ByteArray} {o:Obj}
 (hB:B≤wr.heap.size) (hown:wr.ownsRow B 9 1 v done.length (done.map strV)) (hbel:Below B w wr)
 (hown':w1.ownsRow B 9 1 v' (done.length+1) (done.map strV++[.string part])) (hg:((wr.drewN nq).alloc o).grownBy w1 v.ownBlock) :
 w1.ownsRow B 9 1 v' (done++[part.data.toList]).length ((done++[part.data.toList]).map strV)∧Below B w w1:=by
 constructor
 ·simpa [strV] using hown'
 ·refine ((below_drewN hbel nq).alloc (by simpa using hB) o).grown hg (by simp;omega) ?_
  intro k hk
  exact (hown.lt k hk).1
theorem Qf (b:List UInt8):(⟨b.toArray⟩:ByteArray).size=b.length:=by show b.toArray.size=_;simp
theorem Zdu {w:World} {base:Nat} {e:TypeId} {size:Nat} {v:Value} {n:Nat} {xs:List Value} (h:w.ownsRow base e size v n xs) (q:Nat):(w.drewN q).ownsRow base e size v n xs:=h
theorem Zh8 (s:ByteArray) (hs:s.size≤1099511627776) (w:World) :
 Calls Tryz.prog 88 #[.string s] w fun e w'=>∃ v,e=.returned v∧w'.ownsRow w.heap.size 9 1 v (Zq s.data.toList).length ((Zq s.data.toList).map strV)∧Bw w w':=by
 obtain ⟨i0,hi,hz0,hz1,hz2⟩:=info_parts Tryz.info9
 have HL:Hid _:=Yp s.data.toList
 go_enter Tryz.func88,Tryz.ntmps88
 go_wp2
 go_loopw [3,4,5] (fun v r m wr=>∃ (done:List (List UInt8)) (rest:ByteArray) (b:Bool),r=.string rest∧m=.bool b∧rest.size≤s.size ∧
  wr.ownsRow w.heap.size 9 1 v done.length (done.map strV)∧Bw w wr∧Hid (done++(if b then Zq rest.data.toList else [])=Zq s.data.toList))
  (fun _ r m _=>(lenV r+1) * boolV m)
 case atStart=>exact ⟨[],s,true,rfl,rfl,Nat.le_refl _,World.ownsRow_nil _ _ _ _,Below.refl _ _,by simp [Hid]⟩
 case round =>
  obtain ⟨done,rest,b,rfl,rfl,hrs,hown,hbel,hp⟩:=hrel
  cases b
  ·go_wp2
   go_ret
   have he:done=Zq s.data.toList:=by have:=hp.out;simpa using this
   rw [← he]
   exact ⟨_,rfl,hown,hbel⟩
  ·have hbs:=hbel.size
   by_cases hx:Lib.indexByte rest.data.toList 47=-1
   ·have HC:Hid (∀ w,_):=fun w=>cut_miss rest w hx
    have hd:done++[rest.data.toList]=Zq s.data.toList:=by have:=hp.out;rw [if_pos rfl,Zam _ (Za4 _ hx)] at this;exact this
    have hdl:done.length+1≤s.size+1:=by have:=HL.out;rw [← hd] at this;simpa using this
    have HD:Hid _:=hd
    clear hx hp hd HL
    go_wp2_with (first
     | (go_at_call 107;refine ((HC.out) _).mono ?_;rintro e w' ⟨rfl,nq,rfl⟩)
     | (at_builtin;refine wpList_append_own _ rfl _ _ 30 rfl w.heap.size 9 i0 (.string ⟨#[]⟩) 1 16 Tryz.underlying30 hi hz0 hz1 hz2 rfl (by decide) _ _ _ rfl ((Zdu hown _).alloc _) ⟨wr.heap.size,0,none⟩ 1 1 [.string rest] rfl rfl ?c1 ?c2 ?c3 ?c4 ?c5 ?_))
    case c1=>exact cell_one_new _ _ _
    case c2=>intro u hu;simp at hu;subst hu;rfl
    case c3=>unfold maxLen;omega
    case c4=>omega
    case c5=>simp;omega
    ·intro v' w1 hown' hgrow _
     have R:=Zde hbs hown hbel hown' hgrow
     clear hown' hgrow hown
     go_wp2
     go_roundw
     case rel=>exact ⟨done++[rest.data.toList],⟨#[]⟩,false,rfl,rfl,Nat.zero_le _,R.1,R.2,by have:=HD.out;simpa [Hid] using this⟩
     case measure=>simp [lenV,boolV]
   ·obtain ⟨a,b,hab,ha,hix⟩:=Zci _ hx
    have hsz : rest.size = a.length + 1 + b.length := by have : rest.data.toList.length = rest.size := by simp
                                                         rw [← this,hab];simp;omega
    have han:a.length<rest.size:=by omega
    have HC:Hid (∀ w,_):=fun w=>cut_hit rest (by unfold maxLen;omega) w a.length han hix
    have e1:rest.extract 0 a.length=⟨a.toArray⟩:=by rw [Jf,hab];simp
    have e2:rest.extract (a.length+1) rest.size=⟨b.toArray⟩:=by
     rw [Zbn,hab,show a++47::b=(a++[47])++b by simp,List.drop_left' (by simp)]
    rw [e1,e2] at HC
    have hd:done++[a]++Zq b=Zq s.data.toList:=by have:=hp.out;rw [if_pos rfl,hab,Zbf _ _ ha] at this;simpa using this
    have hdl:done.length+1≤s.size+1:=by have:=HL.out;rw [← hd] at this;simp at this;omega
    have HD:Hid _:=hd
    clear hx hp hd HL hab ha hix e1 e2
    go_wp2_with (first
     | (go_at_call 107;refine ((HC.out) _).mono ?_;rintro e w' ⟨rfl,nq,rfl⟩)
     | (at_builtin;refine wpList_append_own _ rfl _ _ 30 rfl w.heap.size 9 i0 (.string ⟨#[]⟩) 1 16 Tryz.underlying30 hi hz0 hz1 hz2 rfl (by decide) _ _ _ rfl ((Zdu hown _).alloc _) ⟨wr.heap.size,0,none⟩ 1 1 [.string ⟨a.toArray⟩] rfl rfl ?d1 ?d2 ?d3 ?d4 ?d5 ?_))
    case d1=>exact cell_one_new _ _ _
    case d2=>intro u hu;simp at hu;subst hu;rfl
    case d3=>unfold maxLen;omega
    case d4=>omega
    case d5=>simp;omega
    ·intro v' w1 hown' hgrow _
     have R:=Zde hbs hown hbel hown' hgrow
     clear hown' hgrow hown
     go_wp2
     go_roundw
     case rel=>exact ⟨done++[a],⟨b.toArray⟩,true,rfl,rfl,by rw [Qf];omega,R.1,R.2,HD.out⟩
     case measure=>simp [lenV,boolV,Qf];omega
theorem Zdg {w:World} {base:Nat} {v:Value} {ps:List (List UInt8)} (h:w.ownsRow base 9 1 v ps.length (ps.map strV)) (hne:ps≠[]) :
 ∃ g cap,v=.slice (some ⟨g,0,none⟩) ps.length cap∧base≤g∧g<w.heap.size∧ps.length≤cap∧cap≤maxLen∧∀ k p,ps[k]?=some p→w.cell? ⟨g,k,none⟩=some (.string ⟨p.toArray⟩):=by
 have h':=h
 rcases h.2 with ⟨_,h0⟩|⟨g,cap,cur,rfl,hb,hg,hn,hm,_,_⟩
 ·exact absurd (List.eq_nil_of_length_eq_zero h0) hne
 ·refine ⟨g,cap,rfl,hb,(Array.getElem?_eq_some_iff.1 hg).1,hn,hm,fun k p hk=>?_⟩
  have hlt:k<ps.length:=(List.getElem?_eq_some_iff.1 hk).1
  rw [h'.cellAt k (by omega),List.getElem?_map,hk]
  rfl
theorem Zbe (l:List UInt8):∀ p∈Zq l,p.length≤l.length:=by
 induction l with
 | nil=>intro p hp;simp [Zq] at hp;simp [hp]
 | cons c l ih =>
   intro p hp
   unfold Zq at hp
   split at hp
   ·rcases List.mem_cons.1 hp with rfl|h
    ·simp
    ·have:=ih p h;simp;omega
   ·split at hp
    ·simp at hp;simp [hp]
    ·rename_i q qs e
     rw [e] at ih
     rcases List.mem_cons.1 hp with rfl|h
     ·have:=ih q (List.mem_cons_self ..);simp;omega
     ·have:=ih p (List.mem_cons_of_mem _ h);simp;omega
theorem Zfz (ps:List (List UInt8)) (k:Nat) (p:List UInt8) (h:ps[k]?=some p):(ps.take (k+1)).all Yn=((ps.take k).all Yn&&Yn p):=by
 obtain ⟨hlt,rfl⟩:=List.getElem?_eq_some_iff.1 h
 rw [List.take_succ_eq_append_getElem hlt,List.all_append]
 simp
theorem Zfy (ps:List (List UInt8)) (k:Nat) (p:List UInt8) (h:ps[k]?=some p) (hp:Yn p=false):ps.all Yn=false:=by
 rw [List.all_eq_false]
 exact ⟨p,List.mem_of_getElem? h,by simp [hp]⟩
theorem Y7 (s:ByteArray) (hs:s.size≤maxLen) (w:World) :
 Calls Tryz.prog 70 #[.string s] w fun e w'=>e=.returned (.bool (Zk s.data.toList))∧Bw w w':=by
 have hlen:s.data.toList.length=s.size:=by simp
 unfold maxLen at hs
 by_cases h60:s.size≤60
 ·have HV:Hid (Zk s.data.toList=(Zq s.data.toList).all Yn):=by unfold Zk;rw [hlen];simp [Hid,h60]
  have HP:Hid (∀ w,_):=Zh8 s (by omega)
  have hne:=Qq s.data.toList
  have hpl:=Yp s.data.toList
  rw [hlen] at hpl
  have hel:∀ p∈Zq s.data.toList,p.length≤60:=fun p hp=>by have:=Zbe s.data.toList p hp;omega
  generalize Zk s.data.toList=b at *
  generalize Zq s.data.toList=ps at *
  have HN:Hid (ps≠[]):=hne
  have HE:Hid (∀ p∈ps,p.length≤60):=hel
  clear hne hlen hel
  go_enter Tryz.func70,Tryz.ntmps70
  go_wp2_with (go_at_call 88;refine ((HP.out) _).mono ?_;rintro e w1 ⟨v,rfl,hown,hbel⟩;obtain ⟨g,cap,rfl,hg,hgl,hcap,hcm,hcell⟩:=Zdg hown HN.out;clear hown)
  have HC:Hid (∀ k p,ps[k]?=some p→w1.cell? ⟨g,k,none⟩=some (.string ⟨p.toArray⟩)):=hcell
  clear hcell HP HN
  go_loop [11] (fun i=>∃ k:Nat,k≤ps.length∧i=.int .i64 k∧Hid ((ps.take k).all Yn=true)) (fun i=>ps.length - (intOf i).toNat)
  case atStart=>exact ⟨0,Nat.zero_le _,rfl,by simp [Hid]⟩
  case round =>
   obtain ⟨k,hk,rfl,hr⟩:=hrel
   by_cases hlt:k<ps.length
   ·obtain ⟨p,hp⟩:∃ p,ps[k]?=some p:=⟨_,List.getElem?_eq_getElem hlt⟩
    have hc:=HC.out k p hp
    have HS:Hid _:=Zfz ps k p hp
    have HF:Hid _:=Zfy ps k p hp
    have hl60:=HE.out p (List.mem_of_getElem? hp)
    have HI:Hid (∀ w,_):=Zbl ⟨p.toArray⟩ (by rw [Qf];unfold maxLen;omega)
    clear hp
    have e:(⟨p.toArray⟩:ByteArray).data.toList=p:=by simp
    rw [e] at HI
    clear e
    generalize Yn p=d at *
    cases d
    ·go_wp2_with (go_at_call 89;refine ((HI.out) _).mono ?_;rintro e w' ⟨rfl,rfl⟩)
     go_ret
     exact ⟨Za (by rw [HV.out];exact (HF.out trivial).symm),hbel⟩
    ·go_wp2_with (go_at_call 89;refine ((HI.out) _).mono ?_;rintro e w' ⟨rfl,rfl⟩)
     go_round
     case rel=>exact ⟨k+1,by omega,by go_num,by rw [Hid,HS.out,hr.out];rfl⟩
     case measure=>simp [intOf];omega
   ·have hk':k=ps.length:=by omega
    go_wp2
    go_ret
    refine ⟨Za ?_,hbel⟩
    rw [HV.out,← hr.out,hk',List.take_length]
 ·have HV:Hid (Zk s.data.toList=false):=by unfold Zk;rw [hlen];simp [Hid,h60]
  clear hlen
  go_enter Tryz.func70,Tryz.ntmps70
  go_wp2
  go_ret
  exact ⟨Za HV.out.symm,Below.refl _ _⟩
theorem Zfo (s:ByteArray):(s.toList == [60,105,110,105,116,62])=(s.data.toList == initL):=by rw [Lib.toList_data];rfl
theorem Zbi (s:ByteArray) (hs:s.size≤maxLen) (w:World) :
 Calls Tryz.prog 93 #[.string s] w fun e w'=>e=.returned (.bool (Z3 s.data.toList))∧w'=w:=by
 have hlen:s.data.toList.length=s.size:=by simp
 have HM:Hid (Z3 s.data.toList=((s.toList == [60,105,110,105,116,62])||(decide (s.size≤60)&&Yn s.data.toList))):=by
  unfold Z3;rw [Zfo,hlen];rfl
 have HI:Hid (∀ w,_):=Zbl s hs
 unfold maxLen at hs
 generalize Z3 s.data.toList=b at *
 generalize Yn s.data.toList=d at *
 clear hlen
 by_cases hq:(s.toList == [60,105,110,105,116,62])=true
 ·go_enter Tryz.func93,Tryz.ntmps93
  go_wp2
  go_ret
  exact ⟨Za (by rw [HM.out];simp [hq]),rfl⟩
 ·have hq':(s.toList == [60,105,110,105,116,62])=false:=by simpa using hq
  clear hq
  by_cases h60:s.size≤60
  ·go_enter Tryz.func93,Tryz.ntmps93
   go_wp2_with (go_at_call 89;refine ((HI.out) _).mono ?_;rintro e w' ⟨rfl,rfl⟩)
   go_ret
   exact ⟨Za (by rw [HM.out,hq'];simp [h60]),rfl⟩
  ·go_enter Tryz.func93,Tryz.ntmps93
   go_wp2
   go_ret
   exact ⟨Za (by rw [HM.out,hq'];simp [h60]),rfl⟩
def IsStrs (w:World) (v:Value) (ps:List (List UInt8)):Prop :=
 ∃ ao cap,v=.slice ao ps.length cap∧ps.length≤cap∧cap≤maxLen ∧
   (ps≠[]→∃ bk o,ao=some ⟨bk,o,none⟩∧bk<w.heap.size∧∀ k p,ps[k]?=some p→w.cell? ⟨bk,o+k,none⟩=some (.string ⟨p.toArray⟩))
theorem IsStrs.keep {w w':World} {v:Value} {ps:List (List UInt8)} (h:IsStrs w v ps) (hb:Bw w w'):IsStrs w' v ps:=by
 obtain ⟨ao,cap,rfl,h1,h2,h3⟩:=h
 refine ⟨ao,cap,rfl,h1,h2,fun hne=>?_⟩
 obtain ⟨bk,o,e,hlt,hc⟩:=h3 hne
 exact ⟨bk,o,e,Nat.lt_of_lt_of_le hlt hb.size,fun k p hk=>(hb.cell hlt).trans (hc k p hk)⟩
theorem Zek (c:Int) (w:World) :
 Calls Tryz.prog 99 #[.int .u8 c] w fun e w'=>e=.returned (.bool (ltrI c))∧w'=w:=by
 go_enter Tryz.func99,Tryz.ntmps99
 go_wp2
 all_goals (go_ret;exact ⟨Za (by rw [Bool.eq_iff_iff];simp [ltrI];try omega),rfl⟩)
theorem lastIdx_hit (s:ByteArray) (k:Nat) (h:k<s.size) (e:((s[k].toNat:Int) == 47)=true):Lib.Pa.lastIdx s.data.toList 47 (k+1)=(k:Int):=by
 rw [Lib.Pa.lastIdx,Lib.Pa.at_eq s k h,if_pos]
 congr 1;apply UInt8.toNat_inj.1;have:=beq_iff_eq.1 e;simpa using (by omega:(s[k]).toNat=47)
theorem lastIdx_miss (s:ByteArray) (k:Nat) (h:k<s.size) (e:((s[k].toNat:Int) == 47)=false):Lib.Pa.lastIdx s.data.toList 47 (k+1)=Lib.Pa.lastIdx s.data.toList 47 k:=by
 rw [Lib.Pa.lastIdx,Lib.Pa.at_eq s k h,if_neg]
 intro q
 have h':s[k]=47:=by simpa using q
 rw [h'] at e;simp at e
theorem Zeu (c:Int) (h:ltrI c=true):digI c=false:=by
 simp [ltrI] at h
 simp [digI]
 omega
theorem Zdb (s:ByteArray) (hs:s.size≤maxLen) (w:World) :
 Calls Tryz.prog 78 #[.string s] w fun e w'=>e=.returned (.bool (Yn s.data.toList))∧w'=w:=by
 unfold maxLen at hs
 have HP:Hid (∀ h:0<s.size,Yn s.data.toList=(!digI (s[0]).toNat&&s.data.toList.all Je)):=Zbg s
 have H0:Hid (s.size=0→Yn s.data.toList=false):=fun h=>by
  have:s.data.toList.length=0:=by simpa using h
  rw [List.eq_nil_of_length_eq_zero this];rfl
 generalize Yn s.data.toList=b at *
 go_enter Tryz.func78,Tryz.ntmps78
 go_wp2
 go_loop [3] (fun i=>∃ k:Nat,k≤s.size∧i=.int .i64 k∧Hid ((s.data.toList.take k).all Je=true)∧Hid (∀ h:0<s.size,0<k→digI (s[0]).toNat=false)) (fun i=>s.size - (intOf i).toNat)
 case atStart=>exact ⟨0,Nat.zero_le _,rfl,by simp [Hid],fun _ h=>absurd h (by omega)⟩
 case round =>
  obtain ⟨k,hk,rfl,hr,hd0⟩:=hrel
  by_cases hlt:k<s.size
  ·have HS:Hid _:=Q9 s Je k hlt
   have HF:Hid _:=Ju s Je k hlt
   have hw:Je s[k]=(ltrI (s[k]).toNat||digI (s[k]).toNat):=rfl
   rw [hw] at HS HF
   clear hw
   have HL:Hid (∀ w,_):=Zek (s[k]).toNat
   have HN:Hid _:=Zeu (s[k]).toNat
   have HD:Hid (digI (s[k]).toNat=(decide (48≤((s[k]).toNat:Int))&&decide (((s[k]).toNat:Int)≤57))):=rfl
   have HK:Hid (k=0→∀ h:0<s.size,digI (s[0]).toNat=digI (s[k]).toNat):=fun e h=>by subst e;rfl
   generalize ltrI (s[k]).toNat=l at *
   cases l
   ·by_cases h0:k=0
    ·have hb:b=false:=by
      rw [HP.out (by omega)]
      rw [HK.out h0 (by omega)]
      have:=HF.out
      generalize digI (s[k]).toNat=d at *
      cases d
      ·rw [this rfl];rfl
      ·rfl
     subst hb
     subst h0
     clear HP H0 HS HF HN HD HK hr hd0
     go_wp2_with (go_at_call 99;refine ((HL.out) _).mono ?_;rintro e w' ⟨rfl,rfl⟩)
     go_ret
     exact ⟨rfl,rfl⟩
    ·have hkb:((k:Int) == 0)=false:=by rw [beq_eq_false_iff_ne];omega
     generalize digI (s[k]).toNat=d at *
     cases d
     ·have hb:b=false:=by rw [HP.out (by omega),HF.out rfl];simp
      subst hb
      have hor:((s[k]).toNat:Int)<48∨57<((s[k]).toNat:Int):=by have:=HD.out;simp at this;omega
      clear HP H0 HS HF HN HD HK hr hd0
      rcases hor with h|h
      ·go_wp2_with (go_at_call 99;refine ((HL.out) _).mono ?_;rintro e w' ⟨rfl,rfl⟩)
       go_ret
       exact ⟨rfl,rfl⟩
      ·go_wp2_with (go_at_call 99;refine ((HL.out) _).mono ?_;rintro e w' ⟨rfl,rfl⟩)
       go_ret
       exact ⟨rfl,rfl⟩
     ·have h1:(48:Int)≤((s[k]).toNat:Int):=by have:=HD.out;simp at this;omega
      have h2:((s[k]).toNat:Int)≤57:=by have:=HD.out;simp at this;omega
      clear HP H0 HF HN HD HK
      go_wp2_with (go_at_call 99;refine ((HL.out) _).mono ?_;rintro e w' ⟨rfl,rfl⟩)
      go_round
      case rel=>exact ⟨k+1,by omega,by go_num,by rw [Hid,HS.out,hr.out];rfl,fun h _=>hd0.out h (by omega)⟩
      case measure=>simp [intOf];omega
   ·have HQ:Hid (∀ h:0<s.size,0<k+1→digI (s[0]).toNat=false):=fun h _=>by
     by_cases h0:k=0
     ·rw [HK.out h0 h];exact HN.out rfl
     ·exact hd0.out h (by omega)
    clear HP H0 HF HN HD HK
    go_wp2_with (go_at_call 99;refine ((HL.out) _).mono ?_;rintro e w' ⟨rfl,rfl⟩)
    go_round
    case rel=>exact ⟨k+1,by omega,by go_num,by rw [Hid,HS.out,hr.out];rfl,HQ⟩
    case measure=>simp [intOf];omega
  ·have hk':k=s.size:=by omega
   by_cases hz:s.size=0
   ·have hb:=H0.out hz
    clear HP H0 hr hd0 hk'
    go_wp2
    go_ret
    exact ⟨Za rfl,rfl⟩
   ·have hb:b=true:=by
     rw [HP.out (by omega),hd0.out (by omega) (by omega),← Ja,← hk',hr.out];rfl
    clear HP H0 hr hd0 hk'
    go_wp2
    go_ret
    exact ⟨Za (by simp;omega),rfl⟩
theorem Zaj (s:ByteArray) (hs:s.size≤maxLen) (w:World) :
 Calls Tryz.prog 81 #[.string s] w fun e w'=>e=.returned (.bool (Z3 s.data.toList))∧w'=w:=by
 have hlen:s.data.toList.length=s.size:=by simp
 have HM:Hid (Z3 s.data.toList=((s.toList == [60,105,110,105,116,62])||(decide (s.size≤60)&&Yn s.data.toList))):=by
  unfold Z3;rw [Zfo,hlen];rfl
 have HI:Hid (∀ w,_):=Zdb s hs
 unfold maxLen at hs
 generalize Z3 s.data.toList=b at *
 generalize Yn s.data.toList=d at *
 clear hlen
 by_cases hq:(s.toList == [60,105,110,105,116,62])=true
 ·go_enter Tryz.func81,Tryz.ntmps81
  go_wp2
  go_ret
  exact ⟨Za (by rw [HM.out];simp [hq]),rfl⟩
 ·have hq':(s.toList == [60,105,110,105,116,62])=false:=by simpa using hq
  clear hq
  by_cases h60:s.size≤60
  ·go_enter Tryz.func81,Tryz.ntmps81
   go_wp2_with (go_at_call 78;refine ((HI.out) _).mono ?_;rintro e w' ⟨rfl,rfl⟩)
   go_ret
   exact ⟨Za (by rw [HM.out,hq'];simp [h60]),rfl⟩
  ·go_enter Tryz.func81,Tryz.ntmps81
   go_wp2
   go_ret
   exact ⟨Za (by rw [HM.out,hq'];simp [h60]),rfl⟩
theorem Zh2 (s:ByteArray) (hs:s.size≤maxLen) (w:World) :
 Calls Tryz.prog 105 #[.string s] w fun e w'=>e=.returned (.int .i64 (X8 s.data.toList))∧w'=w:=by
 unfold maxLen at hs
 have HE:Hid (X8 s.data.toList=Lib.Pa.lastIdx s.data.toList 47 s.size):=by
  unfold X8 Lib.Pa.lastIndexByte;rw [Hid];congr 1
 go_enter Tryz.func105,Tryz.ntmps105
 go_wp2
 go_loop [3,4] (fun t i=>∃ k:Nat,k≤s.size∧i=.int .i64 k∧t=.int .i64 (Lib.Pa.lastIdx s.data.toList 47 k)) (fun _ i=>s.size - (intOf i).toNat)
 case atStart=>exact ⟨0,Nat.zero_le _,rfl,rfl⟩
 case round =>
  obtain ⟨k,hk,rfl,rfl⟩:=hrel
  by_cases hlt:k<s.size
  ·cases he:(((s[k]).toNat:Int) == 47) with
   | true =>
     have H1:Hid _:=lastIdx_hit s k hlt he
     go_wp2
     go_round
     case rel=>exact ⟨k+1,by omega,by go_num,by rw [H1.out]⟩
     case measure=>simp [intOf];omega
   | false =>
     have H1:Hid _:=lastIdx_miss s k hlt he
     go_wp2
     go_round
     case rel=>exact ⟨k+1,by omega,by go_num,by rw [H1.out]⟩
     case measure=>simp [intOf];omega
  ·have hk':k=s.size:=by omega
   go_wp2
   go_ret
   exact ⟨Zf (by rw [HE.out]),rfl⟩
theorem Js (s:ByteArray) (hs:s.size≤maxLen) (w:World) :
 Calls Tryz.prog 86 #[.string s] w fun e w'=>e=.returned (.string ⟨(pkgL s.data.toList).toArray⟩)∧w'=w:=by
 have hl:=Zig s
 have HP:Hid (pkgL s.data.toList=s.data.toList.take (X8 s.data.toList).toNat):=rfl
 have hm:=hs
 unfold maxLen at hm
 have HB:Hid (∀ w,_):=Zh2 s hs
 generalize X8 s.data.toList=x at *
 by_cases hx:x=-1
 ·subst hx
  go_enter Tryz.func86,Tryz.ntmps86
  go_wp2_with (go_at_call 105;refine ((HB.out) _).mono ?_;rintro e w' ⟨rfl,rfl⟩)
  go_ret
  refine ⟨Zb3 ?_,rfl⟩
  rw [HP.out]
  apply Yw;simp
 ·obtain ⟨n,rfl⟩:∃ n:Nat,x=n:=⟨x.toNat,by omega⟩
  have hn:n<s.size:=by omega
  clear hx hl
  go_enter Tryz.func86,Tryz.ntmps86
  go_wp2_with (go_at_call 105;refine ((HB.out) _).mono ?_;rintro e w' ⟨rfl,rfl⟩)
  go_ret
  refine ⟨Zb3 ?_,rfl⟩
  rw [HP.out]
  apply Yw;simp
theorem Zbc {w wr w1:World} {B:Nat} {v v':Value} {done:List (List UInt8)} {part:ByteArray} {o:Obj}
 (hB:B≤wr.heap.size) (hown:wr.ownsRow B 9 1 v done.length (done.map strV)) (hbel:Below B w wr)
 (hown':w1.ownsRow B 9 1 v' (done.length+1) (done.map strV++[.string part])) (hg:(wr.alloc o).grownBy w1 v.ownBlock) :
 w1.ownsRow B 9 1 v' (done++[part.data.toList]).length ((done++[part.data.toList]).map strV)∧Below B w w1:=by
 constructor
 ·simpa [strV] using hown'
 ·refine (hbel.alloc hB o).grown hg (by simp;omega) ?_
  intro k hk
  exact (hown.lt k hk).1
theorem Zio (s:ByteArray) (f k:Nat) (hf:f≤k) (hlt:k<s.size) (h:(47:UInt8) ∉ (s.data.toList.drop f).take (k - f)) (e:(((s[k]).toNat:Int) == 47)=false) :
 (47:UInt8) ∉ (s.data.toList.drop f).take (k+1 - f):=by
 have hl:k - f<(s.data.toList.drop f).length:=by rw [List.length_drop];simp;omega
 rw [show k+1 - f=(k - f)+1 by omega,List.take_succ_eq_append_getElem hl]
 intro m
 rcases List.mem_append.1 m with m|m
 ·exact h m
 ·have m2:=List.mem_singleton.1 m
  rw [List.getElem_drop] at m2
  have e3:s.data.toList[f+(k - f)]?=some s[k]:=by rw [show f+(k - f)=k by omega];exact Lib.Pa.at_eq s k hlt
  rw [List.getElem?_eq_getElem (by simp;omega)] at e3
  have e4:s[k]=47:=by rw [m2];exact (Option.some.inj e3).symm
  rw [e4] at e;simp at e
theorem cut_here (s:ByteArray) (f k:Nat) (hf:f≤k) (hlt:k<s.size) (e:(((s[k]).toNat:Int) == 47)=true) :
 s.data.toList.drop f=(s.data.toList.drop f).take (k - f)++47::s.data.toList.drop (k+1):=by
 have h1:s.data.toList.drop f=(s.data.toList.drop f).take (k - f)++(s.data.toList.drop f).drop (k - f):=(List.take_append_drop _ _).symm
 have h2:(s.data.toList.drop f).drop (k - f)=s.data.toList.drop k:=by rw [List.drop_drop];congr 1;omega
 have h3:s.data.toList.drop k=47::s.data.toList.drop (k+1):=by
  rw [List.drop_eq_getElem_cons (by simpa using hlt)]
  congr 1
  have e3:=Lib.Pa.at_eq s k hlt
  rw [List.getElem?_eq_getElem (by simpa using hlt)] at e3
  rw [Option.some.inj e3]
  apply UInt8.toNat_inj.1;have:=beq_iff_eq.1 e;simpa using (by omega:(s[k]).toNat=47)
 rw [h2,h3] at h1
 exact h1
theorem Zge (s:ByteArray) (hs:s.size≤1099511627776) (w:World) :
 Calls Tryz.prog 77 #[.string s] w fun e w'=>∃ v,e=.returned v∧w'.ownsRow w.heap.size 9 1 v (Zq s.data.toList).length ((Zq s.data.toList).map strV)∧Bw w w':=by
 obtain ⟨i0,hi,hz0,hz1,hz2⟩:=info_parts Tryz.info9
 have HL:Hid _:=Yp s.data.toList
 have HZ:Hid (s.data.toList.length=s.size):=by simp [Hid]
 go_enter Tryz.func77,Tryz.ntmps77
 go_wp2
 go_loopw [3,4,5] (fun v fr i wr=>∃ (done:List (List UInt8)) (f k:Nat),fr=.int .i64 f∧i=.int .i64 k∧f≤k∧k≤s.size ∧
  wr.ownsRow w.heap.size 9 1 v done.length (done.map strV)∧Bw w wr∧Hid ((47:UInt8) ∉ (s.data.toList.drop f).take (k - f))∧Hid (done++Zq (s.data.toList.drop f)=Zq s.data.toList))
  (fun _ _ i _=>s.size - (intOf i).toNat)
 case atStart=>exact ⟨[],0,0,rfl,rfl,Nat.le_refl _,Nat.zero_le _,World.ownsRow_nil _ _ _ _,Below.refl _ _,by simp [Hid],by simp [Hid]⟩
 case round =>
  obtain ⟨done,f,k,rfl,rfl,hfk,hks,hown,hbel,hfree,hp⟩:=hrel
  have hbs:=hbel.size
  have hn1:=Qq (s.data.toList.drop f)
  have hn2:1≤(Zq (s.data.toList.drop f)).length:=by
   cases e:Zq (s.data.toList.drop f) with
   | nil=>exact absurd e hn1
   | cons a b=>simp
  have hdl:done.length+1≤s.size+1:=by have:=HL.out;rw [← hp.out,HZ.out,List.length_append] at this;omega
  clear hn1 hn2
  by_cases hlt:k<s.size
  ·cases he:(((s[k]).toNat:Int) == 47) with
   | true =>
     have HC:Hid _:=cut_here s f k hfk hlt he
     have hd:done++[(s.extract f k).data.toList]++Zq (s.data.toList.drop (k+1))=Zq s.data.toList:=by
      rw [← hp.out,Lib.extract_data]
      conv=>rhs;rw [HC.out,Zbf _ _ hfree.out]
      simp
     have HD:Hid _:=hd
     clear hd HC hp hfree
     have hex:(s.extract f k).size≤s.size:=by simp;omega
     go_wp2_with (at_builtin;refine wpList_append_own _ rfl _ _ 30 rfl w.heap.size 9 i0 (.string ⟨#[]⟩) 1 16 Tryz.underlying30 hi hz0 hz1 hz2 rfl (by decide) _ _ _ rfl (hown.alloc _) ⟨wr.heap.size,0,none⟩ 1 1 [.string (s.extract f k)] rfl rfl ?c1 ?c2 ?c3 ?c4 ?c5 ?_)
     case c1=>exact cell_one_new _ _ _
     case c2=>intro u hu;simp at hu;subst hu;rfl
     case c3=>unfold maxLen;omega
     case c4=>omega
     case c5=>simp;omega
     ·intro v' w1 hown' hgrow _
      have R:=Zbc hbs hown hbel hown' hgrow
      clear hown' hgrow hown
      go_wp2
      go_roundw
      case rel=>exact ⟨done++[(s.extract f k).data.toList],k+1,k+1,by go_num,by go_num,Nat.le_refl _,by omega,R.1,R.2,by simp [Hid],HD.out⟩
      case measure=>simp [intOf];omega
   | false =>
     have HF:Hid _:=Zio s f k hfk hlt hfree.out he
     clear hfree
     go_wp2
     go_roundw
     case rel=>exact ⟨done,f,k+1,rfl,by go_num,by omega,by omega,hown,hbel,HF,hp⟩
     case measure=>simp [intOf];omega
  ·have hk':k=s.size:=by omega
   have hd:done++[(s.extract f s.size).data.toList]=Zq s.data.toList:=by
    rw [← hp.out,Lib.extract_to_end]
    congr 1
    have:(47:UInt8) ∉ s.data.toList.drop f:=by
     have:=hfree.out
     rw [hk',List.take_of_length_le (by rw [List.length_drop,HZ.out];omega)] at this
     exact this
    rw [Zam _ this]
   have HD:Hid _:=hd
   subst hk'
   clear hd hp hfree
   go_wp2_with (at_builtin;refine wpList_append_own _ rfl _ _ 30 rfl w.heap.size 9 i0 (.string ⟨#[]⟩) 1 16 Tryz.underlying30 hi hz0 hz1 hz2 rfl (by decide) _ _ _ rfl (hown.alloc _) ⟨wr.heap.size,0,none⟩ 1 1 [.string (s.extract f s.size)] rfl rfl ?d1 ?d2 ?d3 ?d4 ?d5 ?_)
   case d1=>exact cell_one_new _ _ _
   case d2=>intro u hu;simp at hu;subst hu;rfl
   case d3=>unfold maxLen;omega
   case d4=>omega
   case d5=>simp;omega
   ·intro v' w1 hown' hgrow _
    have R:=Zbc hbs hown hbel hown' hgrow
    rw [HD.out] at R
    clear hown' hgrow hown
    go_wp2
    go_ret
    exact ⟨_,rfl,R⟩
theorem Yt (s:ByteArray) (hs:s.size≤maxLen) (w:World) :
 Calls Tryz.prog 57 #[.string s] w fun e w'=>e=.returned (.bool (Zk s.data.toList))∧Bw w w':=by
 have hlen:s.data.toList.length=s.size:=by simp
 unfold maxLen at hs
 by_cases h60:s.size≤60
 ·have HV:Hid (Zk s.data.toList=(Zq s.data.toList).all Yn):=by unfold Zk;rw [hlen];simp [Hid,h60]
  have HP:Hid (∀ w,_):=Zge s (by omega)
  have hne:=Qq s.data.toList
  have hpl:=Yp s.data.toList
  rw [hlen] at hpl
  have hel:∀ p∈Zq s.data.toList,p.length≤60:=fun p hp=>by have:=Zbe s.data.toList p hp;omega
  generalize Zk s.data.toList=b at *
  generalize Zq s.data.toList=ps at *
  have HN:Hid (ps≠[]):=hne
  have HE:Hid (∀ p∈ps,p.length≤60):=hel
  clear hne hlen hel
  go_enter Tryz.func57,Tryz.ntmps57
  go_wp2_with (go_at_call 77;refine ((HP.out) _).mono ?_;rintro e w1 ⟨v,rfl,hown,hbel⟩;obtain ⟨g,cap,rfl,hg,hgl,hcap,hcm,hcell⟩:=Zdg hown HN.out;clear hown)
  have HC:Hid (∀ k p,ps[k]?=some p→w1.cell? ⟨g,k,none⟩=some (.string ⟨p.toArray⟩)):=hcell
  clear hcell HP HN
  go_loop [4] (fun i=>∃ k:Nat,k≤ps.length∧i=.int .i64 k∧Hid ((ps.take k).all Yn=true)) (fun i=>ps.length - (intOf i).toNat)
  case atStart=>exact ⟨0,Nat.zero_le _,rfl,by simp [Hid]⟩
  case round =>
   obtain ⟨k,hk,rfl,hr⟩:=hrel
   by_cases hlt:k<ps.length
   ·obtain ⟨p,hp⟩:∃ p,ps[k]?=some p:=⟨_,List.getElem?_eq_getElem hlt⟩
    have hc:=HC.out k p hp
    have HS:Hid _:=Zfz ps k p hp
    have HF:Hid _:=Zfy ps k p hp
    have hl60:=HE.out p (List.mem_of_getElem? hp)
    have HI:Hid (∀ w,_):=Zdb ⟨p.toArray⟩ (by rw [Qf];unfold maxLen;omega)
    clear hp
    have e:(⟨p.toArray⟩:ByteArray).data.toList=p:=by simp
    rw [e] at HI
    clear e
    generalize Yn p=d at *
    cases d
    ·go_wp2_with (go_at_call 78;refine ((HI.out) _).mono ?_;rintro e w' ⟨rfl,rfl⟩)
     go_ret
     exact ⟨Za (by rw [HV.out];exact (HF.out trivial).symm),hbel⟩
    ·go_wp2_with (go_at_call 78;refine ((HI.out) _).mono ?_;rintro e w' ⟨rfl,rfl⟩)
     go_round
     case rel=>exact ⟨k+1,by omega,by go_num,by rw [Hid,HS.out,hr.out];rfl⟩
     case measure=>simp [intOf];omega
   ·have hk':k=ps.length:=by omega
    go_wp2
    go_ret
    refine ⟨Za ?_,hbel⟩
    rw [HV.out,← hr.out,hk',List.take_length]
 ·have HV:Hid (Zk s.data.toList=false):=by unfold Zk;rw [hlen];simp [Hid,h60]
  clear hlen
  go_enter Tryz.func57,Tryz.ntmps57
  go_wp2
  go_ret
  exact ⟨Za HV.out.symm,Below.refl _ _⟩
theorem Zhm (ps qs:List (List UInt8)) (k:Nat) (p q:List UInt8) (hp:ps[k]?=some p) (hq:qs[k]?=some q) (h:p≠q):decide (ps=qs)=false:=by
 simp only [decide_eq_false_iff_not]
 intro e
 rw [e,hq] at hp
 exact h (Option.some.inj hp).symm
theorem same_end (ps qs:List (List UInt8)) (h:ps.length=qs.length) (ht:ps.take ps.length=qs.take ps.length):decide (ps=qs)=true:=by
 rw [List.take_length,h,List.take_length] at ht
 simp [ht]
theorem Below.step {w w1 w2:World} (h1:Bw w w1) (h2:Bw w1 w2):Bw w w2:=h1.trans (h2.mono h1.size)
end Go.Proofs.YtkoogmegdfpopaaGreat
