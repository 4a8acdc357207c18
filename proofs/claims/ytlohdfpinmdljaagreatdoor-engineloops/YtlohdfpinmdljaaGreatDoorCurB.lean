import Derived.Test.YtlohdfpinmdljaaGreatDoorChecked
import Derived.Test.YtlohdfpinmdljaaGreatDoorTypesPure
import Derived.Test.YtlohdfpinmdljaaGreatDoorProg
import Derived.WalkKit
import Derived.WalkSpells
import Derived.WalkLawsBesides
import Derived.Lib.Walk
import Derived.Laws.Externs
import Derived.Lib.Join
import GoSem.Op.String
import Derived.Deep.QuietTactic
import Derived.BigQuiet
import Derived.Laws.IdiomStrings
import Derived.ArgAppend
import Derived.Deep.RegionWith
set_option maxRecDepth 100000
namespace Go.Proofs.YtlohdfpinmdljaaGreatDoor
open Go.RowKit
theorem ret_bool {a b:Bool} (h:a=b):Ending.returned (.bool a)=.returned (.bool b):=by rw [h]
theorem ret_int {k:IntKind} {a b:Int} (h:a=b):Ending.returned (.int k a)=.returned (.int k b):=by rw [h]
theorem ret_str {a b:ByteArray} (h:a=b):Ending.returned (.string a)=.returned (.string b):=by rw [h]
theorem bytes_ext {a b:ByteArray} (h:a.data.toList=b.data.toList):a=b:=by
  obtain ⟨⟨x⟩⟩:=a;obtain ⟨⟨y⟩⟩:=b;simp at h;rw [h]
set_option maxHeartbeats 400000 in
theorem isDigit_any (c:Int) (w:World) :
    Calls Tryz.prog 125 #[.int .u8 c] w fun e w'=>e=.returned (.bool (digI c))∧w'=w:=by
  by_cases h1:(48:Int)≤c
  · by_cases h2:c≤57
    · go_enter Tryz.func125,Tryz.ntmps125
      go_wp2
      go_ret
      exact ⟨ret_bool (by rw [Bool.eq_iff_iff];simp [digI];omega),rfl⟩
    · go_enter Tryz.func125,Tryz.ntmps125
      go_wp2
      go_ret
      exact ⟨ret_bool (by rw [Bool.eq_iff_iff];simp [digI];omega),rfl⟩
  · go_enter Tryz.func125,Tryz.ntmps125
    go_wp2
    go_ret
    exact ⟨ret_bool (by rw [Bool.eq_iff_iff];simp [digI];omega),rfl⟩
set_option maxHeartbeats 400000 in
theorem isLetter_any (c:Int) (w:World) :
    Calls Tryz.prog 126 #[.int .u8 c] w fun e w'=>e=.returned (.bool (ltrI c))∧w'=w:=by
  go_enter Tryz.func126,Tryz.ntmps126
  go_wp2
  all_goals (go_ret;exact ⟨ret_bool (by rw [Bool.eq_iff_iff];simp [ltrI];try omega),rfl⟩)
theorem last_le (s:ByteArray):-1≤lastL s.data.toList∧lastL s.data.toList<s.size:=by
  have:=lastL_bounds s.data.toList
  simpa using this
theorem take_bytes (s:ByteArray) (n:Nat):(s.extract 0 n)=⟨(s.data.toList.take n).toArray⟩:=by
  apply bytes_ext;rw [Lib.extract_data];simp
theorem drop_bytes (s:ByteArray) (n:Nat):(s.extract n s.size)=⟨(s.data.toList.drop n).toArray⟩:=by
  apply bytes_ext;rw [Lib.extract_to_end]
set_option maxHeartbeats 400000 in
theorem indexByte_any (s:ByteArray) (w:World) :
    Calls Tryz.prog 340 #[.string s,.int .u8 47] w fun e w'=>e=.returned (.int .i64 (Lib.indexByte s.data.toList 47))∧w'=w:=by
  go_enter Tryz.func340,Tryz.ntmps340
  go_wp2
  rw [run_callFunc_extern Tryz.func374 (by kernel_rfl) (by kernel_rfl) (by kernel_rfl) (e:=Extern.BytealgIndexByte.indexByte) (by kernel_rfl),Lib.run_indexByteString]
  simp only [Result.andThen]
  rw [Oper.upon_value]
  go_wp2
  go_ret
  exact ⟨rfl,rfl⟩
set_option maxHeartbeats 400000 in
theorem index_any (s:ByteArray) (w:World) :
    Calls Tryz.prog 303 #[.string s,.string ⟨#[47]⟩] w fun e w'=>e=.returned (.int .i64 (Lib.indexByte s.data.toList 47))∧w'=w:=by
  by_cases hq:([47] == s.toList)=true
  · have hi:Lib.indexByte s.data.toList 47=0:=by
      have:s.data.toList=[47]:=by rw [← Lib.toList_data];exact (beq_iff_eq.1 hq).symm
      rw [this];rfl
    have HI:Hid (Lib.indexByte s.data.toList 47=0):=hi
    clear hi
    go_enter Tryz.func303,Tryz.ntmps303
    go_wp2
    go_ret
    exact ⟨ret_int HI.out.symm,rfl⟩
  · have hq':([47] == s.toList)=false:=by simpa using hq
    clear hq
    go_enter Tryz.func303,Tryz.ntmps303
    go_wp2_with (go_at_call 340;refine (indexByte_any s _).mono ?_;rintro e w' ⟨rfl,rfl⟩)
    go_ret
    exact ⟨rfl,rfl⟩
set_option maxHeartbeats 400000 in
theorem liteCut_miss (s:ByteArray) (w:World) (h:Lib.indexByte s.data.toList 47=-1) :
    Calls Tryz.prog 253 #[.string s,.string ⟨#[47]⟩] w fun e w'=>e=.returned (.tuple #[.string s,.string ⟨#[]⟩,.bool false])∧∃ n,w'=w.drewN n:=by
  have HB:Hid (∀ w,_):=index_any s
  rw [h] at HB
  clear h
  go_enter Tryz.func253,Tryz.ntmps253
  go_wp2_with (go_at_call 303;refine ((HB.out) _).mono ?_;rintro e w' ⟨rfl,rfl⟩)
  go_ret3
  exact ⟨rfl,0,rfl⟩
set_option maxHeartbeats 400000 in
theorem liteCut_hit (s:ByteArray) (hs:s.size≤maxLen) (w:World) (n:Nat) (hn:n<s.size) (h:Lib.indexByte s.data.toList 47=n) :
    Calls Tryz.prog 253 #[.string s,.string ⟨#[47]⟩] w fun e w'=>e=.returned (.tuple #[.string (s.extract 0 n),.string (s.extract (n+1) s.size),.bool true])∧∃ n,w'=w.drewN n:=by
  have HB:Hid (∀ w,_):=index_any s
  rw [h] at HB
  clear h
  unfold maxLen at hs
  go_enter Tryz.func253,Tryz.ntmps253
  go_wp2_with (go_at_call 303;refine ((HB.out) _).mono ?_;rintro e w' ⟨rfl,rfl⟩)
  go_region
  all_goals (go_wp2;go_ret3;exact ⟨rfl,1,rfl⟩)
set_option maxHeartbeats 400000 in
theorem cut_miss (s:ByteArray) (w:World) (h:Lib.indexByte s.data.toList 47=-1) :
    Calls Tryz.prog 198 #[.string s,.string ⟨#[47]⟩] w fun e w'=>e=.returned (.tuple #[.string s,.string ⟨#[]⟩,.bool false])∧∃ n,w'=w.drewN n:=by
  have HB:Hid (∀ w,_):=fun w=>liteCut_miss s w h
  clear h
  go_enter Tryz.func198,Tryz.ntmps198
  go_wp2_with (go_at_call 253;refine ((HB.out) _).mono ?_;rintro e w' ⟨rfl,n,rfl⟩)
  go_ret3
  exact ⟨rfl,_,rfl⟩
set_option maxHeartbeats 400000 in
theorem cut_hit (s:ByteArray) (hs:s.size≤maxLen) (w:World) (n:Nat) (hn:n<s.size) (h:Lib.indexByte s.data.toList 47=n) :
    Calls Tryz.prog 198 #[.string s,.string ⟨#[47]⟩] w fun e w'=>e=.returned (.tuple #[.string (s.extract 0 n),.string (s.extract (n+1) s.size),.bool true])∧∃ n,w'=w.drewN n:=by
  have HB:Hid (∀ w,_):=fun w=>liteCut_hit s hs w n hn h
  clear h
  go_enter Tryz.func198,Tryz.ntmps198
  go_wp2_with (go_at_call 253;refine ((HB.out) _).mono ?_;rintro e w' ⟨rfl,n,rfl⟩)
  go_ret3
  exact ⟨rfl,_,rfl⟩
set_option maxHeartbeats 400000 in
theorem lastByte_any (s:ByteArray) (hs:s.size≤maxLen) (w:World) :
    Calls Tryz.prog 338 #[.string s,.int .u8 47] w fun e w'=>e=.returned (.int .i64 (lastL s.data.toList))∧w'=w:=by
  unfold maxLen at hs
  go_enter Tryz.func338,Tryz.ntmps338
  go_wp2
  go_loop [5] (fun vi=>∃ k:Nat,k≤s.size∧vi=.int .i64 ((k:Int) - 1)∧Hid (lastL s.data.toList=Lib.Pa.lastIdx s.data.toList 47 k)) (fun vi=>((RowKit.intOf vi)+1).toNat)
  case atStart=>exact ⟨s.size,Nat.le_refl _,by first|rfl|go_num|(congr 1;omega),rfl⟩
  case round =>
    obtain ⟨k,hk,rfl,hh⟩:=hrel
    go_wp2
    · have hc:(((s[k - 1]).toNat:Int) == 47)=true:=by assumption
      have k1:1≤k:=by omega
      have e1:Lib.Pa.lastIdx s.data.toList 47 k=((k - 1:Nat):Int):=by
        rw [show k=(k - 1)+1 by omega,Lib.Pa.lastIdx,Lib.Pa.at_eq s (k - 1) (by omega),if_pos]
        · rfl
        · congr 1;apply UInt8.toNat_inj.1;have:=beq_iff_eq.1 hc;simpa using (by omega:(s[k-1]).toNat=47)
      have e2:((k - 1:Nat):Int)=(k:Int) - 1:=by omega
      go_ret
      rw [hh.out,e1,e2]
      exact ⟨rfl,rfl⟩
    · have hc:(((s[k - 1]).toNat:Int) == 47)=false:=by assumption
      have k1:1≤k:=by omega
      have e1:Lib.Pa.lastIdx s.data.toList 47 k=Lib.Pa.lastIdx s.data.toList 47 (k - 1):=by
        conv=>lhs;rw [show k=(k - 1)+1 by omega]
        rw [Lib.Pa.lastIdx,Lib.Pa.at_eq s (k - 1) (by omega),if_neg]
        intro h
        have h':s[k-1]=47:=by simpa using h
        rw [h'] at hc;simp at hc
      refine ⟨⟨k - 1,by omega,by congr 1;omega,hh.out.trans e1⟩,?_⟩
      simp [RowKit.intOf];omega
    · have k0:k=0:=by omega
      subst k0
      go_ret
      rw [hh.out]
      exact ⟨rfl,rfl⟩
set_option maxHeartbeats 400000 in
theorem lastIndex_any (s:ByteArray) (hs:s.size≤maxLen) (w:World) :
    Calls Tryz.prog 302 #[.string s,.string ⟨#[47]⟩] w fun e w'=>e=.returned (.int .i64 (lastL s.data.toList))∧w'=w:=by
  go_enter Tryz.func302,Tryz.ntmps302
  go_wp2_with (go_at_call 338;refine (lastByte_any s hs _).mono ?_;rintro e w' ⟨rfl,rfl⟩)
  go_ret
  exact ⟨rfl,rfl⟩
set_option maxHeartbeats 400000 in
theorem lastSep_any (s:ByteArray) (hs:s.size≤maxLen) (w:World) :
    Calls Tryz.prog 252 #[.string s] w fun e w'=>e=.returned (.int .i64 (lastL s.data.toList))∧w'=w:=by
  go_enter Tryz.func252,Tryz.ntmps252
  go_wp2_with (go_at_call 302;refine (lastIndex_any s hs _).mono ?_;rintro e w' ⟨rfl,rfl⟩)
  go_ret
  exact ⟨rfl,rfl⟩
set_option maxHeartbeats 400000 in
theorem package_any (s:ByteArray) (hs:s.size≤maxLen) (w:World) :
    Calls Tryz.prog 197 #[.string s] w fun e w'=>e=.returned (.string ⟨(pkgL s.data.toList).toArray⟩)∧w'=w:=by
  have hl:=last_le s
  have HP:Hid (pkgL s.data.toList=s.data.toList.take (lastL s.data.toList).toNat):=rfl
  have hm:=hs
  unfold maxLen at hm
  have HB:Hid (∀ w,_):=lastSep_any s hs
  generalize lastL s.data.toList=x at *
  by_cases hx:x=-1
  · subst hx
    go_enter Tryz.func197,Tryz.ntmps197
    go_wp2_with (go_at_call 252;refine ((HB.out) _).mono ?_;rintro e w' ⟨rfl,rfl⟩)
    go_ret
    refine ⟨ret_str ?_,rfl⟩
    rw [HP.out]
    apply bytes_ext;simp;left;omega
  · obtain ⟨n,rfl⟩:∃ n:Nat,x=n:=⟨x.toNat,by omega⟩
    have hn:n<s.size:=by omega
    clear hx hl
    go_enter Tryz.func197,Tryz.ntmps197
    go_wp2_with (go_at_call 252;refine ((HB.out) _).mono ?_;rintro e w' ⟨rfl,rfl⟩)
    go_ret
    refine ⟨ret_str ?_,rfl⟩
    rw [HP.out]
    apply bytes_ext;simp
theorem all_take_succ (s:ByteArray) (p:UInt8→Bool) (k:Nat) (h:k<s.size):(s.data.toList.take (k+1)).all p=((s.data.toList.take k).all p&&p s[k]):=by
  rw [List.take_succ_eq_append_getElem (by simpa using h),List.all_append]
  simp
  rfl
theorem all_take_full (s:ByteArray) (p:UInt8→Bool):(s.data.toList.take s.size).all p=s.data.toList.all p:=by
  rw [List.take_of_length_le (by simp)]
theorem all_false_of (s:ByteArray) (p:UInt8→Bool) (k:Nat) (h:k<s.size) (hp:p s[k]=false):s.data.toList.all p=false:=by
  rw [List.all_eq_false]
  exact ⟨s[k],by have:=Lib.Pa.at_eq s k h;exact List.mem_of_getElem? this,by simp [hp]⟩
theorem partL_head (s:ByteArray) (h:0<s.size):partL s.data.toList=(!digI (s[0]).toNat&&s.data.toList.all wordB):=by
  have e:=Lib.Pa.at_eq s 0 h
  cases hl:s.data.toList with
  | nil=>rw [hl] at e;simp at e
  | cons c r =>
    rw [hl] at e
    have:c=s[0]:=by simpa using e
    rw [this];rfl
set_option maxHeartbeats 400000 in
theorem isPart_any (s:ByteArray) (hs:s.size≤maxLen) (w:World) :
    Calls Tryz.prog 67 #[.string s] w fun e w'=>e=.returned (.bool (partL s.data.toList))∧w'=w:=by
  unfold maxLen at hs
  by_cases h0:s.size=0
  · have h1 : s = ⟨#[]⟩ := by apply bytes_ext; have : s.data.toList.length = 0 := by simpa using h0
                              simpa using List.eq_nil_of_length_eq_zero this
    subst h1
    go_enter Tryz.func67,Tryz.ntmps67
    go_wp2
    go_ret
    exact ⟨rfl,rfl⟩
  · have hpos:0<s.size:=by omega
    have HP:Hid (partL s.data.toList=(!digI (s[0]).toNat&&s.data.toList.all wordB)):=partL_head s hpos
    have hne:s.toList.isEmpty=false:=by
      rw [Lib.toList_data,List.isEmpty_eq_false_iff]
      intro h;have h2:s.data.toList.length=0:=by rw [h];rfl
      have h3:s.data.toList.length=s.size:=by simp
      omega
    generalize partL s.data.toList=b at *
    by_cases hd:digI (s[0]).toNat=true
    · have HD:Hid (∀ w,Calls Tryz.prog 125 #[.int .u8 (s[0]).toNat] w fun e w'=>e=.returned (.bool true)∧w'=w):=by
        have:=isDigit_any (s[0]).toNat;rw [hd] at this;exact this
      have HB:Hid (b=false):=by have:=HP.out;rw [hd] at this;exact this
      clear hd HP
      go_enter Tryz.func67,Tryz.ntmps67
      go_wp2_with (go_at_call 125;refine ((HD.out) _).mono ?_;rintro e w' ⟨rfl,rfl⟩)
      go_ret
      exact ⟨ret_bool HB.out.symm,rfl⟩
    · have hd':digI (s[0]).toNat=false:=by simpa using hd
      have HD:Hid (∀ w,Calls Tryz.prog 125 #[.int .u8 (s[0]).toNat] w fun e w'=>e=.returned (.bool false)∧w'=w):=by
        have:=isDigit_any (s[0]).toNat;rw [hd'] at this;exact this
      have HB:Hid (b=s.data.toList.all wordB):=by have:=HP.out;rw [hd'] at this;exact this
      clear hd hd' HP
      go_enter Tryz.func67,Tryz.ntmps67
      go_wp2_with (go_at_call 125;refine ((HD.out) _).mono ?_;rintro e w' ⟨rfl,rfl⟩)
      go_loop [13] (fun i=>∃ k:Nat,k≤s.size∧i=.int .i64 k∧Hid ((s.data.toList.take k).all wordB=true)) (fun i=>s.size - (intOf i).toNat)
      case atStart=>exact ⟨0,Nat.zero_le _,rfl,by simp [Hid]⟩
      case round =>
        obtain ⟨k,hk,rfl,hr⟩:=hrel
        clear HD
        by_cases hlt:k<s.size
        · have HS:Hid _:=all_take_succ s wordB k hlt
          have HF:Hid _:=all_false_of s wordB k hlt
          have hw:wordB s[k]=(ltrI (s[k]).toNat||digI (s[k]).toNat):=rfl
          rw [hw] at HS HF
          clear hw
          have HL:Hid (∀ w,_):=isLetter_any (s[k]).toNat
          have HG:Hid (∀ w,_):=isDigit_any (s[k]).toNat
          generalize ltrI (s[k]).toNat=l at *
          generalize digI (s[k]).toNat=d at *
          cases l
          · cases d
            · go_wp2_with (first|(go_at_call 126;refine ((HL.out) _).mono ?_;rintro e w' ⟨rfl,rfl⟩)|(go_at_call 125;refine ((HG.out) _).mono ?_;rintro e w' ⟨rfl,rfl⟩))
              go_ret
              exact ⟨ret_bool (by rw [HB.out];exact (HF.out rfl).symm),rfl⟩
            · go_wp2_with (first|(go_at_call 126;refine ((HL.out) _).mono ?_;rintro e w' ⟨rfl,rfl⟩)|(go_at_call 125;refine ((HG.out) _).mono ?_;rintro e w' ⟨rfl,rfl⟩))
              go_round
              case rel=>exact ⟨k+1,by omega,by go_num,by rw [Hid,HS.out,hr.out];rfl⟩
              case measure=>simp [intOf];omega
          · go_wp2_with (first|(go_at_call 126;refine ((HL.out) _).mono ?_;rintro e w' ⟨rfl,rfl⟩)|(go_at_call 125;refine ((HG.out) _).mono ?_;rintro e w' ⟨rfl,rfl⟩))
            go_round
            case rel=>exact ⟨k+1,by omega,by go_num,by rw [Hid,HS.out,hr.out];rfl⟩
            case measure=>simp [intOf];omega
        · have hk':k=s.size:=by omega
          go_wp2
          go_ret
          refine ⟨ret_bool ?_,rfl⟩
          rw [HB.out,← all_take_full,← hk',hr.out]
def strV (p:List UInt8):Value:=.string ⟨p.toArray⟩
def lenV:Value→Nat | .string s=>s.size|_=>0
def boolV:Value→Nat | .bool true=>1|_=>0
theorem Tryz.info9:(Tryz.prog.info? 9).map (fun i=>(i.zero,i.size,i.bytes))=some (some (.string ⟨#[]⟩),1,16):=by kernel_rfl
theorem parts_rel {w wr w1:World} {nq:Nat} {B:Nat} {v v':Value} {done:List (List UInt8)} {part:ByteArray} {o:Obj}
    (hB:B≤wr.heap.size) (hown:wr.ownsRow B 9 1 v done.length (done.map strV)) (hbel:Below B w wr)
    (hown':w1.ownsRow B 9 1 v' (done.length+1) (done.map strV++[.string part])) (hg:((wr.drewN nq).alloc o).grownBy w1 v.ownBlock) :
    w1.ownsRow B 9 1 v' (done++[part.data.toList]).length ((done++[part.data.toList]).map strV)∧Below B w w1:=by
  constructor
  · simpa [strV] using hown'
  · refine ((below_drewN hbel nq).alloc (by simpa using hB) o).grown hg (by simp;omega) ?_
    intro k hk
    exact (hown.lt k hk).1
theorem mk_size (b:List UInt8):(⟨b.toArray⟩:ByteArray).size=b.length:=by show b.toArray.size=_;simp
theorem grow_drew {w:World} {base:Nat} {e:TypeId} {size:Nat} {v:Value} {n:Nat} {xs:List Value} (h:w.ownsRow base e size v n xs) (q:Nat):(w.drewN q).ownsRow base e size v n xs:=h
set_option maxHeartbeats 400000 in
theorem parts_any (s:ByteArray) (hs:s.size≤1099511627776) (w:World) :
    Calls Tryz.prog 124 #[.string s] w fun e w'=>∃ v,e=.returned v∧w'.ownsRow w.heap.size 9 1 v (partsL s.data.toList).length ((partsL s.data.toList).map strV)∧Below w.heap.size w w':=by
  obtain ⟨i0,hi,hz0,hz1,hz2⟩:=info_parts Tryz.info9
  have HL:Hid _:=partsL_length s.data.toList
  go_enter Tryz.func124,Tryz.ntmps124
  go_wp2
  go_loopw [3,4,5] (fun v r m wr=>∃ (done:List (List UInt8)) (rest:ByteArray) (b:Bool),r=.string rest∧m=.bool b∧rest.size≤s.size ∧
      wr.ownsRow w.heap.size 9 1 v done.length (done.map strV)∧Below w.heap.size w wr∧Hid (done++(if b then partsL rest.data.toList else [])=partsL s.data.toList))
    (fun _ r m _=>(lenV r+1) * boolV m)
  case atStart=>exact ⟨[],s,true,rfl,rfl,Nat.le_refl _,World.ownsRow_nil _ _ _ _,Below.refl _ _,by simp [Hid]⟩
  case round =>
    obtain ⟨done,rest,b,rfl,rfl,hrs,hown,hbel,hp⟩:=hrel
    cases b
    · go_wp2
      go_ret
      have he:done=partsL s.data.toList:=by have:=hp.out;simpa using this
      rw [← he]
      exact ⟨_,rfl,hown,hbel⟩
    · have hbs:=hbel.size
      by_cases hx:Lib.indexByte rest.data.toList 47=-1
      · have HC:Hid (∀ w,_):=fun w=>cut_miss rest w hx
        have hd:done++[rest.data.toList]=partsL s.data.toList:=by have:=hp.out;rw [if_pos rfl,partsL_free _ (indexByte_miss _ hx)] at this;exact this
        have hdl:done.length+1≤s.size+1:=by have:=HL.out;rw [← hd] at this;simpa using this
        have HD:Hid _:=hd
        clear hx hp hd HL
        go_wp2_with (first
          | (go_at_call 198;refine ((HC.out) _).mono ?_;rintro e w' ⟨rfl,nq,rfl⟩)
          | (at_builtin;refine wpList_append_own _ rfl _ _ 43 rfl w.heap.size 9 i0 (.string ⟨#[]⟩) 1 16 Tryz.underlying43 hi hz0 hz1 hz2 rfl (by decide) _ _ _ rfl ((grow_drew hown _).alloc _) ⟨wr.heap.size,0,none⟩ 1 1 [.string rest] rfl rfl ?c1 ?c2 ?c3 ?c4 ?c5 ?_))
        case c1=>exact cell_one_new _ _ _
        case c2=>intro u hu;simp at hu;subst hu;rfl
        case c3=>unfold maxLen;omega
        case c4=>omega
        case c5=>simp;omega
        · intro v' w1 hown' hgrow _
          have R:=parts_rel hbs hown hbel hown' hgrow
          clear hown' hgrow hown
          go_wp2
          go_roundw
          case rel=>exact ⟨done++[rest.data.toList],⟨#[]⟩,false,rfl,rfl,Nat.zero_le _,R.1,R.2,by have:=HD.out;simpa [Hid] using this⟩
          case measure=>simp [lenV,boolV]
      · obtain ⟨a,b,hab,ha,hix⟩:=indexByte_hit _ hx
        have hsz : rest.size = a.length + 1 + b.length := by have : rest.data.toList.length = rest.size := by simp
                                                             rw [← this,hab];simp;omega
        have han:a.length<rest.size:=by omega
        have HC:Hid (∀ w,_):=fun w=>cut_hit rest (by unfold maxLen;omega) w a.length han hix
        have e1:rest.extract 0 a.length=⟨a.toArray⟩:=by rw [take_bytes,hab];simp
        have e2:rest.extract (a.length+1) rest.size=⟨b.toArray⟩:=by
          rw [drop_bytes,hab,show a++47::b=(a++[47])++b by simp,List.drop_left' (by simp)]
        rw [e1,e2] at HC
        have hd:done++[a]++partsL b=partsL s.data.toList:=by have:=hp.out;rw [if_pos rfl,hab,partsL_cut _ _ ha] at this;simpa using this
        have hdl:done.length+1≤s.size+1:=by have:=HL.out;rw [← hd] at this;simp at this;omega
        have HD:Hid _:=hd
        clear hx hp hd HL hab ha hix e1 e2
        go_wp2_with (first
          | (go_at_call 198;refine ((HC.out) _).mono ?_;rintro e w' ⟨rfl,nq,rfl⟩)
          | (at_builtin;refine wpList_append_own _ rfl _ _ 43 rfl w.heap.size 9 i0 (.string ⟨#[]⟩) 1 16 Tryz.underlying43 hi hz0 hz1 hz2 rfl (by decide) _ _ _ rfl ((grow_drew hown _).alloc _) ⟨wr.heap.size,0,none⟩ 1 1 [.string ⟨a.toArray⟩] rfl rfl ?d1 ?d2 ?d3 ?d4 ?d5 ?_))
        case d1=>exact cell_one_new _ _ _
        case d2=>intro u hu;simp at hu;subst hu;rfl
        case d3=>unfold maxLen;omega
        case d4=>omega
        case d5=>simp;omega
        · intro v' w1 hown' hgrow _
          have R:=parts_rel hbs hown hbel hown' hgrow
          clear hown' hgrow hown
          go_wp2
          go_roundw
          case rel=>exact ⟨done++[a],⟨b.toArray⟩,true,rfl,rfl,by rw [mk_size];omega,R.1,R.2,HD.out⟩
          case measure=>simp [lenV,boolV,mk_size];omega
theorem own_shape {w:World} {base:Nat} {v:Value} {ps:List (List UInt8)} (h:w.ownsRow base 9 1 v ps.length (ps.map strV)) (hne:ps≠[]) :
    ∃ g cap,v=.slice (some ⟨g,0,none⟩) ps.length cap∧base≤g∧g<w.heap.size∧ps.length≤cap∧cap≤maxLen∧∀ k p,ps[k]?=some p→w.cell? ⟨g,k,none⟩=some (.string ⟨p.toArray⟩):=by
  have h':=h
  rcases h.2 with ⟨_,h0⟩|⟨g,cap,cur,rfl,hb,hg,hn,hm,_,_⟩
  · exact absurd (List.eq_nil_of_length_eq_zero h0) hne
  · refine ⟨g,cap,rfl,hb,(Array.getElem?_eq_some_iff.1 hg).1,hn,hm,fun k p hk=>?_⟩
    have hlt:k<ps.length:=(List.getElem?_eq_some_iff.1 hk).1
    rw [h'.cellAt k (by omega),List.getElem?_map,hk]
    rfl
theorem partsL_mem (l:List UInt8):∀ p∈partsL l,p.length≤l.length:=by
  induction l with
  | nil=>intro p hp;simp [partsL] at hp;simp [hp]
  | cons c l ih =>
    intro p hp
    unfold partsL at hp
    split at hp
    · rcases List.mem_cons.1 hp with rfl|h
      · simp
      · have:=ih p h;simp;omega
    · split at hp
      · simp at hp;simp [hp]
      · rename_i q qs e
        rw [e] at ih
        rcases List.mem_cons.1 hp with rfl|h
        · have:=ih q (List.mem_cons_self ..);simp;omega
        · have:=ih p (List.mem_cons_of_mem _ h);simp;omega
theorem all_step (ps:List (List UInt8)) (k:Nat) (p:List UInt8) (h:ps[k]?=some p):(ps.take (k+1)).all partL=((ps.take k).all partL&&partL p):=by
  obtain ⟨hlt,rfl⟩:=List.getElem?_eq_some_iff.1 h
  rw [List.take_succ_eq_append_getElem hlt,List.all_append]
  simp
theorem all_stop (ps:List (List UInt8)) (k:Nat) (p:List UInt8) (h:ps[k]?=some p) (hp:partL p=false):ps.all partL=false:=by
  rw [List.all_eq_false]
  exact ⟨p,List.mem_of_getElem? h,by simp [hp]⟩
set_option maxHeartbeats 400000 in
theorem valid_any (s:ByteArray) (hs:s.size≤maxLen) (w:World) :
    Calls Tryz.prog 66 #[.string s] w fun e w'=>e=.returned (.bool (validL s.data.toList))∧Below w.heap.size w w':=by
  have hlen:s.data.toList.length=s.size:=by simp
  unfold maxLen at hs
  by_cases h60:s.size≤60
  · have HV:Hid (validL s.data.toList=(partsL s.data.toList).all partL):=by unfold validL;rw [hlen];simp [Hid,h60]
    have HP:Hid (∀ w,_):=parts_any s (by omega)
    have hne:=partsL_ne s.data.toList
    have hpl:=partsL_length s.data.toList
    rw [hlen] at hpl
    have hel:∀ p∈partsL s.data.toList,p.length≤60:=fun p hp=>by have:=partsL_mem s.data.toList p hp;omega
    generalize validL s.data.toList=b at *
    generalize partsL s.data.toList=ps at *
    have HN:Hid (ps≠[]):=hne
    have HE:Hid (∀ p∈ps,p.length≤60):=hel
    clear hne hlen hel
    go_enter Tryz.func66,Tryz.ntmps66
    go_wp2_with (go_at_call 124;refine ((HP.out) _).mono ?_;rintro e w1 ⟨v,rfl,hown,hbel⟩;obtain ⟨g,cap,rfl,hg,hgl,hcap,hcm,hcell⟩:=own_shape hown HN.out;clear hown)
    have HC:Hid (∀ k p,ps[k]?=some p→w1.cell? ⟨g,k,none⟩=some (.string ⟨p.toArray⟩)):=hcell
    clear hcell HP HN
    go_loop [11] (fun i=>∃ k:Nat,k≤ps.length∧i=.int .i64 k∧Hid ((ps.take k).all partL=true)) (fun i=>ps.length - (intOf i).toNat)
    case atStart=>exact ⟨0,Nat.zero_le _,rfl,by simp [Hid]⟩
    case round =>
      obtain ⟨k,hk,rfl,hr⟩:=hrel
      by_cases hlt:k<ps.length
      · obtain ⟨p,hp⟩:∃ p,ps[k]?=some p:=⟨_,List.getElem?_eq_getElem hlt⟩
        have hc:=HC.out k p hp
        have HS:Hid _:=all_step ps k p hp
        have HF:Hid _:=all_stop ps k p hp
        have hl60:=HE.out p (List.mem_of_getElem? hp)
        have HI:Hid (∀ w,_):=isPart_any ⟨p.toArray⟩ (by rw [mk_size];unfold maxLen;omega)
        clear hp
        have e:(⟨p.toArray⟩:ByteArray).data.toList=p:=by simp
        rw [e] at HI
        clear e
        generalize partL p=d at *
        cases d
        · go_wp2_with (go_at_call 67;refine ((HI.out) _).mono ?_;rintro e w' ⟨rfl,rfl⟩)
          go_ret
          exact ⟨ret_bool (by rw [HV.out];exact (HF.out trivial).symm),hbel⟩
        · go_wp2_with (go_at_call 67;refine ((HI.out) _).mono ?_;rintro e w' ⟨rfl,rfl⟩)
          go_round
          case rel=>exact ⟨k+1,by omega,by go_num,by rw [Hid,HS.out,hr.out];rfl⟩
          case measure=>simp [intOf];omega
      · have hk':k=ps.length:=by omega
        go_wp2
        go_ret
        refine ⟨ret_bool ?_,hbel⟩
        rw [HV.out,← hr.out,hk',List.take_length]
  · have HV:Hid (validL s.data.toList=false):=by unfold validL;rw [hlen];simp [Hid,h60]
    clear hlen
    go_enter Tryz.func66,Tryz.ntmps66
    go_wp2
    go_ret
    exact ⟨ret_bool HV.out.symm,Below.refl _ _⟩
theorem init_beq (s:ByteArray):(s.toList == [60,105,110,105,116,62])=(s.data.toList == initL):=by rw [Lib.toList_data];rfl
set_option maxHeartbeats 400000 in
theorem member_any (s:ByteArray) (hs:s.size≤maxLen) (w:World) :
    Calls Tryz.prog 36 #[.string s] w fun e w'=>e=.returned (.bool (memberL s.data.toList))∧w'=w:=by
  have hlen:s.data.toList.length=s.size:=by simp
  have HM:Hid (memberL s.data.toList=((s.toList == [60,105,110,105,116,62])||(decide (s.size≤60)&&partL s.data.toList))):=by
    unfold memberL;rw [init_beq,hlen];rfl
  have HI:Hid (∀ w,_):=isPart_any s hs
  unfold maxLen at hs
  generalize memberL s.data.toList=b at *
  generalize partL s.data.toList=d at *
  clear hlen
  by_cases hq:(s.toList == [60,105,110,105,116,62])=true
  · go_enter Tryz.func36,Tryz.ntmps36
    go_wp2
    go_ret
    exact ⟨ret_bool (by rw [HM.out];simp [hq]),rfl⟩
  · have hq':(s.toList == [60,105,110,105,116,62])=false:=by simpa using hq
    clear hq
    by_cases h60:s.size≤60
    · go_enter Tryz.func36,Tryz.ntmps36
      go_wp2_with (go_at_call 67;refine ((HI.out) _).mono ?_;rintro e w' ⟨rfl,rfl⟩)
      go_ret
      exact ⟨ret_bool (by rw [HM.out,hq'];simp [h60]),rfl⟩
    · go_enter Tryz.func36,Tryz.ntmps36
      go_wp2
      go_ret
      exact ⟨ret_bool (by rw [HM.out,hq'];simp [h60]),rfl⟩
def IsStrs (w:World) (v:Value) (ps:List (List UInt8)):Prop :=
  ∃ ao cap,v=.slice ao ps.length cap∧ps.length≤cap∧cap≤maxLen ∧
    (ps≠[]→∃ bk o,ao=some ⟨bk,o,none⟩∧bk<w.heap.size∧∀ k p,ps[k]?=some p→w.cell? ⟨bk,o+k,none⟩=some (.string ⟨p.toArray⟩))
theorem IsStrs.keep {w w':World} {v:Value} {ps:List (List UInt8)} (h:IsStrs w v ps) (hb:Below w.heap.size w w'):IsStrs w' v ps:=by
  obtain ⟨ao,cap,rfl,h1,h2,h3⟩:=h
  refine ⟨ao,cap,rfl,h1,h2,fun hne=>?_⟩
  obtain ⟨bk,o,e,hlt,hc⟩:=h3 hne
  exact ⟨bk,o,e,Nat.lt_of_lt_of_le hlt hb.size,fun k p hk=>(hb.cell hlt).trans (hc k p hk)⟩
def sndB (d:Int) (l:List UInt8):Bool:=decide (0≤d)&&decide (d≤255)&&(l.isEmpty||validL l)
def chkI (b:Bool):Int:=if b then 0 else 1
theorem Below.step {w w1 w2:World} (h1:Below w.heap.size w w1) (h2:Below w1.heap.size w1 w2):Below w.heap.size w w2:=h1.trans (h2.mono h1.size)
theorem semi_none (l:List UInt8) (h:(59:UInt8) ∉ l):semi l=none:=by
  induction l with
  | nil=>rfl
  | cons c l ih =>
    have hc:c≠59:=fun e=>h (by simp [e])
    simp [semi,hc,ih (fun m=>h (List.mem_cons_of_mem _ m))]
theorem drop_cons (s:ByteArray) (i:Nat) (h:i<s.size):s.data.toList.drop i=s[i]::s.data.toList.drop (i+1):=by
  rw [List.drop_eq_getElem_cons (by simpa using h)]
  congr 1
theorem drop_end (s:ByteArray) (i:Nat) (h:s.size≤i):s.data.toList.drop i=[]:=List.drop_of_length_le (by simpa using h)
theorem read_nil {l:List UInt8} {j:Nat} (hb:bracks l=(j,[])):readT l=none:=by unfold readT;rw [hb]
theorem read_int {l r:List UInt8} {j:Nat} (hb:bracks l=(j,73::r)):readT l=some ((j,[]),r):=by unfold readT;rw [hb];rfl
theorem read_cls {l r x y:List UInt8} {j:Nat} (hb:bracks l=(j,76::r)) (hs:semi r=some (x,y)) (hv:validL x=true):readT l=some ((j,x),y):=by
  unfold readT;rw [hb];simp [hs,hv]
theorem read_bad {l r x y:List UInt8} {j:Nat} (hb:bracks l=(j,76::r)) (hs:semi r=some (x,y)) (hv:validL x=false):readT l=none:=by
  unfold readT;rw [hb];simp [hs,hv]
theorem read_open {l r:List UInt8} {j:Nat} (hb:bracks l=(j,76::r)) (hs:semi r=none):readT l=none:=by
  unfold readT;rw [hb];simp [hs]
theorem read_other {l r:List UInt8} {c:UInt8} {j:Nat} (hb:bracks l=(j,c::r)) (h1:c≠73) (h2:c≠76):readT l=none:=by
  unfold readT;rw [hb];simp [h1,h2]
theorem bracks_step (s:ByteArray) (i:Nat) (h:i<s.size) (e:s[i]=91):bracks (s.data.toList.drop i)=((bracks (s.data.toList.drop (i+1))).1+1,(bracks (s.data.toList.drop (i+1))).2):=by
  rw [drop_cons s i h,bracks,if_pos e]
theorem bracks_stop (s:ByteArray) (i:Nat) (h:i<s.size) (e:s[i]≠91):bracks (s.data.toList.drop i)=(0,s.data.toList.drop i):=by
  rw [drop_cons s i h,bracks,if_neg e]
theorem own_below {w w':World} {B base:Nat} {e:TypeId} {size:Nat} {v:Value} {n:Nat} {xs:List Value} (h:w.ownsRow base e size v n xs) (hb:Below B w w') (hB:w.heap.size≤B):w'.ownsRow base e size v n xs:=by
  refine ⟨h.1,?_⟩
  rcases h.2 with hn|⟨g,cap,cur,rfl,hb1,hgg,rest⟩
  · exact .inl hn
  · refine .inr ⟨g,cap,cur,rfl,hb1,?_,rest⟩
    rw [hb.block g (Nat.lt_of_lt_of_le (Array.getElem?_eq_some_iff.1 hgg).1 hB)]
    exact hgg
theorem grownBy_trans {w w1 w2:World} {r r':Option Nat} (h1:w.grownBy w1 r) (h2:w1.grownBy w2 r') (hr:∀ b,r'=some b→r=some b∨w.heap.size≤b):w.grownBy w2 r :=
  ⟨h2.os.trans h1.os,h2.tape.trans h1.tape,h2.output.trans h1.output,Nat.le_trans h1.size h2.size,fun k hk hne=>by
    have a:=h1.block k hk hne
    have b:=h2.block k (Nat.lt_of_lt_of_le hk h1.size) (fun e=>by
      rcases hr k e.symm with q|q
      · exact hne q.symm
      · omega)
    exact b.trans a⟩
theorem grownBy_below {w w1:World} {r:Option Nat} (h:Below w.heap.size w w1):w.grownBy w1 r :=
  ⟨h.os,h.tape,h.output,h.size,fun k hk _=>h.block k hk⟩
theorem wp_region_class {P:Program} {C:World→Prop} {id:Nat} {Q:Exit→Act→World→Prop} {a:Act} {w:World} {l:List Oper} (hm:P.follows .mixedOrders=true) (hB:Region.lexB .any l.toArray=true) (hC:C { w with drawn:=w.drawn+1 })
    (h:wpQuiet P l.toArray C (fun a'=>∀ w',C w'→Q .normal a' w') l a):(Code.region id l.toArray true).wp P Q a w :=
  wp_region_quiet (C:=C) hm hB hC (by simpa using h)
def Cur (w:World) (b:Nat) (s:ByteArray) (pl:Nat):Prop:=w.heap[b]?=some (.cells #[.string s,.int .i64 pl] 178 (0,0))
theorem Cur.cells {w:World} {b:Nat} {s:ByteArray} {pl:Nat} (h:Cur w b s pl) :
    w.cell? ⟨b,0,none⟩=some (.string s)∧w.cell? ⟨b,1,none⟩=some (.int .i64 pl)∧w.frozen? ⟨b,1,none⟩=false∧b<w.heap.size:=by
  unfold Cur at h
  refine ⟨?_,?_,?_,(Array.getElem?_eq_some_iff.1 h).1⟩
  · rw [cell_of_row _ b 0 _ 178 (0,0) h];rfl
  · rw [cell_of_row _ b 1 _ 178 (0,0) h];rfl
  · simp [World.frozen?,h]
theorem Cur.keep {w w':World} {b:Nat} {s:ByteArray} {pl:Nat} (h:Cur w b s pl) (hb:Below w.heap.size w w'):Cur w' b s pl:=by
  unfold Cur at *
  rw [hb.block b (Array.getElem?_eq_some_iff.1 h).1];exact h
theorem grownBy_set (w:World) (b o:Nat) (v:Value):w.grownBy (w.setCell ⟨b,o,none⟩ v) (some b) :=
  ⟨rfl,rfl,rfl,by simp [World.setCell],fun k _ hk=>heap_setCell_other w ⟨b,o,none⟩ k v (fun q=>hk (by simp [q]))⟩
theorem Cur.move {w:World} {b:Nat} {s:ByteArray} {pl:Nat} (h:Cur w b s pl) (q:Nat):Cur (w.setCell ⟨b,1,none⟩ (.int .i64 q)) b s q:=by
  unfold Cur at *
  rw [heap_setCell_same w b 1 _ 178 _ h];rfl
set_option maxHeartbeats 400000 in
theorem newCursor_any (s:ByteArray) (w:World) :
    Calls Tryz.prog 37 #[.string s] w fun e w'=>e=.returned (.pointer (some ⟨w.heap.size,0,none⟩))∧w'=w.alloc (.cells #[.string s,.int .i64 0] 178):=by
  go_enter Tryz.func37,Tryz.ntmps37
  go_wp2
  go_ret
  exact ⟨rfl,rfl⟩
set_option maxHeartbeats 400000 in
theorem atEnd_any (b:Nat) (s:ByteArray) (pl:Nat) (w:World) (h:Cur w b s pl) :
    Calls Tryz.prog 39 #[.pointer (some ⟨b,0,none⟩)] w fun e w'=>e=.returned (.bool (decide (pl=s.size)))∧Below w.heap.size w w':=by
  obtain ⟨c0,c1,c2,c3⟩:=h.cells
  clear h
  go_enter Tryz.func39,Tryz.ntmps39
  go_wp2
  go_region
  all_goals (go_wp2;go_ret;exact ⟨ret_bool (by rw [Bool.eq_iff_iff];simp;omega),(Below.refl _ _).drew⟩)
set_option maxHeartbeats 400000 in
theorem from_any (s:ByteArray) (k:Nat) (hk:k≤s.size) (w:World) :
    Calls Tryz.prog 127 #[.agg #[.string s],.int .i64 k] w fun e w'=>e=.returned (.string (s.extract k s.size))∧Below w.heap.size w w':=by
  go_enter Tryz.func127,Tryz.ntmps127
  go_wp2
  go_ret
  exact ⟨rfl,(Below.refl _ _).alloc (Nat.le_refl _) _⟩
set_option maxHeartbeats 400000 in
theorem isDeep_any (d:Int) (n:ByteArray) (w:World) :
    Calls Tryz.prog 40 #[.agg #[.int .i64 d,.string n]] w fun e w'=>e=.returned (.bool (decide (255<d)))∧Below w.heap.size w w':=by
  go_enter Tryz.func40,Tryz.ntmps40
  go_wp2
  go_ret
  exact ⟨ret_bool rfl,(Below.refl _ _).alloc (Nat.le_refl _) _⟩
def nxt (s:ByteArray) (pl:Nat) (m:UInt8):Bool:=(s.data.toList.drop pl).head? == some m
def hd (s:ByteArray) (m:UInt8):Bool:=s.data.toList.head? == some m
theorem hd_short {s:ByteArray} {m:UInt8} (h:s.size=0):hd s m=false:=by
  have:s.data.toList=[]:=List.length_eq_zero_iff.1 (by simpa using h)
  simp [hd,this]
theorem hd_take (s:ByteArray) (m:UInt8) (h:1≤s.size):((s.extract 0 1).toList == [m])=hd s m:=by
  have hl:s.data.toList.length=s.size:=by simp
  rw [Lib.toList_data,take_bytes]
  cases e:s.data.toList with
  | nil=>rw [e] at hl;simp at hl;omega
  | cons c l =>
    simp only [hd,e,List.take_succ_cons,List.take_zero,List.head?_cons]
    rw [Bool.eq_iff_iff]
    simp
set_option maxHeartbeats 400000 in
theorem litePrefix_any (s:ByteArray) (m:UInt8) (w:World) :
    Calls Tryz.prog 123 #[.string s,.string ⟨#[m]⟩] w fun e w'=>e=.returned (.bool (hd s m))∧w'=w:=by
  by_cases h:1≤s.size
  · have H:Hid _:=hd_take s m h
    go_enter Tryz.func123,Tryz.ntmps123
    go_wp2
    go_ret
    exact ⟨ret_bool H.out,rfl⟩
  · have H:Hid _:=hd_short (s:=s) (m:=m) (by omega)
    go_enter Tryz.func123,Tryz.ntmps123
    go_wp2
    go_ret
    exact ⟨ret_bool H.out.symm,rfl⟩
set_option maxHeartbeats 400000 in
theorem hasPrefix_any (s:ByteArray) (m:UInt8) (w:World) :
    Calls Tryz.prog 64 #[.string s,.string ⟨#[m]⟩] w fun e w'=>e=.returned (.bool (hd s m))∧w'=w:=by
  have HB:Hid (∀ w,_):=litePrefix_any s m
  generalize hd s m=b at *
  go_enter Tryz.func64,Tryz.ntmps64
  go_wp2_with (go_at_call 123;refine ((HB.out) _).mono ?_;rintro e w' ⟨rfl,rfl⟩)
  go_ret
  exact ⟨rfl,rfl⟩
theorem hd_from (s:ByteArray) (pl:Nat) (m:UInt8):hd (s.extract pl s.size) m=nxt s pl m:=by
  unfold hd nxt
  rw [Lib.extract_to_end]
set_option maxHeartbeats 1000000 in
theorem skip_any (b:Nat) (s:ByteArray) (pl:Nat) (m:UInt8) (hpl:pl≤s.size) (hs:s.size≤1000000) (W:World) (hc:Cur W b s pl) :
    Calls Tryz.prog 69 #[.pointer (some ⟨b,0,none⟩),.string ⟨#[m]⟩] W fun e w'=>e=.returned (.bool (nxt s pl m))∧Cur w' b s (if nxt s pl m then pl+1 else pl)∧W.grownBy w' (some b):=by
  have HF:Hid (∀ w,Hid (Below W.heap.size W w)→Calls Tryz.prog 127 #[.agg #[.string s],.int .i64 pl] w fun e w'=>e=.returned (.string (s.extract pl s.size))∧Hid (Below W.heap.size W w')) :=
    fun w h=>(from_any s pl hpl w).mono fun e w' ⟨he,hb⟩=>⟨he,h.out.trans (hb.mono h.out.size)⟩
  have HP:Hid (∀ w,Hid (Below W.heap.size W w)→Calls Tryz.prog 64 #[.string (s.extract pl s.size),.string ⟨#[m]⟩] w fun e w'=>e=.returned (.bool (nxt s pl m))∧Hid (Below W.heap.size W w')) :=
    fun w h=>(hasPrefix_any (s.extract pl s.size) m w).mono fun e w' ⟨he,hb⟩=>⟨by rw [he,hd_from],by rw [hb];exact h⟩
  obtain ⟨σ,V,V1,V2⟩:∃ (σ:Type) (V:σ→World),Hid (∀ s,Hid (Below W.heap.size W (V s)))∧Hid (∀ w,Hid (Below W.heap.size W w)→∃ s,w=V s) :=
    ⟨{w // Hid (Below W.heap.size W w)},Subtype.val,fun s=>s.2,fun w q=>⟨⟨w,q⟩,rfl⟩⟩
  have T0:Hid (Below W.heap.size W W.drew):=(Below.refl _ _).drew
  have hne:Nonempty σ:=(V2.out _ T0).elim fun s _=>⟨s⟩
  have q0:∀ s',(V s').cell? ⟨b,0,none⟩=some (.string s):=fun s'=>((hc.keep (V1.out s').out).cells).1
  have q1:∀ s',(V s').cell? ⟨b,1,none⟩=some (.int .i64 pl):=fun s'=>((hc.keep (V1.out s').out).cells).2.1
  have q2:∀ s',(V s').frozen? ⟨b,1,none⟩=false:=fun s'=>((hc.keep (V1.out s').out).cells).2.2.1
  have HC:Hid (Cur W b s pl):=hc
  clear hc
  generalize nxt s pl m=nb at *
  go_enter Tryz.func69,Tryz.ntmps69
  go_wp2
  refine wp_region_class (C:=fun w'=>∃ s,w'=V s) (by kernel_rfl) (by kernel_rfl) (V2.out _ T0) ?_
  repeat (go_big_quiet_step (first
    | (go_at_call 127;exact (HF.out _ (V1.out _)).mono fun e w'' z=>⟨z.1,V2.out _ z.2⟩)
    | (go_at_call 64;exact (HP.out _ (V1.out _)).mono fun e w'' z=>⟨z.1,V2.out _ z.2⟩)))
  refine wpQuiet_nil ?_
  intro w9 hw9
  obtain ⟨s9,rfl⟩:=hw9
  cases nb with
  | false =>
    go_wp2
    go_ret
    exact ⟨rfl,HC.out.keep (V1.out s9).out,grownBy_below (V1.out s9).out⟩
  | true =>
    go_wp2
    go_ret
    exact ⟨rfl,(HC.out.keep (V1.out s9).out).move (pl+1),grownBy_trans (grownBy_below (V1.out s9).out) (grownBy_set _ _ _ _) (fun _ h=>.inl h)⟩
theorem semi_indexByte_miss (l:List UInt8) (h:Lib.indexByte l 59=-1):(59:UInt8) ∉ l:=by
  induction l with
  | nil=>simp
  | cons b l ih =>
    unfold Lib.indexByte at h
    split at h
    · simp at h
    · rename_i hb
      have hb':b≠59:=by simpa using hb
      split at h
      · rename_i h1
        have:=ih (by simpa using h1)
        simp [hb'.symm,this]
      · rename_i h1
        have:=Lib.indexByte_ge l 59
        have h1':Lib.indexByte l 59≠-1:=by simpa using h1
        omega
theorem semi_indexByte_hit (l:List UInt8) (h:Lib.indexByte l 59≠-1):∃ a b,l=a++59::b∧(59:UInt8) ∉ a∧Lib.indexByte l 59=(a.length:Int):=by
  induction l with
  | nil=>simp [Lib.indexByte] at h
  | cons b l ih =>
    unfold Lib.indexByte at h ⊢
    by_cases hb:(b == 59)=true
    · have hb':b=59:=by simpa using hb
      exact ⟨[],l,by simp [hb'],by simp,by simp [hb]⟩
    · have hb':(b == 59)=false:=by simpa using hb
      have hb'':b≠59:=by simpa using hb
      simp only [hb',Bool.false_eq_true,if_false] at h ⊢
      by_cases h1:(Lib.indexByte l 59 == -1)=true
      · simp [h1] at h
      · have h1':Lib.indexByte l 59≠-1:=by simpa using h1
        obtain ⟨x,y,e,hx,hi⟩:=ih h1'
        refine ⟨b::x,y,by simp [e],by simp [hb''.symm,hx],?_⟩
        simp only [h1,if_false,Bool.false_eq_true]
        rw [hi];simp
set_option maxHeartbeats 400000 in
theorem semi_indexByte_any (s:ByteArray) (w:World) :
    Calls Tryz.prog 340 #[.string s,.int .u8 59] w fun e w'=>e=.returned (.int .i64 (Lib.indexByte s.data.toList 59))∧w'=w:=by
  go_enter Tryz.func340,Tryz.ntmps340
  go_wp2
  rw [run_callFunc_extern Tryz.func374 (by kernel_rfl) (by kernel_rfl) (by kernel_rfl) (e:=Extern.BytealgIndexByte.indexByte) (by kernel_rfl),Lib.run_indexByteString]
  simp only [Result.andThen]
  rw [Oper.upon_value]
  go_wp2
  go_ret
  exact ⟨rfl,rfl⟩
set_option maxHeartbeats 400000 in
theorem semi_index_any (s:ByteArray) (w:World) :
    Calls Tryz.prog 303 #[.string s,.string ⟨#[59]⟩] w fun e w'=>e=.returned (.int .i64 (Lib.indexByte s.data.toList 59))∧w'=w:=by
  by_cases hq:([59] == s.toList)=true
  · have hi:Lib.indexByte s.data.toList 59=0:=by
      have:s.data.toList=[59]:=by rw [← Lib.toList_data];exact (beq_iff_eq.1 hq).symm
      rw [this];rfl
    have HI:Hid (Lib.indexByte s.data.toList 59=0):=hi
    clear hi
    go_enter Tryz.func303,Tryz.ntmps303
    go_wp2
    go_ret
    exact ⟨ret_int HI.out.symm,rfl⟩
  · have hq':([59] == s.toList)=false:=by simpa using hq
    clear hq
    go_enter Tryz.func303,Tryz.ntmps303
    go_wp2_with (go_at_call 340;refine (semi_indexByte_any s _).mono ?_;rintro e w' ⟨rfl,rfl⟩)
    go_ret
    exact ⟨rfl,rfl⟩
set_option maxHeartbeats 400000 in
theorem semi_liteCut_miss (s:ByteArray) (w:World) (h:Lib.indexByte s.data.toList 59=-1) :
    Calls Tryz.prog 253 #[.string s,.string ⟨#[59]⟩] w fun e w'=>e=.returned (.tuple #[.string s,.string ⟨#[]⟩,.bool false])∧∃ n,w'=w.drewN n:=by
  have HB:Hid (∀ w,_):=semi_index_any s
  rw [h] at HB
  clear h
  go_enter Tryz.func253,Tryz.ntmps253
  go_wp2_with (go_at_call 303;refine ((HB.out) _).mono ?_;rintro e w' ⟨rfl,rfl⟩)
  go_ret3
  exact ⟨rfl,0,rfl⟩
set_option maxHeartbeats 400000 in
theorem semi_liteCut_hit (s:ByteArray) (hs:s.size≤maxLen) (w:World) (n:Nat) (hn:n<s.size) (h:Lib.indexByte s.data.toList 59=n) :
    Calls Tryz.prog 253 #[.string s,.string ⟨#[59]⟩] w fun e w'=>e=.returned (.tuple #[.string (s.extract 0 n),.string (s.extract (n+1) s.size),.bool true])∧∃ n,w'=w.drewN n:=by
  have HB:Hid (∀ w,_):=semi_index_any s
  rw [h] at HB
  clear h
  unfold maxLen at hs
  go_enter Tryz.func253,Tryz.ntmps253
  go_wp2_with (go_at_call 303;refine ((HB.out) _).mono ?_;rintro e w' ⟨rfl,rfl⟩)
  go_region
  all_goals (go_wp2;go_ret3;exact ⟨rfl,1,rfl⟩)
set_option maxHeartbeats 400000 in
theorem semi_cut_miss (s:ByteArray) (w:World) (h:Lib.indexByte s.data.toList 59=-1) :
    Calls Tryz.prog 198 #[.string s,.string ⟨#[59]⟩] w fun e w'=>e=.returned (.tuple #[.string s,.string ⟨#[]⟩,.bool false])∧∃ n,w'=w.drewN n:=by
  have HB:Hid (∀ w,_):=fun w=>semi_liteCut_miss s w h
  clear h
  go_enter Tryz.func198,Tryz.ntmps198
  go_wp2_with (go_at_call 253;refine ((HB.out) _).mono ?_;rintro e w' ⟨rfl,n,rfl⟩)
  go_ret3
  exact ⟨rfl,_,rfl⟩
set_option maxHeartbeats 400000 in
theorem semi_cut_hit (s:ByteArray) (hs:s.size≤maxLen) (w:World) (n:Nat) (hn:n<s.size) (h:Lib.indexByte s.data.toList 59=n) :
    Calls Tryz.prog 198 #[.string s,.string ⟨#[59]⟩] w fun e w'=>e=.returned (.tuple #[.string (s.extract 0 n),.string (s.extract (n+1) s.size),.bool true])∧∃ n,w'=w.drewN n:=by
  have HB:Hid (∀ w,_):=fun w=>semi_liteCut_hit s hs w n hn h
  clear h
  go_enter Tryz.func198,Tryz.ntmps198
  go_wp2_with (go_at_call 253;refine ((HB.out) _).mono ?_;rintro e w' ⟨rfl,n,rfl⟩)
  go_ret3
  exact ⟨rfl,_,rfl⟩
def cutV (r:ByteArray):Value:=match semi r.data.toList with
  | none=>.tuple #[.string r,.string ⟨#[]⟩,.bool false]
  | some (a,b)=>.tuple #[.string ⟨a.toArray⟩,.string ⟨b.toArray⟩,.bool true]
theorem cutS_any (r:ByteArray) (hs:r.size≤1000000) (w:World) :
    Calls Tryz.prog 198 #[.string r,.string ⟨#[59]⟩] w fun e w'=>e=.returned (cutV r)∧Below w.heap.size w w':=by
  by_cases hx:Lib.indexByte r.data.toList 59=-1
  · refine (semi_cut_miss r w hx).mono fun e w' ⟨he,n,hn⟩=>⟨?_,?_⟩
    · rw [he,cutV,semi_none _ (semi_indexByte_miss _ hx)]
    · rw [hn];exact below_drewN (Below.refl _ _) n
  · obtain ⟨a,b,hab,ha,hix⟩:=semi_indexByte_hit _ hx
    have hsz:r.size=a.length+1+b.length:=by
      have:r.data.toList.length=r.size:=by simp
      rw [← this,hab];simp;omega
    have han:a.length<r.size:=by omega
    have e1:r.extract 0 a.length=⟨a.toArray⟩:=by rw [take_bytes,hab];simp
    have e2:r.extract (a.length+1) r.size=⟨b.toArray⟩:=by
      rw [drop_bytes,hab,show a++59::b=(a++[59])++b by simp,List.drop_left' (by simp)]
    refine (semi_cut_hit r (by unfold maxLen;omega) w a.length han hix).mono fun e w' ⟨he,n,hn⟩=>⟨?_,?_⟩
    · rw [he,cutV,hab,semi_app _ _ ha,e1,e2]
    · rw [hn];exact below_drewN (Below.refl _ _) n
def nameS (l:List UInt8):List UInt8:=match semi l with|some (a,_)=>if validL a then a else []|none=>[]
def nameB (l:List UInt8):Bool:=match semi l with|some (a,_)=>validL a|none=>false
def nameP (l:List UInt8):Nat:=match semi l with|some (a,_)=>if validL a then a.length+1 else 0|none=>0
set_option maxHeartbeats 1000000 in
theorem readName_any (b:Nat) (s:ByteArray) (pl:Nat) (hpl:pl≤s.size) (hs:s.size≤1000000) (W:World) (hc:Cur W b s pl) :
    Calls Tryz.prog 128 #[.pointer (some ⟨b,0,none⟩)] W fun e w'=>e=.returned (.tuple #[.string ⟨(nameS (s.data.toList.drop pl)).toArray⟩,.bool (nameB (s.data.toList.drop pl))])∧Cur w' b s (pl+nameP (s.data.toList.drop pl))∧W.grownBy w' (some b):=by
  have HF:Hid (∀ w,Hid (Below W.heap.size W w)→Calls Tryz.prog 127 #[.agg #[.string s],.int .i64 pl] w fun e w'=>e=.returned (.string (s.extract pl s.size))∧Hid (Below W.heap.size W w')) :=
    fun w h=>(from_any s pl hpl w).mono fun e w' ⟨he,hb⟩=>⟨he,h.out.trans (hb.mono h.out.size)⟩
  have HP:Hid (∀ w,Hid (Below W.heap.size W w)→Calls Tryz.prog 198 #[.string (s.extract pl s.size),.string ⟨#[59]⟩] w fun e w'=>e=.returned (cutV (s.extract pl s.size))∧Hid (Below W.heap.size W w')) :=
    fun w h=>(cutS_any (s.extract pl s.size) (by simp;omega) w).mono fun e w' ⟨he,hb⟩=>⟨he,h.out.trans (hb.mono h.out.size)⟩
  obtain ⟨σ,V,V1,V2⟩:∃ (σ:Type) (V:σ→World),Hid (∀ s,Hid (Below W.heap.size W (V s)))∧Hid (∀ w,Hid (Below W.heap.size W w)→∃ s,w=V s) :=
    ⟨{w // Hid (Below W.heap.size W w)},Subtype.val,fun s=>s.2,fun w q=>⟨⟨w,q⟩,rfl⟩⟩
  have T0:Hid (Below W.heap.size W W.drew):=(Below.refl _ _).drew
  have hne:Nonempty σ:=(V2.out _ T0).elim fun s _=>⟨s⟩
  have q0:∀ s',(V s').cell? ⟨b,0,none⟩=some (.string s):=fun s'=>((hc.keep (V1.out s').out).cells).1
  have q1:∀ s',(V s').cell? ⟨b,1,none⟩=some (.int .i64 pl):=fun s'=>((hc.keep (V1.out s').out).cells).2.1
  have hbs:=hc.cells.2.2.2
  have HC:Hid (Cur W b s pl):=hc
  clear hc
  have hd:(s.extract pl s.size).data.toList=s.data.toList.drop pl:=Lib.extract_to_end _ _
  unfold cutV at HP
  rw [hd] at HP
  have hlen:(s.data.toList.drop pl).length=s.size - pl:=by simp
  generalize s.data.toList.drop pl=l at *
  clear hd
  cases hsm:semi l with
  | none =>
    have e1:nameS l=[]:=by simp [nameS,hsm]
    have e2:nameB l=false:=by simp [nameB,hsm]
    have e3:nameP l=0:=by simp [nameP,hsm]
    rw [e1,e2,e3]
    rw [hsm] at HP
    clear hsm e1 e2 e3 hlen
    go_enter Tryz.func128,Tryz.ntmps128
    go_wp2
    refine wp_region_class (C:=fun w'=>∃ s,w'=V s) (by kernel_rfl) (by kernel_rfl) (V2.out _ T0) ?_
    repeat (go_big_quiet_step (first
      | (go_at_call 127;exact (HF.out _ (V1.out _)).mono fun e w'' z=>⟨z.1,V2.out _ z.2⟩)
      | (go_at_call 198;exact (HP.out _ (V1.out _)).mono fun e w'' z=>⟨z.1,V2.out _ z.2⟩)))
    refine wpQuiet_nil ?_
    intro w9 hw9
    obtain ⟨s9,rfl⟩:=hw9
    go_wp2
    go_ret2
    exact ⟨rfl,HC.out.keep (V1.out s9).out,grownBy_below (V1.out s9).out⟩
  | some p =>
    obtain ⟨x,y⟩:=p
    have hl:=(semi_eq hsm).1
    have hxs:x.length+1+y.length=s.size - pl:=by rw [← hlen,hl];simp;omega
    have hmk:(⟨x.toArray⟩:ByteArray).size=x.length:=mk_size x
    have HV:Hid (∀ w,_):=valid_any ⟨x.toArray⟩ (by rw [mk_size];unfold maxLen;omega)
    simp only at HV
    rw [hsm] at HP
    cases hv:validL x with
    | false =>
      have e1:nameS l=[]:=by simp [nameS,hsm,hv]
      have e2:nameB l=false:=by simp [nameB,hsm,hv]
      have e3:nameP l=0:=by simp [nameP,hsm,hv]
      rw [e1,e2,e3]
      rw [hv] at HV
      clear hsm e1 e2 e3 hlen hl hxs hv
      go_enter Tryz.func128,Tryz.ntmps128
      go_wp2
      refine wp_region_class (C:=fun w'=>∃ s,w'=V s) (by kernel_rfl) (by kernel_rfl) (V2.out _ T0) ?_
      repeat (go_big_quiet_step (first
        | (go_at_call 127;exact (HF.out _ (V1.out _)).mono fun e w'' z=>⟨z.1,V2.out _ z.2⟩)
        | (go_at_call 198;exact (HP.out _ (V1.out _)).mono fun e w'' z=>⟨z.1,V2.out _ z.2⟩)))
      refine wpQuiet_nil ?_
      intro w9 hw9
      obtain ⟨s9,rfl⟩:=hw9
      go_wp2_with (go_at_call 66;refine ((HV.out) _).mono ?_;rintro e w2 ⟨rfl,hb2⟩)
      go_ret2
      have HB:=(V1.out s9).out.trans (hb2.mono (V1.out s9).out.size)
      exact ⟨rfl,HC.out.keep HB,grownBy_below HB⟩
    | true =>
      have e1:nameS l=x:=by simp [nameS,hsm,hv]
      have e2:nameB l=true:=by simp [nameB,hsm,hv]
      have e3:nameP l=x.length+1:=by simp [nameP,hsm,hv]
      rw [e1,e2,e3]
      rw [hv] at HV
      clear hsm e1 e2 e3 hlen hl hv
      go_enter Tryz.func128,Tryz.ntmps128
      go_wp2
      refine wp_region_class (C:=fun w'=>∃ s,w'=V s) (by kernel_rfl) (by kernel_rfl) (V2.out _ T0) ?_
      repeat (go_big_quiet_step (first
        | (go_at_call 127;exact (HF.out _ (V1.out _)).mono fun e w'' z=>⟨z.1,V2.out _ z.2⟩)
        | (go_at_call 198;exact (HP.out _ (V1.out _)).mono fun e w'' z=>⟨z.1,V2.out _ z.2⟩)))
      refine wpQuiet_nil ?_
      intro w9 hw9
      obtain ⟨s9,rfl⟩:=hw9
      go_wp2_with (go_at_call 66;refine ((HV.out) _).mono ?_;rintro e w2 ⟨rfl,hb2⟩;have HB:Hid (Below W.heap.size W w2):=(V1.out s9).out.trans (hb2.mono (V1.out s9).out.size);have r1:w2.cell? ⟨b,1,none⟩=some (.int .i64 pl):=(HC.out.keep HB.out).cells.2.1;have r2:w2.frozen? ⟨b,1,none⟩=false:=(HC.out.keep HB.out).cells.2.2.1;clear hb2)
      go_ret2
      exact ⟨rfl,(HC.out.keep HB.out).move _,grownBy_trans (grownBy_below HB.out) (grownBy_set _ _ _ _) (fun _ h=>.inl h)⟩
end Go.Proofs.YtlohdfpinmdljaaGreatDoor
