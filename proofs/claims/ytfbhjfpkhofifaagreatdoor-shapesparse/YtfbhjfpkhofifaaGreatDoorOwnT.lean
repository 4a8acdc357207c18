import Derived.Test.YtfbhjfpkhofifaaGreatDoorOwnI
import Derived.Test.YtfbhjfpkhofifaaGreatDoorOwnP
set_option maxHeartbeats 2000000
set_option maxRecDepth 100000
namespace Go.Proofs.YtfbhjfpkhofifaaGreatDoor
open Go.RowKit
theorem cut_yes (s:ByteArray) (k:Nat) (hs:s.size≤9223372036854775807) (hk:k<s.size) (HI:∀ w:World,Calls Tryz.prog 154 #[.string s,.string ⟨#[32]⟩] w fun e w'=>e=.returned (.int .i64 (k:Int))∧w'=w) (w:World) :
 Calls Tryz.prog 123 #[.string s,.string ⟨#[32]⟩] w fun e w'=>e=.returned (.tuple #[.string (s.extract 0 k),.string (s.extract (k+1) s.size),.bool true])∧Bw w w':=by
 have HI:Hid (∀ w:World,_):=HI;go_enter Tryz.func123,Tryz.ntmps123;go_wp2_with (go_at_call 154;refine (HI.out _).mono ?_;rintro e w1 ⟨rfl,hw1⟩;rw [hw1];clear hw1 HI)
 go_region
 all_goals go_wp2
 all_goals exact bodyPost_ret (v:=.tuple #[.string (s.extract 0 k),.string (s.extract (k+1) s.size),.bool true]) (by simp [results,Tryz.results123,go_sem, *]) rfl ⟨rfl,(Below.refl _ _).drew⟩
theorem cut_no (s:ByteArray) (HI:∀ w:World,Calls Tryz.prog 154 #[.string s,.string ⟨#[32]⟩] w fun e w'=>e=.returned (.int .i64 (-1))∧w'=w) (w:World) :
 Calls Tryz.prog 123 #[.string s,.string ⟨#[32]⟩] w fun e w'=>e=.returned (.tuple #[.string s,.string ⟨#[]⟩,.bool false])∧Bw w w':=by
 have HI:Hid (∀ w:World,_):=HI;go_enter Tryz.func123,Tryz.ntmps123;go_wp2_with (go_at_call 154;refine (HI.out _).mono ?_;rintro e w1 ⟨rfl,hw1⟩;rw [hw1];clear hw1 HI)
 exact bodyPost_ret (v:=.tuple #[.string s,.string ⟨#[]⟩,.bool false]) (by simp [results,Tryz.results123,go_sem, *]) rfl ⟨rfl,Below.refl _ _⟩
theorem Znc (s:ByteArray) (hs:s.size≤maxLen):∃ q:Bool,∀ w:World,Calls Tryz.prog 123 #[.string s,.string ⟨#[32]⟩] w fun e w'=>e=.returned (.tuple #[.string ⟨(cutA s.data.toList).toArray⟩,.string ⟨(cutB s.data.toList).toArray⟩,.bool q])∧Bw w w':=by
 have hlen:s.data.toList.length=s.size:=by simp
 have HI:=Zln s;have hsp:(fun x:UInt8=>!decide (x=32))=Zhf:=rfl;rw [Zbh,hsp,hlen] at HI;by_cases hk:Zam s.data.toList<s.size
 ·have hk':Z5 Zhf s.data.toList<s.size:=hk;rw [if_pos hk'] at HI;refine ⟨true,fun w=>?_⟩;have e1:(⟨(cutA s.data.toList).toArray⟩:ByteArray)=s.extract 0 (Zam s.data.toList):=by apply Zf;rw [Jn,cutA]
  have e2:(⟨(cutB s.data.toList).toArray⟩:ByteArray)=s.extract (Zam s.data.toList+1) s.size:=by apply Zf;rw [Lib.extract_to_end,cutB]
  rw [e1,e2];exact cut_yes s (Zam s.data.toList) (by unfold maxLen at hs;omega) hk HI w
 ·have hk':¬ Z5 Zhf s.data.toList<s.size:=hk;rw [if_neg hk'] at HI;refine ⟨false,fun w=>?_⟩;have hle:s.data.toList.length≤Zam s.data.toList:=by rw [hlen];exact Nat.le_of_not_lt hk
  have e1:(⟨(cutA s.data.toList).toArray⟩:ByteArray)=s:=by apply Zf;rw [cutA,List.take_of_length_le hle]
  have e2:(⟨(cutB s.data.toList).toArray⟩:ByteArray)=⟨#[]⟩:=by apply Zf;rw [cutB,List.drop_of_length_le (by omega)]
  rw [e1,e2];exact cut_no s HI w
theorem Zoz (s:ByteArray) (hs:s.size≤maxLen):∃ q:Bool,∀ w:World,Calls Tryz.prog 86 #[.string s,.string ⟨#[32]⟩] w fun e w'=>e=.returned (.tuple #[.string ⟨(cutA s.data.toList).toArray⟩,.string ⟨(cutB s.data.toList).toArray⟩,.bool q])∧Bw w w':=by
 obtain ⟨q,HC⟩:=Znc s hs;refine ⟨q,fun w=>?_⟩;generalize (⟨(cutA s.data.toList).toArray⟩:ByteArray)=A at *;generalize (⟨(cutB s.data.toList).toArray⟩:ByteArray)=B at *;have HC:Hid (∀ w:World,_):=HC;go_enter Tryz.func86,Tryz.ntmps86;go_wp2_with (go_at_call 123;refine (HC.out _).mono ?_;rintro e w1 ⟨rfl,hb1⟩)
 exact bodyPost_ret (v:=.tuple #[.string A,.string B,.bool q]) (by simp [results,Tryz.results86,go_sem, *]) rfl ⟨rfl,hb1⟩
def wv41:Array Value:=#[.string ⟨#[]⟩,.string ⟨#[105,99,111,110,115,116]⟩,.string ⟨#[105,108,111,97,100]⟩,.string ⟨#[105,115,116,111,114,101]⟩,.string ⟨#[97,108,111,97,100]⟩,.string ⟨#[97,115,116,111,114,101]⟩,.string ⟨#[110,117,108,108]⟩,.string ⟨#[105,97,100,100]⟩,.string ⟨#[105,115,117,98]⟩,.string ⟨#[105,109,117,108]⟩,.string ⟨#[105,100,105,118]⟩,.string ⟨#[103,111,116,111]⟩,.string ⟨#[105,102,101,113]⟩,.string ⟨#[105,102,110,101]⟩,.string ⟨#[105,102,108,116]⟩,.string ⟨#[105,102,99,109,112,101,113]⟩,.string ⟨#[105,102,99,109,112,108,116]⟩,.string ⟨#[105,102,97,99,109,112,101,113]⟩,.string ⟨#[105,102,110,117,108,108]⟩,.string ⟨#[112,111,112]⟩,.string ⟨#[100,117,112]⟩,.string ⟨#[115,119,97,112]⟩,.string ⟨#[110,101,119]⟩,.string ⟨#[110,101,119,97,114,114,97,121]⟩,.string ⟨#[109,117,108,116,105,110,101,119]⟩,.string ⟨#[97,114,114,97,121,108,101,110,103,116,104]⟩,.string ⟨#[105,97,108,111,97,100]⟩,.string ⟨#[105,97,115,116,111,114,101]⟩,.string ⟨#[97,97,108,111,97,100]⟩,.string ⟨#[97,97,115,116,111,114,101]⟩,.string ⟨#[99,104,101,99,107,99,97,115,116]⟩,.string ⟨#[105,110,115,116,97,110,99,101,111,102]⟩,.string ⟨#[105,110,118,111,107,101,118,105,114,116,117,97,108]⟩,.string ⟨#[105,110,118,111,107,101,105,110,116,101,114,102,97,99,101]⟩,.string ⟨#[105,110,118,111,107,101,115,112,101,99,105,97,108]⟩,.string ⟨#[105,110,118,111,107,101,115,116,97,116,105,99]⟩,.string ⟨#[105,114,101,116,117,114,110]⟩,.string ⟨#[97,114,101,116,117,114,110]⟩,.string ⟨#[114,101,116,117,114,110]⟩,.string ⟨#[112,114,105,110,116]⟩,.string ⟨#[112,114,105,110,116,99,108,97,115,115]⟩]
theorem wv_at (i:Nat) (t:List UInt8) (h:wordsL[i]?=some t):wv41[i]?=some (.string ⟨t.toArray⟩):=by
 have e:wv41.toList=wordsL.map strV:=rfl;rw [← Array.getElem?_toList,e,List.getElem?_map,h];rfl
theorem Za5 (w:World) (i:Nat) (t:List UInt8) (h:wordsL[i]?=some t):(Instr.index 197 (.agg wv41) (.int .i64 i)).run Tryz.prog w=.ok (.string ⟨t.toArray⟩) w:=by
 have hi:i<41:=(List.getElem?_eq_some_iff.1 h).1;simp [Instr.index,run_underlying Tryz.underlying197,asIntOf,go_sem,hi,wv_at i t h]
theorem op_hit (l:List UInt8) (i:Nat) (h:wordsL[i]?=some l):opOf l=i:=by
 have hi:i<41:=(List.getElem?_eq_some_iff.1 h).1;by_cases h1:1≤i
 ·have:=(Zm7 ⟨i,hi⟩ h1).1;simp only [List.getD_eq_getElem?_getD,h,Option.getD_some] at this;exact this
 ·obtain rfl:i=0:=by omega
  have:l=[]:=(Option.some.inj h).symm;rw [this];rfl
theorem op_miss (l:List UInt8) (h:∀ (j:Nat) (u:List UInt8),j<41→wordsL[j]?=some u→u≠l):opOf l=0:=by
 by_cases h0:opOf l=0
 ·exact h0
 ·have hw:=Zn4 h0;have hle:=Yr l;by_cases hlt:opOf l<41
  ·exfalso;have hs:wordsL[opOf l]?=some l:=by
    have hx:wordsL[opOf l]?=some (wordsL[opOf l]'(by rw [X9];exact hlt)):=List.getElem?_eq_getElem _;rw [hx];rw [List.getD_eq_getElem?_getD,hx] at hw;exact congrArg some hw
   exact h _ l hlt hs rfl
  ·exfalso;have h41:opOf l=41:=by omega
   rw [h41] at hw;have:l=[]:=hw.symm;rw [this] at h41;exact absurd h41 (by decide)
def WordsRow (w:World):Prop:=∃ t fr,w.heap[4]?=some (.cells wv41 t fr)
theorem WordsRow.keep {w w':World} (h:WordsRow w) (hb:Bw w w'):WordsRow w':=by
 obtain ⟨t,fr,h⟩:=h;exact ⟨t,fr,(hb.block 4 (Array.getElem?_eq_some_iff.1 h).1).trans h⟩
theorem Zm4 {W : World} (h : Lib.VarReads Tryz.prog W "arbiter/code.words" Rows.laid_arbiter_code_words) : WordsRow W := by
 obtain ⟨g,t,cs,fuel,p,hg,ht,hvar,hd⟩:=h;obtain rfl:=Option.some.inj (Tryz.wordsG.symm.trans hg);obtain rfl:=Option.some.inj (Tryz.wordsT.symm.trans ht);rw [Zbg] at hd;have hl:cs.toList.length=41:=by
  cases fuel with
  | zero=>simp [DataW.trod] at hd
  | succ fuel =>
    simp only [DataW.trod,Tryz.underlying197,Tryz.cells197] at hd
    split at hd
    ·rename_i hh;exact hh
    ·cases hd
 have hc:cs=wv41:=by
  apply Array.ext_getElem?;intro i;by_cases hi:i<41
  ·obtain ⟨x,hx⟩:∃ x,wordsL[i]?=some x:=⟨_,List.getElem?_eq_getElem (by rw [X9];exact hi)⟩;rw [wv_at i x hx,← Array.getElem?_toList];exact Xv hd i x hx
  ·rw [Array.getElem?_eq_none (by rw [← Array.length_toList,hl];omega),Array.getElem?_eq_none (by have:wv41.size=41:=rfl;omega)]
 rw [hc] at hvar;simp only [World.var?,hg,Option.bind_some] at hvar
 split at hvar
 ·rename_i cs' t' fr' hh
  rw [Option.some.inj hvar] at hh;exact ⟨t',fr',hh⟩
 ·cases hvar
theorem opOf_any (s:ByteArray) (w:World) (h:WordsRow w):Calls Tryz.prog 188 #[.string s] w fun e w'=>e=.returned (.int .i64 (opOf s.data.toList))∧w'=w:=by
 obtain ⟨WV,hWV⟩:∃ WV,WV=wv41:=⟨_,rfl⟩;obtain ⟨rt,rf,hrow⟩:=h;have HI:Hid (∀ (i:Nat) (t:List UInt8) (w:World),wordsL[i]?=some t→(Instr.index 197 (.agg WV) (.int .i64 i)).run Tryz.prog w=.ok (.string ⟨t.toArray⟩) w):=fun i t w h=>by rw [hWV];exact Za5 w i t h
 have hsz:(Tryz.prog.info? 197).map (·.size)=some WV.size:=by rw [hWV];kernel_rfl
 rw [← hWV] at hrow;clear hWV;have HH:Hid (∀ i t,wordsL[i]?=some t→t=s.data.toList→opOf s.data.toList=i):=fun i t h1 h2=>op_hit _ i (by rw [← h2];exact h1);have HZ:Hid _:=op_miss s.data.toList;have HROW:Hid (w.heap[4]?=some (.cells WV rt rf)):=hrow;have HSZ:Hid ((Tryz.prog.info? 197).map (·.size)=some WV.size):=hsz;clear hrow hsz;go_enter Tryz.func188,Tryz.ntmps188;go_wp2_with (refine wpList_load_row rfl 197 (.global 4) rfl 4 rfl _ WV _ _ HROW.out Tryz.underlying197 rfl HSZ.out ?_)
 go_loop [6] (fun iv=>∃ (i:Nat),iv=.int .i64 i∧i≤41∧Hid (∀ (j:Nat) (u:List UInt8),j<i→wordsL[j]?=some u→u≠s.data.toList)) (fun iv=>41 - (intOf iv).toNat)
 case atStart=>exact ⟨0,rfl,Nat.zero_le _,fun j u hj=>absurd hj (Nat.not_lt_zero _)⟩
 case round =>
  obtain ⟨i,rfl,hi,HN⟩:=hrel;by_cases hlt:i<41
  ·obtain ⟨t,ht⟩:∃ t,wordsL[i]?=some t:=⟨_,List.getElem?_eq_getElem (by rw [X9];exact hlt)⟩;have hix:∀ w,_:=fun w=>HI.out i t w ht;obtain ⟨X,hX⟩:∃ X:ByteArray,X=⟨t.toArray⟩:=⟨_,rfl⟩;rw [← hX] at hix;have hbe:(s.toList == X.toList)=decide (s.data.toList=t):=by
    rw [Lib.toList_data,Lib.toList_data,hX,Bool.eq_iff_iff];simp
   by_cases he:s.data.toList=t
   ·have hq:(s.toList == X.toList)=true:=by rw [hbe];exact decide_eq_true he
    have HR:Hid (opOf s.data.toList=i):=HH.out i t ht he.symm;clear hbe he hX ht HN HH HZ HI;go_wp2;go_ret
    exact ⟨Zg (by rw [HR.out]),rfl⟩
   ·have hq:(s.toList == X.toList)=false:=by rw [hbe];exact decide_eq_false he
    have HN2:Hid (∀ (j:Nat) (u:List UInt8),j<i+1→wordsL[j]?=some u→u≠s.data.toList):=by
     intro j u hj hu e;by_cases hji:j<i
     ·exact HN.out j u hji hu e
     ·obtain rfl:j=i:=by omega
      rw [ht] at hu;obtain rfl:=Option.some.inj hu;exact he e.symm
    clear hbe he hX ht HN HH HZ HI;go_wp2
    go_round
    case rel=>exact ⟨i+1,by go_num,by omega,HN2⟩
    case measure=>simp [intOf];omega
  ·have HR:Hid (opOf s.data.toList=0):=HZ.out (fun j u hj hu=>HN.out j u (by omega) hu);clear HN HI HZ HH;go_wp2;go_ret
   exact ⟨Zg (by rw [HR.out];rfl),rfl⟩
def EIn (w : World) : Prop := (∃ tp p, w.var? Tryz.prog "strconv.ErrSyntax" = some #[.iface tp p]) ∧ ∃ tp p, w.var? Tryz.prog "strconv.ErrRange" = some #[.iface tp p]
theorem Tryz.synG : Tryz.prog.globalNamed "strconv.ErrSyntax" = some 10 := by kernel_rfl
theorem Tryz.rngG : Tryz.prog.globalNamed "strconv.ErrRange" = some 11 := by kernel_rfl
theorem EIn.keep {w w':World} (h:EIn w) (hb:Bw w w'):EIn w':=by
 obtain ⟨⟨t1,p1,h1⟩,t2,p2,h2⟩:=h;exact ⟨⟨t1,p1,Joins.var_stays Tryz.synG h1 hb (Nat.le_refl _)⟩,t2,p2,Joins.var_stays Tryz.rngG h2 hb (Nat.le_refl _)⟩
theorem Zdy (w:World) (e:TypeId) (t:ByteArray):Bw w (Lib.bytesWorld w e t):=Lib.bytesWorld_below w e t
theorem atoi_any (s:ByteArray) (hs:s.size≤140737488351232) (w:World) (h:EIn w) :
 Calls Tryz.prog 159 #[.string s] w fun e w'=>(∃ n er,e=.returned (.tuple #[.int .i64 n,er])∧((er=.nilIface∧rdN s.data.toList=n)∨(∃ tp a,er=.iface tp (.pointer a))∧rdN s.data.toList=0))∧Bw w w':=by
 obtain ⟨⟨t1,p1,h1⟩,t2,p2,h2⟩:=h
 cases ha:Lib.atoiAll s.data.toList with
 | ok v =>
   refine (Tryz.strconv_Atoi_ok s (by omega) v ha w).mono fun e w' ⟨he,hw⟩=>⟨⟨v,.nilIface,he,.inl ⟨rfl,by rw [rdN,ha]⟩⟩,?_⟩;rcases hw with rfl|⟨t,rfl⟩
   ·exact Below.refl _ _
   ·exact Zdy _ _ _
 | «syntax» =>
   refine (Tryz.strconv_Atoi_syntax_var s (by omega) ha t1 p1 w h1).mono fun e w' ⟨N,he,_,_,hb⟩=>⟨⟨0,_,he,.inr ⟨⟨_,_,rfl⟩,by rw [rdN,ha]⟩⟩,hb⟩
 | range =>
   refine (Tryz.strconv_Atoi_range_var s (by omega) ha t2 p2 w h2).mono fun e w' ⟨N,he,_,_,hb⟩=>⟨⟨_,_,he,.inr ⟨⟨_,_,rfl⟩,by rw [rdN,ha]⟩⟩,hb⟩
theorem Xp (s:ByteArray) (hs:s.size≤140737488351232) (w:World) (h:EIn w):Calls Tryz.prog 203 #[.string s] w fun e w'=>e=.returned (.int .i64 (rdN s.data.toList))∧Bw w w':=by
 have HA:Hid (∀ w:World,EIn w→_):=fun w h=>atoi_any s hs w h;have HE:Hid (EIn w):=h;clear h hs;generalize rdN s.data.toList=r at *;go_enter Tryz.func203,Tryz.ntmps203;go_wp2_with (go_at_call 159;refine (HA.out _ HE.out).mono ?_;rintro e w1 ⟨⟨n,er,rfl,hcase⟩,hb1⟩;rcases hcase with ⟨rfl,rfl⟩|⟨⟨tp,a,rfl⟩,rfl⟩)
 all_goals
  go_ret
  exact ⟨rfl,hb1⟩
theorem Zb2 (l:List UInt8):-9223372036854775808≤rdN l∧rdN l≤9223372036854775807:=by
 unfold rdN
 cases h:Lib.atoiAll l with
 | ok v=>exact Lib.atoiAll_bounds h
 | «syntax»=>simp only;omega
 | range=>simp only;omega
end Go.Proofs.YtfbhjfpkhofifaaGreatDoor
