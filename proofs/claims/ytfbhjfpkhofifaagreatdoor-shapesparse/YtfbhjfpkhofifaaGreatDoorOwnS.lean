import Derived.Test.YtfbhjfpkhofifaaGreatDoorShelfA
import Derived.Test.YtfbhjfpkhofifaaGreatDoorOwnL
import Derived.Test.YtfbhjfpkhofifaaGreatDoorCodeN
import Derived.Lib.LaidU8
import Derived.Lib.SmallJoins
set_option maxHeartbeats 4000000
set_option maxRecDepth 100000
namespace Go.Proofs.YtfbhjfpkhofifaaGreatDoor
open Go.RowKit
def WordsIn (w:World):Prop:=4<w.heap.size∧∀ i t,wordsL[i]?=some t→w.cell? ⟨4,i,none⟩=some (.string ⟨t.toArray⟩)
def TenIn (w : World) : Prop := Lib.TabIs Tryz.prog w "internal/strconv.uint64pow10" .u64 Lib.pow10Tab
def GIn (w:World):Prop:=WordsIn w∧TenIn w
theorem Tryz.wordsG : Tryz.prog.globalNamed "arbiter/code.words" = some 4 := by kernel_rfl
theorem Tryz.wordsT:(Tryz.prog.globals[4]?).map (·.type)=some 197:=by kernel_rfl
theorem Tryz.cells197:Tryz.prog.cellsOf 197=41:=by kernel_rfl
theorem Tryz.cells9:Tryz.prog.cellsOf 9=1:=by kernel_rfl
theorem Tryz.tenG : Tryz.prog.globalNamed "internal/strconv.uint64pow10" = some 6 := by kernel_rfl
theorem Tryz.tenT:(Tryz.prog.globals[6]?).map (·.type)=some 210:=by kernel_rfl
theorem Tryz.cells210:Tryz.prog.cellsOf 210=20:=by kernel_rfl
theorem Tryz.cells190:Tryz.prog.cellsOf 190=1:=by kernel_rfl
theorem WordsIn.keep {w w':World} (h:WordsIn w) (hb:Bw w w'):WordsIn w' :=
 ⟨Nat.lt_of_lt_of_le h.1 hb.size,fun i t ht=>(hb.cell (p:=⟨4,i,none⟩) h.1).trans (h.2 i t ht)⟩
theorem TenIn.keep {w w':World} (h:TenIn w) (hb:Bw w w'):TenIn w':=Joins.var_stays Tryz.tenG h hb (Nat.le_refl _)
theorem GIn.keep {w w':World} (h:GIn w) (hb:Bw w w'):GIn w':=⟨h.1.keep hb,h.2.keep hb⟩
theorem Zbg {H:Type}:(Rows.laid_arbiter_code_words:DataW H)=.agg (wordsL.map fun t=>.lit (.string t)):=rfl
theorem laid_ten {H:Type}:(Rows.laid_internal_strconv_uint64pow10:DataW H)=Lib.tabData .u64 Lib.pow10Tab:=by
 have h:Lib.pow10Tab=[1,10,100,1000,10000,100000,1000000,10000000,100000000,1000000000,10000000000,100000000000,1000000000000,10000000000000,100000000000000,1000000000000000,10000000000000000,100000000000000000,1000000000000000000,10000000000000000000]:=by decide +kernel
 rw [h];rfl
theorem Xv {H:Type} {enc:TypeId×Value→H} {w:World} {base:Nat} {sp:Nat→Bool} {held:Bool} {fuel:Nat} {cs:List Value} {p:List MemPlace}
 (h:DataW.trod enc Tryz.prog w base sp held fuel 197 cs=some (.agg (wordsL.map fun t=>.lit (.string t)),p)) (i:Nat) (t:List UInt8) (ht:wordsL[i]?=some t):cs[i]?=some (.string ⟨t.toArray⟩):=by
 have hi:i<41:=(List.getElem?_eq_some_iff.1 ht).1
 cases fuel with
 | zero=>simp [DataW.trod] at h
 | succ fuel =>
   simp only [DataW.trod,Tryz.underlying197,Tryz.cells9,Tryz.cells197,Nat.mul_one] at h
   split at h
   ·obtain ⟨xs,hm,hx⟩:=Option.map_eq_some_iff.1 h;have hxs:xs.map (·.1)=wordsL.map fun t=>(DataW.lit (.string t):DataW H):=by
     have:=congrArg Prod.fst hx
     simpa using this
    obtain ⟨b,hb,hf⟩:=Lib.mapM_at hm i i (by simp [hi]);obtain ⟨s,hc,rfl,_⟩:=DataW.trod_string Tryz.underlying9 hf;have h1:cs[i]?=some (.string s):=by
     have:=congrArg (·[0]?) hc
     simpa [List.getElem?_take,List.getElem?_drop] using this
    have h2:(xs.map (·.1))[i]?=some (DataW.lit (.string s.data.toList):DataW H):=by simp [hb]
    rw [hxs,List.getElem?_map,ht] at h2;simp at h2;rw [h1,h2]
   ·cases h
theorem words_in {W : World} (h : Lib.VarReads Tryz.prog W "arbiter/code.words" Rows.laid_arbiter_code_words) : WordsIn W := by
 obtain ⟨g,t,cs,fuel,p,hg,ht,hvar,hd⟩:=h;obtain rfl:=Option.some.inj (Tryz.wordsG.symm.trans hg);obtain rfl:=Option.some.inj (Tryz.wordsT.symm.trans ht);rw [Zbg] at hd;have hc:∀ i t,wordsL[i]?=some t→W.cell? ⟨4,i,none⟩=some (.string ⟨t.toArray⟩):=by
  intro i t hi;rw [World.var?_cell hg hvar i,← Array.getElem?_toList];exact Xv hd i t hi
 refine ⟨?_,hc⟩;have h0:=hc 0 _ rfl;unfold World.cell? at h0
 split at h0
 ·rename_i hh
  exact (Array.getElem?_eq_some_iff.1 hh).1
 ·cases h0
theorem ten_in {W : World} (h : Lib.VarReads Tryz.prog W "internal/strconv.uint64pow10" Rows.laid_internal_strconv_uint64pow10) : TenIn W := by
 obtain ⟨g,t,cs,fuel,p,hg,ht,hvar,hd⟩:=h;obtain rfl:=Option.some.inj (Tryz.tenG.symm.trans hg);obtain rfl:=Option.some.inj (Tryz.tenT.symm.trans ht);rw [laid_ten] at hd;unfold TenIn Lib.TabIs;rw [hvar,← Lib.cells_of_tab Tryz.underlying210 Tryz.underlying190 Tryz.cells190 Tryz.cells210 hd]
theorem Zmo (w:World) (k:Nat) (os:Array Obj):Bw w (Sort.grow (w.drewN k) os) :=
 ⟨rfl,rfl,rfl,by rw [Sort.size_grow];exact Nat.le_add_right _ _,fun j hj=>by
  show (w.heap++os)[j]?=_;rw [Array.getElem?_append_left hj]⟩
theorem Qq (n:Int) (h0:-9223372036854775808≤n) (h1:n≤9223372036854775807) (w:World) (h:TenIn w):Calls Tryz.prog 36 #[.int .i64 n] w fun e w'=>e=.returned (.string ⟨(Lib.itoa n).toArray⟩)∧Bw w w' :=
 (Tryz.strconv_Itoa n h0 h1 w h).mono fun e w' ⟨he,k,os,hw⟩=>⟨he,by rw [hw];exact Zmo _ _ _⟩
theorem Zln (s:ByteArray) (w:World):Calls Tryz.prog 154 #[.string s,.string ⟨#[32]⟩] w fun e w'=>e=.returned (.int .i64 (Lib.indexByte s.data.toList 32))∧w'=w:=by
 have HB:Hid (∀ w:World,Calls Tryz.prog 175 #[.string s,.int .u8 32] w fun e w'=>e=.returned (.int .i64 (Lib.indexByte s.data.toList 32))∧w'=w):=fun w=>Tryz.stringslite_IndexByte s 32 w;have HR:Hid (([32] == s.toList)=true→Lib.indexByte s.data.toList 32=0):=fun h=>by
  have e:s.data.toList=[32]:=by rw [← Lib.toList_data];exact (eq_of_beq h).symm
  rw [e];rfl
 generalize Lib.indexByte s.data.toList 32=r at *;go_enter Tryz.func154,Tryz.ntmps154;go_wp2_with (go_at_call 175;refine (HB.out _).mono ?_;rintro e w1 ⟨rfl,rfl⟩)
 ·rename_i hc
  go_ret
  exact ⟨Zg (HR.out hc).symm,rfl⟩
 ·go_ret
  exact ⟨rfl,rfl⟩
theorem Zlm (s:ByteArray) (w:World):Calls Tryz.prog 154 #[.string s,.string ⟨#[40]⟩] w fun e w'=>e=.returned (.int .i64 (Lib.indexByte s.data.toList 40))∧w'=w:=by
 have HB:Hid (∀ w:World,Calls Tryz.prog 175 #[.string s,.int .u8 40] w fun e w'=>e=.returned (.int .i64 (Lib.indexByte s.data.toList 40))∧w'=w):=fun w=>Tryz.stringslite_IndexByte s 40 w;have HR:Hid (([40] == s.toList)=true→Lib.indexByte s.data.toList 40=0):=fun h=>by
  have e:s.data.toList=[40]:=by rw [← Lib.toList_data];exact (eq_of_beq h).symm
  rw [e];rfl
 generalize Lib.indexByte s.data.toList 40=r at *;go_enter Tryz.func154,Tryz.ntmps154;go_wp2_with (go_at_call 175;refine (HB.out _).mono ?_;rintro e w1 ⟨rfl,rfl⟩)
 ·rename_i hc
  go_ret
  exact ⟨Zg (HR.out hc).symm,rfl⟩
 ·go_ret
  exact ⟨rfl,rfl⟩
theorem index_40 (s:ByteArray) (w:World):Calls Tryz.prog 181 #[.string s,.string ⟨#[40]⟩] w fun e w'=>e=.returned (.int .i64 (Lib.indexByte s.data.toList 40))∧w'=w:=by
 have HB:Hid (∀ w:World,_):=Zlm s;generalize Lib.indexByte s.data.toList 40=r at *;go_enter Tryz.func181,Tryz.ntmps181;go_wp2_with (go_at_call 154;refine (HB.out _).mono ?_;rintro e w1 ⟨rfl,rfl⟩)
 go_ret
 exact ⟨rfl,rfl⟩
theorem Zbh (c:UInt8):∀ l:List UInt8,Lib.indexByte l c=if Z5 (fun x=>!decide (x=c)) l<l.length then (Z5 (fun x=>!decide (x=c)) l:Int) else -1
 | []=>rfl
 | b::l=>by
   have ih:=Zbh c l;by_cases hb:b=c
   ·subst hb;rw [Lib.indexByte];simp [Z5]
   ·have h1:(b == c)=false:=by simpa using hb
    have h2:Z5 (fun x=>!decide (x=c)) (b::l)=Z5 (fun x=>!decide (x=c)) l+1:=by simp [Z5,hb]
    rw [Lib.indexByte,h1,ih,h2,List.length_cons];simp only [Bool.false_eq_true,if_false];by_cases hl:Z5 (fun x=>!decide (x=c)) l<l.length
    ·have h3:((Z5 (fun x=>!decide (x=c)) l:Int) == -1)=false:=by rw [beq_eq_false_iff_ne];omega
     rw [if_pos hl,h3,if_pos (show Z5 (fun x=>!decide (x=c)) l+1<l.length+1 by omega)];simp
    ·rw [if_neg hl,if_pos (show ((-1:Int) == -1)=true by decide),if_neg (show ¬ Z5 (fun x=>!decide (x=c)) l+1<l.length+1 by omega)]
theorem Zlg:∀ l:List UInt8,Lib.indexAny l [58,46]=if Xg l<l.length then (Xg l:Int) else -1
 | []=>rfl
 | b::l=>by
   have ih:=Zlg l;unfold Xg at ih ⊢
   cases hb:Yc b with
   | false =>
     have h1:([58,46]:List UInt8).contains b=true:=by
      simp only [Yc,Bool.and_eq_false_iff,Bool.not_eq_false',decide_eq_true_eq] at hb;rcases hb with rfl|rfl <;> rfl
     rw [Lib.indexAny,h1];simp [Z5,hb]
   | true =>
     have h1:([58,46]:List UInt8).contains b=false:=by
      simp only [Yc,Bool.and_eq_true,Bool.not_eq_true',decide_eq_false_iff_not] at hb;simp [hb.1,hb.2]
     have h2:Z5 Yc (b::l)=Z5 Yc l+1:=by simp [Z5,hb]
     rw [Lib.indexAny,h1,ih,h2,List.length_cons];simp only [Bool.false_eq_true,if_false];by_cases hl:Z5 Yc l<l.length
     ·have h3:((Z5 Yc l:Int) == -1)=false:=by rw [beq_eq_false_iff_ne];omega
      rw [if_pos hl,h3,if_pos (show Z5 Yc l+1<l.length+1 by omega)];simp
     ·rw [if_neg hl,if_pos (show ((-1:Int) == -1)=true by decide),if_neg (show ¬ Z5 Yc l+1<l.length+1 by omega)]
theorem ex_ex (s:ByteArray) (a k:Nat):(s.extract a s.size).extract 0 k=s.extract a (a+k):=by
 apply Zf;rw [Jn,Lib.extract_to_end,Ze4,show a+k - a=k by omega]
theorem ex_end (s:ByteArray) (a k:Nat):(s.extract a s.size).extract k (s.extract a s.size).size=s.extract (a+k) s.size:=by
 apply Zf;rw [Lib.extract_to_end,Lib.extract_to_end,Lib.extract_to_end,List.drop_drop]
theorem ex_size (s:ByteArray) (a:Nat):(s.extract a s.size).size=s.size - a:=by
 simp [ByteArray.size_extract]
theorem prt_yes (s MB:ByteArray) (m k:Nat) (qb:Bool) (hs:s.size≤9223372036854775807) (hm:m<s.size) (hS:s.extract (m+1) s.size=MB) (hkM:k≤MB.size) (e3:((s.extract m (m+1)).toList == [58])=qb)
 (HIA:∀ w:World,Calls Tryz.prog 210 #[.string s,.string ⟨#[58,46]⟩] w fun e w'=>e=.returned (.int .i64 ((m:Int)))∧Bw w w')
 (HIX:∀ w:World,Calls Tryz.prog 181 #[.string MB,.string ⟨#[40]⟩] w fun e w'=>e=.returned (.int .i64 ((k:Int)))∧w'=w)
 (HC:∀ w:World,Calls Tryz.prog 174 #[.agg #[.bool qb,.string (s.extract 0 m),.string (MB.extract 0 k),.string (MB.extract k MB.size)]] w fun e w'=>e=.returned (.int .i64 0)∧Bw w w')
 (w:World):Calls Tryz.prog 204 #[.string s] w fun e w'=>e=.returned (.tuple #[.agg #[.bool qb,.string (s.extract 0 m),.string (MB.extract 0 k),.string (MB.extract k MB.size)],.int .i64 0])∧Bw w w':=by
 have HIA:Hid (∀ w:World,_):=HIA;have HIX:Hid (∀ w:World,_):=HIX;have HC:Hid (∀ w:World,_):=HC;go_enter Tryz.func204,Tryz.ntmps204;go_wp2_with (first
  | (go_at_call 210;refine (HIA.out _).mono ?_;rintro e w1 ⟨rfl,hb1⟩;have hs1:w.heap.size<w1.heap.size:=sqS hb1;have hz10:w1.cell? ⟨w.heap.size,0,none⟩=some (.bool false):=(hb1.cell (p:=⟨w.heap.size,0,none⟩) (by first|(simp;done)|(simp;omega))).trans (by first|assumption|(simp [go_sem, *];done));have hf10:w1.frozen? ⟨w.heap.size,0,none⟩=false:=(hb1.frozen (p:=⟨w.heap.size,0,none⟩) (by first|(simp;done)|(simp;omega))).trans (by first|assumption|(simp [go_sem, *];done));have hz11:w1.cell? ⟨w.heap.size,1,none⟩=some (.string ⟨#[]⟩):=(hb1.cell (p:=⟨w.heap.size,1,none⟩) (by first|(simp;done)|(simp;omega))).trans (by first|assumption|(simp [go_sem, *];done));have hf11:w1.frozen? ⟨w.heap.size,1,none⟩=false:=(hb1.frozen (p:=⟨w.heap.size,1,none⟩) (by first|(simp;done)|(simp;omega))).trans (by first|assumption|(simp [go_sem, *];done));have hz12:w1.cell? ⟨w.heap.size,2,none⟩=some (.string ⟨#[]⟩):=(hb1.cell (p:=⟨w.heap.size,2,none⟩) (by first|(simp;done)|(simp;omega))).trans (by first|assumption|(simp [go_sem, *];done));have hf12:w1.frozen? ⟨w.heap.size,2,none⟩=false:=(hb1.frozen (p:=⟨w.heap.size,2,none⟩) (by first|(simp;done)|(simp;omega))).trans (by first|assumption|(simp [go_sem, *];done));have hz13:w1.cell? ⟨w.heap.size,3,none⟩=some (.string ⟨#[]⟩):=(hb1.cell (p:=⟨w.heap.size,3,none⟩) (by first|(simp;done)|(simp;omega))).trans (by first|assumption|(simp [go_sem, *];done));have hf13:w1.frozen? ⟨w.heap.size,3,none⟩=false:=(hb1.frozen (p:=⟨w.heap.size,3,none⟩) (by first|(simp;done)|(simp;omega))).trans (by first|assumption|(simp [go_sem, *];done));have hB1:Hid (Bw w w1):=sqT hb1;clear hb1 HIA)
  | (go_at_call 181;refine (HIX.out _).mono ?_;rintro e w2 ⟨rfl,hw2⟩;rw [hw2];clear hw2 HIX))
 go_region
 go_wp2_with (go_at_call 174;refine (HC.out _).mono ?_;rintro e w3 ⟨rfl,hb3⟩;have hs3:w.heap.size<w3.heap.size:=sqS hb3;have hr0:=sqA hb3 w1.heap.size 0 (.bool qb);have hr1:=sqA hb3 w1.heap.size 1 (.string (s.extract 0 m));have hr2:=sqA hb3 w1.heap.size 2 (.string (MB.extract 0 k));have hr3:=sqA hb3 w1.heap.size 3 (.string (MB.extract k MB.size));have hz30:w3.cell? ⟨w.heap.size,0,none⟩=some (.bool false):=(hb3.cell (p:=⟨w.heap.size,0,none⟩) (by first|(simp;done)|(simp;omega))).trans (by first|assumption|(simp [go_sem, *];done));have hf30:w3.frozen? ⟨w.heap.size,0,none⟩=false:=(hb3.frozen (p:=⟨w.heap.size,0,none⟩) (by first|(simp;done)|(simp;omega))).trans (by first|assumption|(simp [go_sem, *];done));have hz31:w3.cell? ⟨w.heap.size,1,none⟩=some (.string ⟨#[]⟩):=(hb3.cell (p:=⟨w.heap.size,1,none⟩) (by first|(simp;done)|(simp;omega))).trans (by first|assumption|(simp [go_sem, *];done));have hf31:w3.frozen? ⟨w.heap.size,1,none⟩=false:=(hb3.frozen (p:=⟨w.heap.size,1,none⟩) (by first|(simp;done)|(simp;omega))).trans (by first|assumption|(simp [go_sem, *];done));have hz32:w3.cell? ⟨w.heap.size,2,none⟩=some (.string ⟨#[]⟩):=(hb3.cell (p:=⟨w.heap.size,2,none⟩) (by first|(simp;done)|(simp;omega))).trans (by first|assumption|(simp [go_sem, *];done));have hf32:w3.frozen? ⟨w.heap.size,2,none⟩=false:=(hb3.frozen (p:=⟨w.heap.size,2,none⟩) (by first|(simp;done)|(simp;omega))).trans (by first|assumption|(simp [go_sem, *];done));have hz33:w3.cell? ⟨w.heap.size,3,none⟩=some (.string ⟨#[]⟩):=(hb3.cell (p:=⟨w.heap.size,3,none⟩) (by first|(simp;done)|(simp;omega))).trans (by first|assumption|(simp [go_sem, *];done));have hf33:w3.frozen? ⟨w.heap.size,3,none⟩=false:=(hb3.frozen (p:=⟨w.heap.size,3,none⟩) (by first|(simp;done)|(simp;omega))).trans (by first|assumption|(simp [go_sem, *];done));have hB3:Hid (Bw w w3):=Below.step ((hB1.out.alloc (Nat.le_of_lt hs1) _).drew) hb3;clear hb3)
 refine bodyPost_ret (v:=.tuple #[.agg #[.bool qb,.string (s.extract 0 m),.string (MB.extract 0 k),.string (MB.extract k MB.size)],.int .i64 0]) (by simp [results,Tryz.results204,go_sem, *]) rfl ⟨rfl,?_⟩;exact (((hB3.out.setCell (Nat.le_refl _) _).setCell (Nat.le_refl _) _).setCell (Nat.le_refl _) _).setCell (Nat.le_refl _) _
theorem prt_bad (s MB:ByteArray) (m k:Nat) (qb:Bool) (hs:s.size≤9223372036854775807) (hm:m<s.size) (hS:s.extract (m+1) s.size=MB) (hkM:k≤MB.size) (e3:((s.extract m (m+1)).toList == [58])=qb)
 (HIA:∀ w:World,Calls Tryz.prog 210 #[.string s,.string ⟨#[58,46]⟩] w fun e w'=>e=.returned (.int .i64 ((m:Int)))∧Bw w w')
 (HIX:∀ w:World,Calls Tryz.prog 181 #[.string MB,.string ⟨#[40]⟩] w fun e w'=>e=.returned (.int .i64 ((k:Int)))∧w'=w)
 (HC:∀ w:World,Calls Tryz.prog 174 #[.agg #[.bool qb,.string (s.extract 0 m),.string (MB.extract 0 k),.string (MB.extract k MB.size)]] w fun e w'=>e=.returned (.int .i64 1)∧Bw w w')
 (w:World):Calls Tryz.prog 204 #[.string s] w fun e w'=>e=.returned (.tuple #[.agg #[.bool false,.string ⟨#[]⟩,.string ⟨#[]⟩,.string ⟨#[]⟩],.int .i64 4])∧Bw w w':=by
 have HIA:Hid (∀ w:World,_):=HIA;have HIX:Hid (∀ w:World,_):=HIX;have HC:Hid (∀ w:World,_):=HC;go_enter Tryz.func204,Tryz.ntmps204;go_wp2_with (first
  | (go_at_call 210;refine (HIA.out _).mono ?_;rintro e w1 ⟨rfl,hb1⟩;have hs1:w.heap.size<w1.heap.size:=sqS hb1;have hz10:w1.cell? ⟨w.heap.size,0,none⟩=some (.bool false):=(hb1.cell (p:=⟨w.heap.size,0,none⟩) (by first|(simp;done)|(simp;omega))).trans (by first|assumption|(simp [go_sem, *];done));have hf10:w1.frozen? ⟨w.heap.size,0,none⟩=false:=(hb1.frozen (p:=⟨w.heap.size,0,none⟩) (by first|(simp;done)|(simp;omega))).trans (by first|assumption|(simp [go_sem, *];done));have hz11:w1.cell? ⟨w.heap.size,1,none⟩=some (.string ⟨#[]⟩):=(hb1.cell (p:=⟨w.heap.size,1,none⟩) (by first|(simp;done)|(simp;omega))).trans (by first|assumption|(simp [go_sem, *];done));have hf11:w1.frozen? ⟨w.heap.size,1,none⟩=false:=(hb1.frozen (p:=⟨w.heap.size,1,none⟩) (by first|(simp;done)|(simp;omega))).trans (by first|assumption|(simp [go_sem, *];done));have hz12:w1.cell? ⟨w.heap.size,2,none⟩=some (.string ⟨#[]⟩):=(hb1.cell (p:=⟨w.heap.size,2,none⟩) (by first|(simp;done)|(simp;omega))).trans (by first|assumption|(simp [go_sem, *];done));have hf12:w1.frozen? ⟨w.heap.size,2,none⟩=false:=(hb1.frozen (p:=⟨w.heap.size,2,none⟩) (by first|(simp;done)|(simp;omega))).trans (by first|assumption|(simp [go_sem, *];done));have hz13:w1.cell? ⟨w.heap.size,3,none⟩=some (.string ⟨#[]⟩):=(hb1.cell (p:=⟨w.heap.size,3,none⟩) (by first|(simp;done)|(simp;omega))).trans (by first|assumption|(simp [go_sem, *];done));have hf13:w1.frozen? ⟨w.heap.size,3,none⟩=false:=(hb1.frozen (p:=⟨w.heap.size,3,none⟩) (by first|(simp;done)|(simp;omega))).trans (by first|assumption|(simp [go_sem, *];done));have hB1:Hid (Bw w w1):=sqT hb1;clear hb1 HIA)
  | (go_at_call 181;refine (HIX.out _).mono ?_;rintro e w2 ⟨rfl,hw2⟩;rw [hw2];clear hw2 HIX))
 go_region
 go_wp2_with (go_at_call 174;refine (HC.out _).mono ?_;rintro e w3 ⟨rfl,hb3⟩;have hs3:w.heap.size<w3.heap.size:=sqS hb3;have hz30:w3.cell? ⟨w.heap.size,0,none⟩=some (.bool false):=(hb3.cell (p:=⟨w.heap.size,0,none⟩) (by first|(simp;done)|(simp;omega))).trans (by first|assumption|(simp [go_sem, *];done));have hf30:w3.frozen? ⟨w.heap.size,0,none⟩=false:=(hb3.frozen (p:=⟨w.heap.size,0,none⟩) (by first|(simp;done)|(simp;omega))).trans (by first|assumption|(simp [go_sem, *];done));have hz31:w3.cell? ⟨w.heap.size,1,none⟩=some (.string ⟨#[]⟩):=(hb3.cell (p:=⟨w.heap.size,1,none⟩) (by first|(simp;done)|(simp;omega))).trans (by first|assumption|(simp [go_sem, *];done));have hf31:w3.frozen? ⟨w.heap.size,1,none⟩=false:=(hb3.frozen (p:=⟨w.heap.size,1,none⟩) (by first|(simp;done)|(simp;omega))).trans (by first|assumption|(simp [go_sem, *];done));have hz32:w3.cell? ⟨w.heap.size,2,none⟩=some (.string ⟨#[]⟩):=(hb3.cell (p:=⟨w.heap.size,2,none⟩) (by first|(simp;done)|(simp;omega))).trans (by first|assumption|(simp [go_sem, *];done));have hf32:w3.frozen? ⟨w.heap.size,2,none⟩=false:=(hb3.frozen (p:=⟨w.heap.size,2,none⟩) (by first|(simp;done)|(simp;omega))).trans (by first|assumption|(simp [go_sem, *];done));have hz33:w3.cell? ⟨w.heap.size,3,none⟩=some (.string ⟨#[]⟩):=(hb3.cell (p:=⟨w.heap.size,3,none⟩) (by first|(simp;done)|(simp;omega))).trans (by first|assumption|(simp [go_sem, *];done));have hf33:w3.frozen? ⟨w.heap.size,3,none⟩=false:=(hb3.frozen (p:=⟨w.heap.size,3,none⟩) (by first|(simp;done)|(simp;omega))).trans (by first|assumption|(simp [go_sem, *];done));have hB3:Hid (Bw w w3):=Below.step ((hB1.out.alloc (Nat.le_of_lt hs1) _).drew) hb3;clear hb3)
 refine bodyPost_ret (v:=.tuple #[.agg #[.bool false,.string ⟨#[]⟩,.string ⟨#[]⟩,.string ⟨#[]⟩],.int .i64 4]) (by simp [results,Tryz.results204,go_sem, *]) rfl ⟨rfl,?_⟩;exact (((hB3.out.setCell (Nat.le_refl _) _).setCell (Nat.le_refl _) _).setCell (Nat.le_refl _) _).setCell (Nat.le_refl _) _
theorem prt_open (s MB:ByteArray) (m:Nat) (hs:s.size≤9223372036854775807) (hm:m<s.size) (hS:s.extract (m+1) s.size=MB)
 (HIA:∀ w:World,Calls Tryz.prog 210 #[.string s,.string ⟨#[58,46]⟩] w fun e w'=>e=.returned (.int .i64 ((m:Int)))∧Bw w w')
 (HIX:∀ w:World,Calls Tryz.prog 181 #[.string MB,.string ⟨#[40]⟩] w fun e w'=>e=.returned (.int .i64 (-1))∧w'=w)
 (w:World):Calls Tryz.prog 204 #[.string s] w fun e w'=>e=.returned (.tuple #[.agg #[.bool false,.string ⟨#[]⟩,.string ⟨#[]⟩,.string ⟨#[]⟩],.int .i64 4])∧Bw w w':=by
 have HIA:Hid (∀ w:World,_):=HIA;have HIX:Hid (∀ w:World,_):=HIX;go_enter Tryz.func204,Tryz.ntmps204;go_wp2_with (first
  | (go_at_call 210;refine (HIA.out _).mono ?_;rintro e w1 ⟨rfl,hb1⟩;have hs1:w.heap.size<w1.heap.size:=sqS hb1;have hz10:w1.cell? ⟨w.heap.size,0,none⟩=some (.bool false):=(hb1.cell (p:=⟨w.heap.size,0,none⟩) (by first|(simp;done)|(simp;omega))).trans (by first|assumption|(simp [go_sem, *];done));have hf10:w1.frozen? ⟨w.heap.size,0,none⟩=false:=(hb1.frozen (p:=⟨w.heap.size,0,none⟩) (by first|(simp;done)|(simp;omega))).trans (by first|assumption|(simp [go_sem, *];done));have hz11:w1.cell? ⟨w.heap.size,1,none⟩=some (.string ⟨#[]⟩):=(hb1.cell (p:=⟨w.heap.size,1,none⟩) (by first|(simp;done)|(simp;omega))).trans (by first|assumption|(simp [go_sem, *];done));have hf11:w1.frozen? ⟨w.heap.size,1,none⟩=false:=(hb1.frozen (p:=⟨w.heap.size,1,none⟩) (by first|(simp;done)|(simp;omega))).trans (by first|assumption|(simp [go_sem, *];done));have hz12:w1.cell? ⟨w.heap.size,2,none⟩=some (.string ⟨#[]⟩):=(hb1.cell (p:=⟨w.heap.size,2,none⟩) (by first|(simp;done)|(simp;omega))).trans (by first|assumption|(simp [go_sem, *];done));have hf12:w1.frozen? ⟨w.heap.size,2,none⟩=false:=(hb1.frozen (p:=⟨w.heap.size,2,none⟩) (by first|(simp;done)|(simp;omega))).trans (by first|assumption|(simp [go_sem, *];done));have hz13:w1.cell? ⟨w.heap.size,3,none⟩=some (.string ⟨#[]⟩):=(hb1.cell (p:=⟨w.heap.size,3,none⟩) (by first|(simp;done)|(simp;omega))).trans (by first|assumption|(simp [go_sem, *];done));have hf13:w1.frozen? ⟨w.heap.size,3,none⟩=false:=(hb1.frozen (p:=⟨w.heap.size,3,none⟩) (by first|(simp;done)|(simp;omega))).trans (by first|assumption|(simp [go_sem, *];done));have hB1:Hid (Bw w w1):=sqT hb1;clear hb1 HIA)
  | (go_at_call 181;refine (HIX.out _).mono ?_;rintro e w2 ⟨rfl,hw2⟩;rw [hw2];clear hw2 HIX))
 refine bodyPost_ret (v:=.tuple #[.agg #[.bool false,.string ⟨#[]⟩,.string ⟨#[]⟩,.string ⟨#[]⟩],.int .i64 4]) (by simp [results,Tryz.results204,go_sem, *]) rfl ⟨rfl,?_⟩;exact (((hB1.out.setCell (Nat.le_refl _) _).setCell (Nat.le_refl _) _).setCell (Nat.le_refl _) _).setCell (Nat.le_refl _) _
theorem prt_mark (s:ByteArray)
 (HIA:∀ w:World,Calls Tryz.prog 210 #[.string s,.string ⟨#[58,46]⟩] w fun e w'=>e=.returned (.int .i64 (-1))∧Bw w w')
 (w:World):Calls Tryz.prog 204 #[.string s] w fun e w'=>e=.returned (.tuple #[.agg #[.bool false,.string ⟨#[]⟩,.string ⟨#[]⟩,.string ⟨#[]⟩],.int .i64 4])∧Bw w w':=by
 have HIA:Hid (∀ w:World,_):=HIA;go_enter Tryz.func204,Tryz.ntmps204;go_wp2_with (go_at_call 210;refine (HIA.out _).mono ?_;rintro e w1 ⟨rfl,hb1⟩;have hs1:w.heap.size<w1.heap.size:=sqS hb1;have hz10:w1.cell? ⟨w.heap.size,0,none⟩=some (.bool false):=(hb1.cell (p:=⟨w.heap.size,0,none⟩) (by first|(simp;done)|(simp;omega))).trans (by first|assumption|(simp [go_sem, *];done));have hf10:w1.frozen? ⟨w.heap.size,0,none⟩=false:=(hb1.frozen (p:=⟨w.heap.size,0,none⟩) (by first|(simp;done)|(simp;omega))).trans (by first|assumption|(simp [go_sem, *];done));have hz11:w1.cell? ⟨w.heap.size,1,none⟩=some (.string ⟨#[]⟩):=(hb1.cell (p:=⟨w.heap.size,1,none⟩) (by first|(simp;done)|(simp;omega))).trans (by first|assumption|(simp [go_sem, *];done));have hf11:w1.frozen? ⟨w.heap.size,1,none⟩=false:=(hb1.frozen (p:=⟨w.heap.size,1,none⟩) (by first|(simp;done)|(simp;omega))).trans (by first|assumption|(simp [go_sem, *];done));have hz12:w1.cell? ⟨w.heap.size,2,none⟩=some (.string ⟨#[]⟩):=(hb1.cell (p:=⟨w.heap.size,2,none⟩) (by first|(simp;done)|(simp;omega))).trans (by first|assumption|(simp [go_sem, *];done));have hf12:w1.frozen? ⟨w.heap.size,2,none⟩=false:=(hb1.frozen (p:=⟨w.heap.size,2,none⟩) (by first|(simp;done)|(simp;omega))).trans (by first|assumption|(simp [go_sem, *];done));have hz13:w1.cell? ⟨w.heap.size,3,none⟩=some (.string ⟨#[]⟩):=(hb1.cell (p:=⟨w.heap.size,3,none⟩) (by first|(simp;done)|(simp;omega))).trans (by first|assumption|(simp [go_sem, *];done));have hf13:w1.frozen? ⟨w.heap.size,3,none⟩=false:=(hb1.frozen (p:=⟨w.heap.size,3,none⟩) (by first|(simp;done)|(simp;omega))).trans (by first|assumption|(simp [go_sem, *];done));have hB1:Hid (Bw w w1):=sqT hb1;clear hb1 HIA)
 refine bodyPost_ret (v:=.tuple #[.agg #[.bool false,.string ⟨#[]⟩,.string ⟨#[]⟩,.string ⟨#[]⟩],.int .i64 4]) (by simp [results,Tryz.results204,go_sem, *]) rfl ⟨rfl,?_⟩;exact (((hB1.out.setCell (Nat.le_refl _) _).setCell (Nat.le_refl _) _).setCell (Nat.le_refl _) _).setCell (Nat.le_refl _) _
theorem Zdi (s:ByteArray) (hs:s.size≤maxLen) (HIA:∀ w:World,Calls Tryz.prog 210 #[.string s,.string ⟨#[58,46]⟩] w fun e w'=>e=.returned (.int .i64 (Lib.indexAny s.data.toList [58,46]))∧Bw w w') (w:World):Calls Tryz.prog 204 #[.string s] w fun e w'=>e=.returned (Zd3 s.data.toList)∧Bw w w':=by
 have hlen:s.data.toList.length=s.size:=by simp
 have hs2:s.size≤9223372036854775807:=by unfold maxLen at hs;omega
 rw [Zlg,hlen] at HIA;by_cases hm:Xg s.data.toList<s.size
 ·rw [if_pos hm] at HIA;obtain ⟨m,hM⟩:∃ m,Xg s.data.toList=m:=⟨_,rfl⟩;rw [hM] at hm HIA;have HIX0:=index_40 (s.extract (m+1) s.size);have htl:(s.extract (m+1) s.size).data.toList=s.data.toList.drop (m+1):=Lib.extract_to_end _ _;have hsp:(fun x:UInt8=>!decide (x=40))=Z8:=rfl;rw [Zbh,htl,hsp,List.length_drop,hlen] at HIX0;obtain ⟨x,t,hx⟩:∃ x t,s.data.toList.drop m=x::t:=by
   cases e:s.data.toList.drop m with
   | nil=>have:=List.drop_eq_nil_iff.1 e;omega
   | cons x t=>exact ⟨x,t,rfl⟩
  have hxm:Yc x=false:=Zc3 Yc s.data.toList x t (by rw [show Z5 Yc s.data.toList=m from hM];exact hx);have hxc:x=46∨x=58:=by
   simp only [Yc,Bool.and_eq_false_iff,Bool.not_eq_false',decide_eq_true_eq] at hxm;exact hxm
  have hq:rfB s.data.toList=decide (x=58):=by rw [rfB,hM,hx,Bool.eq_iff_iff];simp
  have htd:s.data.toList.drop (m+1)=t:=by
   have:=congrArg (List.drop 1) hx;rw [List.drop_drop] at this
   simpa using this
  have hO:Xf s.data.toList=m+1+Z5 Z8 (s.data.toList.drop (m+1)):=by
   rw [Xf,hM,hx,htd];have:Z8 x=true:=by rcases hxc with rfl|rfl <;> rfl
   simp only [Z5,List.takeWhile_cons,this,if_true,List.length_cons];omega
  by_cases hk:Z5 Z8 (s.data.toList.drop (m+1))<s.size - (m+1)
  ·rw [if_pos hk] at HIX0;obtain ⟨k,hK⟩:∃ k,Z5 Z8 (s.data.toList.drop (m+1))=k:=⟨_,rfl⟩;rw [hK] at hk HIX0 hO;have HC:=Jw (decide (x=58)) (s.extract 0 m) (s.extract (m+1) (m+1+k)) (s.extract (m+1+k) s.size) (by simp [ByteArray.size_extract];omega) (by simp [ByteArray.size_extract];omega) (by simp [ByteArray.size_extract];omega);have hrk:rckE (s.extract 0 m).data.toList (s.extract (m+1) (m+1+k)).data.toList (s.extract (m+1+k) s.size).data.toList=if rfOK s.data.toList then 0 else 1:=by
    rw [rckE,Jn,Ze4,Lib.extract_to_end,rfOK,rfC,rfN,rfD,hM,hO,hlen];simp [show m+1+k<s.size by omega]
   rw [hrk,← ex_ex s (m+1) k,← ex_end s (m+1) k] at HC;have e3:((s.extract m (m+1)).toList == [58])=decide (x=58):=by
    rw [Lib.toList_data,Ze4,hx,show m+1 - m=1 by omega];show ([x] == [58])=_;rw [Bool.eq_iff_iff];simp
   have hkM:k≤(s.extract (m+1) s.size).size:=by rw [ex_size s (m+1)];omega
   cases hok:rfOK s.data.toList with
   | true =>
     rw [hok,if_pos rfl] at HC;rw [Zc9 s m (m+1+k) (decide (x=58)) hM hO hok hq,← ex_ex s (m+1) k,← ex_end s (m+1) k];exact prt_yes s _ m k _ hs2 hm rfl hkM e3 HIA HIX0 HC w
   | false =>
     rw [hok,if_neg (by decide)] at HC;rw [X3 hok];exact prt_bad s _ m k _ hs2 hm rfl hkM e3 HIA HIX0 HC w
  ·rw [if_neg hk] at HIX0;have hok:rfOK s.data.toList=false:=by
    rw [rfOK,hO,hlen,show decide (m+1+Z5 Z8 (s.data.toList.drop (m+1))<s.size)=false by rw [decide_eq_false_iff_not];omega];rfl
   rw [X3 hok];exact prt_open s _ m hs2 hm rfl HIA HIX0 w
 ·rw [if_neg hm] at HIA;have hok:rfOK s.data.toList=false:=by
   rw [rfOK,hlen,show decide (Xf s.data.toList<s.size)=false by rw [decide_eq_false_iff_not];unfold Xf;omega];rfl
  rw [X3 hok];exact prt_mark s HIA w
end Go.Proofs.YtfbhjfpkhofifaaGreatDoor
