import Derived.Test.YtlnojhhddinjkaaGreatTypesRead
import Derived.Deep.RegionWith
import Derived.Deep.LoopGhost
set_option maxHeartbeats 4000000
set_option maxRecDepth 100000
namespace Go.Proofs.YtlnojhhddinjkaaGreat
open Go.RowKit
theorem own_below {w w':World} {B base:Nat} {e:TypeId} {size:Nat} {v:Value} {n:Nat} {xs:List Value} (h:w.ownsRow base e size v n xs) (hb:Below B w w') (hB:w.heap.size≤B):w'.ownsRow base e size v n xs:=by
 refine ⟨h.1,?_⟩
 rcases h.2 with hn|⟨g,cap,cur,rfl,hb1,hgg,rest⟩
 ·exact .inl hn
 ·refine .inr ⟨g,cap,cur,rfl,hb1,?_,rest⟩
  rw [hb.block g (Nat.lt_of_lt_of_le (Array.getElem?_eq_some_iff.1 hgg).1 hB)]
  exact hgg
theorem grownBy_trans {w w1 w2:World} {r r':Option Nat} (h1:w.grownBy w1 r) (h2:w1.grownBy w2 r') (hr:∀ b,r'=some b→r=some b∨w.heap.size≤b):w.grownBy w2 r :=
 ⟨h2.os.trans h1.os,h2.tape.trans h1.tape,h2.output.trans h1.output,Nat.le_trans h1.size h2.size,fun k hk hne=>by
  have a:=h1.block k hk hne
  have b:=h2.block k (Nat.lt_of_lt_of_le hk h1.size) (fun e=>by
   rcases hr k e.symm with q|q
   ·exact hne q.symm
   ·omega)
  exact b.trans a⟩
theorem grownBy_below {w w1:World} {r:Option Nat} (h:Bw w w1):w.grownBy w1 r :=
 ⟨h.os,h.tape,h.output,h.size,fun k hk _=>h.block k hk⟩
theorem Zc {P:Program} {C:World→Prop} {id:Nat} {Q:Exit→Act→World→Prop} {a:Act} {w:World} {l:List Oper} (hm:P.follows .mixedOrders=true) (hB:Region.lexB .any l.toArray=true) (hC:C { w with drawn:=w.drawn+1 })
 (h:wpQuiet P l.toArray C (fun a'=>∀ w',C w'→Q .normal a' w') l a):(Code.region id l.toArray true).wp P Q a w :=
 wp_region_quiet (C:=C) hm hB hC (by simpa using h)
def Cur (w:World) (b:Nat) (s:ByteArray) (pl:Nat):Prop:=w.heap[b]?=some (.cells #[.string s,.int .i64 pl] 233 (0,0))
theorem Cur.cells {w:World} {b:Nat} {s:ByteArray} {pl:Nat} (h:Cur w b s pl) :
 w.cell? ⟨b,0,none⟩=some (.string s)∧w.cell? ⟨b,1,none⟩=some (.int .i64 pl)∧w.frozen? ⟨b,1,none⟩=false∧b<w.heap.size:=by
 unfold Cur at h
 refine ⟨?_,?_,?_,(Array.getElem?_eq_some_iff.1 h).1⟩
 ·rw [cell_of_row _ b 0 _ 233 (0,0) h];rfl
 ·rw [cell_of_row _ b 1 _ 233 (0,0) h];rfl
 ·simp [World.frozen?,h]
theorem Cur.keep {w w':World} {b:Nat} {s:ByteArray} {pl:Nat} (h:Cur w b s pl) (hb:Bw w w'):Cur w' b s pl:=by
 unfold Cur at *
 rw [hb.block b (Array.getElem?_eq_some_iff.1 h).1];exact h
theorem grownBy_set (w:World) (b o:Nat) (v:Value):w.grownBy (w.setCell ⟨b,o,none⟩ v) (some b) :=
 ⟨rfl,rfl,rfl,by simp [World.setCell],fun k _ hk=>heap_setCell_other w ⟨b,o,none⟩ k v (fun q=>hk (by simp [q]))⟩
theorem Cur.move {w:World} {b:Nat} {s:ByteArray} {pl:Nat} (h:Cur w b s pl) (q:Nat):Cur (w.setCell ⟨b,1,none⟩ (.int .i64 q)) b s q:=by
 unfold Cur at *
 rw [heap_setCell_same w b 1 _ 233 _ h];rfl
theorem Js (s:ByteArray) (w:World) :
 Calls Tryz.prog 170 #[.string s] w fun e w'=>e=.returned (.pointer (some ⟨w.heap.size,0,none⟩))∧w'=w.alloc (.cells #[.string s,.int .i64 0] 233):=by
 go_enter Tryz.func170,Tryz.ntmps170
 go_wp2
 go_ret
 exact ⟨rfl,rfl⟩
theorem Zfh (b:Nat) (s:ByteArray) (pl:Nat) (w:World) (h:Cur w b s pl) :
 Calls Tryz.prog 172 #[.pointer (some ⟨b,0,none⟩)] w fun e w'=>e=.returned (.bool (decide (pl=s.size)))∧Bw w w':=by
 obtain ⟨c0,c1,c2,c3⟩:=h.cells
 clear h
 go_enter Tryz.func172,Tryz.ntmps172
 go_wp2
 go_region
 all_goals (go_wp2;go_ret;exact ⟨Zb (by rw [Bool.eq_iff_iff];simp;omega),(Below.refl _ _).drew⟩)
theorem Zhf (s:ByteArray) (k:Nat) (hk:k≤s.size) (w:World) :
 Calls Tryz.prog 197 #[.agg #[.string s],.int .i64 k] w fun e w'=>e=.returned (.string (s.extract k s.size))∧Bw w w':=by
 go_enter Tryz.func197,Tryz.ntmps197
 go_wp2
 go_ret
 exact ⟨rfl,(Below.refl _ _).alloc (Nat.le_refl _) _⟩
theorem Qo (d:Int) (n:ByteArray) (w:World) :
 Calls Tryz.prog 140 #[.agg #[.int .i64 d,.string n]] w fun e w'=>e=.returned (.bool (decide (255<d)))∧Bw w w':=by
 go_enter Tryz.func140,Tryz.ntmps140
 go_wp2
 go_ret
 exact ⟨Zb rfl,(Below.refl _ _).alloc (Nat.le_refl _) _⟩
def nxt (s:ByteArray) (pl:Nat) (m:UInt8):Bool:=(s.data.toList.drop pl).head? == some m
def hd (s:ByteArray) (m:UInt8):Bool:=s.data.toList.head? == some m
theorem hd_short {s:ByteArray} {m:UInt8} (h:s.size=0):hd s m=false:=by
 have:s.data.toList=[]:=List.length_eq_zero_iff.1 (by simpa using h)
 simp [hd,this]
theorem hd_take (s:ByteArray) (m:UInt8) (h:1≤s.size):((s.extract 0 1).toList == [m])=hd s m:=by
 have hl:s.data.toList.length=s.size:=by simp
 rw [Lib.toList_data,J7]
 cases e:s.data.toList with
 | nil=>rw [e] at hl;simp at hl;omega
 | cons c l =>
   simp only [hd,e,List.take_succ_cons,List.take_zero,List.head?_cons]
   rw [Bool.eq_iff_iff]
   simp
theorem Zbu (s:ByteArray) (m:UInt8) (w:World) :
 Calls Tryz.prog 211 #[.string s,.string ⟨#[m]⟩] w fun e w'=>e=.returned (.bool (hd s m))∧w'=w:=by
 by_cases h:1≤s.size
 ·have H:Hid _:=hd_take s m h
  go_enter Tryz.func211,Tryz.ntmps211
  go_wp2
  go_ret
  exact ⟨Zb H.out,rfl⟩
 ·have H:Hid _:=hd_short (s:=s) (m:=m) (by omega)
  go_enter Tryz.func211,Tryz.ntmps211
  go_wp2
  go_ret
  exact ⟨Zb H.out.symm,rfl⟩
theorem Ju (s:ByteArray) (m:UInt8) (w:World) :
 Calls Tryz.prog 196 #[.string s,.string ⟨#[m]⟩] w fun e w'=>e=.returned (.bool (hd s m))∧w'=w:=by
 have HB:Hid (∀ w,_):=Zbu s m
 generalize hd s m=b at *
 go_enter Tryz.func196,Tryz.ntmps196
 go_wp2_with (go_at_call 211;refine ((HB.out) _).mono ?_;rintro e w' ⟨rfl,rfl⟩)
 go_ret
 exact ⟨rfl,rfl⟩
theorem hd_from (s:ByteArray) (pl:Nat) (m:UInt8):hd (s.extract pl s.size) m=nxt s pl m:=by
 unfold hd nxt
 rw [Lib.extract_to_end]
theorem Zcs (b:Nat) (s:ByteArray) (pl:Nat) (m:UInt8) (hpl:pl≤s.size) (hs:s.size≤1000000) (W:World) (hc:Cur W b s pl) :
 Calls Tryz.prog 187 #[.pointer (some ⟨b,0,none⟩),.string ⟨#[m]⟩] W fun e w'=>e=.returned (.bool (nxt s pl m))∧Cur w' b s (if nxt s pl m then pl+1 else pl)∧W.grownBy w' (some b):=by
 have HF:Hid (∀ w,Hid (Bw W w)→Calls Tryz.prog 197 #[.agg #[.string s],.int .i64 pl] w fun e w'=>e=.returned (.string (s.extract pl s.size))∧Hid (Bw W w')) :=
  fun w h=>(Zhf s pl hpl w).mono fun e w' ⟨he,hb⟩=>⟨he,h.out.trans (hb.mono h.out.size)⟩
 have HP:Hid (∀ w,Hid (Bw W w)→Calls Tryz.prog 196 #[.string (s.extract pl s.size),.string ⟨#[m]⟩] w fun e w'=>e=.returned (.bool (nxt s pl m))∧Hid (Bw W w')) :=
  fun w h=>(Ju (s.extract pl s.size) m w).mono fun e w' ⟨he,hb⟩=>⟨by rw [he,hd_from],by rw [hb];exact h⟩
 obtain ⟨σ,V,V1,V2⟩:∃ (σ:Type) (V:σ→World),Hid (∀ s,Hid (Bw W (V s)))∧Hid (∀ w,Hid (Bw W w)→∃ s,w=V s) :=
  ⟨{w // Hid (Bw W w)},Subtype.val,fun s=>s.2,fun w q=>⟨⟨w,q⟩,rfl⟩⟩
 have T0:Hid (Bw W W.drew):=(Below.refl _ _).drew
 have hne:Nonempty σ:=(V2.out _ T0).elim fun s _=>⟨s⟩
 have q0:∀ s',(V s').cell? ⟨b,0,none⟩=some (.string s):=fun s'=>((hc.keep (V1.out s').out).cells).1
 have q1:∀ s',(V s').cell? ⟨b,1,none⟩=some (.int .i64 pl):=fun s'=>((hc.keep (V1.out s').out).cells).2.1
 have q2:∀ s',(V s').frozen? ⟨b,1,none⟩=false:=fun s'=>((hc.keep (V1.out s').out).cells).2.2.1
 have HC:Hid (Cur W b s pl):=hc
 clear hc
 generalize nxt s pl m=nb at *
 go_enter Tryz.func187,Tryz.ntmps187
 go_wp2
 refine Zc (C:=fun w'=>∃ s,w'=V s) (by kernel_rfl) (by kernel_rfl) (V2.out _ T0) ?_
 repeat (go_big_quiet_step (first
  | (go_at_call 197;exact (HF.out _ (V1.out _)).mono fun e w'' z=>⟨z.1,V2.out _ z.2⟩)
  | (go_at_call 196;exact (HP.out _ (V1.out _)).mono fun e w'' z=>⟨z.1,V2.out _ z.2⟩)))
 refine wpQuiet_nil ?_
 intro w9 hw9
 obtain ⟨s9,rfl⟩:=hw9
 cases nb with
 | false =>
   go_wp2
   go_ret
   exact ⟨rfl,HC.out.keep (V1.out s9).out,grownBy_below (V1.out s9).out⟩
 | true =>
   go_wp2
   go_ret
   exact ⟨rfl,(HC.out.keep (V1.out s9).out).move (pl+1),grownBy_trans (grownBy_below (V1.out s9).out) (grownBy_set _ _ _ _) (fun _ h=>.inl h)⟩
theorem Q8 (l:List UInt8) (h:Lib.indexByte l 59=-1):(59:UInt8) ∉ l:=by
 induction l with
 | nil=>simp
 | cons b l ih =>
   unfold Lib.indexByte at h
   split at h
   ·simp at h
   ·rename_i hb
    have hb':b≠59:=by simpa using hb
    split at h
    ·rename_i h1
     have:=ih (by simpa using h1)
     simp [hb'.symm,this]
    ·rename_i h1
     have:=Lib.indexByte_ge l 59
     have h1':Lib.indexByte l 59≠-1:=by simpa using h1
     omega
theorem Jg (l:List UInt8) (h:Lib.indexByte l 59≠-1):∃ a b,l=a++59::b∧(59:UInt8) ∉ a∧Lib.indexByte l 59=(a.length:Int):=by
 induction l with
 | nil=>simp [Lib.indexByte] at h
 | cons b l ih =>
   unfold Lib.indexByte at h ⊢
   by_cases hb:(b == 59)=true
   ·have hb':b=59:=by simpa using hb
    exact ⟨[],l,by simp [hb'],by simp,by simp [hb]⟩
   ·have hb':(b == 59)=false:=by simpa using hb
    have hb'':b≠59:=by simpa using hb
    simp only [hb',Bool.false_eq_true,if_false] at h ⊢
    by_cases h1:(Lib.indexByte l 59 == -1)=true
    ·simp [h1] at h
    ·have h1':Lib.indexByte l 59≠-1:=by simpa using h1
     obtain ⟨x,y,e,hx,hi⟩:=ih h1'
     refine ⟨b::x,y,by simp [e],by simp [hb''.symm,hx],?_⟩
     simp only [h1,if_false,Bool.false_eq_true]
     rw [hi];simp
theorem Jh (s:ByteArray) (w:World) :
 Calls Tryz.prog 207 #[.string s,.int .u8 59] w fun e w'=>e=.returned (.int .i64 (Lib.indexByte s.data.toList 59))∧w'=w:=by
 go_enter Tryz.func207,Tryz.ntmps207
 go_wp2
 rw [run_callFunc_extern Tryz.func218 (by kernel_rfl) (by kernel_rfl) (by kernel_rfl) (e:=Extern.BytealgIndexByte.indexByte) (by kernel_rfl),Lib.run_indexByteString]
 simp only [Result.andThen]
 rw [Oper.upon_value]
 go_wp2
 go_ret
 exact ⟨rfl,rfl⟩
theorem Qx (s:ByteArray) (w:World) :
 Calls Tryz.prog 195 #[.string s,.string ⟨#[59]⟩] w fun e w'=>e=.returned (.int .i64 (Lib.indexByte s.data.toList 59))∧w'=w:=by
 by_cases hq:([59] == s.toList)=true
 ·have hi:Lib.indexByte s.data.toList 59=0:=by
   have:s.data.toList=[59]:=by rw [← Lib.toList_data];exact (beq_iff_eq.1 hq).symm
   rw [this];rfl
  have HI:Hid (Lib.indexByte s.data.toList 59=0):=hi
  clear hi
  go_enter Tryz.func195,Tryz.ntmps195
  go_wp2
  go_ret
  exact ⟨Ze HI.out.symm,rfl⟩
 ·have hq':([59] == s.toList)=false:=by simpa using hq
  clear hq
  go_enter Tryz.func195,Tryz.ntmps195
  go_wp2_with (go_at_call 207;refine (Jh s _).mono ?_;rintro e w' ⟨rfl,rfl⟩)
  go_ret
  exact ⟨rfl,rfl⟩
theorem J9 (s:ByteArray) (w:World) (h:Lib.indexByte s.data.toList 59=-1) :
 Calls Tryz.prog 185 #[.string s,.string ⟨#[59]⟩] w fun e w'=>e=.returned (.tuple #[.string s,.string ⟨#[]⟩,.bool false])∧∃ n,w'=w.drewN n:=by
 have HB:Hid (∀ w,_):=Qx s
 rw [h] at HB
 clear h
 go_enter Tryz.func185,Tryz.ntmps185
 go_wp2_with (go_at_call 195;refine ((HB.out) _).mono ?_;rintro e w' ⟨rfl,rfl⟩)
 go_ret3
 exact ⟨rfl,0,rfl⟩
theorem Zan (s:ByteArray) (hs:s.size≤maxLen) (w:World) (n:Nat) (hn:n<s.size) (h:Lib.indexByte s.data.toList 59=n) :
 Calls Tryz.prog 185 #[.string s,.string ⟨#[59]⟩] w fun e w'=>e=.returned (.tuple #[.string (s.extract 0 n),.string (s.extract (n+1) s.size),.bool true])∧∃ n,w'=w.drewN n:=by
 have HB:Hid (∀ w,_):=Qx s
 rw [h] at HB
 clear h
 unfold maxLen at hs
 go_enter Tryz.func185,Tryz.ntmps185
 go_wp2_with (go_at_call 195;refine ((HB.out) _).mono ?_;rintro e w' ⟨rfl,rfl⟩)
 go_region
 all_goals (go_wp2;go_ret3;exact ⟨rfl,1,rfl⟩)
theorem Zcu (s:ByteArray) (w:World) (h:Lib.indexByte s.data.toList 59=-1) :
 Calls Tryz.prog 167 #[.string s,.string ⟨#[59]⟩] w fun e w'=>e=.returned (.tuple #[.string s,.string ⟨#[]⟩,.bool false])∧∃ n,w'=w.drewN n:=by
 have HB:Hid (∀ w,_):=fun w=>J9 s w h
 clear h
 go_enter Tryz.func167,Tryz.ntmps167
 go_wp2_with (go_at_call 185;refine ((HB.out) _).mono ?_;rintro e w' ⟨rfl,n,rfl⟩)
 go_ret3
 exact ⟨rfl,_,rfl⟩
theorem Zd0 (s:ByteArray) (hs:s.size≤maxLen) (w:World) (n:Nat) (hn:n<s.size) (h:Lib.indexByte s.data.toList 59=n) :
 Calls Tryz.prog 167 #[.string s,.string ⟨#[59]⟩] w fun e w'=>e=.returned (.tuple #[.string (s.extract 0 n),.string (s.extract (n+1) s.size),.bool true])∧∃ n,w'=w.drewN n:=by
 have HB:Hid (∀ w,_):=fun w=>Zan s hs w n hn h
 clear h
 go_enter Tryz.func167,Tryz.ntmps167
 go_wp2_with (go_at_call 185;refine ((HB.out) _).mono ?_;rintro e w' ⟨rfl,n,rfl⟩)
 go_ret3
 exact ⟨rfl,_,rfl⟩
def cutV (r:ByteArray):Value:=match semi r.data.toList with
 | none=>.tuple #[.string r,.string ⟨#[]⟩,.bool false]
 | some (a,b)=>.tuple #[.string ⟨a.toArray⟩,.string ⟨b.toArray⟩,.bool true]
theorem cutS_any (r:ByteArray) (hs:r.size≤1000000) (w:World) :
 Calls Tryz.prog 167 #[.string r,.string ⟨#[59]⟩] w fun e w'=>e=.returned (cutV r)∧Bw w w':=by
 by_cases hx:Lib.indexByte r.data.toList 59=-1
 ·refine (Zcu r w hx).mono fun e w' ⟨he,n,hn⟩=>⟨?_,?_⟩
  ·rw [he,cutV,Zdz _ (Q8 _ hx)]
  ·rw [hn];exact below_drewN (Below.refl _ _) n
 ·obtain ⟨a,b,hab,ha,hix⟩:=Jg _ hx
  have hsz:r.size=a.length+1+b.length:=by
   have:r.data.toList.length=r.size:=by simp
   rw [← this,hab];simp;omega
  have han:a.length<r.size:=by omega
  have e1:r.extract 0 a.length=⟨a.toArray⟩:=by rw [J7,hab];simp
  have e2:r.extract (a.length+1) r.size=⟨b.toArray⟩:=by
   rw [Zcg,hab,show a++59::b=(a++[59])++b by simp,List.drop_left' (by simp)]
  refine (Zd0 r (by unfold maxLen;omega) w a.length han hix).mono fun e w' ⟨he,n,hn⟩=>⟨?_,?_⟩
  ·rw [he,cutV,hab,Zgr _ _ ha,e1,e2]
  ·rw [hn];exact below_drewN (Below.refl _ _) n
def Zbt (l:List UInt8):List UInt8:=match semi l with|some (a,_)=>if Zj a then a else []|none=>[]
def Jt (l:List UInt8):Bool:=match semi l with|some (a,_)=>Zj a|none=>false
def Zar (l:List UInt8):Nat:=match semi l with|some (a,_)=>if Zj a then a.length+1 else 0|none=>0
theorem Zd4 (b:Nat) (s:ByteArray) (pl:Nat) (hpl:pl≤s.size) (hs:s.size≤1000000) (W:World) (hc:Cur W b s pl) :
 Calls Tryz.prog 198 #[.pointer (some ⟨b,0,none⟩)] W fun e w'=>e=.returned (.tuple #[.string ⟨(Zbt (s.data.toList.drop pl)).toArray⟩,.bool (Jt (s.data.toList.drop pl))])∧Cur w' b s (pl+Zar (s.data.toList.drop pl))∧W.grownBy w' (some b):=by
 have HF:Hid (∀ w,Hid (Bw W w)→Calls Tryz.prog 197 #[.agg #[.string s],.int .i64 pl] w fun e w'=>e=.returned (.string (s.extract pl s.size))∧Hid (Bw W w')) :=
  fun w h=>(Zhf s pl hpl w).mono fun e w' ⟨he,hb⟩=>⟨he,h.out.trans (hb.mono h.out.size)⟩
 have HP:Hid (∀ w,Hid (Bw W w)→Calls Tryz.prog 167 #[.string (s.extract pl s.size),.string ⟨#[59]⟩] w fun e w'=>e=.returned (cutV (s.extract pl s.size))∧Hid (Bw W w')) :=
  fun w h=>(cutS_any (s.extract pl s.size) (by simp;omega) w).mono fun e w' ⟨he,hb⟩=>⟨he,h.out.trans (hb.mono h.out.size)⟩
 obtain ⟨σ,V,V1,V2⟩:∃ (σ:Type) (V:σ→World),Hid (∀ s,Hid (Bw W (V s)))∧Hid (∀ w,Hid (Bw W w)→∃ s,w=V s) :=
  ⟨{w // Hid (Bw W w)},Subtype.val,fun s=>s.2,fun w q=>⟨⟨w,q⟩,rfl⟩⟩
 have T0:Hid (Bw W W.drew):=(Below.refl _ _).drew
 have hne:Nonempty σ:=(V2.out _ T0).elim fun s _=>⟨s⟩
 have q0:∀ s',(V s').cell? ⟨b,0,none⟩=some (.string s):=fun s'=>((hc.keep (V1.out s').out).cells).1
 have q1:∀ s',(V s').cell? ⟨b,1,none⟩=some (.int .i64 pl):=fun s'=>((hc.keep (V1.out s').out).cells).2.1
 have hbs:=hc.cells.2.2.2
 have HC:Hid (Cur W b s pl):=hc
 clear hc
 have hd:(s.extract pl s.size).data.toList=s.data.toList.drop pl:=Lib.extract_to_end _ _
 unfold cutV at HP
 rw [hd] at HP
 have hlen:(s.data.toList.drop pl).length=s.size - pl:=by simp
 generalize s.data.toList.drop pl=l at *
 clear hd
 cases hsm:semi l with
 | none =>
   have e1:Zbt l=[]:=by simp [Zbt,hsm]
   have e2:Jt l=false:=by simp [Jt,hsm]
   have e3:Zar l=0:=by simp [Zar,hsm]
   rw [e1,e2,e3]
   rw [hsm] at HP
   clear hsm e1 e2 e3 hlen
   go_enter Tryz.func198,Tryz.ntmps198
   go_wp2
   refine Zc (C:=fun w'=>∃ s,w'=V s) (by kernel_rfl) (by kernel_rfl) (V2.out _ T0) ?_
   repeat (go_big_quiet_step (first
    | (go_at_call 197;exact (HF.out _ (V1.out _)).mono fun e w'' z=>⟨z.1,V2.out _ z.2⟩)
    | (go_at_call 167;exact (HP.out _ (V1.out _)).mono fun e w'' z=>⟨z.1,V2.out _ z.2⟩)))
   refine wpQuiet_nil ?_
   intro w9 hw9
   obtain ⟨s9,rfl⟩:=hw9
   go_wp2
   go_ret2
   exact ⟨rfl,HC.out.keep (V1.out s9).out,grownBy_below (V1.out s9).out⟩
 | some p =>
   obtain ⟨x,y⟩:=p
   have hl:=(Zct hsm).1
   have hxs:x.length+1+y.length=s.size - pl:=by rw [← hlen,hl];simp;omega
   have hmk:(⟨x.toArray⟩:ByteArray).size=x.length:=Ja x
   have HV:Hid (∀ w,_):=Yx ⟨x.toArray⟩ (by rw [Ja];unfold maxLen;omega)
   simp only at HV
   rw [hsm] at HP
   cases hv:Zj x with
   | false =>
     have e1:Zbt l=[]:=by simp [Zbt,hsm,hv]
     have e2:Jt l=false:=by simp [Jt,hsm,hv]
     have e3:Zar l=0:=by simp [Zar,hsm,hv]
     rw [e1,e2,e3]
     rw [hv] at HV
     clear hsm e1 e2 e3 hlen hl hxs hv
     go_enter Tryz.func198,Tryz.ntmps198
     go_wp2
     refine Zc (C:=fun w'=>∃ s,w'=V s) (by kernel_rfl) (by kernel_rfl) (V2.out _ T0) ?_
     repeat (go_big_quiet_step (first
      | (go_at_call 197;exact (HF.out _ (V1.out _)).mono fun e w'' z=>⟨z.1,V2.out _ z.2⟩)
      | (go_at_call 167;exact (HP.out _ (V1.out _)).mono fun e w'' z=>⟨z.1,V2.out _ z.2⟩)))
     refine wpQuiet_nil ?_
     intro w9 hw9
     obtain ⟨s9,rfl⟩:=hw9
     go_wp2_with (go_at_call 122;refine ((HV.out) _).mono ?_;rintro e w2 ⟨rfl,hb2⟩)
     go_ret2
     have HB:=(V1.out s9).out.trans (hb2.mono (V1.out s9).out.size)
     exact ⟨rfl,HC.out.keep HB,grownBy_below HB⟩
   | true =>
     have e1:Zbt l=x:=by simp [Zbt,hsm,hv]
     have e2:Jt l=true:=by simp [Jt,hsm,hv]
     have e3:Zar l=x.length+1:=by simp [Zar,hsm,hv]
     rw [e1,e2,e3]
     rw [hv] at HV
     clear hsm e1 e2 e3 hlen hl hv
     go_enter Tryz.func198,Tryz.ntmps198
     go_wp2
     refine Zc (C:=fun w'=>∃ s,w'=V s) (by kernel_rfl) (by kernel_rfl) (V2.out _ T0) ?_
     repeat (go_big_quiet_step (first
      | (go_at_call 197;exact (HF.out _ (V1.out _)).mono fun e w'' z=>⟨z.1,V2.out _ z.2⟩)
      | (go_at_call 167;exact (HP.out _ (V1.out _)).mono fun e w'' z=>⟨z.1,V2.out _ z.2⟩)))
     refine wpQuiet_nil ?_
     intro w9 hw9
     obtain ⟨s9,rfl⟩:=hw9
     go_wp2_with (go_at_call 122;refine ((HV.out) _).mono ?_;rintro e w2 ⟨rfl,hb2⟩;have HB:Hid (Bw W w2):=(V1.out s9).out.trans (hb2.mono (V1.out s9).out.size);have r1:w2.cell? ⟨b,1,none⟩=some (.int .i64 pl):=(HC.out.keep HB.out).cells.2.1;have r2:w2.frozen? ⟨b,1,none⟩=false:=(HC.out.keep HB.out).cells.2.2.1;clear hb2)
     go_ret2
     exact ⟨rfl,(HC.out.keep HB.out).move _,grownBy_trans (grownBy_below HB.out) (grownBy_set _ _ _ _) (fun _ h=>.inl h)⟩
theorem Qa (s:ByteArray) (i:Nat) (m:UInt8) (h:i<s.size):nxt s i m=decide (s[i]=m):=by
 unfold nxt
 rw [Zl s i h,List.head?_cons,Bool.eq_iff_iff]
 simp
theorem Zc5 (s:ByteArray) (i:Nat) (m:UInt8) (h:s.size≤i):nxt s i m=false:=by
 unfold nxt
 rw [Y9 s i h];rfl
theorem Ql {s:ByteArray} {i:Nat} {m:UInt8} (h:nxt s i m=true):i<s.size:=by
 by_cases q:i<s.size
 ·exact q
 ·rw [Zc5 s i m (by omega)] at h;simp at h
theorem nameP_le (l:List UInt8):Zar l≤l.length:=by
 unfold Zar
 split
 ·rename_i a b h
  split
  ·rw [(Zct h).1];simp
  ·omega
 ·omega
structure Rt (W:World) (b:Nat) (s:ByteArray) (q:Nat) (wr:World):Prop where
 cur:Cur wr b s q
 r:wr.heap[W.heap.size]?=some (.cells #[.int .i64 0,.string ⟨#[]⟩] 40 (0,0))
 gr:W.grownBy wr (some b)
 hb:b<W.heap.size
 le:q≤s.size
theorem Rt.step {W wr w1:World} {b:Nat} {s:ByteArray} {q q':Nat} (h:Rt W b s q wr) (hc:Cur w1 b s q') (hg:wr.grownBy w1 (some b)) (hq:q'≤s.size):Rt W b s q' w1 :=
 ⟨hc,by rw [hg.block _ (Array.getElem?_eq_some_iff.1 h.r).1 (by have:=h.hb;simp;omega)];exact h.r,grownBy_trans h.gr hg (fun _ e=>.inl e),h.hb,hq⟩
theorem Rt.cells {W wr:World} {b:Nat} {s:ByteArray} {q:Nat} (h:Rt W b s q wr) :
 wr.cell? ⟨W.heap.size,0,none⟩=some (.int .i64 0)∧wr.cell? ⟨W.heap.size,1,none⟩=some (.string ⟨#[]⟩)∧wr.frozen? ⟨W.heap.size,0,none⟩=false∧wr.frozen? ⟨W.heap.size,1,none⟩=false:=by
 refine ⟨?_,?_,?_,?_⟩
 ·rw [cell_of_row _ W.heap.size 0 _ 40 (0,0) h.r];rfl
 ·rw [cell_of_row _ W.heap.size 1 _ 40 (0,0) h.r];rfl
 all_goals simp [World.frozen?,h.r]
theorem Rt.done {W wr:World} {b:Nat} {s:ByteArray} {q:Nat} (h:Rt W b s q wr) (u v:Value) :
 Cur ((wr.setCell ⟨W.heap.size,0,none⟩ u).setCell ⟨W.heap.size,1,none⟩ v) b s q∧W.grownBy ((wr.setCell ⟨W.heap.size,0,none⟩ u).setCell ⟨W.heap.size,1,none⟩ v) (some b):=by
 have hb:=h.hb
 constructor
 ·unfold Cur
  rw [heap_setCell_other _ ⟨W.heap.size,1,none⟩ b v (by simp;omega),heap_setCell_other _ ⟨W.heap.size,0,none⟩ b u (by simp;omega)]
  exact h.cur
 ·refine grownBy_trans (grownBy_trans h.gr (grownBy_set wr W.heap.size 0 u) ?_) (grownBy_set _ W.heap.size 1 v) ?_
  ·intro k e;right;simp at e;omega
  ·intro k e;right;simp at e;omega
def Yc (s:ByteArray) (pl b:Nat) (e:Ending) (w':World):Prop:=match Zy (s.data.toList.drop pl) with
 | some (t,r)=>e=.returned (.tuple #[.agg #[.int .i64 t.1,.string ⟨t.2.toArray⟩],.bool true])∧Cur w' b s (s.size - r.length)
 | none=>e=.returned (.tuple #[.agg #[.int .i64 0,.string ⟨#[]⟩],.bool false])∧∃ q,q≤s.size∧Cur w' b s q
theorem Qi {s:ByteArray} {pl b q:Nat} {w':World} (h:Zy (s.data.toList.drop pl)=none) (hq:q≤s.size) (hc:Cur w' b s q):Yc s pl b (.returned (.tuple #[.agg #[.int .i64 0,.string ⟨#[]⟩],.bool false])) w':=by
 unfold Yc;rw [h];exact ⟨rfl,q,hq,hc⟩
theorem Zbz {s:ByteArray} {pl b q:Nat} {k:Nat} {nm r:List UInt8} {w':World} (h:Zy (s.data.toList.drop pl)=some ((k,nm),r)) (hp:q=s.size - r.length) (hc:Cur w' b s q) :
 Yc s pl b (.returned (.tuple #[.agg #[.int .i64 k,.string ⟨nm.toArray⟩],.bool true])) w':=by
 unfold Yc;rw [h];rw [hp] at hc;exact ⟨rfl,hc⟩
theorem X4 (b:Nat) (s:ByteArray) (pl:Nat) (hpl:pl≤s.size) (hs:s.size≤1000000) (W:World) (hc:Cur W b s pl) :
 Calls Tryz.prog 188 #[.pointer (some ⟨b,0,none⟩)] W fun e w'=>Yc s pl b e w'∧W.grownBy w' (some b):=by
 have HS:Hid (∀ (m:UInt8) (q:Nat) (w:World),Hid (Rt W b s q w)→Calls Tryz.prog 187 #[.pointer (some ⟨b,0,none⟩),.string ⟨#[m]⟩] w fun e w'=>e=.returned (.bool (nxt s q m))∧Hid (Rt W b s (if nxt s q m then q+1 else q) w')) :=
  fun m q w h=>(Zcs b s q m h.out.le hs w h.out.cur).mono fun e w' ⟨he,hc,hg⟩=>⟨he,h.out.step hc hg (by
   have:=h.out.le
   split
   ·rename_i e;have:=Ql e;omega
   ·exact this)⟩
 have HN:Hid (∀ (q:Nat) (w:World),Hid (Rt W b s q w)→Calls Tryz.prog 198 #[.pointer (some ⟨b,0,none⟩)] w fun e w'=>e=.returned (.tuple #[.string ⟨(Zbt (s.data.toList.drop q)).toArray⟩,.bool (Jt (s.data.toList.drop q))])∧Hid (Rt W b s (q+Zar (s.data.toList.drop q)) w')) :=
  fun q w h=>(Zd4 b s q h.out.le hs w h.out.cur).mono fun e w' ⟨he,hc,hg⟩=>⟨he,h.out.step hc hg (by
   have h1:=h.out.le
   have h2:=nameP_le (s.data.toList.drop q)
   simp at h2;omega)⟩
 have H0:Hid (Rt W b s pl (W.alloc (.cells #[.int .i64 0,.string ⟨#[]⟩] 40))) :=
  ⟨hc.keep ((Below.refl _ _).alloc (Nat.le_refl _) _),heap_alloc_new W _,grownBy_below ((Below.refl _ _).alloc (Nat.le_refl _) _),hc.cells.2.2.2,hpl⟩
 have hsz:s.data.toList.length=s.size:=by simp
 have HSZ:Hid _:=hsz
 clear hsz hc
 go_enter Tryz.func188,Tryz.ntmps188
 go_wp2
 go_loopw [4] (fun p wr=>∃ j:Nat,p=.int .i64 j∧pl+j≤s.size∧Hid (Rt W b s (pl+j) wr) ∧
  Hid (Zq (s.data.toList.drop pl)=((Zq (s.data.toList.drop (pl+j))).1+j,(Zq (s.data.toList.drop (pl+j))).2))) (fun p _=>s.size - (intOf p).toNat)
 case atStart=>exact ⟨0,rfl,hpl,H0,rfl⟩
 case round =>
  clear H0
  obtain ⟨j,rfl,hj,hR,hbr⟩:=hrel
  by_cases hlt:pl+j<s.size
  ·by_cases h91:s[pl+j]=91
   ·have q91:nxt s (pl+j) 91=true:=by rw [Qa s _ _ hlt];simp [h91]
    have HB:Hid (Zq (s.data.toList.drop pl)=((Zq (s.data.toList.drop (pl+(j+1)))).1+(j+1),(Zq (s.data.toList.drop (pl+(j+1)))).2)):=by
     rw [Hid,hbr.out,Zbm s (pl+j) hlt h91]
     simp only [Prod.mk.injEq]
     exact ⟨by rw [show pl+j+1=pl+(j+1) by omega];omega,by rw [show pl+j+1=pl+(j+1) by omega]⟩
    clear hbr h91
    go_wp2_with (go_at_call 187;refine (HS.out _ _ _ hR).mono ?_;rintro e w1 ⟨rfl,R1⟩;rw [q91,if_pos rfl] at R1)
    go_roundw
    case rel=>exact ⟨j+1,by go_num,by omega,R1,HB⟩
    case measure=>simp [intOf];omega
   ·have hb0:Zq (s.data.toList.drop pl)=(j,s.data.toList.drop (pl+j)):=by rw [hbr.out,Zbl s (pl+j) hlt h91,Nat.zero_add]
    rw [Zl s (pl+j) hlt] at hb0
    have q91:nxt s (pl+j) 91=false:=by rw [Qa s _ _ hlt];simp [h91]
    by_cases h73:s[pl+j]=73
    ·have q73:nxt s (pl+j) 73=true:=by rw [Qa s _ _ hlt];simp [h73]
     have HP:Hid _:=Zgt (by rw [h73] at hb0;exact hb0)
     have HQ:Hid (pl+j+1=s.size - (s.data.toList.drop (pl+j+1)).length):=by rw [Hid,List.length_drop,HSZ.out];omega
     clear hbr h91 h73 hb0
     go_wp2_with (go_at_call 187;refine (HS.out _ _ _ hR).mono ?_;clear hR;rintro e w1 ⟨rfl,hR⟩;first|rw [q91,if_neg Bool.false_ne_true] at hR|rw [q73,if_pos rfl] at hR;obtain ⟨c0,c1,c2,c3⟩:=hR.out.cells)
     refine bodyPost_ret (v:=.tuple #[.agg #[.int .i64 j,.string ⟨#[]⟩],.bool true]) (by simp [results,Tryz.results188,go_sem, *]) rfl ⟨Zbz HP.out HQ.out (hR.out.done _ _).1,(hR.out.done _ _).2⟩
    ·have q73:nxt s (pl+j) 73=false:=by rw [Qa s _ _ hlt];simp [h73]
     by_cases h76:s[pl+j]=76
     ·have q76:nxt s (pl+j) 76=true:=by rw [Qa s _ _ hlt];simp [h76]
      rw [h76] at hb0
      cases hsm:semi (s.data.toList.drop (pl+j+1)) with
      | none =>
        have e2:Jt (s.data.toList.drop (pl+j+1))=false:=by simp [Jt,hsm]
        have HP:Hid _:=Zd3 hb0 hsm
        clear hbr h91 h73 h76 hb0 hsm
        go_wp2_with (first
         | (go_at_call 187;refine (HS.out _ _ _ hR).mono ?_;clear hR;rintro e w1 ⟨rfl,hR⟩;first|rw [q91,if_neg Bool.false_ne_true] at hR|rw [q73,if_neg Bool.false_ne_true] at hR|rw [q76,if_pos rfl] at hR;obtain ⟨c0,c1,c2,c3⟩:=hR.out.cells)
         | (go_at_call 198;refine (HN.out _ _ hR).mono ?_;clear hR;rintro e w1 ⟨rfl,hR⟩;rw [e2];obtain ⟨c0,c1,c2,c3⟩:=hR.out.cells))
        refine bodyPost_ret (v:=.tuple #[.agg #[.int .i64 0,.string ⟨#[]⟩],.bool false]) (by simp [results,Tryz.results188,go_sem, *]) rfl ⟨Qi HP.out hR.out.le (hR.out.done _ _).1,(hR.out.done _ _).2⟩
      | some p =>
        obtain ⟨x,y⟩:=p
        cases hv:Zj x with
        | false =>
          have e2:Jt (s.data.toList.drop (pl+j+1))=false:=by simp [Jt,hsm,hv]
          have HP:Hid _:=Zgv hb0 hsm hv
          clear hbr h91 h73 h76 hb0 hsm hv
          go_wp2_with (first
           | (go_at_call 187;refine (HS.out _ _ _ hR).mono ?_;clear hR;rintro e w1 ⟨rfl,hR⟩;first|rw [q91,if_neg Bool.false_ne_true] at hR|rw [q73,if_neg Bool.false_ne_true] at hR|rw [q76,if_pos rfl] at hR;obtain ⟨c0,c1,c2,c3⟩:=hR.out.cells)
           | (go_at_call 198;refine (HN.out _ _ hR).mono ?_;clear hR;rintro e w1 ⟨rfl,hR⟩;rw [e2];obtain ⟨c0,c1,c2,c3⟩:=hR.out.cells))
          refine bodyPost_ret (v:=.tuple #[.agg #[.int .i64 0,.string ⟨#[]⟩],.bool false]) (by simp [results,Tryz.results188,go_sem, *]) rfl ⟨Qi HP.out hR.out.le (hR.out.done _ _).1,(hR.out.done _ _).2⟩
        | true =>
          have e1:Zbt (s.data.toList.drop (pl+j+1))=x:=by simp [Zbt,hsm,hv]
          have e2:Jt (s.data.toList.drop (pl+j+1))=true:=by simp [Jt,hsm,hv]
          have e3:Zar (s.data.toList.drop (pl+j+1))=x.length+1:=by simp [Zar,hsm,hv]
          have HP:Hid _:=Zgu hb0 hsm hv
          have HQ:Hid (pl+j+1+(x.length+1)=s.size - y.length):=by
           have h1:(s.data.toList.drop (pl+j+1)).length=s.size - (pl+j+1):=by rw [List.length_drop,HSZ.out]
           rw [(Zct hsm).1,List.length_append,List.length_cons] at h1
           rw [Hid];omega
          clear hbr h91 h73 h76 hb0 hsm hv
          go_wp2_with (first
           | (go_at_call 187;refine (HS.out _ _ _ hR).mono ?_;clear hR;rintro e w1 ⟨rfl,hR⟩;first|rw [q91,if_neg Bool.false_ne_true] at hR|rw [q73,if_neg Bool.false_ne_true] at hR|rw [q76,if_pos rfl] at hR;obtain ⟨c0,c1,c2,c3⟩:=hR.out.cells)
           | (go_at_call 198;refine (HN.out _ _ hR).mono ?_;clear hR;rintro e w1 ⟨rfl,hR⟩;rw [e2,e1];rw [e3] at hR;obtain ⟨c0,c1,c2,c3⟩:=hR.out.cells))
          refine bodyPost_ret (v:=.tuple #[.agg #[.int .i64 j,.string ⟨x.toArray⟩],.bool true]) (by simp [results,Tryz.results188,go_sem, *]) rfl ⟨Zbz HP.out HQ.out (hR.out.done _ _).1,(hR.out.done _ _).2⟩
     ·have q76:nxt s (pl+j) 76=false:=by rw [Qa s _ _ hlt];simp [h76]
      have HP:Hid _:=Zb0 hb0 h73 h76
      clear hbr h91 h73 h76 hb0
      go_wp2_with (go_at_call 187;refine (HS.out _ _ _ hR).mono ?_;clear hR;rintro e w1 ⟨rfl,hR⟩;first|rw [q91,if_neg Bool.false_ne_true] at hR|rw [q73,if_neg Bool.false_ne_true] at hR|rw [q76,if_neg Bool.false_ne_true] at hR;obtain ⟨c0,c1,c2,c3⟩:=hR.out.cells)
      refine bodyPost_ret (v:=.tuple #[.agg #[.int .i64 0,.string ⟨#[]⟩],.bool false]) (by simp [results,Tryz.results188,go_sem, *]) rfl ⟨Qi HP.out hR.out.le (hR.out.done _ _).1,(hR.out.done _ _).2⟩
  ·have q91:nxt s (pl+j) 91=false:=Zc5 _ _ _ (by omega)
   have q73:nxt s (pl+j) 73=false:=Zc5 _ _ _ (by omega)
   have q76:nxt s (pl+j) 76=false:=Zc5 _ _ _ (by omega)
   have HP:Hid _:=Zgs (l:=s.data.toList.drop pl) (j:=j) (by rw [hbr.out,Y9 s (pl+j) (by omega)];simp [Zq])
   clear hbr
   go_wp2_with (go_at_call 187;refine (HS.out _ _ _ hR).mono ?_;clear hR;rintro e w1 ⟨rfl,hR⟩;first|rw [q91,if_neg Bool.false_ne_true] at hR|rw [q73,if_neg Bool.false_ne_true] at hR|rw [q76,if_neg Bool.false_ne_true] at hR;obtain ⟨c0,c1,c2,c3⟩:=hR.out.cells)
   refine bodyPost_ret (v:=.tuple #[.agg #[.int .i64 0,.string ⟨#[]⟩],.bool false]) (by simp [results,Tryz.results188,go_sem, *]) rfl ⟨Qi HP.out hR.out.le (hR.out.done _ _).1,(hR.out.done _ _).2⟩
def tyC (t:Int×ByteArray):List Value:=[.int .i64 t.1,.string t.2]
def Yf (ts:List (Int×ByteArray)):List Value:=ts.flatMap tyC
def natT (t:Nat×List UInt8):Int×ByteArray:=((t.1:Int),⟨t.2.toArray⟩)
theorem flatT_at (ts:List (Int×ByteArray)) (k:Nat) (t:Int×ByteArray) (h:ts[k]?=some t):(Yf ts)[k * 2]?=some (.int .i64 t.1)∧(Yf ts)[k * 2+1]?=some (.string t.2):=by
 induction ts generalizing k with
 | nil=>simp at h
 | cons u ts ih =>
   have e:Yf (u::ts)=.int .i64 u.1::.string u.2::Yf ts:=by simp [Yf,tyC]
   rw [e]
   cases k with
   | zero=>simp at h;subst h;exact ⟨rfl,rfl⟩
   | succ k =>
     simp at h
     obtain ⟨h1,h2⟩:=ih k h
     rw [show (k+1) * 2=k * 2+1+1 by omega]
     simp only [List.getElem?_cons_succ]
     exact ⟨h1,h2⟩
def IsTys (w:World) (v:Value) (ts:List (Int×ByteArray)):Prop :=
 ∃ ao cap,v=.slice ao ts.length cap∧ts.length≤cap∧cap≤maxLen ∧
   (ts≠[]→∃ bk o,ao=some ⟨bk,o,none⟩∧bk<w.heap.size∧∀ k t,ts[k]?=some t→w.cell? ⟨bk,o+k * 2,none⟩=some (.int .i64 t.1)∧w.cell? ⟨bk,o+k * 2+1,none⟩=some (.string t.2))
theorem own_tys {w:World} {base:Nat} {v:Value} {ts:List (Int×ByteArray)} (h:w.ownsRow base 40 2 v ts.length (Yf ts)):IsTys w v ts:=by
 have h':=h
 rcases h.2 with ⟨rfl,h0⟩|⟨g,cap,cur,rfl,hb,hg,hn,hm,_,_⟩
 ·have:ts=[]:=List.length_eq_zero_iff.1 h0
  subst this
  exact ⟨none,0,rfl,Nat.le_refl _,by unfold maxLen;omega,fun h=>absurd rfl h⟩
 ·refine ⟨_,cap,rfl,hn,hm,fun _=>⟨g,0,rfl,(Array.getElem?_eq_some_iff.1 hg).1,fun k t hk=>?_⟩⟩
  have hlt:k<ts.length:=(List.getElem?_eq_some_iff.1 hk).1
  obtain ⟨e1,e2⟩:=flatT_at ts k t hk
  rw [Nat.zero_add]
  exact ⟨by rw [h'.cellAt (k * 2) (by omega)];exact e1,by rw [h'.cellAt (k * 2+1) (by omega)];exact e2⟩
def raf (l:List UInt8):Option (List (Nat×List UInt8)×List UInt8):=Zz (l.length+1) l
theorem Zcz (f:Nat) (l:List UInt8) (h:l.length<f):Zz f l=raf l:=by
 unfold raf
 generalize hn:l.length=n at *
 induction n using Nat.strongRecOn generalizing f l with
 | _ n ih =>
   cases f with
   | zero=>omega
   | succ f =>
     cases l with
     | nil=>simp [Zz]
     | cons c l =>
       rw [Zz,Zz]
       split
       ·rfl
       ·cases e:Zy (c::l) with
        | none=>rfl
        | some p =>
          obtain ⟨t,r⟩:=p
          have hr:=Xe e
          simp only
          rw [ih r.length (by omega) f r rfl (by omega),ih r.length (by omega) n r rfl (by omega)]
theorem Zjv:raf []=none:=rfl
theorem Zjw (l:List UInt8):raf (41::l)=some ([],l):=by simp [raf,Zz]
theorem Zgx {c:UInt8} {l r:List UInt8} {t:Nat×List UInt8} (hc:c≠41) (h:Zy (c::l)=some (t,r)):raf (c::l)=(raf r).map (fun p=>(t::p.1,p.2)):=by
 have hr:=Xe h
 rw [raf,Zz,if_neg hc,h]
 simp only
 rw [Zcz _ r (by simpa using hr)]
 cases raf r <;> rfl
theorem Zjx {c:UInt8} {l:List UInt8} (hc:c≠41) (h:Zy (c::l)=none):raf (c::l)=none:=by
 rw [raf,Zz,if_neg hc,h]
theorem Jk {l:List UInt8} {q:Nat} {t:Nat×List UInt8} {r:List UInt8} (h:Zy (l.drop q)=some (t,r)):r=l.drop (l.length - r.length)∧q<l.length - r.length∧r.length≤l.length:=by
 have hw:=(J4 h).1
 have hl:=Xe h
 rw [List.length_drop] at hl
 refine ⟨?_,by omega,by omega⟩
 have e2:l=l.take q++(Je t++r):=by rw [← hw,List.take_append_drop]
 have e3:l.length - r.length=(l.take q++Je t).length:=by
  have:=congrArg List.length e2
  simp only [List.length_append] at this ⊢
  omega
 rw [e3]
 have key:∀ a b r:List UInt8,(a++(b++r)).drop ((a++b).length)=r:=fun a b r=>by rw [← List.append_assoc,List.drop_left]
 have k2:=key (l.take q) (Je t) r
 rw [← e2] at k2
 exact k2.symm
def Z7:List UInt8→Option (List (Nat×List UInt8)×List UInt8)
 | 40::r=>raf r
 | _=>none
theorem Tryz.info40:(Tryz.prog.info? 40).map (fun i=>(i.zero,i.size,i.bytes))=some (some (.agg #[.int .i64 0,.string ⟨#[]⟩]),2,24):=by kernel_rfl
structure Ra (W:World) (b:Nat) (s:ByteArray) (q:Nat) (v:Value) (ts:List (Nat×List UInt8)) (wr:World):Prop where
 cur:Cur wr b s q
 own:wr.ownsRow W.heap.size 40 2 v ts.length (Yf (ts.map natT))
 gr:W.grownBy wr (some b)
 hb:b<W.heap.size
 le:q≤s.size
 tl:ts.length≤q
theorem Ra.step {W wr w1:World} {b:Nat} {s:ByteArray} {q q':Nat} {v:Value} {ts:List (Nat×List UInt8)} (h:Ra W b s q v ts wr) (hc:Cur w1 b s q') (hg:wr.grownBy w1 (some b)) (hq:q'≤s.size) (hqq:q≤q'):Ra W b s q' v ts w1 :=
 ⟨hc,h.own.kept hg (.inr (fun e=>by have:=(h.own.lt b e).1;have:=h.hb;omega)),grownBy_trans h.gr hg (fun _ e=>.inl e),h.hb,hq,Nat.le_trans h.tl hqq⟩
theorem Ra.app {W wr w2:World} {b:Nat} {s:ByteArray} {q:Nat} {v v':Value} {ts:List (Nat×List UInt8)} {k:Nat} {nm:List UInt8} (o1 o2:Obj) (h:Ra W b s q v ts wr) (hlt:ts.length<q)
 (ho:w2.ownsRow W.heap.size 40 2 v' (ts.length+1) (Yf (ts.map natT)++[.int .i64 k,.string ⟨nm.toArray⟩])) (hg:((wr.alloc o1).alloc o2).grownBy w2 v.ownBlock):Ra W b s q v' (ts++[(k,nm)]) w2:=by
 have hbel:Bw wr ((wr.alloc o1).alloc o2):=((Below.refl _ _).alloc (Nat.le_refl _) _).alloc (by simp) _
 have hbn:some b≠v.ownBlock:=fun e=>by have:=(h.own.lt b e.symm).1;have:=h.hb;omega
 refine ⟨?_,?_,?_,h.hb,h.le,by simp;omega⟩
 ·have hc:=h.cur.keep hbel
  unfold Cur at *
  rw [hg.block b (Array.getElem?_eq_some_iff.1 hc).1 hbn]
  exact hc
 ·have e:Yf ((ts++[(k,nm)]).map natT)=Yf (ts.map natT)++[.int .i64 k,.string ⟨nm.toArray⟩]:=by simp [Yf,tyC,natT]
  rw [e,List.length_append]
  exact ho
 ·exact grownBy_trans (grownBy_trans h.gr (grownBy_below hbel (r:=some b)) (fun _ e=>.inl e)) hg (fun x e=>.inr (h.own.lt x e).1)
theorem two_new (w:World) (x y:Value) (t:TypeId):∀ j u,[x,y][j]?=some u→(w.alloc (.cells #[x,y] t)).cell? ((⟨w.heap.size,0,none⟩:Addr).add j)=some u:=by
 intro j u hj
 match j,hj with
 | 0,hj=>simp at hj;subst hj;rw [Addr.add_lit,cell_of_row _ w.heap.size 0 _ t (0,0) (heap_alloc_new w _)];rfl
 | 1,hj=>simp at hj;subst hj;rw [Addr.add_lit,cell_of_row _ w.heap.size 1 _ t (0,0) (heap_alloc_new w _)];rfl
theorem Zcp (w:World) (o:Obj) (x y:Value) (t:TypeId):∀ j u,[x,y][j]?=some u→((w.alloc o).alloc (.cells #[x,y] t)).cell? ((⟨w.heap.size+1,0,none⟩:Addr).add j)=some u:=by
 intro j u hj
 have h:=two_new (w.alloc o) x y t j u hj
 rw [show (w.alloc o).heap.size=w.heap.size+1 by simp] at h
 exact h
def Zah (s:ByteArray) (pl b:Nat) (W:World) (e:Ending) (w':World):Prop:=match Z7 (s.data.toList.drop pl) with
 | some (ts,r)=>∃ v,e=.returned (.tuple #[v,.bool true])∧w'.ownsRow W.heap.size 40 2 v ts.length (Yf (ts.map natT))∧Cur w' b s (s.size - r.length)
 | none=>e=.returned (.tuple #[.slice none 0 0,.bool false])∧∃ q,q≤s.size∧Cur w' b s q
theorem Zck {s:ByteArray} {pl b q:Nat} {W w':World} (h:Z7 (s.data.toList.drop pl)=none) (hq:q≤s.size) (hc:Cur w' b s q):Zah s pl b W (.returned (.tuple #[.slice none 0 0,.bool false])) w':=by
 unfold Zah;rw [h];exact ⟨rfl,q,hq,hc⟩
theorem Ziz {s:ByteArray} {pl b q:Nat} {W w':World} {ts:List (Nat×List UInt8)} {r:List UInt8} {v:Value} (h:Z7 (s.data.toList.drop pl)=some (ts,r)) (hp:q=s.size - r.length)
 (ho:w'.ownsRow W.heap.size 40 2 v ts.length (Yf (ts.map natT))) (hc:Cur w' b s q):Zah s pl b W (.returned (.tuple #[v,.bool true])) w':=by
 unfold Zah;rw [h];rw [hp] at hc;exact ⟨v,rfl,ho,hc⟩
theorem Zgk {s:ByteArray} {pl:Nat} (h:nxt s pl 40=true):Z7 (s.data.toList.drop pl)=raf (s.data.toList.drop (pl+1)):=by
 have hlt:=Ql h
 rw [Qa s pl 40 hlt] at h
 rw [Zl s pl hlt]
 simp at h
 rw [h];rfl
theorem Zgj {s:ByteArray} {pl:Nat} (h:nxt s pl 40=false):Z7 (s.data.toList.drop pl)=none:=by
 by_cases hlt:pl<s.size
 ·rw [Qa s pl 40 hlt] at h
  rw [Zl s pl hlt]
  simp at h
  unfold Z7
  split
  ·rename_i e;simp at e;exact absurd e.1 h
  ·rfl
 ·rw [Y9 s pl (by omega)];rfl
theorem Zd6 (b:Nat) (s:ByteArray) (pl:Nat) (hpl:pl≤s.size) (hs:s.size≤1000000) (W:World) (hc:Cur W b s pl) :
 Calls Tryz.prog 186 #[.pointer (some ⟨b,0,none⟩)] W fun e w'=>Zah s pl b W e w'∧W.grownBy w' (some b):=by
 obtain ⟨i24,hi24,hz0,hz1,hz2⟩:=info_parts Tryz.info40
 have HS:Hid (∀ (m:UInt8) (q:Nat) (v:Value) (ts:List (Nat×List UInt8)) (w:World),Hid (Ra W b s q v ts w)→Calls Tryz.prog 187 #[.pointer (some ⟨b,0,none⟩),.string ⟨#[m]⟩] w fun e w'=>e=.returned (.bool (nxt s q m))∧Hid (Ra W b s (if nxt s q m then q+1 else q) v ts w')) :=
  fun m q v ts w h=>(Zcs b s q m h.out.le hs w h.out.cur).mono fun e w' ⟨he,hc,hg⟩=>⟨he,h.out.step hc hg (by
   have:=h.out.le
   split
   ·rename_i e;have:=Ql e;omega
   ·exact this) (by split <;> omega)⟩
 have HT:∀ (q:Nat) (v:Value) (ts:List (Nat×List UInt8)) (w:World),Hid (Ra W b s q v ts w)→Calls Tryz.prog 188 #[.pointer (some ⟨b,0,none⟩)] w fun e w'=>Yc s q b e w'∧w.grownBy w' (some b) :=
  fun q v ts w h=>X4 b s q h.out.le hs w h.out.cur
 have H0:Hid (Ra W b s pl (.slice none 0 0) [] W):=⟨hc,World.ownsRow_nil _ _ _ _,⟨rfl,rfl,rfl,Nat.le_refl _,fun _ _ _=>rfl⟩,hc.cells.2.2.2,hpl,Nat.zero_le _⟩
 have hsz:s.data.toList.length=s.size:=by simp
 have HSZ:Hid _:=hsz
 clear hsz hc
 cases h40:nxt s pl 40 with
 | false =>
   have HP:Hid _:=Zgj h40
   clear HT
   go_enter Tryz.func186,Tryz.ntmps186
   go_wp2
   go_step3
   go_wp2_with (go_at_call 187;refine (HS.out _ _ _ _ _ H0).mono ?_;rintro e w1 ⟨rfl,R1⟩;rw [h40,if_neg Bool.false_ne_true] at R1)
   try rw [Exit.noGoto_ret]
   go_ret2
   exact ⟨Zck HP.out R1.out.le R1.out.cur,R1.out.gr⟩
 | true =>
   have HO:Hid _:=Zgk h40
   go_enter Tryz.func186,Tryz.ntmps186
   go_wp2
   go_step3
   go_wp2_with (go_at_call 187;refine (HS.out _ _ _ _ _ H0).mono ?_;rintro e w1 ⟨rfl,R1⟩;rw [h40,if_pos rfl] at R1)
   go_step3
   go_wp2
   clear H0
   go_loopg [4] (s.size - pl) (fun g v wr=>∃ q ts,q+g=s.size+1∧Hid (Ra W b s q v ts wr)∧Hid (Z7 (s.data.toList.drop pl)=(raf (s.data.toList.drop q)).map (fun p=>(ts++p.1,p.2))))
   case atStart=>exact ⟨pl+1,[],by have:=R1.out.le;omega,R1,by rw [Hid,HO.out];cases raf (s.data.toList.drop (pl+1)) <;> rfl⟩
   case round =>
    clear R1 HO h40
    obtain ⟨q,ts,hg,hR,hA⟩:=hrel
    have hle:=hR.out.le
    have BAD:Hid (nxt s q 41=false→Zy (s.data.toList.drop q)=none→Z7 (s.data.toList.drop pl)=none):=by
     intro h1 h2
     rw [hA.out]
     by_cases hlt:q<s.size
     ·rw [Qa s q 41 hlt] at h1
      simp at h1
      rw [Zl s q hlt] at h2 ⊢
      rw [Zjx h1 h2];rfl
     ·rw [Y9 s q (by omega),Zjv];rfl
    cases h41:nxt s q 41 with
    | true =>
      have hlt:=Ql h41
      have HP:Hid (Z7 (s.data.toList.drop pl)=some (ts,s.data.toList.drop (q+1))):=by
       have h1:=h41
       rw [Qa s q 41 hlt] at h1
       simp at h1
       rw [Hid,hA.out,Zl s q hlt,h1,Zjw]
       simp
      have HQ:Hid (q+1=s.size - (s.data.toList.drop (q+1)).length):=by rw [Hid,List.length_drop,HSZ.out];omega
      clear hA BAD HT
      go_wp2_with (go_at_call 187;refine (HS.out _ _ _ _ _ hR).mono ?_;rintro e w1 ⟨rfl,R1⟩;rw [h41,if_pos rfl] at R1)
      try rw [Exit.noGoto_ret]
      go_ret2
      exact ⟨Ziz HP.out HQ.out R1.out.own R1.out.cur,R1.out.gr⟩
    | false =>
      cases hr:Zy (s.data.toList.drop q) with
      | none =>
        have HP:Hid _:=BAD.out h41 hr
        have HT':Hid (∀ v w,Hid (Ra W b s q v ts w)→Calls Tryz.prog 188 #[.pointer (some ⟨b,0,none⟩)] w fun e w'=>e=.returned (.tuple #[.agg #[.int .i64 0,.string ⟨#[]⟩],.bool false])∧Hid (∃ q',q'≤s.size∧Cur w' b s q'∧W.grownBy w' (some b))):=fun v w h =>
         (HT q v ts w h).mono fun e w' ⟨hp,hgr⟩=>by
          unfold Yc at hp
          rw [hr] at hp
          obtain ⟨he,q',hq',hc'⟩:=hp
          exact ⟨he,q',hq',hc',grownBy_trans h.out.gr hgr (fun _ e=>.inl e)⟩
        clear hA BAD HT hr
        go_wp2_with (first
         | (go_at_call 187;refine (HS.out _ _ _ _ _ hR).mono ?_;rintro e w1 ⟨rfl,R1⟩;rw [h41,if_neg Bool.false_ne_true] at R1)
         | (go_at_call 188;refine (HT'.out _ _ R1).mono ?_;rintro e w2 ⟨rfl,R2⟩))
        try rw [Exit.noGoto_ret]
        go_ret2
        obtain ⟨q',hq',hc',hg'⟩:=R2.out
        exact ⟨Zck HP.out hq' (hc'.keep ((Below.refl _ _).alloc (Nat.le_refl _) _)),grownBy_trans hg' (grownBy_below ((Below.refl _ _).alloc (Nat.le_refl _) _) (r:=some b)) (fun _ e=>.inl e)⟩
      | some p =>
        obtain ⟨⟨k,nm⟩,r⟩:=p
        obtain ⟨hrd,hrq,hrl⟩:=Jk hr
        rw [HSZ.out] at hrd hrq hrl
        have HA:Hid (Z7 (s.data.toList.drop pl)=(raf (s.data.toList.drop (s.size - r.length))).map (fun p=>((ts++[(k,nm)])++p.1,p.2))):=by
         have hlt:q<s.size:=by omega
         have h1:=h41
         rw [Qa s q 41 hlt] at h1
         simp at h1
         have h2:=hr
         rw [Zl s q hlt] at h2
         rw [Hid,hA.out,Zl s q hlt,Zgx h1 h2,← hrd]
         cases raf r <;> simp
        have HT':Hid (∀ v w,Hid (Ra W b s q v ts w)→Calls Tryz.prog 188 #[.pointer (some ⟨b,0,none⟩)] w fun e w'=>e=.returned (.tuple #[.agg #[.int .i64 k,.string ⟨nm.toArray⟩],.bool true])∧Hid (Ra W b s (s.size - r.length) v ts w')):=fun v w h =>
         (HT q v ts w h).mono fun e w' ⟨hp,hgr⟩=>by
          unfold Yc at hp
          rw [hr] at hp
          exact ⟨hp.1,h.out.step hp.2 hgr (by omega) (by omega)⟩
        have htl:=hR.out.tl
        have hWs:=hR.out.gr.size
        obtain ⟨z,hz⟩:∃ z,s.size - r.length=z:=⟨_,rfl⟩
        rw [hz] at HA HT' hrq
        have hzs:z≤s.size:=by omega
        clear hA BAD HT hr hrd hrl hz
        go_wp2_with (first
         | (go_at_call 187;refine (HS.out _ _ _ _ _ hR).mono ?_;rintro e w1 ⟨rfl,R1⟩;rw [h41,if_neg Bool.false_ne_true] at R1)
         | (go_at_call 188;refine (HT'.out _ _ R1).mono ?_;rintro e w2 ⟨rfl,R2⟩;have hW2:=R2.out.gr.size)
         | (at_builtin;refine wpList_append_own _ rfl _ _ 32 rfl W.heap.size 40 i24 (.agg #[.int .i64 0,.string ⟨#[]⟩]) 2 24 Tryz.underlying32 hi24 hz0 hz1 hz2 rfl (by decide) _ _ _ rfl ((R2.out.own.alloc _).alloc _) ⟨w2.heap.size+1,0,none⟩ 1 1 [.int .i64 k,.string ⟨nm.toArray⟩] rfl rfl ?c1 ?c2 ?c3 ?c4 ?c5 ?_))
        case c1=>exact Zcp w2 _ _ _ _
        case c2=>intro u hu;simp at hu;rcases hu with rfl|rfl <;> rfl
        case c3=>unfold maxLen;omega
        case c4=>omega
        case c5=>simp;omega
        ·intro v' w3 hown' hgrow _
         have R3:Hid (Ra W b s z v' (ts++[(k,nm)]) w3):=Ra.app _ _ R2.out (by omega) hown' hgrow
         clear hown' hgrow R2 R1 hR
         go_wp2
         go_roundg (s.size+1 - z)
         case measure=>omega
         case rel=>exact ⟨z,ts++[(k,nm)],by omega,R3,HA⟩
end Go.Proofs.YtlnojhhddinjkaaGreat
