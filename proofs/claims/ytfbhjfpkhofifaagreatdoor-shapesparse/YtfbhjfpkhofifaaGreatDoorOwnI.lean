import Derived.Test.YtfbhjfpkhofifaaGreatDoorOwnS
set_option maxHeartbeats 4000000
namespace Go.Proofs.YtfbhjfpkhofifaaGreatDoor
open Go.RowKit Go.Lib
set_option maxRecDepth 1000000 in
theorem Zom (s:ByteArray) (w:World) (h8:8<s.size) (hs:s.size≤9223372036854775807) :
 Calls Tryz.prog 210 #[.string s,.string ⟨#[58,46]⟩] w fun e w'=>e=.returned (.int .i64 (Lib.indexAny s.data.toList [58,46]))∧Bw w w':=by
 have hv:∀ w,(zeroValue 246).run Tryz.prog w=.ok (.agg (Array.replicate 256 (.bool false))) w:=(zero_of_info (n:=256) (by kernel_rfl)).1;have hM:=Tryz.strings_makeASCIISet hv ⟨#[58,46]⟩ w (by decide) (by intro j b h;have hb:b∈([58,46]:List UInt8):=List.mem_of_getElem? h;simp at hb;rcases hb with rfl|rfl <;> decide);have h8z:decide ((8:Int)<(s.size:Int))=true:=decide_eq_true (by omega);have hi116:(Tryz.prog.info? 246).map (·.size)=some 256:=by kernel_rfl
 obtain ⟨SC,hSC⟩:∃ SC,SC=Lib.setCells [58,46]:=⟨_,rfl⟩;have hzc:Tryz.zeroCells246=Array.replicate 256 (.bool false):=by kernel_rfl
 have hsc:(storeCells ⟨w.heap.size+1,0,none⟩ SC.toList 0).run Tryz.prog ((w.alloc (.cells SC 246)).alloc (.cells Tryz.zeroCells246 246))=.ok () ((w.alloc (.cells SC 246)).alloc (.cells SC 246)):=by
  rw [hzc];have:=run_storeCells_new (P:=Tryz.prog) (w.alloc (.cells SC 246)) 246 (Array.replicate 256 (.bool false)) SC (by rw [hSC,Lib.setCells_size];exact hi116) (by rw [hSC,Lib.setCells_size,Array.size_replicate]) (by rw [hSC];exact Lib.setCells_one _)
  simpa using this
 have hsz:SC.size=256:=by rw [hSC];exact Lib.setCells_size _
 have HC:Hid (∀ x:UInt8,((w.alloc (.cells SC 246)).alloc (.cells SC 246)).cell? ⟨w.heap.size+1,x.toNat,none⟩=some (.bool (([58,46]:List UInt8).contains x))):=fun x=>by
  rw [World.cell?_alloc_at _ _ _ _ (by simp),hSC,Lib.setCells_at]
 rw [show (⟨#[58,46]⟩:ByteArray).data.toList=[58,46] from rfl,← hSC] at hM;have HB:Hid (Bw w ((w.alloc (.cells SC 246)).alloc (.cells SC 246))):=((Below.refl _ _).alloc (Nat.le_refl _) _).alloc (by simp) _;clear hSC hi116 hzc hv;go_enter Tryz.func210,Tryz.ntmps210;go_wp2_with (first
  | (go_at_call 215;refine (Tryz.strings_shouldUseASCIISet _ _).mono ?_;rintro e w' ⟨rfl,hw⟩;rw [hw,h8z])
  | (go_at_call 216;refine hM.mono ?_;rintro e w' ⟨rfl,hw⟩;rw [hw]))
 clear hM hsc
 go_loopg [8] s.size (fun g s8 wx=>∃ i:Nat,i+g=s.size∧s8=.int .i64 i∧wx=((w.alloc (.cells SC 246)).alloc (.cells SC 246))∧Lib.NoAny s.data.toList [58,46] i)
 case atStart=>exact ⟨0,by omega,rfl,rfl,Lib.NoAny.zero _ _⟩
 case round =>
  obtain ⟨i,hig,rfl,rfl,hno⟩:=hrel;have HN:Hid (Lib.NoAny s.data.toList [58,46] i):=hno;clear hno
  cases gk with
  | zero =>
    obtain rfl:i=s.size:=by omega
    have hiz:¬ ((s.size:Int)<(s.size:Int)):=by omega
    go_wp2;go_ret
    exact ⟨by rw [Lib.indexAny_none (by rw [← Lib.size_eq];exact HN.out)];rfl,HB.out⟩
  | succ g =>
    have hi:i<s.size:=by omega
    have hiz:(i:Int)<(s.size:Int):=by omega
    obtain ⟨x,hx⟩:∃ x:UInt8,s[i]'hi=x:=⟨_,rfl⟩;have hxl:s.data.toList[i]?=some x:=by rw [← hx];exact Lib.data_getElem? s i hi
    have Hx:Hid (s.data.toList[i]?=some x):=hxl;clear hxl;have hcx:=HC.out x
    cases hin:([58,46]:List UInt8).contains x <;> rw [hin] at hcx
    ·have HN2:Hid (Lib.NoAny s.data.toList [58,46] (i+1)):=HN.out.succ Hx.out hin;clear hin;go_wp2_with (go_at_call 217;refine (Tryz.asciiSet_contains _ x _ _ hcx).mono ?_;rintro e w' ⟨rfl,hw⟩;rw [hw])
     go_roundg g
     case measure=>omega
     case rel=>exact ⟨i+1,by omega,by first|rfl|simp,rfl,HN2.out⟩
    ·have HH:Hid (Lib.indexAny s.data.toList [58,46]=i):=Lib.indexAny_hit HN.out Hx.out hin;clear hin;go_wp2_with (go_at_call 217;refine (Tryz.asciiSet_contains _ x _ _ hcx).mono ?_;rintro e w' ⟨rfl,hw⟩;rw [hw])
     go_ret
     exact ⟨by rw [HH.out];rfl,HB.out⟩
theorem Zdx (r:Int) (w:World):(convert 21 9 (.int .i32 r)).run Tryz.prog w=.ok (.string (Utf8.encode r)) w:=by
 simp [convert,run_underlying Tryz.underlying21,run_underlying Tryz.underlying9,go_sem,Conv.intToString]
set_option maxRecDepth 1000000 in
theorem Zj5 (r:Int) (x y z:UInt8) (h:128≤r) (h3:(r == 65533)=false) (hE:Utf8.encode r=⟨#[x,y,z]⟩) (HV:∀ w,Calls Tryz.prog 221 #[.int .i32 r] w fun e w'=>e=.returned (.bool true)∧w'=w) (w:World) :
 Calls Tryz.prog 214 #[.string ⟨#[58,46]⟩,.int .i32 r] w fun e w'=>e=.returned (.int .i64 (-1))∧Bw w w':=by
 have HV:Hid (∀ w:World,_):=HV;have hcv:∀ w,(convert 21 9 (.int .i32 r)).run Tryz.prog w=.ok (.string ⟨#[x,y,z]⟩) w:=fun w=>by rw [Zdx,hE]
 have h1:¬ r<128:=by omega
 have h2:0≤r:=by omega
 clear hE;go_enter Tryz.func214,Tryz.ntmps214;go_wp2_with (go_at_call 221;refine (HV.out _).mono ?_;rintro e w1 ⟨rfl,hw1⟩;rw [hw1];clear hw1)
 go_step3
 go_wp2
 go_loopg [9] 1 (fun _ iv wx=>iv=.int .i64 2∧wx=w)
 case atStart=>exact ⟨rfl,rfl⟩
 case round =>
  obtain ⟨rfl,rfl⟩:=hrel;go_wp2
  try rw [Exit.noGoto_ret]
  go_ret
  exact ⟨rfl,Below.refl _ _⟩
set_option maxRecDepth 1000000 in
theorem Zmk (r:Int) (x y z u:UInt8) (h:128≤r) (h3:(r == 65533)=false) (hE:Utf8.encode r=⟨#[x,y,z,u]⟩) (HV:∀ w,Calls Tryz.prog 221 #[.int .i32 r] w fun e w'=>e=.returned (.bool true)∧w'=w) (w:World) :
 Calls Tryz.prog 214 #[.string ⟨#[58,46]⟩,.int .i32 r] w fun e w'=>e=.returned (.int .i64 (-1))∧Bw w w':=by
 have HV:Hid (∀ w:World,_):=HV;have hcv:∀ w,(convert 21 9 (.int .i32 r)).run Tryz.prog w=.ok (.string ⟨#[x,y,z,u]⟩) w:=fun w=>by rw [Zdx,hE]
 have h1:¬ r<128:=by omega
 have h2:0≤r:=by omega
 clear hE;go_enter Tryz.func214,Tryz.ntmps214;go_wp2_with (go_at_call 221;refine (HV.out _).mono ?_;rintro e w1 ⟨rfl,hw1⟩;rw [hw1];clear hw1)
 go_step3
 go_wp2
 go_loopg [9] 1 (fun _ iv wx=>iv=.int .i64 3∧wx=w)
 case atStart=>exact ⟨rfl,rfl⟩
 case round =>
  obtain ⟨rfl,rfl⟩:=hrel;go_wp2
  try rw [Exit.noGoto_ret]
  go_ret
  exact ⟨rfl,Below.refl _ _⟩
set_option maxRecDepth 1000000 in
theorem Zoj (r:Int) (x y:UInt8) (hy:128≤y.toNat) (h:128≤r) (h3:(r == 65533)=false) (hE:Utf8.encode r=⟨#[x,y]⟩) (HV:∀ w,Calls Tryz.prog 221 #[.int .i32 r] w fun e w'=>e=.returned (.bool true)∧w'=w) (w:World) :
 Calls Tryz.prog 214 #[.string ⟨#[58,46]⟩,.int .i32 r] w fun e w'=>e=.returned (.int .i64 (-1))∧Bw w w':=by
 have HV:Hid (∀ w:World,_):=HV;have hcv:∀ w,(convert 21 9 (.int .i32 r)).run Tryz.prog w=.ok (.string ⟨#[x,y]⟩) w:=fun w=>by rw [Zdx,hE]
 have h1:¬ r<128:=by omega
 have h2:0≤r:=by omega
 have HB:Hid (∀ w,Calls Tryz.prog 220 #[.string ⟨#[]⟩,.int .u8 (y.toNat:Int)] w fun e w'=>e=.returned (.int .i64 (-1))∧w'=w):=fun w=>Tryz.strings_IndexByte ⟨#[]⟩ (y.toNat:Int) w;have hyn:((46:Int) != (y.toNat:Int))=true:=by rw [bne_iff_ne];omega
 have hb1:(⟨#[58,46]⟩:ByteArray)[1]'(by decide)=46:=rfl;have hb2:(⟨#[x,y]⟩:ByteArray)[1]'(by show 1<2;decide)=y:=rfl;have hyn2:((((⟨#[58,46]⟩:ByteArray)[1]'(by decide)).toNat:Int) != (((⟨#[x,y]⟩:ByteArray)[1]'(by show 1<2;decide)).toNat:Int))=true:=hyn;clear hE hy;go_enter Tryz.func214,Tryz.ntmps214;go_wp2_with (go_at_call 221;refine (HV.out _).mono ?_;rintro e w1 ⟨rfl,hw1⟩;rw [hw1];clear hw1)
 go_step3
 go_wp2
 go_loopg [9] 1 (fun _ iv wx=>iv=.int .i64 1∧wx=w)
 case atStart=>exact ⟨rfl,rfl⟩
 case round =>
  obtain ⟨rfl,rfl⟩:=hrel;go_wp2
  go_step3
  go_wp2
  go_region
  go_wp2
  go_region_with (go_at_call 220;refine (HB.out _).mono ?_;rintro e w2 ⟨rfl,hw2⟩;rw [hw2];clear hw2)
  go_wp2
  all_goals (try rw [Exit.noGoto_ret])
  all_goals go_wp2
  all_goals (try rw [Exit.noGoto_ret])
  all_goals go_ret
  all_goals exact ⟨rfl,((Below.refl _ _).drew).drew⟩
set_option maxRecDepth 1000000 in
theorem Zol (r:Int) (h:128≤r) (h3:(r == 65533)=false) (HV:∀ w,Calls Tryz.prog 221 #[.int .i32 r] w fun e w'=>e=.returned (.bool false)∧w'=w) (w:World) :
 Calls Tryz.prog 214 #[.string ⟨#[58,46]⟩,.int .i32 r] w fun e w'=>e=.returned (.int .i64 (-1))∧Bw w w':=by
 have HV:Hid (∀ w:World,_):=HV;have h1:¬ r<128:=by omega
 have h2:0≤r:=by omega
 go_enter Tryz.func214,Tryz.ntmps214;go_wp2_with (go_at_call 221;refine (HV.out _).mono ?_;rintro e w1 ⟨rfl,hw1⟩;rw [hw1];clear hw1)
 all_goals (try rw [Exit.noGoto_ret])
 go_ret
 exact ⟨rfl,Below.refl _ _⟩
set_option maxRecDepth 1000000 in
theorem Zok (w:World) :
 Calls Tryz.prog 214 #[.string ⟨#[58,46]⟩,.int .i32 65533] w fun e w'=>e=.returned (.int .i64 (-1))∧Bw w w':=by
 go_enter Tryz.func214,Tryz.ntmps214;go_wp2
 go_loopg [5,6] 2 (fun g _ _ wx=>∃ i:Nat,i+g=2∧wx=w.iter ⟨#[58,46]⟩ i)
 case atStart=>exact ⟨0,by omega,rfl⟩
 case round =>
  obtain ⟨i,hig,rfl⟩:=hrel
  cases gk with
  | zero =>
    obtain rfl:i=2:=by omega
    have hnx:∀ ty,_:=fun ty=>run_next_end (P:=Tryz.prog) w ⟨#[58,46]⟩ 2 ty (by decide);go_wp2
    all_goals (try rw [Exit.noGoto_ret])
    go_ret
    exact ⟨rfl,(Below.refl _ _).alloc (Nat.le_refl _) _⟩
  | succ g =>
    have hi:i<(⟨#[58,46]⟩:ByteArray).size:=by show i<2;omega
    obtain ⟨x,hx⟩:∃ x:UInt8,(⟨#[58,46]⟩:ByteArray)[i]'hi=x:=⟨_,rfl⟩;have hxn:x.toNat<128:=by
     have h01:i=0∨i=1:=by omega
     rcases h01 with rfl|rfl
     ·rw [← hx];show (58:UInt8).toNat<128;decide
     ·rw [← hx];show (46:UInt8).toNat<128;decide
    have hnx:=fun ty=>run_next_ascii (P:=Tryz.prog) w ⟨#[58,46]⟩ i ty hi (by rw [hx];exact hxn);rw [hx] at hnx;have hne:((x.toNat:Int) == 65533)=false:=by rw [beq_eq_false_iff_ne];omega
    clear hx;go_wp2
    go_roundg g
    case measure=>omega
    case rel=>exact ⟨i+1,by omega,rfl⟩
theorem Zmj (r:Int) (h:128≤r) (hr:r≤1114111) (w:World) :
 Calls Tryz.prog 214 #[.string ⟨#[58,46]⟩,.int .i32 r] w fun e w'=>e=.returned (.int .i64 (-1))∧Bw w w':=by
 by_cases he:r=65533
 ·subst he;exact Zok w
 ·have h3:(r == 65533)=false:=by rw [beq_eq_false_iff_ne];exact he
  have HV:=Tryz.utf8_ValidRune r
  cases hv:Lib.validRune r with
  | false=>rw [hv] at HV;exact Zol r h h3 HV w
  | true =>
    rw [hv] at HV;have hval:Utf8.valid r=true:=by
     simp only [Lib.validRune,decide_eq_true_eq] at hv;simp only [Utf8.valid,Bool.or_eq_true,Bool.and_eq_true,decide_eq_true_eq];omega
    have hc:(if Utf8.valid r then r.toNat else Utf8.runeError)=r.toNat:=by rw [hval];rfl
    have hE:Utf8.encode r=if r.toNat<0x80 then ⟨#[UInt8.ofNat r.toNat]⟩
     else if r.toNat<0x800 then ⟨#[UInt8.ofNat (0xC0+r.toNat / 64),UInt8.ofNat (0x80+r.toNat % 64)]⟩
     else if r.toNat<0x10000 then ⟨#[UInt8.ofNat (0xE0+r.toNat / 4096),UInt8.ofNat (0x80+r.toNat / 64 % 64),UInt8.ofNat (0x80+r.toNat % 64)]⟩
     else ⟨#[UInt8.ofNat (0xF0+r.toNat / 262144),UInt8.ofNat (0x80+r.toNat / 4096 % 64),UInt8.ofNat (0x80+r.toNat / 64 % 64),UInt8.ofNat (0x80+r.toNat % 64)]⟩:=by
     unfold Utf8.encode;simp only [hc]
    rw [if_neg (by omega)] at hE;by_cases h1:r.toNat<0x800
    ·rw [if_pos h1] at hE;refine Zoj r _ _ ?_ h h3 hE HV w;rw [UInt8.toNat_ofNat'];omega
    ·rw [if_neg h1] at hE;by_cases h2:r.toNat<0x10000
     ·rw [if_pos h2] at hE;exact Zj5 r _ _ _ h h3 hE HV w
     ·rw [if_neg h2] at hE;exact Zmk r _ _ _ _ h h3 hE HV w
theorem Zh0 (s:ByteArray) (pos:Nat) (hp:pos<s.size) (ha:128≤(s[pos]'hp).toNat) :
 (Utf8.decode s pos).1≤1114111∧pos+(Utf8.decode s pos).2≤s.size∧∀ j,j<(Utf8.decode s pos).2→128≤(s.get! (pos+j)).toNat:=by
 have h0:s.get! (pos+0)=s[pos]'hp:=by simp [ByteArray.get!,ByteArray.getElem_eq_getElem_data,getElem!_pos,hp]
 have hc:∀ k,(decide (pos+k<s.size)&&((s.get! (pos+k)).toNat / 64 == 2))=true→pos+k<s.size∧128≤(s.get! (pos+k)).toNat:=fun k h=>by
  simp only [Bool.and_eq_true,decide_eq_true_eq,beq_iff_eq] at h;omega
 have hb:(s.get! (pos+0)).toNat<256:=UInt8.toNat_lt _;rw [← h0] at ha;have one:∀ j,j<1→128≤(s.get! (pos+j)).toNat:=fun j hj=>by
  have:j=0:=by omega
  subst this;exact ha
 unfold Utf8.decode;simp only;rw [if_neg (by omega)]
 split
 ·rename_i h1
  rw [Bool.and_eq_true] at h1;obtain ⟨k1,k2⟩:=hc 1 h1.2
  split
  ·refine ⟨?_,by omega,fun j hj=>?_⟩
   ·have:=UInt8.toNat_lt (s.get! (pos+1));simp only;omega
   ·have:j=0∨j=1:=by simp only at hj;omega
    rcases this with rfl|rfl
    ·exact ha
    ·exact k2
  ·exact ⟨by show Utf8.runeError≤_;decide,by omega,one⟩
 ·split
  ·rename_i h1
   simp only [Bool.and_eq_true] at h1;obtain ⟨k1,k2⟩:=hc 1 (by simpa using h1.1.2);obtain ⟨l1,l2⟩:=hc 2 (by simpa using h1.2)
   split
   ·refine ⟨?_,by omega,fun j hj=>?_⟩
    ·simp only;omega
    ·have:j=0∨j=1∨j=2:=by simp only at hj;omega
     rcases this with rfl|rfl|rfl
     ·exact ha
     ·exact k2
     ·exact l2
   ·exact ⟨by show Utf8.runeError≤_;decide,by omega,one⟩
  ·split
   ·rename_i h1
    simp only [Bool.and_eq_true] at h1;obtain ⟨k1,k2⟩:=hc 1 (by simpa using h1.1.1.2);obtain ⟨l1,l2⟩:=hc 2 (by simpa using h1.1.2);obtain ⟨m1,m2⟩:=hc 3 (by simpa using h1.2)
    split
    ·rename_i hv
     refine ⟨?_,by omega,fun j hj=>?_⟩
     ·simp only [Bool.and_eq_true,Utf8.valid,Bool.or_eq_true,decide_eq_true_eq] at hv;simp only;omega
     ·have:j=0∨j=1∨j=2∨j=3:=by simp only at hj;omega
      rcases this with rfl|rfl|rfl|rfl
      ·exact ha
      ·exact k2
      ·exact l2
      ·exact m2
    ·exact ⟨by show Utf8.runeError≤_;decide,by omega,one⟩
   ·exact ⟨by show Utf8.runeError≤_;decide,by omega,one⟩
theorem get_at (s:ByteArray) (j:Nat) (b:UInt8) (h:s.data.toList[j]?=some b):s.get! j=b:=by
 obtain ⟨h1,h2⟩:=List.getElem?_eq_some_iff.1 h;have hj:j<s.size:=by simpa using h1
 have:s.get! j=s[j]'hj:=by simp [ByteArray.get!,ByteArray.getElem_eq_getElem_data,getElem!_pos,hj]
 rw [this,← h2];simp [ByteArray.getElem_eq_getElem_data]
set_option maxRecDepth 1000000 in
theorem Zml (s:ByteArray) (h8:s.size≤8) (w:World) :
 Calls Tryz.prog 210 #[.string s,.string ⟨#[58,46]⟩] w fun e w'=>e=.returned (.int .i64 (Lib.indexAny s.data.toList [58,46]))∧Bw w w':=by
 have h8z:decide ((8:Int)<(s.size:Int))=false:=decide_eq_false (by omega);have hlen:s.data.toList.length=s.size:=by simp
 go_enter Tryz.func210,Tryz.ntmps210;go_wp2_with (go_at_call 215;refine (Tryz.strings_shouldUseASCIISet _ _).mono ?_;rintro e w' ⟨rfl,hw⟩;rw [hw,h8z];clear hw)
 go_loopg [9,10] s.size (fun g _ _ wx=>∃ i:Nat,s.size≤i+g∧i≤s.size∧Hid (wx.heap[w.heap.size]?=some (.stringIter s i))∧Hid (Bw w wx)∧Hid (Lib.NoAny s.data.toList [58,46] i))
 case atStart=>exact ⟨0,by omega,by omega,World.iter_heap w s 0,(Below.refl _ _).alloc (Nat.le_refl _) _,Lib.NoAny.zero _ _⟩
 case round =>
  obtain ⟨i,hig,his,hit,hbw,HN⟩:=hrel;by_cases hp:i<s.size
  ·obtain ⟨g,rfl⟩:∃ g,gk=g+1:=⟨gk - 1,by omega⟩;have hnx:∀ ty,(Instr.next (.pointer (some ⟨w.heap.size,0,none⟩)) true ty).run Tryz.prog wr=_:=fun ty=>Lib.run_next_any_at wr w.heap.size s i ty hit.out hp;have hit2:Hid ((wr.iterAt w.heap.size s (i+(Utf8.decode s i).2)).heap[w.heap.size]?=some (.stringIter s (i+(Utf8.decode s i).2))):=Lib.iterAt_heap wr w.heap.size s i (i+(Utf8.decode s i).2) hit.out;have hbw2:Hid (Bw w (wr.iterAt w.heap.size s (i+(Utf8.decode s i).2))):=Lib.below_iterAt hbw.out (k:=w.heap.size) (by omega) s (i+(Utf8.decode s i).2);have hsz2:Hid (w.heap.size<(wr.iterAt w.heap.size s (i+(Utf8.decode s i).2)).heap.size):=by
    rw [Hid,Lib.iterAt_size];exact (Array.getElem?_eq_some_iff.1 hit.out).1
   by_cases ha:(s[i]'hp).toNat<128
   ·have hd:Utf8.decode s i=((s[i]'hp).toNat,1):=decode_ascii s i hp ha;rw [hd] at hnx hit2 hbw2 hsz2;obtain ⟨x,hx⟩:∃ x:UInt8,s[i]'hp=x:=⟨_,rfl⟩;have hxl:s.data.toList[i]?=some x:=by rw [← hx];exact Lib.data_getElem? s i hp
    simp only [hx] at hnx ha;have HR:Hid (∀ w,Calls Tryz.prog 214 #[.string ⟨#[58,46]⟩,.int .i32 (x.toNat:Int)] w fun e w'=>e=.returned (.int .i64 (Lib.indexByte [58,46] x))∧w'=w):=fun w=>by
     have:=Tryz.strings_IndexRune_ascii ⟨#[58,46]⟩ (x.toNat:Int) w (by omega) (by omega);rw [show ((x.toNat:Int)).toNat.toUInt8=x by simp] at this;exact this
    have hcon:decide ((0:Int)≤Lib.indexByte [58,46] x)=([58,46]:List UInt8).contains x:=(Lib.contains_iff_indexByte [58,46] x).symm;generalize Lib.indexByte [58,46] x=ix at *
    cases hin:([58,46]:List UInt8).contains x
    ·rw [hin] at hcon;have hlt:¬ ((0:Int)≤ix):=of_decide_eq_false hcon;have HN2:Hid (Lib.NoAny s.data.toList [58,46] (i+1)):=HN.out.succ hxl hin;clear hcon hin hxl HN hd hx hit hbw;go_wp2_with (go_at_call 214;refine (HR.out _).mono ?_;rintro e w' ⟨rfl,hw⟩;rw [hw];clear hw)
     go_roundg g
     case measure=>omega
     case rel=>exact ⟨i+1,by omega,by omega,hit2,hbw2,HN2⟩
    ·rw [hin] at hcon;have hge:(0:Int)≤ix:=of_decide_eq_true hcon;have HH:Hid (Lib.indexAny s.data.toList [58,46]=i):=Lib.indexAny_hit HN.out hxl hin;clear hcon hin hxl HN hd hx hit hbw;go_wp2_with (go_at_call 214;refine (HR.out _).mono ?_;rintro e w' ⟨rfl,hw⟩;rw [hw];clear hw)
     go_ret
     exact ⟨by rw [HH.out];rfl,hbw2.out⟩
   ·obtain ⟨d1,d2,d3⟩:=Zh0 s i hp (by omega);obtain ⟨d4,d5⟩:=decode_high s i hp (by omega);obtain ⟨rn,hrn⟩:∃ rn:Int,rn=((Utf8.decode s i).1:Int):=⟨_,rfl⟩;have HR:Hid (∀ w,_):=Zmj rn (by omega) (by omega);have HN2:Hid (Lib.NoAny s.data.toList [58,46] (i+(Utf8.decode s i).2)):=fun j b hj hb=>by
     by_cases hji:j<i
     ·exact HN.out j b hji hb
     ·have h3:=d3 (j - i) (by omega);rw [show i+(j - i)=j by omega,get_at s j b hb] at h3;have:b≠58∧b≠46:=⟨fun e=>by rw [e] at h3;exact absurd h3 (by decide),fun e=>by rw [e] at h3;exact absurd h3 (by decide)⟩;simp [this.1,this.2]
    rw [← hrn] at hnx;generalize (Utf8.decode s i).2=wd at *;clear hrn d1 d3 d4 HN hit hbw ha;go_wp2_with (go_at_call 214;refine (HR.out _).mono ?_;rintro e w2 ⟨rfl,hb2⟩;have hb3:Hid (Bw w w2):=hbw2.out.trans (hb2.mono (Nat.le_of_lt hsz2.out));have hit3:Hid (w2.heap[w.heap.size]?=some (.stringIter s (i+wd))):=(hb2.block _ hsz2.out).trans hit2.out;clear hb2)
    go_roundg g
    case measure=>omega
    case rel=>exact ⟨i+wd,by omega,by omega,hit3,hb3,HN2⟩
  ·obtain rfl:i=s.size:=by omega
   have hnx:∀ ty,(Instr.next (.pointer (some ⟨w.heap.size,0,none⟩)) true ty).run Tryz.prog wr=_:=fun ty=>Lib.run_next_end_at wr w.heap.size s s.size ty hit.out hp;have HH:Hid (Lib.indexAny s.data.toList [58,46]=-1):=Lib.indexAny_none (by rw [hlen];exact HN.out);clear HN hit;go_wp2;go_ret
   exact ⟨by rw [HH.out];rfl,hbw.out⟩
theorem iAny_any (s:ByteArray) (hs:s.size≤maxLen) (w:World) :
 Calls Tryz.prog 210 #[.string s,.string ⟨#[58,46]⟩] w fun e w'=>e=.returned (.int .i64 (Lib.indexAny s.data.toList [58,46]))∧Bw w w':=by
 by_cases h8:s.size≤8
 ·exact Zml s h8 w
 ·exact Zom s w (by omega) (by unfold maxLen at hs;omega)
theorem Zco (s:ByteArray) (hs:s.size≤maxLen) (w:World):Calls Tryz.prog 204 #[.string s] w fun e w'=>e=.returned (Zd3 s.data.toList)∧Bw w w' :=
 Zdi s hs (iAny_any s hs) w
end Go.Proofs.YtfbhjfpkhofifaaGreatDoor
