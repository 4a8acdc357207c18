import Derived.Test.YtfnmmpkhopochaaGreatHpI
import Derived.Test.YtfnmmpkhopochaaGreatFOwnA
import Derived.Test.YtfnmmpkhopochaaGreatTyC
import Derived.Test.YtfnmmpkhopochaaGreatSoD
import Derived.Laws.EntriesVeiled
import Derived.Deep.RegionHeld3
import Derived.Deep.LoopGhost
set_option maxRecDepth 100000
namespace Go.Proofs.YtfnmmpkhopochaaGreat
open Go.RowKit Go.Maps
theorem filP_one (nm:ByteArray) (d:Int) (c n:Nat):filP nm d [c] n=[(d,nm,List.replicate c 0)]:=by
  have e:∀ c:Nat,(List.range c).flatMap (fun _:Nat=>([]:List PO))=[]:=fun c=>by simp
  rw [filP]
  simp only [filP,if_pos]
  rw [e]
  congr 3
  apply List.ext_getElem?
  intro k
  by_cases h:k<c <;> simp [h]
theorem snd_step {k:Nat} {l:List UInt8} (h:sndB ((k:Int)+1) l=true):sndB (k:Int) l=true:=by
  unfold sndB at h ⊢
  simp only [Bool.and_eq_true,decide_eq_true_eq] at h ⊢
  exact ⟨⟨by omega,by omega⟩,h.2⟩
theorem arr_c (nm:ByteArray) (hz:nm.size≤maxLen) (hb b fb ab:Nat):∀ (cs:List Nat) (c:Nat) (W:World) (S:Nat→Prop) (ov:Value) (os:List Ob) (d g o cap:Nat),HpAt W S hb b ov os→CsAt W g o (c::cs)→W.cell? ⟨fb,0,none⟩=some (.pointer (some ⟨hb,0,none⟩))→W.cell? ⟨ab,0,none⟩=some (clV fb ab)→¬ S fb→¬ S ab→¬ S g→cs.length+1≤d→sndB (d:Int) nm.data.toList=true→cs.length+1≤cap→cs.length≤1000000→os.length+szC (c::cs)≤1000→wdL os+wdC (c::cs)≤20000 →
    Calls Tryz.prog 74 #[.agg #[.int .i64 (d:Int),.string nm],.slice (some ⟨g,o,none⟩) (cs.length+1) cap,.pointer (some ⟨fb,0,none⟩),.pointer (some ⟨ab,0,none⟩)] W fun e w'=>e=.returned (.int .i64 ((os.length:Int)+1))∧∃ new,HpN S W w' hb b (os++new)∧new.map Ob.p=filP nm (d:Int) (c::cs) os.length
  | [],c,W,S,ov,os,d,g,o,cap,h,hcs,hf,ha,s1,s2,s3,hd,hsn,hcap,h9,hl,hw=>by
    simp only [szC,wdC,Nat.mul_zero,Nat.add_zero] at hl hw
    refine (arr_one (ab:=ab) h (d:Int) nm g o cap c (by omega) hf (hcs 0 c rfl) (by omega) hw).mono ?_
    rintro e w' ⟨rfl,o',h1,h2⟩
    exact ⟨rfl,[o'],h1,by rw [filP_one];simp [h2]⟩
  | c2::r,c,W,S,ov,os,d,g,o,cap,h,hcs,hf,ha,s1,s2,s3,hd,hsn,hcap,h9,hl,hw=>by
    obtain ⟨k,rfl⟩:∃ k,d=k+1:=⟨d - 1,by simp at hd;omega⟩
    have hsn':sndB ((k:Int)+1) nm.data.toList=true:=by simpa using hsn
    refine arr_many (ab:=ab) h k nm hz hsn' g o cap c (c2::r).length (c2::r) (by simp) rfl (by simp) h9 hcap hf ha (hcs 0 c rfl) s1 s2 s3 hl hw ?_
    intro w S' v os' h1 h2 h3 h4 h5 h6 h7 h8 h9'
    exact arr_c nm hz hb b fb ab r c2 w S' v os' k g (o+1) (cap - 1) h1 (hcs.drop.keep h2) h3 h4 h5 h6 h7 (by simp at hd ⊢;omega) (snd_step hsn') (by simp at hcap ⊢;omega) (by simp at h9;omega) h8 h9'
theorem room_c {W:World} {S:Nat→Prop} {hb b:Nat} {ov:Value} {os:List Ob} (h:HpAt W S hb b ov os) {g o cap:Nat} (cs:List Nat) (hN:cs.length≤1000000) (HC:CsAt W g o cs) :
    Calls Tryz.prog 73 #[.pointer (some ⟨hb,0,none⟩),.slice (some ⟨g,o,none⟩) cs.length cap] W fun e w'=>e=.returned (.bool (rmB os cs))∧Below W.heap.size W w':=by
  obtain ⟨c0,c1,c2,fz,hl⟩:=h.cells
  obtain ⟨a,c,rfl⟩:=ownv h.ow
  exact room_w cs h.n1 h.n2 rfl hN HC c1 c2
def IsAt (w:World) (g o:Nat) (xs:List Int):Prop:=∀ (i:Nat) (x:Int),xs[i]?=some x→w.cell? ⟨g,o+i,none⟩=some (.int .i64 x)
def negB (xs:List Int):Bool:=xs.any fun x=>decide (x<0)
set_option maxHeartbeats 2000000 in
theorem fill_neg {W:World} {hb g o cap n:Nat} {xs:List Int} (HN:Hid (xs.length=n)) (hn9:n≤1000000) (d:Int) (nm:ByteArray) (HX:Hid (IsAt W g o xs)) (HG:Hid (negB xs=true)) :
    Calls Tryz.prog 40 #[.pointer (some ⟨hb,0,none⟩),.agg #[.int .i64 d,.string nm],.slice (some ⟨g,o,none⟩) n cap] W fun e w'=>e=.returned (.tuple #[.int .i64 0,.int .i64 30])∧Below W.heap.size W w':=by
  go_enter Tryz.func40,Tryz.ntmps40
  go_wp2
  go_loopw [13] (fun iv wr=>∃ i:Nat,iv=.int .i64 i∧i≤n∧Hid (negB (xs.drop i)=true)∧Below W.heap.size W wr) (fun iv _=>n - (intOf iv).toNat)
  case atStart=>exact ⟨0,rfl,Nat.zero_le _,HG,((Below.refl _ _).alloc (Nat.le_refl _) _).alloc (by simp) _⟩
  case round =>
    obtain ⟨i,rfl,hi,HR,hbl⟩:=hrel
    have HBL:Hid (Below W.heap.size W wr):=hbl
    clear hbl
    by_cases hlt:i<n
    · obtain ⟨x,hx⟩:∃ x,xs[i]?=some x:=⟨_,List.getElem?_eq_getElem (by rw [HN.out];exact hlt)⟩
      have y0:=HX.out i x hx
      have y:wr.cell? ⟨g,o+i,none⟩=some (.int .i64 x):=(HBL.out.cell (p:=⟨g,o+i,none⟩) (World.block_lt_of_cell? W _ y0)).trans y0
      have hltI:(i:Int)<(n:Int):=by omega
      have HD:negB (xs.drop i)=(decide (x<0)||negB (xs.drop (i+1))):=by
        obtain ⟨h1,h2⟩:=List.getElem?_eq_some_iff.1 hx
        rw [List.drop_eq_getElem_cons h1,h2,negB,List.any_cons];rfl
      by_cases h0:x<0
      · clear y0 hx HX HD HR HN HG
        go_wp2
        go_ret2
        exact ⟨rfl,HBL.out⟩
      · have HR2:Hid (negB (xs.drop (i+1))=true):=by rw [Hid];have:=HR.out;rw [HD] at this;simpa [h0] using this
        clear y0 hx HX HD HR HN HG
        go_wp2
        go_roundw
        case rel=>exact ⟨i+1,by go_num,by omega,HR2,HBL.out⟩
        case measure=>simp [intOf];omega
    · obtain rfl:i=n:=by omega
      have:=HR.out
      rw [List.drop_eq_nil_of_le (by rw [HN.out];exact Nat.le_refl _)] at this
      cases this
def natI (cs:List Nat):List Int:=cs.map fun x:Nat=>(x:Int)
theorem natI_at {cs:List Nat} {i x:Nat} (h:cs[i]?=some x):(natI cs)[i]?=some (x:Int):=by simp [natI,h]
theorem IsAt.cs {w:World} {g o:Nat} {cs:List Nat} (h:IsAt w g o (natI cs)):CsAt w g o cs:=fun i x hx=>h i x (natI_at hx)
set_option maxHeartbeats 2000000 in
theorem fill_no {W:World} {S:Nat→Prop} {hb b:Nat} {ov:Value} {os:List Ob} (h:HpAt W S hb b ov os) {g o cap n c:Nat} {cs:List Nat} (HN:cs.length+1=n) (hn9:n≤1000000) (d:Nat) (nm:ByteArray) (HX:IsAt W g o (natI (c::cs))) (hB:rmB os (c::cs)=false) :
    Calls Tryz.prog 40 #[.pointer (some ⟨hb,0,none⟩),.agg #[.int .i64 (d:Int),.string nm],.slice (some ⟨g,o,none⟩) n cap] W fun e w'=>e=.returned (.tuple #[.int .i64 0,.int .i64 32])∧Below W.heap.size W w':=by
  obtain ⟨U,hU⟩:∃ U,U=(W.alloc (.cells #[.pointer (some ⟨hb,0,none⟩)] 26)).alloc (.cells #[.int .i64 (d:Int),.string nm] 40):=⟨_,rfl⟩
  have BU:Hid (Below W.heap.size W U):=by rw [hU];exact ((Below.refl _ _).alloc (Nat.le_refl _) _).alloc (by simp) _
  have hUs:U.heap.size=W.heap.size+2:=by rw [hU];simp
  have f0:Hid (U.heap[W.heap.size]?=some (.cells #[.pointer (some ⟨hb,0,none⟩)] 26 (0,0))):=by rw [hU];exact hkA (halloc1 _ _)
  have hgl:g<W.heap.size:=World.block_lt_of_cell? W _ (HX 0 (c:Int) rfl)
  have HR:Hid (∀ w,Below W.heap.size W w→Calls Tryz.prog 73 #[.pointer (some ⟨hb,0,none⟩),.slice (some ⟨g,o,none⟩) n cap] w fun e w'=>e=.returned (.bool (rmB os (c::cs)))∧Below w.heap.size w w'):=fun w hw=>by
    have:=room_c (h.below hw) (g:=g) (o:=o) (cap:=cap) (c::cs) (by simp;omega) ((HX.cs).keep (hw.block g hgl))
    rwa [List.length_cons,HN] at this
  have HY:Hid (∀ i,i<n→∃ x:Nat,U.cell? ⟨g,o+i,none⟩=some (.int .i64 (x:Int))):=fun i hi=>by
    obtain ⟨x,hx⟩:∃ x,(c::cs)[i]?=some x:=⟨_,List.getElem?_eq_getElem (by simp;omega)⟩
    exact ⟨x,(BU.out.cell (p:=⟨g,o+i,none⟩) hgl).trans (HX i (x:Int) (natI_at hx))⟩
  have HUE:Hid (U=(W.alloc (.cells #[.pointer (some ⟨hb,0,none⟩)] 26)).alloc (.cells #[.int .i64 (d:Int),.string nm] 40)):=hU
  rw [hB] at HR
  clear h HX hU hB HN
  go_enter Tryz.func40,Tryz.ntmps40
  go_wp2
  rw [← HUE.out]
  go_loopw [13] (fun iv wr=>∃ i:Nat,iv=.int .i64 i∧i≤n∧wr=U) (fun iv _=>n - (intOf iv).toNat)
  case atStart=>exact ⟨0,rfl,Nat.zero_le _,rfl⟩
  case round =>
    obtain ⟨i,rfl,hi,rfl⟩:=hrel
    by_cases hlt:i<n
    · obtain ⟨x,y⟩:=HY.out i hlt
      have hltI:(i:Int)<(n:Int):=by omega
      have h0:¬ (x:Int)<0:=by omega
      clear HR HY
      go_wp2
      go_roundw
      case rel=>exact ⟨i+1,by go_num,by omega,by first|rfl|trivial⟩
      case measure=>simp [intOf];omega
    · obtain rfl:i=n:=by omega
      have hltI:¬ (i:Int)<(i:Int):=by omega
      obtain ⟨z0,zf,zL⟩:=r1c f0.out
      go_wp2_with (go_at_call 73;refine (HR.out _ BU.out).mono ?_;rintro e w1 ⟨rfl,hB⟩;have B1:Hid (Below W.heap.size W w1):=bstep BU.out hB;clear hB)
      go_ret2
      exact ⟨rfl,B1.out⟩
set_option maxHeartbeats 2000000 in
theorem fill_yes {W:World} {S:Nat→Prop} {hb b:Nat} {ov:Value} {os:List Ob} (h:HpAt W S hb b ov os) {g o cap n c:Nat} {cs:List Nat} (HN:cs.length+1=n) (hn9:n≤1000000) (hcap:n≤cap) (d:Nat) (nm:ByteArray) (hz:nm.size≤maxLen) (hsn:sndB (d:Int) nm.data.toList=true) (hd:n≤d) (HX:IsAt W g o (natI (c::cs))) (hSg:¬ S g) (hB:rmB os (c::cs)=true) :
    Calls Tryz.prog 40 #[.pointer (some ⟨hb,0,none⟩),.agg #[.int .i64 (d:Int),.string nm],.slice (some ⟨g,o,none⟩) n cap] W fun e w'=>e=.returned (.tuple #[.int .i64 ((os.length:Int)+1),.int .i64 0])∧∃ new,HpN S W w' hb b (os++new)∧new.map Ob.p=filP nm (d:Int) (c::cs) os.length:=by
  obtain ⟨U,hU⟩:∃ U,U=(W.alloc (.cells #[.pointer (some ⟨hb,0,none⟩)] 26)).alloc (.cells #[.int .i64 (d:Int),.string nm] 40):=⟨_,rfl⟩
  have BU:Hid (Below W.heap.size W U):=by rw [hU];exact ((Below.refl _ _).alloc (Nat.le_refl _) _).alloc (by simp) _
  have hUs:U.heap.size=W.heap.size+2:=by rw [hU];simp
  have f0:Hid (U.heap[W.heap.size]?=some (.cells #[.pointer (some ⟨hb,0,none⟩)] 26 (0,0))):=by rw [hU];exact hkA (halloc1 _ _)
  have t0:Hid (U.heap[W.heap.size+1]?=some (.cells #[.int .i64 (d:Int),.string nm] 40 (0,0))):=by rw [hU];exact haA _ _ (by simp)
  have hgl:g<W.heap.size:=World.block_lt_of_cell? W _ (HX 0 (c:Int) rfl)
  have HR:Hid (∀ w,Below W.heap.size W w→Calls Tryz.prog 73 #[.pointer (some ⟨hb,0,none⟩),.slice (some ⟨g,o,none⟩) n cap] w fun e w'=>e=.returned (.bool (rmB os (c::cs)))∧Below w.heap.size w w'):=fun w hw=>by
    have:=room_c (h.below hw) (g:=g) (o:=o) (cap:=cap) (c::cs) (by simp;omega) ((HX.cs).keep (hw.block g hgl))
    rwa [List.length_cons,HN] at this
  have HA:Hid (∀ w ab,Below W.heap.size W w→w.cell? ⟨W.heap.size,0,none⟩=some (.pointer (some ⟨hb,0,none⟩))→w.cell? ⟨ab,0,none⟩=some (clV W.heap.size ab)→W.heap.size≤ab→Calls Tryz.prog 74 #[.agg #[.int .i64 (d:Int),.string nm],.slice (some ⟨g,o,none⟩) n cap,.pointer (some ⟨W.heap.size,0,none⟩),.pointer (some ⟨ab,0,none⟩)] w fun e w'=>e=.returned (.int .i64 ((os.length:Int)+1))∧∃ new,HpN S W w' hb b (os++new)∧new.map Ob.p=filP nm (d:Int) (c::cs) os.length):=fun w ab hw w1 w2 h3=>by
    have hr2:os.length+szC (c::cs)≤1000∧wdL os+wdC (c::cs)≤20000:=by simpa [rmB] using hB
    have:=arr_c nm hz hb b W.heap.size ab cs c w S ov os d g o cap (h.below hw) ((HX.cs).keep (hw.block g hgl)) w1 w2 (fun x=>by have:=h.sz _ x;omega) (fun x=>by have:=h.sz _ x;omega) hSg (by omega) hsn (by omega) (by omega) hr2.1 hr2.2
    rw [HN] at this
    exact this.mono fun e w' ⟨a1,new,a2,a3⟩=>⟨a1,new,a2.pre hw,a3⟩
  have HY:Hid (∀ i,i<n→∃ x:Nat,U.cell? ⟨g,o+i,none⟩=some (.int .i64 (x:Int))):=fun i hi=>by
    obtain ⟨x,hx⟩:∃ x,(c::cs)[i]?=some x:=⟨_,List.getElem?_eq_getElem (by simp;omega)⟩
    exact ⟨x,(BU.out.cell (p:=⟨g,o+i,none⟩) hgl).trans (HX i (x:Int) (natI_at hx))⟩
  have HUE:Hid (U=(W.alloc (.cells #[.pointer (some ⟨hb,0,none⟩)] 26)).alloc (.cells #[.int .i64 (d:Int),.string nm] 40)):=hU
  rw [hB] at HR
  clear h HX hz hsn hd hSg hU hB HN
  go_enter Tryz.func40,Tryz.ntmps40
  go_wp2
  rw [← HUE.out]
  go_loopw [13] (fun iv wr=>∃ i:Nat,iv=.int .i64 i∧i≤n∧wr=U) (fun iv _=>n - (intOf iv).toNat)
  case atStart=>exact ⟨0,rfl,Nat.zero_le _,rfl⟩
  case round =>
    obtain ⟨i,rfl,hi,rfl⟩:=hrel
    by_cases hlt:i<n
    · obtain ⟨x,y⟩:=HY.out i hlt
      have hltI:(i:Int)<(n:Int):=by omega
      have h0:¬ (x:Int)<0:=by omega
      clear HR HA HY
      go_wp2
      go_roundw
      case rel=>exact ⟨i+1,by go_num,by omega,by first|rfl|trivial⟩
      case measure=>simp [intOf];omega
    · obtain rfl:i=n:=by omega
      have hltI:¬ (i:Int)<(i:Int):=by omega
      obtain ⟨z0,zf,zL⟩:=r1c f0.out
      go_wp2_with (first
        | (go_at_call 73;refine (HR.out _ BU.out).mono ?_;rintro e w1 ⟨rfl,hB⟩;have B1:Hid (Below W.heap.size W w1):=bstep BU.out hB;obtain ⟨xB,x0,xf,xL,xN⟩:=k1c (n:=W.heap.size) hB (by omega) f0.out;obtain ⟨yB,y0,y1,yf,yL,yN⟩:=k2c (n:=W.heap.size+1) hB (by omega) t0.out;clear hB)
        | (go_at_call 74;refine (HA.out _ w1.heap.size (B1.out.alloc B1.out.size _) (r1c (hkA xB.out)).1 (r1c (halloc1 w1 _)).1 B1.out.size).mono ?_;rintro e w2 ⟨rfl,hx⟩;have R2:Hid _:=hx;clear hx))
      go_ret2
      exact ⟨rfl,R2.out⟩
theorem retB {a b:Bool} (h:a=b):Ending.returned (.bool a)=Ending.returned (.bool b):=by rw [h]
theorem isOverInt_c (d:Int) (s:ByteArray) (W:World):Calls Tryz.prog 71 #[.agg #[.int .i64 d,.string s]] W fun e w'=>e=.returned (.bool s.toList.isEmpty)∧Below W.heap.size W w':=by
  cases he:s.toList.isEmpty
  all_goals
    go_enter Tryz.func71,Tryz.ntmps71
    go_wp2
    go_ret
    exact ⟨by first|rfl|simp_all,(by repeat (first|exact Below.refl _ _|refine Below.setCell ?_ (by simp;try omega) _|refine Below.alloc ?_ (by simp;try omega) _|refine Below.drew ?_))⟩
def ldI (ps:List Plc) (d:Int) (s:ByteArray):Int:=if sndB d s.data.toList then (if s.toList.isEmpty then 0 else match lookL ps s.data.toList with
  | some _=>0
  | none=>20) else 1
theorem loaded_c {b:Nat} {ps:List Plc} {W:World} (h:WAt b ps W) (d:Int) (s:ByteArray) (hs:s.size≤maxLen):Calls Tryz.prog 39 #[.pointer (some ⟨b,0,none⟩),.agg #[.int .i64 d,.string s]] W fun e w'=>e=.returned (.int .i64 (ldI ps d s))∧Below W.heap.size W w':=by
  have HC:Hid (∀ w:World,Calls Tryz.prog 70 #[.agg #[.int .i64 d,.string s]] w fun e w'=>e=.returned (.int .i64 (chkI (sndB d s.data.toList)))∧Below w.heap.size w w'):=tyCheck_any d s hs
  have HO:Hid (∀ w:World,Calls Tryz.prog 71 #[.agg #[.int .i64 d,.string s]] w fun e w'=>e=.returned (.bool s.toList.isEmpty)∧Below w.heap.size w w'):=isOverInt_c d s
  have HN:Hid (∀ w:World,Below W.heap.size W w→Calls Tryz.prog 72 #[.pointer (some ⟨b,0,none⟩),.string s] w fun e w'=>e=.returned (bnV (lookL ps s.data.toList))∧Below w.heap.size w w'):=fun w hb=>byName_c (h.below hb) s hs
  obtain ⟨R,hR⟩:∃ R,ldI ps d s=R:=⟨_,rfl⟩
  rw [hR]
  have HR:Hid (ldI ps d s=R):=hR
  clear hR h
  unfold ldI at HR
  generalize sndB d s.data.toList=sn at *
  generalize s.toList.isEmpty=em at *
  generalize lookL ps s.data.toList=lk at *
  cases sn with
  | false =>
    have e:chkI false=1:=rfl
    rw [e] at HC
    have HS:Hid (R=1):=HR.out.symm
    clear HR
    go_enter Tryz.func39,Tryz.ntmps39
    go_wp2_with (go_at_call 70;refine (HC.out _).mono ?_;rintro e w1 ⟨rfl,hb⟩;have B1:Hid (Below W.heap.size W w1):=bstep (by repeat (first|exact Below.refl _ _|refine Below.setCell ?_ (by simp;try omega) _|refine Below.alloc ?_ (by simp;try omega) _|refine Below.drew ?_)) hb;clear hb HC)
    exact bodyPost_ret (results_tmp rfl _ _ _) rfl ⟨by rw [HS.out];rfl,B1.out⟩
  | true =>
    have e:chkI true=0:=rfl
    rw [e] at HC
    cases em with
    | true =>
      have HS:Hid (R=0):=HR.out.symm
      clear HR
      go_enter Tryz.func39,Tryz.ntmps39
      go_wp2_with (first
        | (go_at_call 70;refine (HC.out _).mono ?_;rintro e w1 ⟨rfl,hb⟩;have h0:=(hb.block W.heap.size (by simp)).trans (halloc1 W _);have r0:=cell_of_row w1 W.heap.size 0 _ _ _ h0;have r1:=cell_of_row w1 W.heap.size 1 _ _ _ h0;simp only [List.getElem?_toArray,List.getElem?_cons_zero,List.getElem?_cons_succ] at r0 r1;have B1:Hid (Below W.heap.size W w1):=bstep (by repeat (first|exact Below.refl _ _|refine Below.setCell ?_ (by simp;try omega) _|refine Below.alloc ?_ (by simp;try omega) _|refine Below.drew ?_)) hb;clear hb HC h0)
        | (go_at_call 71;refine (HO.out _).mono ?_;rintro e w2 ⟨rfl,hb⟩;have B2:Hid (Below W.heap.size W w2):=bstep B1.out hb;clear hb HO))
      exact bodyPost_ret (results_tmp rfl _ _ _) rfl ⟨by rw [HS.out];rfl,B2.out⟩
    | false =>
      cases lk
      all_goals
        first|have HS:Hid (R=20):=HR.out.symm|have HS:Hid (R=0):=HR.out.symm
        clear HR
        simp only [bnV] at HN
        go_enter Tryz.func39,Tryz.ntmps39
        go_wp2_with (first
          | (go_at_call 70;refine (HC.out _).mono ?_;rintro e w1 ⟨rfl,hb⟩;have h0:=(hb.block W.heap.size (by simp)).trans (halloc1 W _);have r0:=cell_of_row w1 W.heap.size 0 _ _ _ h0;have r1:=cell_of_row w1 W.heap.size 1 _ _ _ h0;simp only [List.getElem?_toArray,List.getElem?_cons_zero,List.getElem?_cons_succ] at r0 r1;have hl:W.heap.size<w1.heap.size:=(Array.getElem?_eq_some_iff.1 h0).1;have B1:Hid (Below W.heap.size W w1):=bstep (by repeat (first|exact Below.refl _ _|refine Below.setCell ?_ (by simp;try omega) _|refine Below.alloc ?_ (by simp;try omega) _|refine Below.drew ?_)) hb;clear hb HC h0)
          | (go_at_call 71;refine (HO.out _).mono ?_;rintro e w2 ⟨rfl,hb⟩;have B2:Hid (Below W.heap.size W w2):=bstep B1.out hb;replace r0:=(hb.cell (p:=⟨W.heap.size,0,none⟩) hl).trans r0;replace r1:=(hb.cell (p:=⟨W.heap.size,1,none⟩) hl).trans r1;clear hb HO)
          | (go_at_call 72;refine (HN.out _ B2.out).mono ?_;rintro e w3 ⟨rfl,hb⟩;have B3:Hid (Below W.heap.size W w3):=bstep B2.out hb;clear hb HN))
        exact bodyPost_ret (results_tmp rfl _ _ _) rfl ⟨by rw [HS.out];rfl,B3.out⟩
def intB (d:Int) (s:ByteArray):Bool:=(d == 0)&&s.toList.isEmpty
theorem isInt_c (d:Int) (s:ByteArray) (W:World):Calls Tryz.prog 78 #[.agg #[.int .i64 d,.string s]] W fun e w'=>e=.returned (.bool (intB d s))∧Below W.heap.size W w':=by
  obtain ⟨R,hR⟩:∃ R,intB d s=R:=⟨_,rfl⟩
  have HR:Hid (((d == 0)&&s.toList.isEmpty)=R):=hR
  rw [hR]
  clear hR
  go_enter Tryz.func78,Tryz.ntmps78
  go_wp2
  all_goals go_ret
  all_goals exact ⟨retB (by rw [← HR.out];simp [*]),(by repeat (first|exact Below.refl _ _|refine Below.setCell ?_ (by simp;try omega) _|refine Below.alloc ?_ (by simp;try omega) _|refine Below.drew ?_))⟩
def sObj:List UInt8:=[79,98,106,101,99,116]
def sClo:List UInt8:=[67,108,111,110,101,97,98,108,101]
def sSer:List UInt8:=[83,101,114,105,97,108,105,122,97,98,108,101]
def abv3:List (List UInt8):=[sObj,sClo,sSer]
theorem above3_c (W:World):Calls Tryz.prog 80 #[] W fun e w'=>(∃ v,e=.returned v∧IsStrs w' v abv3)∧Below W.heap.size W w':=by
  go_enter Tryz.func80,Tryz.ntmps80
  go_wp2
  refine bodyPost_ret (results_tmp rfl _ _ _) rfl ⟨⟨_,rfl,_,_,rfl,by decide,by decide,fun _=>⟨W.heap.size,0,rfl,by simp,fun k p hk=>?_⟩⟩,(by repeat (first|exact Below.refl _ _|refine Below.setCell ?_ (by simp;try omega) _|refine Below.alloc ?_ (by simp;try omega) _|refine Below.drew ?_))⟩
  match k,hk with
  | 0,hk=>cases hk;simp [go_sem,sObj]
  | 1,hk=>cases hk;simp [go_sem,sClo]
  | 2,hk=>cases hk;simp [go_sem,sSer]
  | (k+3),hk=>simp [abv3] at hk
theorem aExt_c {b:Nat} {ps:List Plc} {W:World} (h:WAt b ps W) (hi:WI ps) (s t:ByteArray) (hs:s.size≤maxLen) (ht:t.size≤maxLen) (x y:Nat) (hx:lookL ps s.data.toList=some x) (hy:lookL ps t.data.toList=some y):Calls Tryz.prog 81 #[.pointer (some ⟨b,0,none⟩),.string s,.string t] W fun e w'=>e=.returned (.bool (extB (ps.map nd) x y))∧Below W.heap.size W w':=by
  obtain ⟨p,hp,_⟩:=look_place hx
  obtain ⟨q,hq,_⟩:=look_place hy
  have he:extI ps x y=extB (ps.map nd) x y:=by rw [extI,plcI_nat,plcI_nat,hp,hq];rfl
  have HX:Hid (∀ u w,Below W.heap.size W w→u=s→Calls Tryz.prog 72 #[.pointer (some ⟨b,0,none⟩),.string u] w fun e w'=>e=.returned (.tuple #[.int .i64 (x:Int),.int .i64 0])∧Below W.heap.size W w'):=fun u w hb hu=>(byName_c (h.below hb) u (by rw [hu];exact hs)).mono fun e w' zz=>⟨by rw [zz.1,hu,hx];rfl,bstep hb zz.2⟩
  have HY:Hid (∀ u w,Below W.heap.size W w→u=t→Calls Tryz.prog 72 #[.pointer (some ⟨b,0,none⟩),.string u] w fun e w'=>e=.returned (.tuple #[.int .i64 (y:Int),.int .i64 0])∧Below W.heap.size W w'):=fun u w hb hu=>(byName_c (h.below hb) u (by rw [hu];exact ht)).mono fun e w' zz=>⟨by rw [zz.1,hu,hy];rfl,bstep hb zz.2⟩
  have HE:Hid (∀ w,Below W.heap.size W w→Calls Tryz.prog 107 #[.pointer (some ⟨b,0,none⟩),.int .i64 (x:Int),.int .i64 (y:Int)] w fun e w'=>e=.returned (.bool (extB (ps.map nd) x y))∧Below W.heap.size W w'):=fun w hb=>(extends_c (h.below hb) hi x y).mono fun e w' zz=>⟨by rw [zz.1,he],bstep hb zz.2⟩
  generalize extB (ps.map nd) x y=R at *
  clear h hi hs ht hx hy hp hq he
  go_enter Tryz.func81,Tryz.ntmps81
  go_wp2_with (first
    | (go_at_call 72;refine (HX.out _ _ (Below.refl _ _) (by rfl)).mono ?_;rintro e w1 ⟨rfl,hb⟩;have B1:Hid (Below W.heap.size W w1):=hb;clear hb HX)
    | (go_at_call 72;refine (HY.out _ _ B1.out (by rfl)).mono ?_;rintro e w2 ⟨rfl,hb⟩;have B2:Hid (Below W.heap.size W w2):=hb;clear hb HY)
    | (go_at_call 107;refine (HE.out _ B2.out).mono ?_;rintro e w3 ⟨rfl,hb⟩;have B3:Hid (Below W.heap.size W w3):=hb;clear hb HE))
  exact bodyPost_ret (results_tmp rfl _ _ _) rfl ⟨rfl,B3.out⟩
def belB (ps:List Plc) (a:Nat) (s:ByteArray) (b:Nat) (t:ByteArray):Bool :=
  if intB (a:Int) s||intB (b:Int) t then ((a:Int) == (b:Int))&&(s.toList == t.toList)
  else if 0<b then false else if 0<a then abv3.contains t.data.toList
  else match lookL ps s.data.toList,lookL ps t.data.toList with
    | some x,some y=>extB (ps.map nd) x y
    | _,_=>false
set_option maxHeartbeats 4000000 in
theorem arrBelow_c {b:Nat} {ps:List Plc} {W:World} (h:WAt b ps W) (hi:WI ps) (da db M:Nat) (s t:ByteArray) (hs:s.size≤maxLen) (ht:t.size≤maxLen) (hab:da=0∨db=0) (hbg:da+M≤255∧db+M≤255) (hld:s.toList.isEmpty=false→∃ x,lookL ps s.data.toList=some x) (hlt:t.toList.isEmpty=false→∃ x,lookL ps t.data.toList=some x) :
    Calls Tryz.prog 49 #[.pointer (some ⟨b,0,none⟩),.agg #[.int .i64 ((da+M:Nat):Int),.string s],.agg #[.int .i64 ((db+M:Nat):Int),.string t]] W fun e w'=>e=.returned (.bool (belB ps da s db t))∧Below W.heap.size W w':=by
  have HI:Hid (∀ d u y w,intB d u=y→Calls Tryz.prog 78 #[.agg #[.int .i64 d,.string u]] w fun e w'=>e=.returned (.bool y)∧Below w.heap.size w w'):=fun d u y w hy=>by rw [← hy];exact isInt_c d u w
  have H3:Hid (∀ w:World,Calls Tryz.prog 80 #[] w fun e w'=>(∃ v,e=.returned v∧IsStrs w' v abv3)∧Below w.heap.size w w'):=above3_c
  have HCo:Hid (∀ v w,IsStrs w v abv3→Calls Tryz.prog 79 #[v,.string t] w fun e w'=>e=.returned (.bool (abv3.contains t.data.toList))∧Below w.heap.size w w'):=fun v w hv=>sContains_any v abv3 t.data.toList w hv
  have HX:Hid (∀ x y,lookL ps s.data.toList=some x→lookL ps t.data.toList=some y→∀ w,Below W.heap.size W w→Calls Tryz.prog 81 #[.pointer (some ⟨b,0,none⟩),.string s,.string t] w fun e w'=>e=.returned (.bool (extB (ps.map nd) x y))∧Below w.heap.size w w'):=fun x y hx hy w hb=>aExt_c (h.below hb) hi s t hs ht x y hx hy
  obtain ⟨R,hR⟩:∃ R,belB ps da s db t=R:=⟨_,rfl⟩
  have HR:Hid (belB ps da s db t=R):=hR
  rw [hR]
  have HLD:Hid _:=hld
  have HLT:Hid _:=hlt
  clear hR h hi hs ht hld hlt
  go_enter Tryz.func49,Tryz.ntmps49
  go_wp2
  go_loopg [] M (fun k wr=>k≤M∧Hid (wr.heap[W.heap.size]?=some (.cells #[.int .i64 ((da+k:Nat):Int),.string s] 40 (0,0)))∧Hid (wr.heap[W.heap.size+1]?=some (.cells #[.int .i64 ((db+k:Nat):Int),.string t] 40 (0,0)))∧Hid (Below W.heap.size W wr))
  case atStart=>exact ⟨Nat.le_refl _,heap_alloc2_old W _ _,heap_alloc2_new W _ _,(by repeat (first|exact Below.refl _ _|refine Below.setCell ?_ (by simp;try omega) _|refine Below.alloc ?_ (by simp;try omega) _|refine Below.drew ?_))⟩
  case round =>
    obtain ⟨hkM,hA,hB,hb⟩:=hrel
    have hsA:W.heap.size<wr.heap.size:=(Array.getElem?_eq_some_iff.1 hA.out).1
    have hsB:W.heap.size+1<wr.heap.size:=(Array.getElem?_eq_some_iff.1 hB.out).1
    have a0:=cell_of_row wr W.heap.size 0 _ _ _ hA.out
    have fa0:=frozen_of_row wr W.heap.size 0 _ _ hA.out
    have a1:=cell_of_row wr W.heap.size 1 _ _ _ hA.out
    have b0:=cell_of_row wr (W.heap.size+1) 0 _ _ _ hB.out
    have fb0:=frozen_of_row wr (W.heap.size+1) 0 _ _ hB.out
    have b1:=cell_of_row wr (W.heap.size+1) 1 _ _ _ hB.out
    simp only [List.getElem?_toArray,List.getElem?_cons_zero,List.getElem?_cons_succ] at a0 a1 b0 b1
    cases gk with
    | succ k =>
      have h1:(0:Int)<((da+(k+1):Nat):Int):=by omega
      have h2:(0:Int)<((db+(k+1):Nat):Int):=by omega
      go_wp2
      go_roundg k
      case rel =>
        have ea:((da:Int)+((k:Int)+1) - 1)=((da+k:Nat):Int):=by omega
        have eb:((db:Int)+((k:Int)+1) - 1)=((db+k:Nat):Int):=by omega
        rw [ea,eb]
        refine ⟨by omega,?_,?_,?_⟩
        · rw [Hid,heap_setCell_other _ _ _ _ (by simp),heap_setCell_same _ _ _ _ _ _ hA.out];rfl
        · rw [Hid,heap_setCell_same _ _ _ #[.int .i64 ((db+(k+1):Nat):Int),.string t] 40 _ (by rw [heap_setCell_other _ _ _ _ (by simp)];exact hB.out)];rfl
        · exact (hb.out.setCell (by simp) _).setCell (by simp) _
      case measure=>omega
    | zero =>
      simp only [Nat.add_zero] at a0 b0
      have hN:¬ ((0:Int)<(da:Int)∧(0:Int)<(db:Int)):=by omega
      clear hA hB fa0 fb0
      obtain ⟨i1,hi1⟩:∃ x,intB (da:Int) s=x:=⟨_,rfl⟩
      obtain ⟨i2,hi2⟩:∃ x,intB (db:Int) t=x:=⟨_,rfl⟩
      unfold belB at HR
      rw [hi1,hi2] at HR
      have E1:Hid _:=hi1
      have E2:Hid _:=hi2
      clear hi1 hi2
      have BB:Hid (Below W.heap.size W wr):=hb
      clear hb
      cases i1 with
      | true =>
        simp only [Bool.true_or,if_true] at HR
        clear HX HLD HLT hab hbg hkM
        generalize (da:Int)=xa at *
        generalize (db:Int)=xb at *
        go_wp2_with (first
          | (go_at_call 78;refine (HI.out _ _ _ _ (by first|exact E1.out|exact E2.out)).mono ?_;rintro e w1 ⟨rfl,hb1⟩;have BB2:Below W.heap.size W w1:=bstep BB.out hb1;replace a0:=(hb1.cell (p:=⟨W.heap.size,0,none⟩) hsA).trans a0;replace a1:=(hb1.cell (p:=⟨W.heap.size,1,none⟩) hsA).trans a1;replace b0:=(hb1.cell (p:=⟨W.heap.size+1,0,none⟩) hsB).trans b0;replace b1:=(hb1.cell (p:=⟨W.heap.size+1,1,none⟩) hsB).trans b1;replace hsA:=Nat.lt_of_lt_of_le hsA hb1.size;replace hsB:=Nat.lt_of_lt_of_le hsB hb1.size;clear BB;have BB:Hid (Below W.heap.size W w1):=BB2;clear hb1 BB2)
          | (go_at_call 80;refine (H3.out _).mono ?_;rintro e w1 ⟨⟨vv,rfl,hv⟩,hb1⟩;have HV:Hid (IsStrs w1 vv abv3):=hv;have BB2:Below W.heap.size W w1:=bstep BB.out hb1;replace b1:=(hb1.cell (p:=⟨W.heap.size+1,1,none⟩) hsB).trans b1;clear BB;have BB:Hid (Below W.heap.size W w1):=BB2;clear hb1 BB2 hv)
          | (go_at_call 79;refine (HCo.out _ _ HV.out).mono ?_;rintro e w2 ⟨rfl,hb1⟩;have BB2:Below W.heap.size W w2:=bstep BB.out hb1;clear BB;have BB:Hid (Below W.heap.size W w2):=BB2;clear hb1 BB2)
          | (go_at_call 81;refine (HX.out _ BB.out).mono ?_;rintro e w2 ⟨rfl,hb1⟩;have BB2:Below W.heap.size W w2:=bstep BB.out hb1;clear BB;have BB:Hid (Below W.heap.size W w2):=BB2;clear hb1 BB2))
        all_goals go_ret
        all_goals exact ⟨retB (by rw [← HR.out];first|(simp [*];done)|(simp [*];intro h;exfalso;omega)),BB.out⟩
      | false =>
        cases i2 with
        | true =>
          simp only [Bool.or_true,if_true] at HR
          clear HX HLD HLT hab hbg hkM
          generalize (da:Int)=xa at *
          generalize (db:Int)=xb at *
          go_wp2_with (first
            | (go_at_call 78;refine (HI.out _ _ _ _ (by first|exact E1.out|exact E2.out)).mono ?_;rintro e w1 ⟨rfl,hb1⟩;have BB2:Below W.heap.size W w1:=bstep BB.out hb1;replace a0:=(hb1.cell (p:=⟨W.heap.size,0,none⟩) hsA).trans a0;replace a1:=(hb1.cell (p:=⟨W.heap.size,1,none⟩) hsA).trans a1;replace b0:=(hb1.cell (p:=⟨W.heap.size+1,0,none⟩) hsB).trans b0;replace b1:=(hb1.cell (p:=⟨W.heap.size+1,1,none⟩) hsB).trans b1;replace hsA:=Nat.lt_of_lt_of_le hsA hb1.size;replace hsB:=Nat.lt_of_lt_of_le hsB hb1.size;clear BB;have BB:Hid (Below W.heap.size W w1):=BB2;clear hb1 BB2)
            | (go_at_call 80;refine (H3.out _).mono ?_;rintro e w1 ⟨⟨vv,rfl,hv⟩,hb1⟩;have HV:Hid (IsStrs w1 vv abv3):=hv;have BB2:Below W.heap.size W w1:=bstep BB.out hb1;replace b1:=(hb1.cell (p:=⟨W.heap.size+1,1,none⟩) hsB).trans b1;clear BB;have BB:Hid (Below W.heap.size W w1):=BB2;clear hb1 BB2 hv)
            | (go_at_call 79;refine (HCo.out _ _ HV.out).mono ?_;rintro e w2 ⟨rfl,hb1⟩;have BB2:Below W.heap.size W w2:=bstep BB.out hb1;clear BB;have BB:Hid (Below W.heap.size W w2):=BB2;clear hb1 BB2)
            | (go_at_call 81;refine (HX.out _ BB.out).mono ?_;rintro e w2 ⟨rfl,hb1⟩;have BB2:Below W.heap.size W w2:=bstep BB.out hb1;clear BB;have BB:Hid (Below W.heap.size W w2):=BB2;clear hb1 BB2))
          all_goals go_ret
          all_goals exact ⟨retB (by rw [← HR.out];first|(simp [*];done)|(simp [*];intro h;exfalso;omega)),BB.out⟩
        | false =>
          simp only [Bool.or_false,Bool.false_eq_true,if_false] at HR
          by_cases hdb:0<db
          · rw [if_pos hdb] at HR
            have hdb2:(0:Int)<(db:Int):=by omega
            clear HX HLD HLT
            go_wp2_with (first
              | (go_at_call 78;refine (HI.out _ _ _ _ (by first|exact E1.out|exact E2.out)).mono ?_;rintro e w1 ⟨rfl,hb1⟩;have BB2:Below W.heap.size W w1:=bstep BB.out hb1;replace a0:=(hb1.cell (p:=⟨W.heap.size,0,none⟩) hsA).trans a0;replace a1:=(hb1.cell (p:=⟨W.heap.size,1,none⟩) hsA).trans a1;replace b0:=(hb1.cell (p:=⟨W.heap.size+1,0,none⟩) hsB).trans b0;replace b1:=(hb1.cell (p:=⟨W.heap.size+1,1,none⟩) hsB).trans b1;replace hsA:=Nat.lt_of_lt_of_le hsA hb1.size;replace hsB:=Nat.lt_of_lt_of_le hsB hb1.size;clear BB;have BB:Hid (Below W.heap.size W w1):=BB2;clear hb1 BB2)
              | (go_at_call 80;refine (H3.out _).mono ?_;rintro e w1 ⟨⟨vv,rfl,hv⟩,hb1⟩;have HV:Hid (IsStrs w1 vv abv3):=hv;have BB2:Below W.heap.size W w1:=bstep BB.out hb1;replace b1:=(hb1.cell (p:=⟨W.heap.size+1,1,none⟩) hsB).trans b1;clear BB;have BB:Hid (Below W.heap.size W w1):=BB2;clear hb1 BB2 hv)
              | (go_at_call 79;refine (HCo.out _ _ HV.out).mono ?_;rintro e w2 ⟨rfl,hb1⟩;have BB2:Below W.heap.size W w2:=bstep BB.out hb1;clear BB;have BB:Hid (Below W.heap.size W w2):=BB2;clear hb1 BB2)
              | (go_at_call 81;refine (HX.out _ BB.out).mono ?_;rintro e w2 ⟨rfl,hb1⟩;have BB2:Below W.heap.size W w2:=bstep BB.out hb1;clear BB;have BB:Hid (Below W.heap.size W w2):=BB2;clear hb1 BB2))
            all_goals go_ret
            all_goals exact ⟨retB HR.out,BB.out⟩
          · rw [if_neg hdb] at HR
            have hdb2:¬ (0:Int)<(db:Int):=by omega
            by_cases hda:0<da
            · rw [if_pos hda] at HR
              generalize abv3.contains t.data.toList=ct at *
              have hda2:(0:Int)<(da:Int):=by omega
              clear HX HLD HLT
              go_wp2_with (first
                | (go_at_call 78;refine (HI.out _ _ _ _ (by first|exact E1.out|exact E2.out)).mono ?_;rintro e w1 ⟨rfl,hb1⟩;have BB2:Below W.heap.size W w1:=bstep BB.out hb1;replace a0:=(hb1.cell (p:=⟨W.heap.size,0,none⟩) hsA).trans a0;replace a1:=(hb1.cell (p:=⟨W.heap.size,1,none⟩) hsA).trans a1;replace b0:=(hb1.cell (p:=⟨W.heap.size+1,0,none⟩) hsB).trans b0;replace b1:=(hb1.cell (p:=⟨W.heap.size+1,1,none⟩) hsB).trans b1;replace hsA:=Nat.lt_of_lt_of_le hsA hb1.size;replace hsB:=Nat.lt_of_lt_of_le hsB hb1.size;clear BB;have BB:Hid (Below W.heap.size W w1):=BB2;clear hb1 BB2)
                | (go_at_call 80;refine (H3.out _).mono ?_;rintro e w1 ⟨⟨vv,rfl,hv⟩,hb1⟩;have HV:Hid (IsStrs w1 vv abv3):=hv;have BB2:Below W.heap.size W w1:=bstep BB.out hb1;replace b1:=(hb1.cell (p:=⟨W.heap.size+1,1,none⟩) hsB).trans b1;clear BB;have BB:Hid (Below W.heap.size W w1):=BB2;clear hb1 BB2 hv)
                | (go_at_call 79;refine (HCo.out _ _ HV.out).mono ?_;rintro e w2 ⟨rfl,hb1⟩;have BB2:Below W.heap.size W w2:=bstep BB.out hb1;clear BB;have BB:Hid (Below W.heap.size W w2):=BB2;clear hb1 BB2)
                | (go_at_call 81;refine (HX.out _ BB.out).mono ?_;rintro e w2 ⟨rfl,hb1⟩;have BB2:Below W.heap.size W w2:=bstep BB.out hb1;clear BB;have BB:Hid (Below W.heap.size W w2):=BB2;clear hb1 BB2))
              go_region_held3 (fun w'=>w'.cell? ⟨W.heap.size+1,1,none⟩=some (.string t)) (go_keep) (first
                | (go_at_call 80;refine (H3.out _).mono ?_;rintro e w3 ⟨⟨vv,rfl,hv⟩,hb1⟩;have HV:Hid (IsStrs w3 vv abv3):=hv;obtain ⟨ao,cap,rfl,_,_,_⟩:=hv;have BB2:Below W.heap.size W w3:=bstep BB.out.drew hb1;replace b1:w3.cell? ⟨W.heap.size+1,1,none⟩=some (.string t):=(hb1.cell (p:=⟨W.heap.size+1,1,none⟩) hsB).trans b1;clear BB;have BB:Hid (Below W.heap.size W w3):=BB2;clear hb1 BB2 H3)
                | (go_at_call 79;refine (HCo.out _ _ HV.out).mono ?_;rintro e w4 ⟨rfl,hb1⟩;have BB2:Below W.heap.size W w4:=bstep BB.out hb1;replace b1:w4.cell? ⟨W.heap.size+1,1,none⟩=some (.string t):=(hb1.cell (p:=⟨W.heap.size+1,1,none⟩) (World.block_lt_of_cell? _ _ b1)).trans b1;clear BB;have BB:Hid (Below W.heap.size W w4):=BB2;clear hb1 BB2 HCo))
              go_wp2
              all_goals go_ret
              all_goals exact ⟨retB HR.out,BB.out⟩
            · rw [if_neg hda] at HR
              have hda2:¬ (0:Int)<(da:Int):=by omega
              have hes:s.toList.isEmpty=false:=by
                have:=E1.out
                unfold intB at this
                rw [show (da:Int)=0 by omega] at this
                simpa using this
              have het:t.toList.isEmpty=false:=by
                have:=E2.out
                unfold intB at this
                rw [show (db:Int)=0 by omega] at this
                simpa using this
              obtain ⟨x,hx⟩:=HLD.out hes
              obtain ⟨y,hy⟩:=HLT.out het
              rw [hx,hy] at HR
              simp only at HR
              have HX:Hid _:=HX.out x y hx hy
              clear HLD HLT hes het hx hy
              go_wp2_with (first
                | (go_at_call 78;refine (HI.out _ _ _ _ (by first|exact E1.out|exact E2.out)).mono ?_;rintro e w1 ⟨rfl,hb1⟩;have BB2:Below W.heap.size W w1:=bstep BB.out hb1;replace a0:=(hb1.cell (p:=⟨W.heap.size,0,none⟩) hsA).trans a0;replace a1:=(hb1.cell (p:=⟨W.heap.size,1,none⟩) hsA).trans a1;replace b0:=(hb1.cell (p:=⟨W.heap.size+1,0,none⟩) hsB).trans b0;replace b1:=(hb1.cell (p:=⟨W.heap.size+1,1,none⟩) hsB).trans b1;replace hsA:=Nat.lt_of_lt_of_le hsA hb1.size;replace hsB:=Nat.lt_of_lt_of_le hsB hb1.size;clear BB;have BB:Hid (Below W.heap.size W w1):=BB2;clear hb1 BB2)
                | (go_at_call 80;refine (H3.out _).mono ?_;rintro e w1 ⟨⟨vv,rfl,hv⟩,hb1⟩;have HV:Hid (IsStrs w1 vv abv3):=hv;have BB2:Below W.heap.size W w1:=bstep BB.out hb1;replace b1:=(hb1.cell (p:=⟨W.heap.size+1,1,none⟩) hsB).trans b1;clear BB;have BB:Hid (Below W.heap.size W w1):=BB2;clear hb1 BB2 hv)
                | (go_at_call 79;refine (HCo.out _ _ HV.out).mono ?_;rintro e w2 ⟨rfl,hb1⟩;have BB2:Below W.heap.size W w2:=bstep BB.out hb1;clear BB;have BB:Hid (Below W.heap.size W w2):=BB2;clear hb1 BB2)
                | (go_at_call 81;refine (HX.out _ BB.out).mono ?_;rintro e w2 ⟨rfl,hb1⟩;have BB2:Below W.heap.size W w2:=bstep BB.out hb1;clear BB;have BB:Hid (Below W.heap.size W w2):=BB2;clear hb1 BB2))
              all_goals go_ret
              all_goals exact ⟨retB HR.out,BB.out⟩
def subB (ps:List Plc) (x:Int) (s:ByteArray) (y:Int) (t:ByteArray):Bool:=belB ps (x.toNat - min x.toNat y.toNat) s (y.toNat - min x.toNat y.toNat) t
def suI (ps:List Plc) (x:Int) (s:ByteArray) (y:Int) (t:ByteArray):Value :=
  if ldI ps x s=0 then (if ldI ps y t=0 then .tuple #[.bool (subB ps x s y t),.int .i64 0] else .tuple #[.bool false,.int .i64 (ldI ps y t)]) else .tuple #[.bool false,.int .i64 (ldI ps x s)]
theorem ld_facts {ps:List Plc} {x:Int} {s:ByteArray} (h:ldI ps x s=0):0≤x∧x≤255∧(s.toList.isEmpty=false→∃ k,lookL ps s.data.toList=some k):=by
  unfold ldI at h
  cases hs:sndB x s.data.toList with
  | false=>rw [hs] at h;revert h;simp
  | true =>
    rw [hs] at h
    have hs2:=hs
    unfold sndB at hs2
    simp only [Bool.and_eq_true,decide_eq_true_eq] at hs2
    refine ⟨hs2.1.1,hs2.1.2,fun he=>?_⟩
    rw [he] at h
    cases hl:lookL ps s.data.toList with
    | some k=>exact ⟨k,rfl⟩
    | none=>rw [hl] at h;revert h;simp
set_option maxHeartbeats 1000000 in
theorem sub_c {b:Nat} {ps:List Plc} {W:World} (h:WAt b ps W) (hi:WI ps) (x:Int) (s:ByteArray) (y:Int) (t:ByteArray) (hs:s.size≤maxLen) (ht:t.size≤maxLen):Calls Tryz.prog 19 #[.pointer (some ⟨b,0,none⟩),.agg #[.int .i64 x,.string s],.agg #[.int .i64 y,.string t]] W fun e w'=>e=.returned (suI ps x s y t)∧Below W.heap.size W w':=by
  have HL:Hid (∀ z u r w,Below W.heap.size W w→u.size≤maxLen→ldI ps z u=r→Calls Tryz.prog 39 #[.pointer (some ⟨b,0,none⟩),.agg #[.int .i64 z,.string u]] w fun e w'=>e=.returned (.int .i64 r)∧Below w.heap.size w w'):=fun z u r w hb hu hr=>by rw [← hr];exact loaded_c (h.below hb) z u hu
  have HL1:Hid (∀ z u w,Below W.heap.size W w→z=x→u=s→Calls Tryz.prog 39 #[.pointer (some ⟨b,0,none⟩),.agg #[.int .i64 z,.string u]] w fun e w'=>e=.returned (.int .i64 (ldI ps x s))∧Below w.heap.size w w'):=fun z u w hb hz hu=>by rw [hz,hu];exact HL.out x s _ w hb hs rfl
  have HL2:Hid (∀ z u w,Below W.heap.size W w→z=y→u=t→Calls Tryz.prog 39 #[.pointer (some ⟨b,0,none⟩),.agg #[.int .i64 z,.string u]] w fun e w'=>e=.returned (.int .i64 (ldI ps y t))∧Below w.heap.size w w'):=fun z u w hb hz hu=>by rw [hz,hu];exact HL.out y t _ w hb ht rfl
  clear HL
  have tl:∀ (w1:World) (o1 o2:Obj),Below ((W.alloc o1).alloc o2).heap.size ((W.alloc o1).alloc o2) w1→True:=fun _ _ _ _=>trivial
  clear tl
  by_cases h1:ldI ps x s=0
  · by_cases h2:ldI ps y t=0
    · have e:suI ps x s y t=.tuple #[.bool (subB ps x s y t),.int .i64 0]:=by rw [suI,if_pos h1,if_pos h2]
      rw [e]
      obtain ⟨x0,x1,xk⟩:=ld_facts h1
      obtain ⟨y0,y1,yk⟩:=ld_facts h2
      have HB:Hid (∀ w,Below W.heap.size W w→Calls Tryz.prog 49 #[.pointer (some ⟨b,0,none⟩),.agg #[.int .i64 x,.string s],.agg #[.int .i64 y,.string t]] w fun e w'=>e=.returned (.bool (subB ps x s y t))∧Below w.heap.size w w'):=fun w hb=>by
        have hq:=arrBelow_c (h.below hb) hi (x.toNat - min x.toNat y.toNat) (y.toNat - min x.toNat y.toNat) (min x.toNat y.toNat) s t hs ht (by omega) (by omega) xk yk
        rw [show ((x.toNat - min x.toNat y.toNat+min x.toNat y.toNat:Nat):Int)=x by omega,show ((y.toNat - min x.toNat y.toNat+min x.toNat y.toNat:Nat):Int)=y by omega] at hq
        exact hq
      rw [h1] at HL1
      rw [h2] at HL2
      generalize subB ps x s y t=R at *
      clear h hi hs ht h1 h2 e x0 x1 xk y0 y1 yk
      go_enter Tryz.func19,Tryz.ntmps19
      go_wp2_with (first
        | (go_at_call 39;refine (HL1.out _ _ _ (by repeat (first|exact Below.refl _ _|refine Below.setCell ?_ (by simp;try omega) _|refine Below.alloc ?_ (by simp;try omega) _|refine Below.drew ?_)) (by rfl) (by rfl)).mono ?_;rintro e w1 ⟨rfl,hb⟩;have hA:=(hb.block W.heap.size (by simp;omega)).trans (heap_alloc2_old W _ _);have hB:=(hb.block (W.heap.size+1) (by simp)).trans (heap_alloc2_new W _ _);have hsA:W.heap.size<w1.heap.size:=(Array.getElem?_eq_some_iff.1 hA).1;have hsB:W.heap.size+1<w1.heap.size:=(Array.getElem?_eq_some_iff.1 hB).1;have a0:=cell_of_row w1 W.heap.size 0 _ _ _ hA;have a1:=cell_of_row w1 W.heap.size 1 _ _ _ hA;have b0:=cell_of_row w1 (W.heap.size+1) 0 _ _ _ hB;have b1:=cell_of_row w1 (W.heap.size+1) 1 _ _ _ hB;simp only [List.getElem?_toArray,List.getElem?_cons_zero,List.getElem?_cons_succ] at a0 a1 b0 b1;have BB:Hid (Below W.heap.size W w1):=bstep (by repeat (first|exact Below.refl _ _|refine Below.setCell ?_ (by simp;try omega) _|refine Below.alloc ?_ (by simp;try omega) _|refine Below.drew ?_)) hb;clear hb HL1 hA hB)
        | (go_at_call 39;refine (HL2.out _ _ _ BB.out (by rfl) (by rfl)).mono ?_;rintro e w2 ⟨rfl,hb⟩;replace a0:=(hb.cell (p:=⟨W.heap.size,0,none⟩) hsA).trans a0;replace a1:=(hb.cell (p:=⟨W.heap.size,1,none⟩) hsA).trans a1;replace b0:=(hb.cell (p:=⟨W.heap.size+1,0,none⟩) hsB).trans b0;replace b1:=(hb.cell (p:=⟨W.heap.size+1,1,none⟩) hsB).trans b1;have BB2:Below W.heap.size W w2:=bstep BB.out hb;clear BB;have BB:Hid (Below W.heap.size W w2):=BB2;clear hb BB2 HL2)
        | (go_at_call 49;refine (HB.out _ BB.out).mono ?_;rintro e w3 ⟨rfl,hb⟩;have BB2:Below W.heap.size W w3:=bstep BB.out hb;clear BB;have BB:Hid (Below W.heap.size W w3):=BB2;clear hb BB2 HB))
      exact bodyPost_ret (results_tmp2 rfl _ _ _) rfl ⟨rfl,BB.out⟩
    · have e:suI ps x s y t=.tuple #[.bool false,.int .i64 (ldI ps y t)]:=by rw [suI,if_pos h1,if_neg h2]
      rw [e]
      rw [h1] at HL1
      generalize ldI ps y t=R at *
      clear h hi hs ht h1 e
      go_enter Tryz.func19,Tryz.ntmps19
      go_wp2_with (first
        | (go_at_call 39;refine (HL1.out _ _ _ (by repeat (first|exact Below.refl _ _|refine Below.setCell ?_ (by simp;try omega) _|refine Below.alloc ?_ (by simp;try omega) _|refine Below.drew ?_)) (by rfl) (by rfl)).mono ?_;rintro e w1 ⟨rfl,hb⟩;have hA:=(hb.block W.heap.size (by simp;omega)).trans (heap_alloc2_old W _ _);have hB:=(hb.block (W.heap.size+1) (by simp)).trans (heap_alloc2_new W _ _);have a0:=cell_of_row w1 W.heap.size 0 _ _ _ hA;have a1:=cell_of_row w1 W.heap.size 1 _ _ _ hA;have b0:=cell_of_row w1 (W.heap.size+1) 0 _ _ _ hB;have b1:=cell_of_row w1 (W.heap.size+1) 1 _ _ _ hB;simp only [List.getElem?_toArray,List.getElem?_cons_zero,List.getElem?_cons_succ] at a0 a1 b0 b1;have BB:Hid (Below W.heap.size W w1):=bstep (by repeat (first|exact Below.refl _ _|refine Below.setCell ?_ (by simp;try omega) _|refine Below.alloc ?_ (by simp;try omega) _|refine Below.drew ?_)) hb;clear hb HL1 hA hB)
        | (go_at_call 39;refine (HL2.out _ _ _ BB.out (by rfl) (by rfl)).mono ?_;rintro e w2 ⟨rfl,hb⟩;have BB2:Below W.heap.size W w2:=bstep BB.out hb;clear BB;have BB:Hid (Below W.heap.size W w2):=BB2;clear hb BB2 HL2))
      exact bodyPost_ret (results_tmp2 rfl _ _ _) rfl ⟨rfl,BB.out⟩
  · have e:suI ps x s y t=.tuple #[.bool false,.int .i64 (ldI ps x s)]:=by rw [suI,if_neg h1]
    rw [e]
    generalize ldI ps x s=R at *
    clear h hi hs ht e
    go_enter Tryz.func19,Tryz.ntmps19
    go_wp2_with (first
      | (go_at_call 39;refine (HL1.out _ _ _ (by repeat (first|exact Below.refl _ _|refine Below.setCell ?_ (by simp;try omega) _|refine Below.alloc ?_ (by simp;try omega) _|refine Below.drew ?_)) (by rfl) (by rfl)).mono ?_;rintro e w1 ⟨rfl,hb⟩;have BB:Hid (Below W.heap.size W w1):=bstep (by repeat (first|exact Below.refl _ _|refine Below.setCell ?_ (by simp;try omega) _|refine Below.alloc ?_ (by simp;try omega) _|refine Below.drew ?_)) hb;clear hb HL1))
    exact bodyPost_ret (results_tmp2 rfl _ _ _) rfl ⟨rfl,BB.out⟩
def filE (os:List Ob) (xs:List Int):Int:=if negB xs then 30 else if rmB os (xs.map Int.toNat) then 0 else 32
def filN (os:List Ob) (xs:List Int):Int:=if filE os xs=0 then (os.length:Int)+1 else 0
def filL (os:List Ob) (d:Int) (nm:ByteArray) (xs:List Int):List PO:=if filE os xs=0 then filP nm d (xs.map Int.toNat) os.length else []
theorem neg_nat:∀ {xs:List Int},negB xs=false→xs=natI (xs.map Int.toNat)
  | [],_=>rfl
  | x::r,h=>by
    simp only [negB,List.any_cons,Bool.or_eq_false_iff,decide_eq_false_iff_not] at h
    have:=neg_nat (xs:=r) h.2
    rw [List.map_cons,natI,List.map_cons,show ((x.toNat:Nat):Int)=x by omega]
    congr 1
theorem fill_c {W:World} {S:Nat→Prop} {hb b:Nat} {ov:Value} {os:List Ob} (h:HpAt W S hb b ov os) {g o cap n:Nat} {xs:List Int} (HN:xs.length=n) (hn0:0<n) (hn9:n≤1000000) (hcap:n≤cap) (d:Nat) (nm:ByteArray) (hz:nm.size≤maxLen) (hsn:sndB (d:Int) nm.data.toList=true) (hd:n≤d) (HX:IsAt W g o xs) (hSg:¬ S g) :
    Calls Tryz.prog 40 #[.pointer (some ⟨hb,0,none⟩),.agg #[.int .i64 (d:Int),.string nm],.slice (some ⟨g,o,none⟩) n cap] W fun e w'=>e=.returned (.tuple #[.int .i64 (filN os xs),.int .i64 (filE os xs)])∧∃ new,HpN S W w' hb b (os++new)∧new.map Ob.p=filL os (d:Int) nm xs:=by
  cases hg:negB xs with
  | true =>
    have e1:filE os xs=30:=by rw [filE,hg];rfl
    have e2:filN os xs=0:=by rw [filN,e1];rfl
    have e3:filL os (d:Int) nm xs=[]:=by rw [filL,e1];rfl
    rw [e1,e2,e3]
    exact (fill_neg HN hn9 (d:Int) nm HX hg).mono fun e w' ⟨h1,h2⟩=>⟨h1,[],by rw [List.append_nil];exact h.stay h2,rfl⟩
  | false =>
    have hx:=neg_nat hg
    obtain ⟨c,cs,hcs⟩:∃ c cs,xs.map Int.toNat=c::cs:=by
      cases e:xs with
      | nil=>rw [e] at HN;simp at HN;omega
      | cons y r=>exact ⟨_,_,rfl⟩
    have hl:cs.length+1=n:=by rw [← HN,← List.length_map (f:=Int.toNat),hcs];simp
    rw [hx,hcs] at HX
    cases hr:rmB os (xs.map Int.toNat) with
    | false =>
      have e1:filE os xs=32:=by rw [filE,hg,hr];rfl
      have e2:filN os xs=0:=by rw [filN,e1];rfl
      have e3:filL os (d:Int) nm xs=[]:=by rw [filL,e1];rfl
      rw [e1,e2,e3]
      rw [hcs] at hr
      exact (fill_no h hl hn9 d nm HX hr).mono fun e w' ⟨h1,h2⟩=>⟨h1,[],by rw [List.append_nil];exact h.stay h2,rfl⟩
    | true =>
      have e1:filE os xs=0:=by rw [filE,hg,hr];rfl
      have e2:filN os xs=(os.length:Int)+1:=by rw [filN,e1];rfl
      have e3:filL os (d:Int) nm xs=filP nm (d:Int) (c::cs) os.length:=by rw [filL,e1,hcs];rfl
      rw [e1,e2,e3]
      rw [hcs] at hr
      exact fill_yes h hl hn9 hcap d nm hz hsn hd HX hSg hr
def aryE (ps:List Plc) (os:List Ob) (d:Int) (nm:ByteArray) (n:Int):Int:=if arrE d nm.data.toList=0 then (if ldI ps d nm=0 then filE os [n] else ldI ps d nm) else arrE d nm.data.toList
def aryN (ps:List Plc) (os:List Ob) (d:Int) (nm:ByteArray) (n:Int):Int:=if aryE ps os d nm n=0 then (os.length:Int)+1 else 0
def aryL (ps:List Plc) (os:List Ob) (d:Int) (nm:ByteArray) (n:Int):List PO:=if aryE ps os d nm n=0 then [(d+1,nm,List.replicate n.toNat 0)] else []
set_option maxHeartbeats 1000000 in
theorem array_1 {W:World} {hb:Nat} (d d' E n:Int) (nm nm':ByteArray) (hE:¬ E=0) (HA:Hid (∀ w:World,Calls Tryz.prog 38 #[.agg #[.int .i64 d,.string nm]] w fun e w'=>e=.returned (.tuple #[.agg #[.int .i64 d',.string nm'],.int .i64 E])∧Below w.heap.size w w')) :
    Calls Tryz.prog 13 #[.pointer (some ⟨hb,0,none⟩),.agg #[.int .i64 d,.string nm],.int .i64 n] W fun e w'=>e=.returned (.tuple #[.int .i64 0,.int .i64 E])∧Below W.heap.size W w':=by
  have B0:Hid (Below W.heap.size W (W.alloc (.cells #[.int .i64 d,.string nm] 40))):=(Below.refl _ _).alloc (Nat.le_refl _) _
  go_enter Tryz.func13,Tryz.ntmps13
  go_wp2_with (go_at_call 38;refine (HA.out _).mono ?_;rintro e w1 ⟨rfl,hB⟩;have B1:Hid (Below W.heap.size W w1):=bstep B0.out hB;clear hB HA)
  go_ret2
  exact ⟨rfl,B1.out.alloc B1.out.size _⟩
theorem callLd (vs:Array Value) (w:World):(callFunc 39 vs).run Tryz.prog w=.ok (.enter 39 vs) w:=by simp [go_sem]
theorem stp2h {P:Program} {ops:Array Oper} {o:Oper} {a:Act} {w:World} {K:Act→World→Prop} {Q:Exit→Act→World→Prop} {E:Prop} (hg:o.guard=none) (f:Nat) (hf:∀ (vs:Array Value) (w:World),(callFunc f vs).run P w=.ok (.enter f vs) w) (x1 x2:Operand) (t1 t2:TypeId)
    (hop:o.op=Op.call { callee:=Callee.value (Operand.func f),args:=#[x1,x2],argTypes:=#[t1,t2] }) {R:Ending→World→Prop} (v1 v2:Value) (hv1:a.eval x1=v1) (hv2:a.eval x2=v2) (h:Calls P f #[v1,v2] w R) (hR:∀ e w',R e w'→∃ u,e=.returned u∧K (a.put o.dst u) w') :
    if Region.wanted o (yielded ops a.tmps)=true then Oper.wp P o a w K Q else E:=by
  have hw:Region.wanted o (yielded ops a.tmps)=true:=by simp [Region.wanted,hg]
  rw [if_pos hw]
  unfold Oper.wp
  have e:(execOp a.eval o).run P w=.ok (.enter f #[v1,v2]) w:=by
    simp [execOp,hop,resolve,invoke,hv1,hv2]
    simp [go_sem,hf]
  rw [e]
  refine h.mono fun e w' hr=>?_
  obtain ⟨u,rfl,hu⟩:=hR e w' hr
  exact hu
set_option maxHeartbeats 1000000 in
theorem array_2 {W:World} {hb b:Nat} (d d' E n:Int) (nm nm':ByteArray) (hE:¬ E=0) (c0:W.cell? ⟨hb,0,none⟩=some (.pointer (some ⟨b,0,none⟩))) (HA:Hid (∀ w:World,Calls Tryz.prog 38 #[.agg #[.int .i64 d,.string nm]] w fun e w'=>e=.returned (.tuple #[.agg #[.int .i64 d',.string nm'],.int .i64 0])∧Below w.heap.size w w'))
    (HL:Hid (∀ w,Below W.heap.size W w→Calls Tryz.prog 39 #[.pointer (some ⟨b,0,none⟩),.agg #[.int .i64 d,.string nm]] w fun e w'=>e=.returned (.int .i64 E)∧Below w.heap.size w w')) :
    Calls Tryz.prog 13 #[.pointer (some ⟨hb,0,none⟩),.agg #[.int .i64 d,.string nm],.int .i64 n] W fun e w'=>e=.returned (.tuple #[.int .i64 0,.int .i64 E])∧Below W.heap.size W w':=by
  have hl:hb<W.heap.size:=World.block_lt_of_cell? W _ c0
  have B0:Hid (Below W.heap.size W (W.alloc (.cells #[.int .i64 d,.string nm] 40))):=(Below.refl _ _).alloc (Nat.le_refl _) _
  go_enter Tryz.func13,Tryz.ntmps13
  go_upto_region 6 with (go_at_call 38;refine (HA.out _).mono ?_;rintro e w1 ⟨rfl,hB⟩;have B1:Hid (Below W.heap.size W w1):=bstep B0.out hB;obtain ⟨zB,z0,z1,zf,zL,zN⟩:=k2c (n:=W.heap.size) hB;have y0:w1.cell? ⟨hb,0,none⟩=some (.pointer (some ⟨b,0,none⟩)):=(B1.out.cell (p:=⟨hb,0,none⟩) hl).trans c0;have yl:hb<w1.heap.size:=(by omega);have yn:¬ hb=w1.heap.size:=(by omega);clear hB HA)
  go_region_law (refine stp2h rfl 39 callLd (.tmp 24) (.tmp 25) 25 40 rfl (.pointer (some ⟨b,0,none⟩)) (.agg #[.int .i64 d,.string nm]) (by first|(simp [Act.eval];done)|(simp [Act.eval,Act.put];done)) (by first|(simp [Act.eval];done)|(simp [Act.eval,Act.put];done)) (HL.out _ ((B1.out.alloc B1.out.size _).drew)) ?_;rintro e w3 ⟨rfl,hB⟩;refine ⟨_,rfl,?_⟩;have B3:Hid (Below W.heap.size W w3):=bstep ((B1.out.alloc B1.out.size _).drew) hB;clear hB)
  all_goals go_wp2
  all_goals go_ret2
  all_goals exact ⟨rfl,B3.out⟩
set_option maxHeartbeats 1000000 in
theorem array_3 {W:World} {hb b:Nat} (d d' n N E:Int) (nm:ByteArray) {R:World→Prop} (c0:W.cell? ⟨hb,0,none⟩=some (.pointer (some ⟨b,0,none⟩))) (HA:Hid (∀ w:World,Calls Tryz.prog 38 #[.agg #[.int .i64 d,.string nm]] w fun e w'=>e=.returned (.tuple #[.agg #[.int .i64 d',.string nm],.int .i64 0])∧Below w.heap.size w w'))
    (HL:Hid (∀ w,Below W.heap.size W w→Calls Tryz.prog 39 #[.pointer (some ⟨b,0,none⟩),.agg #[.int .i64 d,.string nm]] w fun e w'=>e=.returned (.int .i64 0)∧Below w.heap.size w w'))
    (HF:Hid (∀ w g,Below W.heap.size W w→W.heap.size≤g→w.cell? ⟨g,0,none⟩=some (.int .i64 n)→Calls Tryz.prog 40 #[.pointer (some ⟨hb,0,none⟩),.agg #[.int .i64 d',.string nm],.slice (some ⟨g,0,none⟩) 1 1] w fun e w'=>e=.returned (.tuple #[.int .i64 N,.int .i64 E])∧R w')) :
    Calls Tryz.prog 13 #[.pointer (some ⟨hb,0,none⟩),.agg #[.int .i64 d,.string nm],.int .i64 n] W fun e w'=>e=.returned (.tuple #[.int .i64 N,.int .i64 E])∧R w':=by
  have hl:hb<W.heap.size:=World.block_lt_of_cell? W _ c0
  have B0:Hid (Below W.heap.size W (W.alloc (.cells #[.int .i64 d,.string nm] 40))):=(Below.refl _ _).alloc (Nat.le_refl _) _
  go_enter Tryz.func13,Tryz.ntmps13
  go_upto_region 6 with (go_at_call 38;refine (HA.out _).mono ?_;rintro e w1 ⟨rfl,hB⟩;have B1:Hid (Below W.heap.size W w1):=bstep B0.out hB;obtain ⟨zB,z0,z1,zf,zL,zN⟩:=k2c (n:=W.heap.size) hB;have y0:w1.cell? ⟨hb,0,none⟩=some (.pointer (some ⟨b,0,none⟩)):=(B1.out.cell (p:=⟨hb,0,none⟩) hl).trans c0;have yl:hb<w1.heap.size:=(by omega);have yn:¬ hb=w1.heap.size:=(by omega);clear hB HA)
  go_region_law (refine stp2h rfl 39 callLd (.tmp 24) (.tmp 25) 25 40 rfl (.pointer (some ⟨b,0,none⟩)) (.agg #[.int .i64 d,.string nm]) (by first|(simp [Act.eval];done)|(simp [Act.eval,Act.put];done)) (by first|(simp [Act.eval];done)|(simp [Act.eval,Act.put];done)) (HL.out _ ((B1.out.alloc B1.out.size _).drew)) ?_;rintro e w3 ⟨rfl,hB⟩;refine ⟨_,rfl,?_⟩;have B3:Hid (Below W.heap.size W w3):=bstep ((B1.out.alloc B1.out.size _).drew) hB;have B4:Hid (Below (w1.heap.size+1) (w1.alloc (.cells #[.int .i64 d',.string nm] 40)) w3):=(by rw [Hid];have h1:Below (w1.alloc (.cells #[.int .i64 d',.string nm] 40)).heap.size (w1.alloc (.cells #[.int .i64 d',.string nm] 40)) w3:=(Below.refl _ _).drew.trans hB;simpa using h1);obtain ⟨xB,x0,x1,xf,xL,xN⟩:=k2c (n:=w1.heap.size) B4.out (by omega) (halloc1 _ _);clear hB)
  all_goals go_wp2_with (go_at_call 40;refine (HF.out _ w3.heap.size (B3.out.alloc B3.out.size _) B3.out.size (r1c (halloc1 _ _)).1).mono ?_;rintro e w4 ⟨rfl,hx⟩;have R4:Hid (R w4):=hx;clear hx)
  all_goals go_ret2
  all_goals exact ⟨rfl,R4.out⟩
end Go.Proofs.YtfnmmpkhopochaaGreat
