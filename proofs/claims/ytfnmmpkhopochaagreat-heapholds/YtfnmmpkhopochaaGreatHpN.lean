import Derived.Test.YtfnmmpkhopochaaGreatHpK
set_option maxRecDepth 100000
namespace Go.Proofs.YtfnmmpkhopochaaGreat
open Go.RowKit Go.Maps
theorem arr_E0 {d:Int} {l:List UInt8} (h:arrE d l=0):∃ k:Nat,d=(k:Int)∧sndB ((k+1:Nat):Int) l=true:=by
  unfold arrE at h
  cases hs:sndB d l with
  | false=>rw [hs] at h;revert h;simp
  | true =>
    rw [hs] at h
    simp only [if_true] at h
    split at h
    · cases h
    · rename_i h5
      unfold sndB at hs
      simp only [Bool.and_eq_true,decide_eq_true_eq] at hs
      refine ⟨d.toNat,by omega,?_⟩
      unfold sndB
      simp only [Bool.and_eq_true,decide_eq_true_eq]
      exact ⟨⟨by omega,by omega⟩,hs.2⟩
theorem fil_one (os:List Ob) (d:Int) (nm:ByteArray) (n:Int):filL os d nm [n]=if filE os [n]=0 then [(d,nm,List.replicate n.toNat 0)] else []:=by
  unfold filL
  split
  · rw [List.map_cons,List.map_nil,filP_one]
  · rfl
theorem array_c {W:World} {S:Nat→Prop} {hb b:Nat} {ov:Value} {os:List Ob} (h:HpAt W S hb b ov os) {ps:List Plc} (hw:WAt b ps W) (d:Int) (nm:ByteArray) (hz:nm.size≤maxLen) (n:Int) :
    Calls Tryz.prog 13 #[.pointer (some ⟨hb,0,none⟩),.agg #[.int .i64 d,.string nm],.int .i64 n] W fun e w'=>e=.returned (.tuple #[.int .i64 (aryN ps os d nm n),.int .i64 (aryE ps os d nm n)])∧∃ new,HpN S W w' hb b (os++new)∧new.map Ob.p=aryL ps os d nm n:=by
  have HA:=arrayOf_any d nm hz
  have HL:∀ w,Below W.heap.size W w→Calls Tryz.prog 39 #[.pointer (some ⟨b,0,none⟩),.agg #[.int .i64 d,.string nm]] w fun e w'=>e=.returned (.int .i64 (ldI ps d nm))∧Below w.heap.size w w':=fun w hl=>loaded_c (hw.below hl) d nm hz
  have c0:=h.cells.1
  by_cases e1:arrE d nm.data.toList=0
  · rw [e1] at HA
    simp only [outD,outS,if_true] at HA
    by_cases e2:ldI ps d nm=0
    · rw [e2] at HL
      obtain ⟨k,rfl,hsn⟩:=arr_E0 e1
      have q1:aryE ps os (k:Int) nm n=filE os [n]:=by rw [aryE,if_pos e1,if_pos e2]
      have q2:aryN ps os (k:Int) nm n=filN os [n]:=by rw [aryN,q1];rfl
      have q3:aryL ps os (k:Int) nm n=filL os ((k+1:Nat):Int) nm [n]:=by rw [aryL,q1,fil_one];rfl
      rw [q1,q2,q3]
      refine array_3 (k:Int) ((k+1:Nat):Int) n _ _ nm c0 HA HL (fun w g hl hg hc=>?_)
      have hl2:=hl.size
      refine (fill_c (h.below hl) (xs:=[n]) (n:=1) (o:=0) rfl (by omega) (by omega) (Nat.le_refl _) (k+1) nm hz hsn (by omega) (fun i x hx=>?_) (fun x=>by have:=h.sz _ x;omega)).mono fun e w' ⟨a1,new,a2,a3⟩=>⟨a1,new,a2.pre hl,a3⟩
      cases i with
      | zero=>simp at hx;subst hx;exact hc
      | succ i=>simp at hx
    · have q1:aryE ps os d nm n=ldI ps d nm:=by rw [aryE,if_pos e1,if_neg e2]
      have q2:aryN ps os d nm n=0:=by rw [aryN,q1,if_neg e2]
      have q3:aryL ps os d nm n=[]:=by rw [aryL,q1,if_neg e2]
      rw [q1,q2,q3]
      exact (array_2 d _ _ n nm _ e2 c0 HA HL).mono fun e w' ⟨a1,a2⟩=>⟨a1,[],by rw [List.append_nil];exact h.stay a2,rfl⟩
  · have q1:aryE ps os d nm n=arrE d nm.data.toList:=by rw [aryE,if_neg e1]
    have q2:aryN ps os d nm n=0:=by rw [aryN,q1,if_neg e1]
    have q3:aryL ps os d nm n=[]:=by rw [aryL,q1,if_neg e1]
    rw [q1,q2,q3]
    exact (array_1 d _ _ n nm _ e1 HA).mono fun e w' ⟨a1,a2⟩=>⟨a1,[],by rw [List.append_nil];exact h.stay a2,rfl⟩
def sbB (ps:List Plc) (x:Int) (s:ByteArray) (y:Int) (t:ByteArray):Bool:=if ldI ps x s=0 then (if ldI ps y t=0 then subB ps x s y t else false) else false
def sbE (ps:List Plc) (x:Int) (s:ByteArray) (y:Int) (t:ByteArray):Int:=if ldI ps x s=0 then (if ldI ps y t=0 then 0 else ldI ps y t) else ldI ps x s
theorem suI_eq (ps:List Plc) (x:Int) (s:ByteArray) (y:Int) (t:ByteArray):suI ps x s y t=.tuple #[.bool (sbB ps x s y t),.int .i64 (sbE ps x s y t)]:=by
  unfold suI sbB sbE
  split
  · split <;> rfl
  · rfl
def csE (ps:List Plc) (os:List Ob) (d:Int) (nm:ByteArray) (r:Int):Int:=match obI os r with
  | none=>obE r
  | some o=>if sbB ps o.d o.nm (outD (cmpE d nm.data.toList) (d - 1)) (outS (cmpE d nm.data.toList) nm) then 0 else 28
theorem callSub (vs:Array Value) (w:World):(callFunc 19 vs).run Tryz.prog w=.ok (.enter 19 vs) w:=by simp [go_sem]
set_option maxHeartbeats 1000000 in
theorem chk_err {W:World} {hb m:Nat} (d r E:Int) (nm:ByteArray) (a:Option Addr) (hE:¬ E=0) (HF:Hid (∀ w,Below W.heap.size W w→Calls Tryz.prog 48 #[.pointer (some ⟨hb,0,none⟩),.int .i64 r] w fun e w'=>e=.returned (.tuple #[noO,.int .i64 E])∧Below w.heap.size w w')) :
    Calls Tryz.prog 47 #[.pointer (some ⟨hb,0,none⟩),.agg #[.int .i64 d,.string nm,.slice a m m],.int .i64 r] W fun e w'=>e=.returned (.int .i64 E)∧Below W.heap.size W w':=by
  have B0:Hid (Below W.heap.size W (W.alloc (.cells #[.int .i64 d,.string nm,.slice a m m] 93))):=(Below.refl _ _).alloc (Nat.le_refl _) _
  unfold noO at HF
  go_enter Tryz.func47,Tryz.ntmps47
  go_wp2_with (go_at_call 48;refine (HF.out _ B0.out).mono ?_;rintro e w1 ⟨rfl,hB⟩;have B1:Hid (Below W.heap.size W w1):=bstep B0.out hB;clear hB HF)
  go_ret
  exact ⟨rfl,B1.out.alloc B1.out.size _⟩
set_option maxHeartbeats 2000000 in
theorem chk_go {W:World} {hb b m m2:Nat} (d r x d' E E2:Int) (nm s nm':ByteArray) (a a2:Option Addr) (B:Bool) (c0:W.cell? ⟨hb,0,none⟩=some (.pointer (some ⟨b,0,none⟩))) (HF:Hid (∀ w,Below W.heap.size W w→Calls Tryz.prog 48 #[.pointer (some ⟨hb,0,none⟩),.int .i64 r] w fun e w'=>e=.returned (.tuple #[.agg #[.int .i64 x,.string s,.slice a2 m2 m2],.int .i64 0])∧Below w.heap.size w w'))
    (HT:Hid (∀ w:World,Calls Tryz.prog 75 #[.agg #[.int .i64 d,.string nm]] w fun e w'=>e=.returned (.tuple #[.agg #[.int .i64 d',.string nm'],.int .i64 E2])∧Below w.heap.size w w'))
    (HS:Hid (∀ w,Below W.heap.size W w→Calls Tryz.prog 19 #[.pointer (some ⟨b,0,none⟩),.agg #[.int .i64 x,.string s],.agg #[.int .i64 d',.string nm']] w fun e w'=>e=.returned (.tuple #[.bool B,.int .i64 E])∧Below w.heap.size w w')) :
    Calls Tryz.prog 47 #[.pointer (some ⟨hb,0,none⟩),.agg #[.int .i64 d,.string nm,.slice a m m],.int .i64 r] W fun e w'=>e=.returned (.int .i64 (if B then 0 else 28))∧Below W.heap.size W w':=by
  have hl:hb<W.heap.size:=World.block_lt_of_cell? W _ c0
  have hn:¬ hb=W.heap.size:=by omega
  have B0:Hid (Below W.heap.size W (W.alloc (.cells #[.int .i64 d,.string nm,.slice a m m] 93))):=(Below.refl _ _).alloc (Nat.le_refl _) _
  cases B
  all_goals
    go_enter Tryz.func47,Tryz.ntmps47
    go_upto_region 5 with (first
      | (go_at_call 48;refine (HF.out _ B0.out).mono ?_;rintro e w1 ⟨rfl,hB⟩;have B1:Hid (Below W.heap.size W w1):=bstep B0.out hB;obtain ⟨zB,z0,z1,z2,zf,zL,zN⟩:=k3c (n:=W.heap.size) hB;clear hB HF)
      | (go_at_call 75;refine (HT.out _).mono ?_;rintro e w2 ⟨rfl,hB⟩;have B2:Hid (Below W.heap.size W w2):=bstep (B1.out.alloc B1.out.size _) hB;obtain ⟨yB,y0,y1,y2,yf,yL,yN⟩:=k3c (n:=w1.heap.size) hB;have x0:w2.cell? ⟨hb,0,none⟩=some (.pointer (some ⟨b,0,none⟩)):=(B2.out.cell (p:=⟨hb,0,none⟩) hl).trans c0;have xl:hb<w2.heap.size:=(by omega);have xn:¬ hb=w2.heap.size:=(by omega);clear hB HT))
    go_region_law (refine step_call3 rfl 19 callSub (.tmp 32) (.tmp 34) (.tmp 35) 25 40 40 rfl (.pointer (some ⟨b,0,none⟩)) (.agg #[.int .i64 x,.string s]) (.agg #[.int .i64 d',.string nm']) (by first|(simp [Act.eval];done)|(simp [Act.eval,Act.put];done)) (by first|(simp [Act.eval];done)|(simp [Act.eval,Act.put];done)) (by first|(simp [Act.eval];done)|(simp [Act.eval,Act.put];done)) (HS.out _ (B2.out.alloc B2.out.size _).drew) ?_;rintro e w3 ⟨rfl,hB⟩;refine ⟨_,rfl,?_⟩;have B3:Hid (Below W.heap.size W w3):=bstep (B2.out.alloc B2.out.size _).drew hB;clear hB)
    all_goals go_wp2
    all_goals go_ret
    all_goals exact ⟨rfl,B3.out⟩
theorem check_s {W:World} {S:Nat→Prop} {hb b:Nat} {ov:Value} {os:List Ob} (h:HpAt W S hb b ov os) {ps:List Plc} (hw:WAt b ps W) (hi:WI ps) (hsz:∀ o∈os,o.nm.size≤maxLen) (d:Int) (nm:ByteArray) (hz:nm.size≤maxLen) (a:Option Addr) (m:Nat) (r:Int) :
    Calls Tryz.prog 47 #[.pointer (some ⟨hb,0,none⟩),.agg #[.int .i64 d,.string nm,.slice a m m],.int .i64 r] W fun e w'=>e=.returned (.int .i64 (csE ps os d nm r))∧Below W.heap.size W w':=by
  have HF:∀ w,Below W.heap.size W w→Calls Tryz.prog 48 #[.pointer (some ⟨hb,0,none⟩),.int .i64 r] w fun e w'=>e=.returned (.tuple #[obW (obI os r),.int .i64 (obF os r)])∧Below w.heap.size w w':=fun w hl=>find_c (h.below hl) r
  cases ho:obI os r with
  | none =>
    have q1:csE ps os d nm r=obE r:=by rw [csE,ho]
    have q2:obF os r=obE r:=by rw [obF,ho]
    rw [ho,q2] at HF
    rw [q1]
    exact chk_err d r _ nm a (obE_ne r) HF
  | some o =>
    have q1:csE ps os d nm r=if sbB ps o.d o.nm (outD (cmpE d nm.data.toList) (d - 1)) (outS (cmpE d nm.data.toList) nm) then 0 else 28:=by rw [csE,ho]
    have q2:obF os r=0:=by rw [obF,ho]
    obtain ⟨av,hv⟩:=elV_form o (h.no o (obI_mem ho))
    rw [ho,q2,obW,obV,hv] at HF
    rw [q1]
    have hz2:(outS (cmpE d nm.data.toList) nm).size≤maxLen:=by unfold outS;split;exact hz;exact Nat.zero_le _
    refine chk_go d r o.d _ (sbE ps o.d o.nm (outD (cmpE d nm.data.toList) (d - 1)) (outS (cmpE d nm.data.toList) nm)) _ nm o.nm _ a av _ h.cells.1 HF (component_any d nm hz) (fun w hl=>?_)
    · have:=sub_c (hw.below hl) hi o.d o.nm (outD (cmpE d nm.data.toList) (d - 1)) (outS (cmpE d nm.data.toList) nm) (hsz o (obI_mem ho)) hz2
      rw [suI_eq] at this
      exact this
set_option maxHeartbeats 1000000 in
theorem set_err {W:World} {p:Value} {r i E N:Int} {Rf:Bool} (hE:¬ E=0) (HF:Hid (∀ w,Below W.heap.size W w→Calls Tryz.prog 43 #[p,.int .i64 r] w fun e w'=>e=.returned (.tuple #[noO,.int .i64 E])∧Below w.heap.size w w')):Calls Tryz.prog 16 #[p,.int .i64 r,.int .i64 i,.agg #[.bool Rf,.int .i64 N]] W fun e w'=>e=.returned (.int .i64 E)∧Below W.heap.size W w':=by
  have B0:Hid (Below W.heap.size W (W.alloc (.cells #[.bool Rf,.int .i64 N] 38))):=(Below.refl _ _).alloc (Nat.le_refl _) _
  unfold noO at HF
  go_enter Tryz.func16,Tryz.ntmps16
  go_wp2_with (go_at_call 43;refine (HF.out _ B0.out).mono ?_;rintro e w1 ⟨rfl,hB⟩;have B1:Hid (Below W.heap.size W w1):=bstep B0.out hB;clear hB HF)
  go_ret
  exact ⟨rfl,B1.out.alloc B1.out.size _⟩
set_option maxHeartbeats 4000000 in
theorem set_kt {W:World} {p:Value} {r i d N:Int} {nm:ByteArray} {a:Option Addr} {m:Nat} (HF:Hid (∀ w,Below W.heap.size W w→Calls Tryz.prog 43 #[p,.int .i64 r] w fun e w'=>e=.returned (.tuple #[.agg #[.int .i64 d,.string nm,.slice a m m],.int .i64 0])∧Below w.heap.size w w')) (hR:rfB d nm=false):Calls Tryz.prog 16 #[p,.int .i64 r,.int .i64 i,.agg #[.bool true,.int .i64 N]] W fun e w'=>e=.returned (.int .i64 35)∧Below W.heap.size W w':=by
  have B0:Hid (Below W.heap.size W (W.alloc (.cells #[.bool true,.int .i64 N] 38))):=(Below.refl _ _).alloc (Nat.le_refl _) _
  have HR:Hid (∀ w:World,Calls Tryz.prog 45 #[.agg #[.int .i64 d,.string nm,.slice a m m]] w fun e w'=>e=.returned (.bool false)∧Below w.heap.size w w'):=fun w=>by
    have:=refs_o d nm (.slice a m m) w
    rw [hR] at this;exact this
  have HI:Hid (∀ w:World,Calls Tryz.prog 46 #[.int .i64 N] w fun e w'=>e=.returned (.bool (i32B N))∧w'=w):=fun w=>int32_o N w
  clear hR
  obtain ⟨I,hI⟩:∃ I,i32B N=I:=⟨_,rfl⟩
  rw [hI] at HI
  have HI0:Hid (i32B N=I):=hI
  clear hI
  go_enter Tryz.func16,Tryz.ntmps16
  go_upto_region 4 with (go_at_call 43;refine (HF.out _ B0.out).mono ?_;rintro e w1 ⟨rfl,hB⟩;have B1:Hid (Below W.heap.size W w1):=bstep B0.out hB;obtain ⟨zB,z0,z1,zf,zL,zN⟩:=k2c (n:=W.heap.size) hB;clear hB HF)
  obtain ⟨U,hU⟩:∃ U,U=w1.alloc (.cells #[.int .i64 d,.string nm,.slice a m m] 93):=⟨_,rfl⟩
  have HUE:Hid (U=w1.alloc (.cells #[.int .i64 d,.string nm,.slice a m m] 93)):=hU
  have BU:Hid (Below W.heap.size W U):=by rw [hU];exact B1.out.alloc B1.out.size _
  have hUs:U.heap.size=w1.heap.size+1:=by rw [hU];simp
  have uv:Hid (U.heap[W.heap.size]?=some (.cells #[.bool true,.int .i64 N] 38 (0,0))):=by rw [hU];exact hkA zB.out
  have uo:Hid (U.heap[w1.heap.size]?=some (.cells #[.int .i64 d,.string nm,.slice a m m] 93 (0,0))):=by rw [hU];exact halloc1 _ _
  clear hU zB z0 z1 zf zN
  obtain ⟨σ,V,hne,V1,V2⟩:=class_of' (fun w'=>Below U.heap.size U w') ⟨_,Below.refl _ _⟩
  have ev:=fun q=>r2c (((V1.out q).block W.heap.size (by omega)).trans uv.out)
  have eo:=fun q=>r3c (((V1.out q).block w1.heap.size (by omega)).trans uo.out)
  have e0:=fun q=>(ev q).1
  have e1:=fun q=>(ev q).2.1
  have e2:=fun q=>(eo q).1
  have e3:=fun q=>(eo q).2.1
  have e4:=fun q=>(eo q).2.2.1
  have HVR:Hid (∀ q,Calls Tryz.prog 45 #[.agg #[.int .i64 d,.string nm,.slice a m m]] (V q) fun e w'=>e=.returned (.bool false)∧∃ q',w'=V q'):=fun q=>(HR.out _).mono fun e w' ⟨h1,h2⟩=>⟨h1,V2.out _ (bstep (V1.out q) h2)⟩
  have HVI:Hid (∀ q,Calls Tryz.prog 46 #[.int .i64 N] (V q) fun e w'=>e=.returned (.bool I)∧∃ q',w'=V q'):=fun q=>(HI.out _).mono fun e w' ⟨h1,h2⟩=>⟨h1,q,h2⟩
  clear ev eo HR HI
  rw [← HUE.out]
  refine wp_region_class (C:=fun w'=>∃ q,w'=V q) (by kernel_rfl) (by kernel_rfl) (V2.out _ (Below.refl _ _).drew) ?_
  repeat (go_big_quiet_step (first|(go_at_call 45;exact HVR.out _)|(go_at_call 46;exact HVI.out _)))
  refine wpQuiet_nil ?_
  intro w9 hw9
  obtain ⟨s9,rfl⟩:=hw9
  have B9:Hid (Below W.heap.size W (V s9)):=bstep BU.out (V1.out s9)
  go_wp2
  go_ret
  exact ⟨rfl,B9.out⟩
set_option maxHeartbeats 4000000 in
theorem set_kf {W:World} {p:Value} {r i d N:Int} {nm:ByteArray} {a:Option Addr} {m:Nat} (HF:Hid (∀ w,Below W.heap.size W w→Calls Tryz.prog 43 #[p,.int .i64 r] w fun e w'=>e=.returned (.tuple #[.agg #[.int .i64 d,.string nm,.slice a m m],.int .i64 0])∧Below w.heap.size w w')) (hR:rfB d nm=true):Calls Tryz.prog 16 #[p,.int .i64 r,.int .i64 i,.agg #[.bool false,.int .i64 N]] W fun e w'=>e=.returned (.int .i64 35)∧Below W.heap.size W w':=by
  have B0:Hid (Below W.heap.size W (W.alloc (.cells #[.bool false,.int .i64 N] 38))):=(Below.refl _ _).alloc (Nat.le_refl _) _
  have HR:Hid (∀ w:World,Calls Tryz.prog 45 #[.agg #[.int .i64 d,.string nm,.slice a m m]] w fun e w'=>e=.returned (.bool true)∧Below w.heap.size w w'):=fun w=>by
    have:=refs_o d nm (.slice a m m) w
    rw [hR] at this;exact this
  have HI:Hid (∀ w:World,Calls Tryz.prog 46 #[.int .i64 N] w fun e w'=>e=.returned (.bool (i32B N))∧w'=w):=fun w=>int32_o N w
  clear hR
  obtain ⟨I,hI⟩:∃ I,i32B N=I:=⟨_,rfl⟩
  rw [hI] at HI
  have HI0:Hid (i32B N=I):=hI
  clear hI
  go_enter Tryz.func16,Tryz.ntmps16
  go_upto_region 4 with (go_at_call 43;refine (HF.out _ B0.out).mono ?_;rintro e w1 ⟨rfl,hB⟩;have B1:Hid (Below W.heap.size W w1):=bstep B0.out hB;obtain ⟨zB,z0,z1,zf,zL,zN⟩:=k2c (n:=W.heap.size) hB;clear hB HF)
  obtain ⟨U,hU⟩:∃ U,U=w1.alloc (.cells #[.int .i64 d,.string nm,.slice a m m] 93):=⟨_,rfl⟩
  have HUE:Hid (U=w1.alloc (.cells #[.int .i64 d,.string nm,.slice a m m] 93)):=hU
  have BU:Hid (Below W.heap.size W U):=by rw [hU];exact B1.out.alloc B1.out.size _
  have hUs:U.heap.size=w1.heap.size+1:=by rw [hU];simp
  have uv:Hid (U.heap[W.heap.size]?=some (.cells #[.bool false,.int .i64 N] 38 (0,0))):=by rw [hU];exact hkA zB.out
  have uo:Hid (U.heap[w1.heap.size]?=some (.cells #[.int .i64 d,.string nm,.slice a m m] 93 (0,0))):=by rw [hU];exact halloc1 _ _
  clear hU zB z0 z1 zf zN
  obtain ⟨σ,V,hne,V1,V2⟩:=class_of' (fun w'=>Below U.heap.size U w') ⟨_,Below.refl _ _⟩
  have ev:=fun q=>r2c (((V1.out q).block W.heap.size (by omega)).trans uv.out)
  have eo:=fun q=>r3c (((V1.out q).block w1.heap.size (by omega)).trans uo.out)
  have e0:=fun q=>(ev q).1
  have e1:=fun q=>(ev q).2.1
  have e2:=fun q=>(eo q).1
  have e3:=fun q=>(eo q).2.1
  have e4:=fun q=>(eo q).2.2.1
  have HVR:Hid (∀ q,Calls Tryz.prog 45 #[.agg #[.int .i64 d,.string nm,.slice a m m]] (V q) fun e w'=>e=.returned (.bool true)∧∃ q',w'=V q'):=fun q=>(HR.out _).mono fun e w' ⟨h1,h2⟩=>⟨h1,V2.out _ (bstep (V1.out q) h2)⟩
  have HVI:Hid (∀ q,Calls Tryz.prog 46 #[.int .i64 N] (V q) fun e w'=>e=.returned (.bool I)∧∃ q',w'=V q'):=fun q=>(HI.out _).mono fun e w' ⟨h1,h2⟩=>⟨h1,q,h2⟩
  clear ev eo HR HI
  rw [← HUE.out]
  refine wp_region_class (C:=fun w'=>∃ q,w'=V q) (by kernel_rfl) (by kernel_rfl) (V2.out _ (Below.refl _ _).drew) ?_
  repeat (go_big_quiet_step (first|(go_at_call 45;exact HVR.out _)|(go_at_call 46;exact HVI.out _)))
  refine wpQuiet_nil ?_
  intro w9 hw9
  obtain ⟨s9,rfl⟩:=hw9
  have B9:Hid (Below W.heap.size W (V s9)):=bstep BU.out (V1.out s9)
  go_wp2
  go_ret
  exact ⟨rfl,B9.out⟩
set_option maxHeartbeats 4000000 in
theorem set_i32 {W:World} {p:Value} {r i d N:Int} {nm:ByteArray} {a:Option Addr} {m:Nat} (HF:Hid (∀ w,Below W.heap.size W w→Calls Tryz.prog 43 #[p,.int .i64 r] w fun e w'=>e=.returned (.tuple #[.agg #[.int .i64 d,.string nm,.slice a m m],.int .i64 0])∧Below w.heap.size w w')) (hR:rfB d nm=false) (hN:i32B N=false):Calls Tryz.prog 16 #[p,.int .i64 r,.int .i64 i,.agg #[.bool false,.int .i64 N]] W fun e w'=>e=.returned (.int .i64 35)∧Below W.heap.size W w':=by
  have B0:Hid (Below W.heap.size W (W.alloc (.cells #[.bool false,.int .i64 N] 38))):=(Below.refl _ _).alloc (Nat.le_refl _) _
  have HR:Hid (∀ w:World,Calls Tryz.prog 45 #[.agg #[.int .i64 d,.string nm,.slice a m m]] w fun e w'=>e=.returned (.bool false)∧Below w.heap.size w w'):=fun w=>by
    have:=refs_o d nm (.slice a m m) w
    rw [hR] at this;exact this
  have HI:Hid (∀ w:World,Calls Tryz.prog 46 #[.int .i64 N] w fun e w'=>e=.returned (.bool (i32B N))∧w'=w):=fun w=>int32_o N w
  clear hR
  obtain ⟨I,hI⟩:∃ I,i32B N=I:=⟨_,rfl⟩
  rw [hI] at HI
  have HI0:Hid (i32B N=I):=hI
  clear hI
  go_enter Tryz.func16,Tryz.ntmps16
  go_upto_region 4 with (go_at_call 43;refine (HF.out _ B0.out).mono ?_;rintro e w1 ⟨rfl,hB⟩;have B1:Hid (Below W.heap.size W w1):=bstep B0.out hB;obtain ⟨zB,z0,z1,zf,zL,zN⟩:=k2c (n:=W.heap.size) hB;clear hB HF)
  obtain ⟨U,hU⟩:∃ U,U=w1.alloc (.cells #[.int .i64 d,.string nm,.slice a m m] 93):=⟨_,rfl⟩
  have HUE:Hid (U=w1.alloc (.cells #[.int .i64 d,.string nm,.slice a m m] 93)):=hU
  have BU:Hid (Below W.heap.size W U):=by rw [hU];exact B1.out.alloc B1.out.size _
  have hUs:U.heap.size=w1.heap.size+1:=by rw [hU];simp
  have uv:Hid (U.heap[W.heap.size]?=some (.cells #[.bool false,.int .i64 N] 38 (0,0))):=by rw [hU];exact hkA zB.out
  have uo:Hid (U.heap[w1.heap.size]?=some (.cells #[.int .i64 d,.string nm,.slice a m m] 93 (0,0))):=by rw [hU];exact halloc1 _ _
  clear hU zB z0 z1 zf zN
  obtain ⟨σ,V,hne,V1,V2⟩:=class_of' (fun w'=>Below U.heap.size U w') ⟨_,Below.refl _ _⟩
  have ev:=fun q=>r2c (((V1.out q).block W.heap.size (by omega)).trans uv.out)
  have eo:=fun q=>r3c (((V1.out q).block w1.heap.size (by omega)).trans uo.out)
  have e0:=fun q=>(ev q).1
  have e1:=fun q=>(ev q).2.1
  have e2:=fun q=>(eo q).1
  have e3:=fun q=>(eo q).2.1
  have e4:=fun q=>(eo q).2.2.1
  have HVR:Hid (∀ q,Calls Tryz.prog 45 #[.agg #[.int .i64 d,.string nm,.slice a m m]] (V q) fun e w'=>e=.returned (.bool false)∧∃ q',w'=V q'):=fun q=>(HR.out _).mono fun e w' ⟨h1,h2⟩=>⟨h1,V2.out _ (bstep (V1.out q) h2)⟩
  have HVI:Hid (∀ q,Calls Tryz.prog 46 #[.int .i64 N] (V q) fun e w'=>e=.returned (.bool I)∧∃ q',w'=V q'):=fun q=>(HI.out _).mono fun e w' ⟨h1,h2⟩=>⟨h1,q,h2⟩
  clear ev eo HR HI
  rw [← HUE.out]
  refine wp_region_class (C:=fun w'=>∃ q,w'=V q) (by kernel_rfl) (by kernel_rfl) (V2.out _ (Below.refl _ _).drew) ?_
  repeat (go_big_quiet_step (first|(go_at_call 45;exact HVR.out _)|(go_at_call 46;exact HVI.out _)))
  refine wpQuiet_nil ?_
  intro w9 hw9
  obtain ⟨s9,rfl⟩:=hw9
  have B9:Hid (Below W.heap.size W (V s9)):=bstep BU.out (V1.out s9)
  obtain rfl:I=false:=HI0.out.symm.trans hN
  go_wp2
  go_ret
  exact ⟨rfl,B9.out⟩
set_option maxHeartbeats 4000000 in
theorem set_off_f {W:World} {p:Value} {r i d N:Int} {nm:ByteArray} {a:Option Addr} {m:Nat} (HF:Hid (∀ w,Below W.heap.size W w→Calls Tryz.prog 43 #[p,.int .i64 r] w fun e w'=>e=.returned (.tuple #[.agg #[.int .i64 d,.string nm,.slice a m m],.int .i64 0])∧Below w.heap.size w w')) (hR:rfB d nm=false) (hN:i32B N=true) (HH:Hid (∀ w:World,Calls Tryz.prog 44 #[.agg #[.int .i64 d,.string nm,.slice a m m],.int .i64 i] w fun e w'=>e=.returned (.bool false)∧Below w.heap.size w w')):Calls Tryz.prog 16 #[p,.int .i64 r,.int .i64 i,.agg #[.bool false,.int .i64 N]] W fun e w'=>e=.returned (.int .i64 31)∧Below W.heap.size W w':=by
  have B0:Hid (Below W.heap.size W (W.alloc (.cells #[.bool false,.int .i64 N] 38))):=(Below.refl _ _).alloc (Nat.le_refl _) _
  have HR:Hid (∀ w:World,Calls Tryz.prog 45 #[.agg #[.int .i64 d,.string nm,.slice a m m]] w fun e w'=>e=.returned (.bool false)∧Below w.heap.size w w'):=fun w=>by
    have:=refs_o d nm (.slice a m m) w
    rw [hR] at this;exact this
  have HI:Hid (∀ w:World,Calls Tryz.prog 46 #[.int .i64 N] w fun e w'=>e=.returned (.bool (i32B N))∧w'=w):=fun w=>int32_o N w
  clear hR
  obtain ⟨I,hI⟩:∃ I,i32B N=I:=⟨_,rfl⟩
  rw [hI] at HI
  have HI0:Hid (i32B N=I):=hI
  clear hI
  go_enter Tryz.func16,Tryz.ntmps16
  go_upto_region 4 with (go_at_call 43;refine (HF.out _ B0.out).mono ?_;rintro e w1 ⟨rfl,hB⟩;have B1:Hid (Below W.heap.size W w1):=bstep B0.out hB;obtain ⟨zB,z0,z1,zf,zL,zN⟩:=k2c (n:=W.heap.size) hB;clear hB HF)
  obtain ⟨U,hU⟩:∃ U,U=w1.alloc (.cells #[.int .i64 d,.string nm,.slice a m m] 93):=⟨_,rfl⟩
  have HUE:Hid (U=w1.alloc (.cells #[.int .i64 d,.string nm,.slice a m m] 93)):=hU
  have BU:Hid (Below W.heap.size W U):=by rw [hU];exact B1.out.alloc B1.out.size _
  have hUs:U.heap.size=w1.heap.size+1:=by rw [hU];simp
  have uv:Hid (U.heap[W.heap.size]?=some (.cells #[.bool false,.int .i64 N] 38 (0,0))):=by rw [hU];exact hkA zB.out
  have uo:Hid (U.heap[w1.heap.size]?=some (.cells #[.int .i64 d,.string nm,.slice a m m] 93 (0,0))):=by rw [hU];exact halloc1 _ _
  clear hU zB z0 z1 zf zN
  obtain ⟨σ,V,hne,V1,V2⟩:=class_of' (fun w'=>Below U.heap.size U w') ⟨_,Below.refl _ _⟩
  have ev:=fun q=>r2c (((V1.out q).block W.heap.size (by omega)).trans uv.out)
  have eo:=fun q=>r3c (((V1.out q).block w1.heap.size (by omega)).trans uo.out)
  have e0:=fun q=>(ev q).1
  have e1:=fun q=>(ev q).2.1
  have e2:=fun q=>(eo q).1
  have e3:=fun q=>(eo q).2.1
  have e4:=fun q=>(eo q).2.2.1
  have HVR:Hid (∀ q,Calls Tryz.prog 45 #[.agg #[.int .i64 d,.string nm,.slice a m m]] (V q) fun e w'=>e=.returned (.bool false)∧∃ q',w'=V q'):=fun q=>(HR.out _).mono fun e w' ⟨h1,h2⟩=>⟨h1,V2.out _ (bstep (V1.out q) h2)⟩
  have HVI:Hid (∀ q,Calls Tryz.prog 46 #[.int .i64 N] (V q) fun e w'=>e=.returned (.bool I)∧∃ q',w'=V q'):=fun q=>(HI.out _).mono fun e w' ⟨h1,h2⟩=>⟨h1,q,h2⟩
  clear ev eo HR HI
  rw [← HUE.out]
  refine wp_region_class (C:=fun w'=>∃ q,w'=V q) (by kernel_rfl) (by kernel_rfl) (V2.out _ (Below.refl _ _).drew) ?_
  repeat (go_big_quiet_step (first|(go_at_call 45;exact HVR.out _)|(go_at_call 46;exact HVI.out _)))
  refine wpQuiet_nil ?_
  intro w9 hw9
  obtain ⟨s9,rfl⟩:=hw9
  have B9:Hid (Below W.heap.size W (V s9)):=bstep BU.out (V1.out s9)
  obtain rfl:I=true:=HI0.out.symm.trans hN
  have hz9:=(V1.out s9).size
  have vB:Hid ((V s9).heap[W.heap.size]?=some (.cells #[.bool false,.int .i64 N] 38 (0,0))):=((V1.out s9).block W.heap.size (by omega)).trans uv.out
  have oB:Hid ((V s9).heap[w1.heap.size]?=some (.cells #[.int .i64 d,.string nm,.slice a m m] 93 (0,0))):=((V1.out s9).block w1.heap.size (by omega)).trans uo.out
  clear e0 e1 e2 e3 e4 HVR HVI V1 V2 uv uo hUs HUE BU
  generalize V s9=w9 at *
  clear V hne s9
  obtain ⟨v0,v1,vf,vL⟩:=r2c vB.out
  obtain ⟨o0,o1,o2,of,oL⟩:=r3c oB.out
  go_wp2_with (go_at_call 44;refine (HH.out _).mono ?_;rintro e w10 ⟨rfl,hB⟩;have B10:Hid (Below W.heap.size W w10):=bstep B9.out hB;have vd:=k2c (n:=W.heap.size) hB vL vB.out;have od:=k3c (n:=w1.heap.size) hB oL oB.out;clear vB v0 v1 vf vL oB o0 o1 o2 of oL;obtain ⟨vB,v0,v1,vf,vL,vN⟩:=vd;obtain ⟨oB,o0,o1,o2,of,oL,oN⟩:=od;clear hB HH)
  go_ret
  exact ⟨rfl,B10.out⟩
set_option maxHeartbeats 4000000 in
theorem set_off_t {W:World} {p:Value} {r i d N:Int} {nm:ByteArray} {a:Option Addr} {m:Nat} (HF:Hid (∀ w,Below W.heap.size W w→Calls Tryz.prog 43 #[p,.int .i64 r] w fun e w'=>e=.returned (.tuple #[.agg #[.int .i64 d,.string nm,.slice a m m],.int .i64 0])∧Below w.heap.size w w')) (hR:rfB d nm=true) (HH:Hid (∀ w:World,Calls Tryz.prog 44 #[.agg #[.int .i64 d,.string nm,.slice a m m],.int .i64 i] w fun e w'=>e=.returned (.bool false)∧Below w.heap.size w w')):Calls Tryz.prog 16 #[p,.int .i64 r,.int .i64 i,.agg #[.bool true,.int .i64 N]] W fun e w'=>e=.returned (.int .i64 31)∧Below W.heap.size W w':=by
  have B0:Hid (Below W.heap.size W (W.alloc (.cells #[.bool true,.int .i64 N] 38))):=(Below.refl _ _).alloc (Nat.le_refl _) _
  have HR:Hid (∀ w:World,Calls Tryz.prog 45 #[.agg #[.int .i64 d,.string nm,.slice a m m]] w fun e w'=>e=.returned (.bool true)∧Below w.heap.size w w'):=fun w=>by
    have:=refs_o d nm (.slice a m m) w
    rw [hR] at this;exact this
  have HI:Hid (∀ w:World,Calls Tryz.prog 46 #[.int .i64 N] w fun e w'=>e=.returned (.bool (i32B N))∧w'=w):=fun w=>int32_o N w
  clear hR
  obtain ⟨I,hI⟩:∃ I,i32B N=I:=⟨_,rfl⟩
  rw [hI] at HI
  have HI0:Hid (i32B N=I):=hI
  clear hI
  go_enter Tryz.func16,Tryz.ntmps16
  go_upto_region 4 with (go_at_call 43;refine (HF.out _ B0.out).mono ?_;rintro e w1 ⟨rfl,hB⟩;have B1:Hid (Below W.heap.size W w1):=bstep B0.out hB;obtain ⟨zB,z0,z1,zf,zL,zN⟩:=k2c (n:=W.heap.size) hB;clear hB HF)
  obtain ⟨U,hU⟩:∃ U,U=w1.alloc (.cells #[.int .i64 d,.string nm,.slice a m m] 93):=⟨_,rfl⟩
  have HUE:Hid (U=w1.alloc (.cells #[.int .i64 d,.string nm,.slice a m m] 93)):=hU
  have BU:Hid (Below W.heap.size W U):=by rw [hU];exact B1.out.alloc B1.out.size _
  have hUs:U.heap.size=w1.heap.size+1:=by rw [hU];simp
  have uv:Hid (U.heap[W.heap.size]?=some (.cells #[.bool true,.int .i64 N] 38 (0,0))):=by rw [hU];exact hkA zB.out
  have uo:Hid (U.heap[w1.heap.size]?=some (.cells #[.int .i64 d,.string nm,.slice a m m] 93 (0,0))):=by rw [hU];exact halloc1 _ _
  clear hU zB z0 z1 zf zN
  obtain ⟨σ,V,hne,V1,V2⟩:=class_of' (fun w'=>Below U.heap.size U w') ⟨_,Below.refl _ _⟩
  have ev:=fun q=>r2c (((V1.out q).block W.heap.size (by omega)).trans uv.out)
  have eo:=fun q=>r3c (((V1.out q).block w1.heap.size (by omega)).trans uo.out)
  have e0:=fun q=>(ev q).1
  have e1:=fun q=>(ev q).2.1
  have e2:=fun q=>(eo q).1
  have e3:=fun q=>(eo q).2.1
  have e4:=fun q=>(eo q).2.2.1
  have HVR:Hid (∀ q,Calls Tryz.prog 45 #[.agg #[.int .i64 d,.string nm,.slice a m m]] (V q) fun e w'=>e=.returned (.bool true)∧∃ q',w'=V q'):=fun q=>(HR.out _).mono fun e w' ⟨h1,h2⟩=>⟨h1,V2.out _ (bstep (V1.out q) h2)⟩
  have HVI:Hid (∀ q,Calls Tryz.prog 46 #[.int .i64 N] (V q) fun e w'=>e=.returned (.bool I)∧∃ q',w'=V q'):=fun q=>(HI.out _).mono fun e w' ⟨h1,h2⟩=>⟨h1,q,h2⟩
  clear ev eo HR HI
  rw [← HUE.out]
  refine wp_region_class (C:=fun w'=>∃ q,w'=V q) (by kernel_rfl) (by kernel_rfl) (V2.out _ (Below.refl _ _).drew) ?_
  repeat (go_big_quiet_step (first|(go_at_call 45;exact HVR.out _)|(go_at_call 46;exact HVI.out _)))
  refine wpQuiet_nil ?_
  intro w9 hw9
  obtain ⟨s9,rfl⟩:=hw9
  have B9:Hid (Below W.heap.size W (V s9)):=bstep BU.out (V1.out s9)
  have hz9:=(V1.out s9).size
  have vB:Hid ((V s9).heap[W.heap.size]?=some (.cells #[.bool true,.int .i64 N] 38 (0,0))):=((V1.out s9).block W.heap.size (by omega)).trans uv.out
  have oB:Hid ((V s9).heap[w1.heap.size]?=some (.cells #[.int .i64 d,.string nm,.slice a m m] 93 (0,0))):=((V1.out s9).block w1.heap.size (by omega)).trans uo.out
  clear e0 e1 e2 e3 e4 HVR HVI V1 V2 uv uo hUs HUE BU
  generalize V s9=w9 at *
  clear V hne s9
  obtain ⟨v0,v1,vf,vL⟩:=r2c vB.out
  obtain ⟨o0,o1,o2,of,oL⟩:=r3c oB.out
  go_wp2_with (go_at_call 44;refine (HH.out _).mono ?_;rintro e w10 ⟨rfl,hB⟩;have B10:Hid (Below W.heap.size W w10):=bstep B9.out hB;have vd:=k2c (n:=W.heap.size) hB vL vB.out;have od:=k3c (n:=w1.heap.size) hB oL oB.out;clear vB v0 v1 vf vL oB o0 o1 o2 of oL;obtain ⟨vB,v0,v1,vf,vL,vN⟩:=vd;obtain ⟨oB,o0,o1,o2,of,oL,oN⟩:=od;clear hB HH)
  go_ret
  exact ⟨rfl,B10.out⟩
set_option maxHeartbeats 4000000 in
theorem set_int {W:World} {p:Value} {r i d N:Int} {nm:ByteArray} {a:Option Addr} {m:Nat} {g j:Nat} {u:Int} (HF:Hid (∀ w,Below W.heap.size W w→Calls Tryz.prog 43 #[p,.int .i64 r] w fun e w'=>e=.returned (.tuple #[.agg #[.int .i64 d,.string nm,.slice a m m],.int .i64 0])∧Below w.heap.size w w')) (hR:rfB d nm=false) (hN:i32B N=true) (HH:Hid (∀ w:World,Calls Tryz.prog 44 #[.agg #[.int .i64 d,.string nm,.slice a m m],.int .i64 i] w fun e w'=>e=.returned (.bool true)∧Below w.heap.size w w')) (hj:Hid (i=(j:Int))) (hjm:j<m) (ha:Hid (a=some ⟨g,0,none⟩)) (hu:W.cell? ⟨g,j,none⟩=some (.int .i64 u)) (hf:W.frozen? ⟨g,j,none⟩=false):Calls Tryz.prog 16 #[p,.int .i64 r,.int .i64 i,.agg #[.bool false,.int .i64 N]] W fun e w'=>e=.returned (.int .i64 0)∧∃ w2,Below W.heap.size W w2∧w'=w2.setCell ⟨g,j,none⟩ (.int .i64 N):=by
  have B0:Hid (Below W.heap.size W (W.alloc (.cells #[.bool false,.int .i64 N] 38))):=(Below.refl _ _).alloc (Nat.le_refl _) _
  have HR:Hid (∀ w:World,Calls Tryz.prog 45 #[.agg #[.int .i64 d,.string nm,.slice a m m]] w fun e w'=>e=.returned (.bool false)∧Below w.heap.size w w'):=fun w=>by
    have:=refs_o d nm (.slice a m m) w
    rw [hR] at this;exact this
  have HI:Hid (∀ w:World,Calls Tryz.prog 46 #[.int .i64 N] w fun e w'=>e=.returned (.bool (i32B N))∧w'=w):=fun w=>int32_o N w
  clear hR
  obtain ⟨I,hI⟩:∃ I,i32B N=I:=⟨_,rfl⟩
  rw [hI] at HI
  have HI0:Hid (i32B N=I):=hI
  clear hI
  go_enter Tryz.func16,Tryz.ntmps16
  go_upto_region 4 with (go_at_call 43;refine (HF.out _ B0.out).mono ?_;rintro e w1 ⟨rfl,hB⟩;have B1:Hid (Below W.heap.size W w1):=bstep B0.out hB;obtain ⟨zB,z0,z1,zf,zL,zN⟩:=k2c (n:=W.heap.size) hB;clear hB HF)
  obtain ⟨U,hU⟩:∃ U,U=w1.alloc (.cells #[.int .i64 d,.string nm,.slice a m m] 93):=⟨_,rfl⟩
  have HUE:Hid (U=w1.alloc (.cells #[.int .i64 d,.string nm,.slice a m m] 93)):=hU
  have BU:Hid (Below W.heap.size W U):=by rw [hU];exact B1.out.alloc B1.out.size _
  have hUs:U.heap.size=w1.heap.size+1:=by rw [hU];simp
  have uv:Hid (U.heap[W.heap.size]?=some (.cells #[.bool false,.int .i64 N] 38 (0,0))):=by rw [hU];exact hkA zB.out
  have uo:Hid (U.heap[w1.heap.size]?=some (.cells #[.int .i64 d,.string nm,.slice a m m] 93 (0,0))):=by rw [hU];exact halloc1 _ _
  clear hU zB z0 z1 zf zN
  obtain ⟨σ,V,hne,V1,V2⟩:=class_of' (fun w'=>Below U.heap.size U w') ⟨_,Below.refl _ _⟩
  have ev:=fun q=>r2c (((V1.out q).block W.heap.size (by omega)).trans uv.out)
  have eo:=fun q=>r3c (((V1.out q).block w1.heap.size (by omega)).trans uo.out)
  have e0:=fun q=>(ev q).1
  have e1:=fun q=>(ev q).2.1
  have e2:=fun q=>(eo q).1
  have e3:=fun q=>(eo q).2.1
  have e4:=fun q=>(eo q).2.2.1
  have HVR:Hid (∀ q,Calls Tryz.prog 45 #[.agg #[.int .i64 d,.string nm,.slice a m m]] (V q) fun e w'=>e=.returned (.bool false)∧∃ q',w'=V q'):=fun q=>(HR.out _).mono fun e w' ⟨h1,h2⟩=>⟨h1,V2.out _ (bstep (V1.out q) h2)⟩
  have HVI:Hid (∀ q,Calls Tryz.prog 46 #[.int .i64 N] (V q) fun e w'=>e=.returned (.bool I)∧∃ q',w'=V q'):=fun q=>(HI.out _).mono fun e w' ⟨h1,h2⟩=>⟨h1,q,h2⟩
  clear ev eo HR HI
  rw [← HUE.out]
  refine wp_region_class (C:=fun w'=>∃ q,w'=V q) (by kernel_rfl) (by kernel_rfl) (V2.out _ (Below.refl _ _).drew) ?_
  repeat (go_big_quiet_step (first|(go_at_call 45;exact HVR.out _)|(go_at_call 46;exact HVI.out _)))
  refine wpQuiet_nil ?_
  intro w9 hw9
  obtain ⟨s9,rfl⟩:=hw9
  have B9:Hid (Below W.heap.size W (V s9)):=bstep BU.out (V1.out s9)
  obtain rfl:I=true:=HI0.out.symm.trans hN
  have hz9:=(V1.out s9).size
  have vB:Hid ((V s9).heap[W.heap.size]?=some (.cells #[.bool false,.int .i64 N] 38 (0,0))):=((V1.out s9).block W.heap.size (by omega)).trans uv.out
  have oB:Hid ((V s9).heap[w1.heap.size]?=some (.cells #[.int .i64 d,.string nm,.slice a m m] 93 (0,0))):=((V1.out s9).block w1.heap.size (by omega)).trans uo.out
  clear e0 e1 e2 e3 e4 HVR HVI V1 V2 uv uo hUs HUE BU
  generalize V s9=w9 at *
  clear V hne s9
  obtain ⟨v0,v1,vf,vL⟩:=r2c vB.out
  obtain ⟨o0,o1,o2,of,oL⟩:=r3c oB.out
  obtain rfl:=hj.out
  obtain rfl:=ha.out
  have hgl:g<W.heap.size:=World.block_lt_of_cell? W _ hu
  have hjI:(j:Int)<(m:Int):=by omega
  go_wp2_with (first|(go_at_call 44;refine (HH.out _).mono ?_;rintro e w10 ⟨rfl,hB⟩;have B10:Hid (Below W.heap.size W w10):=bstep B9.out hB;have vd:=k2c (n:=W.heap.size) hB vL vB.out;have od:=k3c (n:=w1.heap.size) hB oL oB.out;clear vB v0 v1 vf vL oB o0 o1 o2 of oL;obtain ⟨vB,v0,v1,vf,vL,vN⟩:=vd;obtain ⟨oB,o0,o1,o2,of,oL,oN⟩:=od;have uu:w10.cell? ⟨g,j,none⟩=some (.int .i64 u):=(B10.out.cell (p:=⟨g,j,none⟩) hgl).trans hu;have uf:w10.frozen? ⟨g,j,none⟩=false:=(B10.out.frozen (p:=⟨g,j,none⟩) hgl).trans hf;clear hB HH))
  go_ret
  exact ⟨rfl,_,B10.out,rfl⟩
set_option maxHeartbeats 4000000 in
theorem set_null {W:World} {p:Value} {r i d N:Int} {nm:ByteArray} {a:Option Addr} {m:Nat} {g j:Nat} {u:Int} (HF:Hid (∀ w,Below W.heap.size W w→Calls Tryz.prog 43 #[p,.int .i64 r] w fun e w'=>e=.returned (.tuple #[.agg #[.int .i64 d,.string nm,.slice a m m],.int .i64 0])∧Below w.heap.size w w')) (hR:rfB d nm=true) (HH:Hid (∀ w:World,Calls Tryz.prog 44 #[.agg #[.int .i64 d,.string nm,.slice a m m],.int .i64 i] w fun e w'=>e=.returned (.bool true)∧Below w.heap.size w w')) (hj:Hid (i=(j:Int))) (hjm:j<m) (ha:Hid (a=some ⟨g,0,none⟩)) (hu:W.cell? ⟨g,j,none⟩=some (.int .i64 u)) (hf:W.frozen? ⟨g,j,none⟩=false) (h0:Hid (N=0)):Calls Tryz.prog 16 #[p,.int .i64 r,.int .i64 i,.agg #[.bool true,.int .i64 N]] W fun e w'=>e=.returned (.int .i64 0)∧∃ w2,Below W.heap.size W w2∧w'=w2.setCell ⟨g,j,none⟩ (.int .i64 N):=by
  have B0:Hid (Below W.heap.size W (W.alloc (.cells #[.bool true,.int .i64 N] 38))):=(Below.refl _ _).alloc (Nat.le_refl _) _
  have HR:Hid (∀ w:World,Calls Tryz.prog 45 #[.agg #[.int .i64 d,.string nm,.slice a m m]] w fun e w'=>e=.returned (.bool true)∧Below w.heap.size w w'):=fun w=>by
    have:=refs_o d nm (.slice a m m) w
    rw [hR] at this;exact this
  have HI:Hid (∀ w:World,Calls Tryz.prog 46 #[.int .i64 N] w fun e w'=>e=.returned (.bool (i32B N))∧w'=w):=fun w=>int32_o N w
  clear hR
  obtain ⟨I,hI⟩:∃ I,i32B N=I:=⟨_,rfl⟩
  rw [hI] at HI
  have HI0:Hid (i32B N=I):=hI
  clear hI
  go_enter Tryz.func16,Tryz.ntmps16
  go_upto_region 4 with (go_at_call 43;refine (HF.out _ B0.out).mono ?_;rintro e w1 ⟨rfl,hB⟩;have B1:Hid (Below W.heap.size W w1):=bstep B0.out hB;obtain ⟨zB,z0,z1,zf,zL,zN⟩:=k2c (n:=W.heap.size) hB;clear hB HF)
  obtain ⟨U,hU⟩:∃ U,U=w1.alloc (.cells #[.int .i64 d,.string nm,.slice a m m] 93):=⟨_,rfl⟩
  have HUE:Hid (U=w1.alloc (.cells #[.int .i64 d,.string nm,.slice a m m] 93)):=hU
  have BU:Hid (Below W.heap.size W U):=by rw [hU];exact B1.out.alloc B1.out.size _
  have hUs:U.heap.size=w1.heap.size+1:=by rw [hU];simp
  have uv:Hid (U.heap[W.heap.size]?=some (.cells #[.bool true,.int .i64 N] 38 (0,0))):=by rw [hU];exact hkA zB.out
  have uo:Hid (U.heap[w1.heap.size]?=some (.cells #[.int .i64 d,.string nm,.slice a m m] 93 (0,0))):=by rw [hU];exact halloc1 _ _
  clear hU zB z0 z1 zf zN
  obtain ⟨σ,V,hne,V1,V2⟩:=class_of' (fun w'=>Below U.heap.size U w') ⟨_,Below.refl _ _⟩
  have ev:=fun q=>r2c (((V1.out q).block W.heap.size (by omega)).trans uv.out)
  have eo:=fun q=>r3c (((V1.out q).block w1.heap.size (by omega)).trans uo.out)
  have e0:=fun q=>(ev q).1
  have e1:=fun q=>(ev q).2.1
  have e2:=fun q=>(eo q).1
  have e3:=fun q=>(eo q).2.1
  have e4:=fun q=>(eo q).2.2.1
  have HVR:Hid (∀ q,Calls Tryz.prog 45 #[.agg #[.int .i64 d,.string nm,.slice a m m]] (V q) fun e w'=>e=.returned (.bool true)∧∃ q',w'=V q'):=fun q=>(HR.out _).mono fun e w' ⟨h1,h2⟩=>⟨h1,V2.out _ (bstep (V1.out q) h2)⟩
  have HVI:Hid (∀ q,Calls Tryz.prog 46 #[.int .i64 N] (V q) fun e w'=>e=.returned (.bool I)∧∃ q',w'=V q'):=fun q=>(HI.out _).mono fun e w' ⟨h1,h2⟩=>⟨h1,q,h2⟩
  clear ev eo HR HI
  rw [← HUE.out]
  refine wp_region_class (C:=fun w'=>∃ q,w'=V q) (by kernel_rfl) (by kernel_rfl) (V2.out _ (Below.refl _ _).drew) ?_
  repeat (go_big_quiet_step (first|(go_at_call 45;exact HVR.out _)|(go_at_call 46;exact HVI.out _)))
  refine wpQuiet_nil ?_
  intro w9 hw9
  obtain ⟨s9,rfl⟩:=hw9
  have B9:Hid (Below W.heap.size W (V s9)):=bstep BU.out (V1.out s9)
  have hz9:=(V1.out s9).size
  have vB:Hid ((V s9).heap[W.heap.size]?=some (.cells #[.bool true,.int .i64 N] 38 (0,0))):=((V1.out s9).block W.heap.size (by omega)).trans uv.out
  have oB:Hid ((V s9).heap[w1.heap.size]?=some (.cells #[.int .i64 d,.string nm,.slice a m m] 93 (0,0))):=((V1.out s9).block w1.heap.size (by omega)).trans uo.out
  clear e0 e1 e2 e3 e4 HVR HVI V1 V2 uv uo hUs HUE BU
  generalize V s9=w9 at *
  clear V hne s9
  obtain ⟨v0,v1,vf,vL⟩:=r2c vB.out
  obtain ⟨o0,o1,o2,of,oL⟩:=r3c oB.out
  obtain rfl:=hj.out
  obtain rfl:=ha.out
  obtain rfl:=h0.out
  have hgl:g<W.heap.size:=World.block_lt_of_cell? W _ hu
  have hjI:(j:Int)<(m:Int):=by omega
  go_wp2_with (first|(go_at_call 44;refine (HH.out _).mono ?_;rintro e w10 ⟨rfl,hB⟩;have B10:Hid (Below W.heap.size W w10):=bstep B9.out hB;have vd:=k2c (n:=W.heap.size) hB vL vB.out;have od:=k3c (n:=w1.heap.size) hB oL oB.out;clear vB v0 v1 vf vL oB o0 o1 o2 of oL;obtain ⟨vB,v0,v1,vf,vL,vN⟩:=vd;obtain ⟨oB,o0,o1,o2,of,oL,oN⟩:=od;have uu:w10.cell? ⟨g,j,none⟩=some (.int .i64 u):=(B10.out.cell (p:=⟨g,j,none⟩) hgl).trans hu;have uf:w10.frozen? ⟨g,j,none⟩=false:=(B10.out.frozen (p:=⟨g,j,none⟩) hgl).trans hf;clear hB HH))
  go_ret
  exact ⟨rfl,_,B10.out,rfl⟩
set_option maxHeartbeats 4000000 in
theorem set_ref {W:World} {p:Value} {r i d N:Int} {nm:ByteArray} {a:Option Addr} {m:Nat} {g j:Nat} {u:Int} (HF:Hid (∀ w,Below W.heap.size W w→Calls Tryz.prog 43 #[p,.int .i64 r] w fun e w'=>e=.returned (.tuple #[.agg #[.int .i64 d,.string nm,.slice a m m],.int .i64 0])∧Below w.heap.size w w')) (hR:rfB d nm=true) (HH:Hid (∀ w:World,Calls Tryz.prog 44 #[.agg #[.int .i64 d,.string nm,.slice a m m],.int .i64 i] w fun e w'=>e=.returned (.bool true)∧Below w.heap.size w w')) (hj:Hid (i=(j:Int))) (hjm:j<m) (ha:Hid (a=some ⟨g,0,none⟩)) (hu:W.cell? ⟨g,j,none⟩=some (.int .i64 u)) (hf:W.frozen? ⟨g,j,none⟩=false) (h0:¬ N=0) (HC:Hid (∀ w,Below W.heap.size W w→Calls Tryz.prog 47 #[p,.agg #[.int .i64 d,.string nm,.slice a m m],.int .i64 N] w fun e w'=>e=.returned (.int .i64 0)∧Below w.heap.size w w')):Calls Tryz.prog 16 #[p,.int .i64 r,.int .i64 i,.agg #[.bool true,.int .i64 N]] W fun e w'=>e=.returned (.int .i64 0)∧∃ w2,Below W.heap.size W w2∧w'=w2.setCell ⟨g,j,none⟩ (.int .i64 N):=by
  have B0:Hid (Below W.heap.size W (W.alloc (.cells #[.bool true,.int .i64 N] 38))):=(Below.refl _ _).alloc (Nat.le_refl _) _
  have HR:Hid (∀ w:World,Calls Tryz.prog 45 #[.agg #[.int .i64 d,.string nm,.slice a m m]] w fun e w'=>e=.returned (.bool true)∧Below w.heap.size w w'):=fun w=>by
    have:=refs_o d nm (.slice a m m) w
    rw [hR] at this;exact this
  have HI:Hid (∀ w:World,Calls Tryz.prog 46 #[.int .i64 N] w fun e w'=>e=.returned (.bool (i32B N))∧w'=w):=fun w=>int32_o N w
  clear hR
  obtain ⟨I,hI⟩:∃ I,i32B N=I:=⟨_,rfl⟩
  rw [hI] at HI
  have HI0:Hid (i32B N=I):=hI
  clear hI
  go_enter Tryz.func16,Tryz.ntmps16
  go_upto_region 4 with (go_at_call 43;refine (HF.out _ B0.out).mono ?_;rintro e w1 ⟨rfl,hB⟩;have B1:Hid (Below W.heap.size W w1):=bstep B0.out hB;obtain ⟨zB,z0,z1,zf,zL,zN⟩:=k2c (n:=W.heap.size) hB;clear hB HF)
  obtain ⟨U,hU⟩:∃ U,U=w1.alloc (.cells #[.int .i64 d,.string nm,.slice a m m] 93):=⟨_,rfl⟩
  have HUE:Hid (U=w1.alloc (.cells #[.int .i64 d,.string nm,.slice a m m] 93)):=hU
  have BU:Hid (Below W.heap.size W U):=by rw [hU];exact B1.out.alloc B1.out.size _
  have hUs:U.heap.size=w1.heap.size+1:=by rw [hU];simp
  have uv:Hid (U.heap[W.heap.size]?=some (.cells #[.bool true,.int .i64 N] 38 (0,0))):=by rw [hU];exact hkA zB.out
  have uo:Hid (U.heap[w1.heap.size]?=some (.cells #[.int .i64 d,.string nm,.slice a m m] 93 (0,0))):=by rw [hU];exact halloc1 _ _
  clear hU zB z0 z1 zf zN
  obtain ⟨σ,V,hne,V1,V2⟩:=class_of' (fun w'=>Below U.heap.size U w') ⟨_,Below.refl _ _⟩
  have ev:=fun q=>r2c (((V1.out q).block W.heap.size (by omega)).trans uv.out)
  have eo:=fun q=>r3c (((V1.out q).block w1.heap.size (by omega)).trans uo.out)
  have e0:=fun q=>(ev q).1
  have e1:=fun q=>(ev q).2.1
  have e2:=fun q=>(eo q).1
  have e3:=fun q=>(eo q).2.1
  have e4:=fun q=>(eo q).2.2.1
  have HVR:Hid (∀ q,Calls Tryz.prog 45 #[.agg #[.int .i64 d,.string nm,.slice a m m]] (V q) fun e w'=>e=.returned (.bool true)∧∃ q',w'=V q'):=fun q=>(HR.out _).mono fun e w' ⟨h1,h2⟩=>⟨h1,V2.out _ (bstep (V1.out q) h2)⟩
  have HVI:Hid (∀ q,Calls Tryz.prog 46 #[.int .i64 N] (V q) fun e w'=>e=.returned (.bool I)∧∃ q',w'=V q'):=fun q=>(HI.out _).mono fun e w' ⟨h1,h2⟩=>⟨h1,q,h2⟩
  clear ev eo HR HI
  rw [← HUE.out]
  refine wp_region_class (C:=fun w'=>∃ q,w'=V q) (by kernel_rfl) (by kernel_rfl) (V2.out _ (Below.refl _ _).drew) ?_
  repeat (go_big_quiet_step (first|(go_at_call 45;exact HVR.out _)|(go_at_call 46;exact HVI.out _)))
  refine wpQuiet_nil ?_
  intro w9 hw9
  obtain ⟨s9,rfl⟩:=hw9
  have B9:Hid (Below W.heap.size W (V s9)):=bstep BU.out (V1.out s9)
  have hz9:=(V1.out s9).size
  have vB:Hid ((V s9).heap[W.heap.size]?=some (.cells #[.bool true,.int .i64 N] 38 (0,0))):=((V1.out s9).block W.heap.size (by omega)).trans uv.out
  have oB:Hid ((V s9).heap[w1.heap.size]?=some (.cells #[.int .i64 d,.string nm,.slice a m m] 93 (0,0))):=((V1.out s9).block w1.heap.size (by omega)).trans uo.out
  clear e0 e1 e2 e3 e4 HVR HVI V1 V2 uv uo hUs HUE BU
  generalize V s9=w9 at *
  clear V hne s9
  obtain ⟨v0,v1,vf,vL⟩:=r2c vB.out
  obtain ⟨o0,o1,o2,of,oL⟩:=r3c oB.out
  obtain rfl:=hj.out
  obtain rfl:=ha.out
  have hgl:g<W.heap.size:=World.block_lt_of_cell? W _ hu
  have hjI:(j:Int)<(m:Int):=by omega
  go_wp2_with (first|(go_at_call 44;refine (HH.out _).mono ?_;rintro e w10 ⟨rfl,hB⟩;have B10:Hid (Below W.heap.size W w10):=bstep B9.out hB;have vd:=k2c (n:=W.heap.size) hB vL vB.out;have od:=k3c (n:=w1.heap.size) hB oL oB.out;clear vB v0 v1 vf vL oB o0 o1 o2 of oL;obtain ⟨vB,v0,v1,vf,vL,vN⟩:=vd;obtain ⟨oB,o0,o1,o2,of,oL,oN⟩:=od;have uu:w10.cell? ⟨g,j,none⟩=some (.int .i64 u):=(B10.out.cell (p:=⟨g,j,none⟩) hgl).trans hu;have uf:w10.frozen? ⟨g,j,none⟩=false:=(B10.out.frozen (p:=⟨g,j,none⟩) hgl).trans hf;clear hB HH)|(go_at_call 47;refine (HC.out _ B10.out).mono ?_;rintro e w11 ⟨rfl,hB⟩;have B11:Hid (Below W.heap.size W w11):=bstep B10.out hB;have vd:=k2c (n:=W.heap.size) hB vL vB.out;have od:=k3c (n:=w1.heap.size) hB oL oB.out;clear vB v0 v1 vf vL vN oB o0 o1 o2 of oL oN;obtain ⟨vB,v0,v1,vf,vL,vN⟩:=vd;obtain ⟨oB,o0,o1,o2,of,oL,oN⟩:=od;have uv:w11.cell? ⟨g,j,none⟩=some (.int .i64 u):=(B11.out.cell (p:=⟨g,j,none⟩) hgl).trans hu;have uw:w11.frozen? ⟨g,j,none⟩=false:=(B11.out.frozen (p:=⟨g,j,none⟩) hgl).trans hf;clear hB HC))
  go_ret
  exact ⟨rfl,_,B11.out,rfl⟩
set_option maxHeartbeats 4000000 in
theorem set_chk {W:World} {p:Value} {r i d N:Int} {nm:ByteArray} {a:Option Addr} {m:Nat} {E:Int} (HF:Hid (∀ w,Below W.heap.size W w→Calls Tryz.prog 43 #[p,.int .i64 r] w fun e w'=>e=.returned (.tuple #[.agg #[.int .i64 d,.string nm,.slice a m m],.int .i64 0])∧Below w.heap.size w w')) (hR:rfB d nm=true) (HH:Hid (∀ w:World,Calls Tryz.prog 44 #[.agg #[.int .i64 d,.string nm,.slice a m m],.int .i64 i] w fun e w'=>e=.returned (.bool true)∧Below w.heap.size w w')) (h0:¬ N=0) (hE:¬ E=0) (HC:Hid (∀ w,Below W.heap.size W w→Calls Tryz.prog 47 #[p,.agg #[.int .i64 d,.string nm,.slice a m m],.int .i64 N] w fun e w'=>e=.returned (.int .i64 E)∧Below w.heap.size w w')):Calls Tryz.prog 16 #[p,.int .i64 r,.int .i64 i,.agg #[.bool true,.int .i64 N]] W fun e w'=>e=.returned (.int .i64 E)∧Below W.heap.size W w':=by
  have B0:Hid (Below W.heap.size W (W.alloc (.cells #[.bool true,.int .i64 N] 38))):=(Below.refl _ _).alloc (Nat.le_refl _) _
  have HR:Hid (∀ w:World,Calls Tryz.prog 45 #[.agg #[.int .i64 d,.string nm,.slice a m m]] w fun e w'=>e=.returned (.bool true)∧Below w.heap.size w w'):=fun w=>by
    have:=refs_o d nm (.slice a m m) w
    rw [hR] at this;exact this
  have HI:Hid (∀ w:World,Calls Tryz.prog 46 #[.int .i64 N] w fun e w'=>e=.returned (.bool (i32B N))∧w'=w):=fun w=>int32_o N w
  clear hR
  obtain ⟨I,hI⟩:∃ I,i32B N=I:=⟨_,rfl⟩
  rw [hI] at HI
  have HI0:Hid (i32B N=I):=hI
  clear hI
  go_enter Tryz.func16,Tryz.ntmps16
  go_upto_region 4 with (go_at_call 43;refine (HF.out _ B0.out).mono ?_;rintro e w1 ⟨rfl,hB⟩;have B1:Hid (Below W.heap.size W w1):=bstep B0.out hB;obtain ⟨zB,z0,z1,zf,zL,zN⟩:=k2c (n:=W.heap.size) hB;clear hB HF)
  obtain ⟨U,hU⟩:∃ U,U=w1.alloc (.cells #[.int .i64 d,.string nm,.slice a m m] 93):=⟨_,rfl⟩
  have HUE:Hid (U=w1.alloc (.cells #[.int .i64 d,.string nm,.slice a m m] 93)):=hU
  have BU:Hid (Below W.heap.size W U):=by rw [hU];exact B1.out.alloc B1.out.size _
  have hUs:U.heap.size=w1.heap.size+1:=by rw [hU];simp
  have uv:Hid (U.heap[W.heap.size]?=some (.cells #[.bool true,.int .i64 N] 38 (0,0))):=by rw [hU];exact hkA zB.out
  have uo:Hid (U.heap[w1.heap.size]?=some (.cells #[.int .i64 d,.string nm,.slice a m m] 93 (0,0))):=by rw [hU];exact halloc1 _ _
  clear hU zB z0 z1 zf zN
  obtain ⟨σ,V,hne,V1,V2⟩:=class_of' (fun w'=>Below U.heap.size U w') ⟨_,Below.refl _ _⟩
  have ev:=fun q=>r2c (((V1.out q).block W.heap.size (by omega)).trans uv.out)
  have eo:=fun q=>r3c (((V1.out q).block w1.heap.size (by omega)).trans uo.out)
  have e0:=fun q=>(ev q).1
  have e1:=fun q=>(ev q).2.1
  have e2:=fun q=>(eo q).1
  have e3:=fun q=>(eo q).2.1
  have e4:=fun q=>(eo q).2.2.1
  have HVR:Hid (∀ q,Calls Tryz.prog 45 #[.agg #[.int .i64 d,.string nm,.slice a m m]] (V q) fun e w'=>e=.returned (.bool true)∧∃ q',w'=V q'):=fun q=>(HR.out _).mono fun e w' ⟨h1,h2⟩=>⟨h1,V2.out _ (bstep (V1.out q) h2)⟩
  have HVI:Hid (∀ q,Calls Tryz.prog 46 #[.int .i64 N] (V q) fun e w'=>e=.returned (.bool I)∧∃ q',w'=V q'):=fun q=>(HI.out _).mono fun e w' ⟨h1,h2⟩=>⟨h1,q,h2⟩
  clear ev eo HR HI
  rw [← HUE.out]
  refine wp_region_class (C:=fun w'=>∃ q,w'=V q) (by kernel_rfl) (by kernel_rfl) (V2.out _ (Below.refl _ _).drew) ?_
  repeat (go_big_quiet_step (first|(go_at_call 45;exact HVR.out _)|(go_at_call 46;exact HVI.out _)))
  refine wpQuiet_nil ?_
  intro w9 hw9
  obtain ⟨s9,rfl⟩:=hw9
  have B9:Hid (Below W.heap.size W (V s9)):=bstep BU.out (V1.out s9)
  have hz9:=(V1.out s9).size
  have vB:Hid ((V s9).heap[W.heap.size]?=some (.cells #[.bool true,.int .i64 N] 38 (0,0))):=((V1.out s9).block W.heap.size (by omega)).trans uv.out
  have oB:Hid ((V s9).heap[w1.heap.size]?=some (.cells #[.int .i64 d,.string nm,.slice a m m] 93 (0,0))):=((V1.out s9).block w1.heap.size (by omega)).trans uo.out
  clear e0 e1 e2 e3 e4 HVR HVI V1 V2 uv uo hUs HUE BU
  generalize V s9=w9 at *
  clear V hne s9
  obtain ⟨v0,v1,vf,vL⟩:=r2c vB.out
  obtain ⟨o0,o1,o2,of,oL⟩:=r3c oB.out
  go_wp2_with (first|(go_at_call 44;refine (HH.out _).mono ?_;rintro e w10 ⟨rfl,hB⟩;have B10:Hid (Below W.heap.size W w10):=bstep B9.out hB;have vd:=k2c (n:=W.heap.size) hB vL vB.out;have od:=k3c (n:=w1.heap.size) hB oL oB.out;clear vB v0 v1 vf vL oB o0 o1 o2 of oL;obtain ⟨vB,v0,v1,vf,vL,vN⟩:=vd;obtain ⟨oB,o0,o1,o2,of,oL,oN⟩:=od;clear hB HH)|(go_at_call 47;refine (HC.out _ B10.out).mono ?_;rintro e w11 ⟨rfl,hB⟩;have B11:Hid (Below W.heap.size W w11):=bstep B10.out hB;have vd:=k2c (n:=W.heap.size) hB vL vB.out;have od:=k3c (n:=w1.heap.size) hB oL oB.out;clear vB v0 v1 vf vL vN oB o0 o1 o2 of oL oN;obtain ⟨vB,v0,v1,vf,vL,vN⟩:=vd;obtain ⟨oB,o0,o1,o2,of,oL,oN⟩:=od;clear hB HC))
  go_ret
  exact ⟨rfl,B11.out⟩
end Go.Proofs.YtfnmmpkhopochaaGreat
