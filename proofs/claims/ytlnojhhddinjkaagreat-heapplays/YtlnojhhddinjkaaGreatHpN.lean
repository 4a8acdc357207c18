import Derived.Test.YtlnojhhddinjkaaGreatHpM
set_option maxHeartbeats 4000000
set_option maxRecDepth 100000
namespace Go.Proofs.YtlnojhhddinjkaaGreat
open Go.RowKit Go.Maps
theorem set_err {W:World} {p:Value} {r i E N:Int} {Rf:Bool} (hE:¬ E=0) (HF:Hid (∀ w,Bw W w→Calls Tryz.prog 81 #[p,.int .i64 r] w fun e w'=>e=.returned (.tuple #[noO,.int .i64 E])∧Bw w w')):Calls Tryz.prog 46 #[p,.int .i64 r,.int .i64 i,.agg #[.bool Rf,.int .i64 N]] W fun e w'=>e=.returned (.int .i64 E)∧Bw W w':=by
 have B0:Hid (Bw W (W.alloc (.cells #[.bool Rf,.int .i64 N] 38))):=(Below.refl _ _).alloc (Nat.le_refl _) _
 unfold noO at HF
 go_enter Tryz.func46,Tryz.ntmps46
 go_wp2_with (go_at_call 81;refine (HF.out _ B0.out).mono ?_;rintro e w1 ⟨rfl,hB⟩;have B1:Hid (Bw W w1):=Za B0.out hB;clear hB HF)
 go_ret
 exact ⟨rfl,B1.out.alloc B1.out.size _⟩
theorem set_kt {W:World} {p:Value} {r i d N:Int} {nm:ByteArray} {a:Option Addr} {m:Nat} (HF:Hid (∀ w,Bw W w→Calls Tryz.prog 81 #[p,.int .i64 r] w fun e w'=>e=.returned (.tuple #[.agg #[.int .i64 d,.string nm,.slice a m m],.int .i64 0])∧Bw w w')) (hR:rfB d nm=false):Calls Tryz.prog 46 #[p,.int .i64 r,.int .i64 i,.agg #[.bool true,.int .i64 N]] W fun e w'=>e=.returned (.int .i64 35)∧Bw W w':=by
 have B0:Hid (Bw W (W.alloc (.cells #[.bool true,.int .i64 N] 38))):=(Below.refl _ _).alloc (Nat.le_refl _) _
 have HR:Hid (∀ w:World,Calls Tryz.prog 83 #[.agg #[.int .i64 d,.string nm,.slice a m m]] w fun e w'=>e=.returned (.bool false)∧Bw w w'):=fun w=>by
  have:=Qy d nm (.slice a m m) w
  rw [hR] at this;exact this
 have HI:Hid (∀ w:World,Calls Tryz.prog 84 #[.int .i64 N] w fun e w'=>e=.returned (.bool (i32B N))∧w'=w):=fun w=>Xo N w
 clear hR
 obtain ⟨I,hI⟩:∃ I,i32B N=I:=⟨_,rfl⟩
 rw [hI] at HI
 have HI0:Hid (i32B N=I):=hI
 clear hI
 go_enter Tryz.func46,Tryz.ntmps46
 go_upto_region 4 with (go_at_call 81;refine (HF.out _ B0.out).mono ?_;rintro e w1 ⟨rfl,hB⟩;have B1:Hid (Bw W w1):=Za B0.out hB;obtain ⟨zB,z0,z1,zf,zL,zN⟩:=k2c (n:=W.heap.size) hB;clear hB HF)
 obtain ⟨U,hU⟩:∃ U,U=w1.alloc (.cells #[.int .i64 d,.string nm,.slice a m m] 155):=⟨_,rfl⟩
 have HUE:Hid (U=w1.alloc (.cells #[.int .i64 d,.string nm,.slice a m m] 155)):=hU
 have BU:Hid (Bw W U):=by rw [hU];exact B1.out.alloc B1.out.size _
 have hUs:U.heap.size=w1.heap.size+1:=by rw [hU];simp
 have uv:Hid (U.heap[W.heap.size]?=some (.cells #[.bool true,.int .i64 N] 38 (0,0))):=by rw [hU];exact hkA zB.out
 have uo:Hid (U.heap[w1.heap.size]?=some (.cells #[.int .i64 d,.string nm,.slice a m m] 155 (0,0))):=by rw [hU];exact Zg _ _
 clear hU zB z0 z1 zf zN
 obtain ⟨σ,V,hne,V1,V2⟩:=class_of' (fun w'=>Bw U w') ⟨_,Below.refl _ _⟩
 have ev:=fun q=>r2c (((V1.out q).block W.heap.size (by omega)).trans uv.out)
 have eo:=fun q=>r3c (((V1.out q).block w1.heap.size (by omega)).trans uo.out)
 have e0:=fun q=>(ev q).1
 have e1:=fun q=>(ev q).2.1
 have e2:=fun q=>(eo q).1
 have e3:=fun q=>(eo q).2.1
 have e4:=fun q=>(eo q).2.2.1
 have HVR:Hid (∀ q,Calls Tryz.prog 83 #[.agg #[.int .i64 d,.string nm,.slice a m m]] (V q) fun e w'=>e=.returned (.bool false)∧∃ q',w'=V q'):=fun q=>(HR.out _).mono fun e w' ⟨h1,h2⟩=>⟨h1,V2.out _ (Za (V1.out q) h2)⟩
 have HVI:Hid (∀ q,Calls Tryz.prog 84 #[.int .i64 N] (V q) fun e w'=>e=.returned (.bool I)∧∃ q',w'=V q'):=fun q=>(HI.out _).mono fun e w' ⟨h1,h2⟩=>⟨h1,q,h2⟩
 clear ev eo HR HI
 rw [← HUE.out]
 refine Zc (C:=fun w'=>∃ q,w'=V q) (by kernel_rfl) (by kernel_rfl) (V2.out _ (Below.refl _ _).drew) ?_
 repeat (go_big_quiet_step (first|(go_at_call 83;exact HVR.out _)|(go_at_call 84;exact HVI.out _)))
 refine wpQuiet_nil ?_
 intro w9 hw9
 obtain ⟨s9,rfl⟩:=hw9
 have B9:Hid (Bw W (V s9)):=Za BU.out (V1.out s9)
 go_wp2
 go_ret
 exact ⟨rfl,B9.out⟩
theorem set_kf {W:World} {p:Value} {r i d N:Int} {nm:ByteArray} {a:Option Addr} {m:Nat} (HF:Hid (∀ w,Bw W w→Calls Tryz.prog 81 #[p,.int .i64 r] w fun e w'=>e=.returned (.tuple #[.agg #[.int .i64 d,.string nm,.slice a m m],.int .i64 0])∧Bw w w')) (hR:rfB d nm=true):Calls Tryz.prog 46 #[p,.int .i64 r,.int .i64 i,.agg #[.bool false,.int .i64 N]] W fun e w'=>e=.returned (.int .i64 35)∧Bw W w':=by
 have B0:Hid (Bw W (W.alloc (.cells #[.bool false,.int .i64 N] 38))):=(Below.refl _ _).alloc (Nat.le_refl _) _
 have HR:Hid (∀ w:World,Calls Tryz.prog 83 #[.agg #[.int .i64 d,.string nm,.slice a m m]] w fun e w'=>e=.returned (.bool true)∧Bw w w'):=fun w=>by
  have:=Qy d nm (.slice a m m) w
  rw [hR] at this;exact this
 have HI:Hid (∀ w:World,Calls Tryz.prog 84 #[.int .i64 N] w fun e w'=>e=.returned (.bool (i32B N))∧w'=w):=fun w=>Xo N w
 clear hR
 obtain ⟨I,hI⟩:∃ I,i32B N=I:=⟨_,rfl⟩
 rw [hI] at HI
 have HI0:Hid (i32B N=I):=hI
 clear hI
 go_enter Tryz.func46,Tryz.ntmps46
 go_upto_region 4 with (go_at_call 81;refine (HF.out _ B0.out).mono ?_;rintro e w1 ⟨rfl,hB⟩;have B1:Hid (Bw W w1):=Za B0.out hB;obtain ⟨zB,z0,z1,zf,zL,zN⟩:=k2c (n:=W.heap.size) hB;clear hB HF)
 obtain ⟨U,hU⟩:∃ U,U=w1.alloc (.cells #[.int .i64 d,.string nm,.slice a m m] 155):=⟨_,rfl⟩
 have HUE:Hid (U=w1.alloc (.cells #[.int .i64 d,.string nm,.slice a m m] 155)):=hU
 have BU:Hid (Bw W U):=by rw [hU];exact B1.out.alloc B1.out.size _
 have hUs:U.heap.size=w1.heap.size+1:=by rw [hU];simp
 have uv:Hid (U.heap[W.heap.size]?=some (.cells #[.bool false,.int .i64 N] 38 (0,0))):=by rw [hU];exact hkA zB.out
 have uo:Hid (U.heap[w1.heap.size]?=some (.cells #[.int .i64 d,.string nm,.slice a m m] 155 (0,0))):=by rw [hU];exact Zg _ _
 clear hU zB z0 z1 zf zN
 obtain ⟨σ,V,hne,V1,V2⟩:=class_of' (fun w'=>Bw U w') ⟨_,Below.refl _ _⟩
 have ev:=fun q=>r2c (((V1.out q).block W.heap.size (by omega)).trans uv.out)
 have eo:=fun q=>r3c (((V1.out q).block w1.heap.size (by omega)).trans uo.out)
 have e0:=fun q=>(ev q).1
 have e1:=fun q=>(ev q).2.1
 have e2:=fun q=>(eo q).1
 have e3:=fun q=>(eo q).2.1
 have e4:=fun q=>(eo q).2.2.1
 have HVR:Hid (∀ q,Calls Tryz.prog 83 #[.agg #[.int .i64 d,.string nm,.slice a m m]] (V q) fun e w'=>e=.returned (.bool true)∧∃ q',w'=V q'):=fun q=>(HR.out _).mono fun e w' ⟨h1,h2⟩=>⟨h1,V2.out _ (Za (V1.out q) h2)⟩
 have HVI:Hid (∀ q,Calls Tryz.prog 84 #[.int .i64 N] (V q) fun e w'=>e=.returned (.bool I)∧∃ q',w'=V q'):=fun q=>(HI.out _).mono fun e w' ⟨h1,h2⟩=>⟨h1,q,h2⟩
 clear ev eo HR HI
 rw [← HUE.out]
 refine Zc (C:=fun w'=>∃ q,w'=V q) (by kernel_rfl) (by kernel_rfl) (V2.out _ (Below.refl _ _).drew) ?_
 repeat (go_big_quiet_step (first|(go_at_call 83;exact HVR.out _)|(go_at_call 84;exact HVI.out _)))
 refine wpQuiet_nil ?_
 intro w9 hw9
 obtain ⟨s9,rfl⟩:=hw9
 have B9:Hid (Bw W (V s9)):=Za BU.out (V1.out s9)
 go_wp2
 go_ret
 exact ⟨rfl,B9.out⟩
theorem set_i32 {W:World} {p:Value} {r i d N:Int} {nm:ByteArray} {a:Option Addr} {m:Nat} (HF:Hid (∀ w,Bw W w→Calls Tryz.prog 81 #[p,.int .i64 r] w fun e w'=>e=.returned (.tuple #[.agg #[.int .i64 d,.string nm,.slice a m m],.int .i64 0])∧Bw w w')) (hR:rfB d nm=false) (hN:i32B N=false):Calls Tryz.prog 46 #[p,.int .i64 r,.int .i64 i,.agg #[.bool false,.int .i64 N]] W fun e w'=>e=.returned (.int .i64 35)∧Bw W w':=by
 have B0:Hid (Bw W (W.alloc (.cells #[.bool false,.int .i64 N] 38))):=(Below.refl _ _).alloc (Nat.le_refl _) _
 have HR:Hid (∀ w:World,Calls Tryz.prog 83 #[.agg #[.int .i64 d,.string nm,.slice a m m]] w fun e w'=>e=.returned (.bool false)∧Bw w w'):=fun w=>by
  have:=Qy d nm (.slice a m m) w
  rw [hR] at this;exact this
 have HI:Hid (∀ w:World,Calls Tryz.prog 84 #[.int .i64 N] w fun e w'=>e=.returned (.bool (i32B N))∧w'=w):=fun w=>Xo N w
 clear hR
 obtain ⟨I,hI⟩:∃ I,i32B N=I:=⟨_,rfl⟩
 rw [hI] at HI
 have HI0:Hid (i32B N=I):=hI
 clear hI
 go_enter Tryz.func46,Tryz.ntmps46
 go_upto_region 4 with (go_at_call 81;refine (HF.out _ B0.out).mono ?_;rintro e w1 ⟨rfl,hB⟩;have B1:Hid (Bw W w1):=Za B0.out hB;obtain ⟨zB,z0,z1,zf,zL,zN⟩:=k2c (n:=W.heap.size) hB;clear hB HF)
 obtain ⟨U,hU⟩:∃ U,U=w1.alloc (.cells #[.int .i64 d,.string nm,.slice a m m] 155):=⟨_,rfl⟩
 have HUE:Hid (U=w1.alloc (.cells #[.int .i64 d,.string nm,.slice a m m] 155)):=hU
 have BU:Hid (Bw W U):=by rw [hU];exact B1.out.alloc B1.out.size _
 have hUs:U.heap.size=w1.heap.size+1:=by rw [hU];simp
 have uv:Hid (U.heap[W.heap.size]?=some (.cells #[.bool false,.int .i64 N] 38 (0,0))):=by rw [hU];exact hkA zB.out
 have uo:Hid (U.heap[w1.heap.size]?=some (.cells #[.int .i64 d,.string nm,.slice a m m] 155 (0,0))):=by rw [hU];exact Zg _ _
 clear hU zB z0 z1 zf zN
 obtain ⟨σ,V,hne,V1,V2⟩:=class_of' (fun w'=>Bw U w') ⟨_,Below.refl _ _⟩
 have ev:=fun q=>r2c (((V1.out q).block W.heap.size (by omega)).trans uv.out)
 have eo:=fun q=>r3c (((V1.out q).block w1.heap.size (by omega)).trans uo.out)
 have e0:=fun q=>(ev q).1
 have e1:=fun q=>(ev q).2.1
 have e2:=fun q=>(eo q).1
 have e3:=fun q=>(eo q).2.1
 have e4:=fun q=>(eo q).2.2.1
 have HVR:Hid (∀ q,Calls Tryz.prog 83 #[.agg #[.int .i64 d,.string nm,.slice a m m]] (V q) fun e w'=>e=.returned (.bool false)∧∃ q',w'=V q'):=fun q=>(HR.out _).mono fun e w' ⟨h1,h2⟩=>⟨h1,V2.out _ (Za (V1.out q) h2)⟩
 have HVI:Hid (∀ q,Calls Tryz.prog 84 #[.int .i64 N] (V q) fun e w'=>e=.returned (.bool I)∧∃ q',w'=V q'):=fun q=>(HI.out _).mono fun e w' ⟨h1,h2⟩=>⟨h1,q,h2⟩
 clear ev eo HR HI
 rw [← HUE.out]
 refine Zc (C:=fun w'=>∃ q,w'=V q) (by kernel_rfl) (by kernel_rfl) (V2.out _ (Below.refl _ _).drew) ?_
 repeat (go_big_quiet_step (first|(go_at_call 83;exact HVR.out _)|(go_at_call 84;exact HVI.out _)))
 refine wpQuiet_nil ?_
 intro w9 hw9
 obtain ⟨s9,rfl⟩:=hw9
 have B9:Hid (Bw W (V s9)):=Za BU.out (V1.out s9)
 obtain rfl:I=false:=HI0.out.symm.trans hN
 go_wp2
 go_ret
 exact ⟨rfl,B9.out⟩
theorem Zjj {W:World} {p:Value} {r i d N:Int} {nm:ByteArray} {a:Option Addr} {m:Nat} (HF:Hid (∀ w,Bw W w→Calls Tryz.prog 81 #[p,.int .i64 r] w fun e w'=>e=.returned (.tuple #[.agg #[.int .i64 d,.string nm,.slice a m m],.int .i64 0])∧Bw w w')) (hR:rfB d nm=false) (hN:i32B N=true) (HH:Hid (∀ w:World,Calls Tryz.prog 82 #[.agg #[.int .i64 d,.string nm,.slice a m m],.int .i64 i] w fun e w'=>e=.returned (.bool false)∧Bw w w')):Calls Tryz.prog 46 #[p,.int .i64 r,.int .i64 i,.agg #[.bool false,.int .i64 N]] W fun e w'=>e=.returned (.int .i64 31)∧Bw W w':=by
 have B0:Hid (Bw W (W.alloc (.cells #[.bool false,.int .i64 N] 38))):=(Below.refl _ _).alloc (Nat.le_refl _) _
 have HR:Hid (∀ w:World,Calls Tryz.prog 83 #[.agg #[.int .i64 d,.string nm,.slice a m m]] w fun e w'=>e=.returned (.bool false)∧Bw w w'):=fun w=>by
  have:=Qy d nm (.slice a m m) w
  rw [hR] at this;exact this
 have HI:Hid (∀ w:World,Calls Tryz.prog 84 #[.int .i64 N] w fun e w'=>e=.returned (.bool (i32B N))∧w'=w):=fun w=>Xo N w
 clear hR
 obtain ⟨I,hI⟩:∃ I,i32B N=I:=⟨_,rfl⟩
 rw [hI] at HI
 have HI0:Hid (i32B N=I):=hI
 clear hI
 go_enter Tryz.func46,Tryz.ntmps46
 go_upto_region 4 with (go_at_call 81;refine (HF.out _ B0.out).mono ?_;rintro e w1 ⟨rfl,hB⟩;have B1:Hid (Bw W w1):=Za B0.out hB;obtain ⟨zB,z0,z1,zf,zL,zN⟩:=k2c (n:=W.heap.size) hB;clear hB HF)
 obtain ⟨U,hU⟩:∃ U,U=w1.alloc (.cells #[.int .i64 d,.string nm,.slice a m m] 155):=⟨_,rfl⟩
 have HUE:Hid (U=w1.alloc (.cells #[.int .i64 d,.string nm,.slice a m m] 155)):=hU
 have BU:Hid (Bw W U):=by rw [hU];exact B1.out.alloc B1.out.size _
 have hUs:U.heap.size=w1.heap.size+1:=by rw [hU];simp
 have uv:Hid (U.heap[W.heap.size]?=some (.cells #[.bool false,.int .i64 N] 38 (0,0))):=by rw [hU];exact hkA zB.out
 have uo:Hid (U.heap[w1.heap.size]?=some (.cells #[.int .i64 d,.string nm,.slice a m m] 155 (0,0))):=by rw [hU];exact Zg _ _
 clear hU zB z0 z1 zf zN
 obtain ⟨σ,V,hne,V1,V2⟩:=class_of' (fun w'=>Bw U w') ⟨_,Below.refl _ _⟩
 have ev:=fun q=>r2c (((V1.out q).block W.heap.size (by omega)).trans uv.out)
 have eo:=fun q=>r3c (((V1.out q).block w1.heap.size (by omega)).trans uo.out)
 have e0:=fun q=>(ev q).1
 have e1:=fun q=>(ev q).2.1
 have e2:=fun q=>(eo q).1
 have e3:=fun q=>(eo q).2.1
 have e4:=fun q=>(eo q).2.2.1
 have HVR:Hid (∀ q,Calls Tryz.prog 83 #[.agg #[.int .i64 d,.string nm,.slice a m m]] (V q) fun e w'=>e=.returned (.bool false)∧∃ q',w'=V q'):=fun q=>(HR.out _).mono fun e w' ⟨h1,h2⟩=>⟨h1,V2.out _ (Za (V1.out q) h2)⟩
 have HVI:Hid (∀ q,Calls Tryz.prog 84 #[.int .i64 N] (V q) fun e w'=>e=.returned (.bool I)∧∃ q',w'=V q'):=fun q=>(HI.out _).mono fun e w' ⟨h1,h2⟩=>⟨h1,q,h2⟩
 clear ev eo HR HI
 rw [← HUE.out]
 refine Zc (C:=fun w'=>∃ q,w'=V q) (by kernel_rfl) (by kernel_rfl) (V2.out _ (Below.refl _ _).drew) ?_
 repeat (go_big_quiet_step (first|(go_at_call 83;exact HVR.out _)|(go_at_call 84;exact HVI.out _)))
 refine wpQuiet_nil ?_
 intro w9 hw9
 obtain ⟨s9,rfl⟩:=hw9
 have B9:Hid (Bw W (V s9)):=Za BU.out (V1.out s9)
 obtain rfl:I=true:=HI0.out.symm.trans hN
 have hz9:=(V1.out s9).size
 have vB:Hid ((V s9).heap[W.heap.size]?=some (.cells #[.bool false,.int .i64 N] 38 (0,0))):=((V1.out s9).block W.heap.size (by omega)).trans uv.out
 have oB:Hid ((V s9).heap[w1.heap.size]?=some (.cells #[.int .i64 d,.string nm,.slice a m m] 155 (0,0))):=((V1.out s9).block w1.heap.size (by omega)).trans uo.out
 clear e0 e1 e2 e3 e4 HVR HVI V1 V2 uv uo hUs HUE BU
 generalize V s9=w9 at *
 clear V hne s9
 obtain ⟨v0,v1,vf,vL⟩:=r2c vB.out
 obtain ⟨o0,o1,o2,of,oL⟩:=r3c oB.out
 go_wp2_with (go_at_call 82;refine (HH.out _).mono ?_;rintro e w10 ⟨rfl,hB⟩;have B10:Hid (Bw W w10):=Za B9.out hB;have vd:=k2c (n:=W.heap.size) hB vL vB.out;have od:=k3c (n:=w1.heap.size) hB oL oB.out;clear vB v0 v1 vf vL oB o0 o1 o2 of oL;obtain ⟨vB,v0,v1,vf,vL,vN⟩:=vd;obtain ⟨oB,o0,o1,o2,of,oL,oN⟩:=od;clear hB HH)
 go_ret
 exact ⟨rfl,B10.out⟩
theorem Zji {W:World} {p:Value} {r i d N:Int} {nm:ByteArray} {a:Option Addr} {m:Nat} (HF:Hid (∀ w,Bw W w→Calls Tryz.prog 81 #[p,.int .i64 r] w fun e w'=>e=.returned (.tuple #[.agg #[.int .i64 d,.string nm,.slice a m m],.int .i64 0])∧Bw w w')) (hR:rfB d nm=true) (HH:Hid (∀ w:World,Calls Tryz.prog 82 #[.agg #[.int .i64 d,.string nm,.slice a m m],.int .i64 i] w fun e w'=>e=.returned (.bool false)∧Bw w w')):Calls Tryz.prog 46 #[p,.int .i64 r,.int .i64 i,.agg #[.bool true,.int .i64 N]] W fun e w'=>e=.returned (.int .i64 31)∧Bw W w':=by
 have B0:Hid (Bw W (W.alloc (.cells #[.bool true,.int .i64 N] 38))):=(Below.refl _ _).alloc (Nat.le_refl _) _
 have HR:Hid (∀ w:World,Calls Tryz.prog 83 #[.agg #[.int .i64 d,.string nm,.slice a m m]] w fun e w'=>e=.returned (.bool true)∧Bw w w'):=fun w=>by
  have:=Qy d nm (.slice a m m) w
  rw [hR] at this;exact this
 have HI:Hid (∀ w:World,Calls Tryz.prog 84 #[.int .i64 N] w fun e w'=>e=.returned (.bool (i32B N))∧w'=w):=fun w=>Xo N w
 clear hR
 obtain ⟨I,hI⟩:∃ I,i32B N=I:=⟨_,rfl⟩
 rw [hI] at HI
 have HI0:Hid (i32B N=I):=hI
 clear hI
 go_enter Tryz.func46,Tryz.ntmps46
 go_upto_region 4 with (go_at_call 81;refine (HF.out _ B0.out).mono ?_;rintro e w1 ⟨rfl,hB⟩;have B1:Hid (Bw W w1):=Za B0.out hB;obtain ⟨zB,z0,z1,zf,zL,zN⟩:=k2c (n:=W.heap.size) hB;clear hB HF)
 obtain ⟨U,hU⟩:∃ U,U=w1.alloc (.cells #[.int .i64 d,.string nm,.slice a m m] 155):=⟨_,rfl⟩
 have HUE:Hid (U=w1.alloc (.cells #[.int .i64 d,.string nm,.slice a m m] 155)):=hU
 have BU:Hid (Bw W U):=by rw [hU];exact B1.out.alloc B1.out.size _
 have hUs:U.heap.size=w1.heap.size+1:=by rw [hU];simp
 have uv:Hid (U.heap[W.heap.size]?=some (.cells #[.bool true,.int .i64 N] 38 (0,0))):=by rw [hU];exact hkA zB.out
 have uo:Hid (U.heap[w1.heap.size]?=some (.cells #[.int .i64 d,.string nm,.slice a m m] 155 (0,0))):=by rw [hU];exact Zg _ _
 clear hU zB z0 z1 zf zN
 obtain ⟨σ,V,hne,V1,V2⟩:=class_of' (fun w'=>Bw U w') ⟨_,Below.refl _ _⟩
 have ev:=fun q=>r2c (((V1.out q).block W.heap.size (by omega)).trans uv.out)
 have eo:=fun q=>r3c (((V1.out q).block w1.heap.size (by omega)).trans uo.out)
 have e0:=fun q=>(ev q).1
 have e1:=fun q=>(ev q).2.1
 have e2:=fun q=>(eo q).1
 have e3:=fun q=>(eo q).2.1
 have e4:=fun q=>(eo q).2.2.1
 have HVR:Hid (∀ q,Calls Tryz.prog 83 #[.agg #[.int .i64 d,.string nm,.slice a m m]] (V q) fun e w'=>e=.returned (.bool true)∧∃ q',w'=V q'):=fun q=>(HR.out _).mono fun e w' ⟨h1,h2⟩=>⟨h1,V2.out _ (Za (V1.out q) h2)⟩
 have HVI:Hid (∀ q,Calls Tryz.prog 84 #[.int .i64 N] (V q) fun e w'=>e=.returned (.bool I)∧∃ q',w'=V q'):=fun q=>(HI.out _).mono fun e w' ⟨h1,h2⟩=>⟨h1,q,h2⟩
 clear ev eo HR HI
 rw [← HUE.out]
 refine Zc (C:=fun w'=>∃ q,w'=V q) (by kernel_rfl) (by kernel_rfl) (V2.out _ (Below.refl _ _).drew) ?_
 repeat (go_big_quiet_step (first|(go_at_call 83;exact HVR.out _)|(go_at_call 84;exact HVI.out _)))
 refine wpQuiet_nil ?_
 intro w9 hw9
 obtain ⟨s9,rfl⟩:=hw9
 have B9:Hid (Bw W (V s9)):=Za BU.out (V1.out s9)
 have hz9:=(V1.out s9).size
 have vB:Hid ((V s9).heap[W.heap.size]?=some (.cells #[.bool true,.int .i64 N] 38 (0,0))):=((V1.out s9).block W.heap.size (by omega)).trans uv.out
 have oB:Hid ((V s9).heap[w1.heap.size]?=some (.cells #[.int .i64 d,.string nm,.slice a m m] 155 (0,0))):=((V1.out s9).block w1.heap.size (by omega)).trans uo.out
 clear e0 e1 e2 e3 e4 HVR HVI V1 V2 uv uo hUs HUE BU
 generalize V s9=w9 at *
 clear V hne s9
 obtain ⟨v0,v1,vf,vL⟩:=r2c vB.out
 obtain ⟨o0,o1,o2,of,oL⟩:=r3c oB.out
 go_wp2_with (go_at_call 82;refine (HH.out _).mono ?_;rintro e w10 ⟨rfl,hB⟩;have B10:Hid (Bw W w10):=Za B9.out hB;have vd:=k2c (n:=W.heap.size) hB vL vB.out;have od:=k3c (n:=w1.heap.size) hB oL oB.out;clear vB v0 v1 vf vL oB o0 o1 o2 of oL;obtain ⟨vB,v0,v1,vf,vL,vN⟩:=vd;obtain ⟨oB,o0,o1,o2,of,oL,oN⟩:=od;clear hB HH)
 go_ret
 exact ⟨rfl,B10.out⟩
theorem set_int {W:World} {p:Value} {r i d N:Int} {nm:ByteArray} {a:Option Addr} {m:Nat} {g j:Nat} {u:Int} (HF:Hid (∀ w,Bw W w→Calls Tryz.prog 81 #[p,.int .i64 r] w fun e w'=>e=.returned (.tuple #[.agg #[.int .i64 d,.string nm,.slice a m m],.int .i64 0])∧Bw w w')) (hR:rfB d nm=false) (hN:i32B N=true) (HH:Hid (∀ w:World,Calls Tryz.prog 82 #[.agg #[.int .i64 d,.string nm,.slice a m m],.int .i64 i] w fun e w'=>e=.returned (.bool true)∧Bw w w')) (hj:Hid (i=(j:Int))) (hjm:j<m) (ha:Hid (a=some ⟨g,0,none⟩)) (hu:W.cell? ⟨g,j,none⟩=some (.int .i64 u)) (hf:W.frozen? ⟨g,j,none⟩=false):Calls Tryz.prog 46 #[p,.int .i64 r,.int .i64 i,.agg #[.bool false,.int .i64 N]] W fun e w'=>e=.returned (.int .i64 0)∧∃ w2,Bw W w2∧w'=w2.setCell ⟨g,j,none⟩ (.int .i64 N):=by
 have B0:Hid (Bw W (W.alloc (.cells #[.bool false,.int .i64 N] 38))):=(Below.refl _ _).alloc (Nat.le_refl _) _
 have HR:Hid (∀ w:World,Calls Tryz.prog 83 #[.agg #[.int .i64 d,.string nm,.slice a m m]] w fun e w'=>e=.returned (.bool false)∧Bw w w'):=fun w=>by
  have:=Qy d nm (.slice a m m) w
  rw [hR] at this;exact this
 have HI:Hid (∀ w:World,Calls Tryz.prog 84 #[.int .i64 N] w fun e w'=>e=.returned (.bool (i32B N))∧w'=w):=fun w=>Xo N w
 clear hR
 obtain ⟨I,hI⟩:∃ I,i32B N=I:=⟨_,rfl⟩
 rw [hI] at HI
 have HI0:Hid (i32B N=I):=hI
 clear hI
 go_enter Tryz.func46,Tryz.ntmps46
 go_upto_region 4 with (go_at_call 81;refine (HF.out _ B0.out).mono ?_;rintro e w1 ⟨rfl,hB⟩;have B1:Hid (Bw W w1):=Za B0.out hB;obtain ⟨zB,z0,z1,zf,zL,zN⟩:=k2c (n:=W.heap.size) hB;clear hB HF)
 obtain ⟨U,hU⟩:∃ U,U=w1.alloc (.cells #[.int .i64 d,.string nm,.slice a m m] 155):=⟨_,rfl⟩
 have HUE:Hid (U=w1.alloc (.cells #[.int .i64 d,.string nm,.slice a m m] 155)):=hU
 have BU:Hid (Bw W U):=by rw [hU];exact B1.out.alloc B1.out.size _
 have hUs:U.heap.size=w1.heap.size+1:=by rw [hU];simp
 have uv:Hid (U.heap[W.heap.size]?=some (.cells #[.bool false,.int .i64 N] 38 (0,0))):=by rw [hU];exact hkA zB.out
 have uo:Hid (U.heap[w1.heap.size]?=some (.cells #[.int .i64 d,.string nm,.slice a m m] 155 (0,0))):=by rw [hU];exact Zg _ _
 clear hU zB z0 z1 zf zN
 obtain ⟨σ,V,hne,V1,V2⟩:=class_of' (fun w'=>Bw U w') ⟨_,Below.refl _ _⟩
 have ev:=fun q=>r2c (((V1.out q).block W.heap.size (by omega)).trans uv.out)
 have eo:=fun q=>r3c (((V1.out q).block w1.heap.size (by omega)).trans uo.out)
 have e0:=fun q=>(ev q).1
 have e1:=fun q=>(ev q).2.1
 have e2:=fun q=>(eo q).1
 have e3:=fun q=>(eo q).2.1
 have e4:=fun q=>(eo q).2.2.1
 have HVR:Hid (∀ q,Calls Tryz.prog 83 #[.agg #[.int .i64 d,.string nm,.slice a m m]] (V q) fun e w'=>e=.returned (.bool false)∧∃ q',w'=V q'):=fun q=>(HR.out _).mono fun e w' ⟨h1,h2⟩=>⟨h1,V2.out _ (Za (V1.out q) h2)⟩
 have HVI:Hid (∀ q,Calls Tryz.prog 84 #[.int .i64 N] (V q) fun e w'=>e=.returned (.bool I)∧∃ q',w'=V q'):=fun q=>(HI.out _).mono fun e w' ⟨h1,h2⟩=>⟨h1,q,h2⟩
 clear ev eo HR HI
 rw [← HUE.out]
 refine Zc (C:=fun w'=>∃ q,w'=V q) (by kernel_rfl) (by kernel_rfl) (V2.out _ (Below.refl _ _).drew) ?_
 repeat (go_big_quiet_step (first|(go_at_call 83;exact HVR.out _)|(go_at_call 84;exact HVI.out _)))
 refine wpQuiet_nil ?_
 intro w9 hw9
 obtain ⟨s9,rfl⟩:=hw9
 have B9:Hid (Bw W (V s9)):=Za BU.out (V1.out s9)
 obtain rfl:I=true:=HI0.out.symm.trans hN
 have hz9:=(V1.out s9).size
 have vB:Hid ((V s9).heap[W.heap.size]?=some (.cells #[.bool false,.int .i64 N] 38 (0,0))):=((V1.out s9).block W.heap.size (by omega)).trans uv.out
 have oB:Hid ((V s9).heap[w1.heap.size]?=some (.cells #[.int .i64 d,.string nm,.slice a m m] 155 (0,0))):=((V1.out s9).block w1.heap.size (by omega)).trans uo.out
 clear e0 e1 e2 e3 e4 HVR HVI V1 V2 uv uo hUs HUE BU
 generalize V s9=w9 at *
 clear V hne s9
 obtain ⟨v0,v1,vf,vL⟩:=r2c vB.out
 obtain ⟨o0,o1,o2,of,oL⟩:=r3c oB.out
 obtain rfl:=hj.out
 obtain rfl:=ha.out
 have hgl:g<W.heap.size:=World.block_lt_of_cell? W _ hu
 have hjI:(j:Int)<(m:Int):=by omega
 go_wp2_with (first|(go_at_call 82;refine (HH.out _).mono ?_;rintro e w10 ⟨rfl,hB⟩;have B10:Hid (Bw W w10):=Za B9.out hB;have vd:=k2c (n:=W.heap.size) hB vL vB.out;have od:=k3c (n:=w1.heap.size) hB oL oB.out;clear vB v0 v1 vf vL oB o0 o1 o2 of oL;obtain ⟨vB,v0,v1,vf,vL,vN⟩:=vd;obtain ⟨oB,o0,o1,o2,of,oL,oN⟩:=od;have uu:w10.cell? ⟨g,j,none⟩=some (.int .i64 u):=(B10.out.cell (p:=⟨g,j,none⟩) hgl).trans hu;have uf:w10.frozen? ⟨g,j,none⟩=false:=(B10.out.frozen (p:=⟨g,j,none⟩) hgl).trans hf;clear hB HH))
 go_ret
 exact ⟨rfl,_,B10.out,rfl⟩
theorem set_null {W:World} {p:Value} {r i d N:Int} {nm:ByteArray} {a:Option Addr} {m:Nat} {g j:Nat} {u:Int} (HF:Hid (∀ w,Bw W w→Calls Tryz.prog 81 #[p,.int .i64 r] w fun e w'=>e=.returned (.tuple #[.agg #[.int .i64 d,.string nm,.slice a m m],.int .i64 0])∧Bw w w')) (hR:rfB d nm=true) (HH:Hid (∀ w:World,Calls Tryz.prog 82 #[.agg #[.int .i64 d,.string nm,.slice a m m],.int .i64 i] w fun e w'=>e=.returned (.bool true)∧Bw w w')) (hj:Hid (i=(j:Int))) (hjm:j<m) (ha:Hid (a=some ⟨g,0,none⟩)) (hu:W.cell? ⟨g,j,none⟩=some (.int .i64 u)) (hf:W.frozen? ⟨g,j,none⟩=false) (h0:Hid (N=0)):Calls Tryz.prog 46 #[p,.int .i64 r,.int .i64 i,.agg #[.bool true,.int .i64 N]] W fun e w'=>e=.returned (.int .i64 0)∧∃ w2,Bw W w2∧w'=w2.setCell ⟨g,j,none⟩ (.int .i64 N):=by
 have B0:Hid (Bw W (W.alloc (.cells #[.bool true,.int .i64 N] 38))):=(Below.refl _ _).alloc (Nat.le_refl _) _
 have HR:Hid (∀ w:World,Calls Tryz.prog 83 #[.agg #[.int .i64 d,.string nm,.slice a m m]] w fun e w'=>e=.returned (.bool true)∧Bw w w'):=fun w=>by
  have:=Qy d nm (.slice a m m) w
  rw [hR] at this;exact this
 have HI:Hid (∀ w:World,Calls Tryz.prog 84 #[.int .i64 N] w fun e w'=>e=.returned (.bool (i32B N))∧w'=w):=fun w=>Xo N w
 clear hR
 obtain ⟨I,hI⟩:∃ I,i32B N=I:=⟨_,rfl⟩
 rw [hI] at HI
 have HI0:Hid (i32B N=I):=hI
 clear hI
 go_enter Tryz.func46,Tryz.ntmps46
 go_upto_region 4 with (go_at_call 81;refine (HF.out _ B0.out).mono ?_;rintro e w1 ⟨rfl,hB⟩;have B1:Hid (Bw W w1):=Za B0.out hB;obtain ⟨zB,z0,z1,zf,zL,zN⟩:=k2c (n:=W.heap.size) hB;clear hB HF)
 obtain ⟨U,hU⟩:∃ U,U=w1.alloc (.cells #[.int .i64 d,.string nm,.slice a m m] 155):=⟨_,rfl⟩
 have HUE:Hid (U=w1.alloc (.cells #[.int .i64 d,.string nm,.slice a m m] 155)):=hU
 have BU:Hid (Bw W U):=by rw [hU];exact B1.out.alloc B1.out.size _
 have hUs:U.heap.size=w1.heap.size+1:=by rw [hU];simp
 have uv:Hid (U.heap[W.heap.size]?=some (.cells #[.bool true,.int .i64 N] 38 (0,0))):=by rw [hU];exact hkA zB.out
 have uo:Hid (U.heap[w1.heap.size]?=some (.cells #[.int .i64 d,.string nm,.slice a m m] 155 (0,0))):=by rw [hU];exact Zg _ _
 clear hU zB z0 z1 zf zN
 obtain ⟨σ,V,hne,V1,V2⟩:=class_of' (fun w'=>Bw U w') ⟨_,Below.refl _ _⟩
 have ev:=fun q=>r2c (((V1.out q).block W.heap.size (by omega)).trans uv.out)
 have eo:=fun q=>r3c (((V1.out q).block w1.heap.size (by omega)).trans uo.out)
 have e0:=fun q=>(ev q).1
 have e1:=fun q=>(ev q).2.1
 have e2:=fun q=>(eo q).1
 have e3:=fun q=>(eo q).2.1
 have e4:=fun q=>(eo q).2.2.1
 have HVR:Hid (∀ q,Calls Tryz.prog 83 #[.agg #[.int .i64 d,.string nm,.slice a m m]] (V q) fun e w'=>e=.returned (.bool true)∧∃ q',w'=V q'):=fun q=>(HR.out _).mono fun e w' ⟨h1,h2⟩=>⟨h1,V2.out _ (Za (V1.out q) h2)⟩
 have HVI:Hid (∀ q,Calls Tryz.prog 84 #[.int .i64 N] (V q) fun e w'=>e=.returned (.bool I)∧∃ q',w'=V q'):=fun q=>(HI.out _).mono fun e w' ⟨h1,h2⟩=>⟨h1,q,h2⟩
 clear ev eo HR HI
 rw [← HUE.out]
 refine Zc (C:=fun w'=>∃ q,w'=V q) (by kernel_rfl) (by kernel_rfl) (V2.out _ (Below.refl _ _).drew) ?_
 repeat (go_big_quiet_step (first|(go_at_call 83;exact HVR.out _)|(go_at_call 84;exact HVI.out _)))
 refine wpQuiet_nil ?_
 intro w9 hw9
 obtain ⟨s9,rfl⟩:=hw9
 have B9:Hid (Bw W (V s9)):=Za BU.out (V1.out s9)
 have hz9:=(V1.out s9).size
 have vB:Hid ((V s9).heap[W.heap.size]?=some (.cells #[.bool true,.int .i64 N] 38 (0,0))):=((V1.out s9).block W.heap.size (by omega)).trans uv.out
 have oB:Hid ((V s9).heap[w1.heap.size]?=some (.cells #[.int .i64 d,.string nm,.slice a m m] 155 (0,0))):=((V1.out s9).block w1.heap.size (by omega)).trans uo.out
 clear e0 e1 e2 e3 e4 HVR HVI V1 V2 uv uo hUs HUE BU
 generalize V s9=w9 at *
 clear V hne s9
 obtain ⟨v0,v1,vf,vL⟩:=r2c vB.out
 obtain ⟨o0,o1,o2,of,oL⟩:=r3c oB.out
 obtain rfl:=hj.out
 obtain rfl:=ha.out
 obtain rfl:=h0.out
 have hgl:g<W.heap.size:=World.block_lt_of_cell? W _ hu
 have hjI:(j:Int)<(m:Int):=by omega
 go_wp2_with (first|(go_at_call 82;refine (HH.out _).mono ?_;rintro e w10 ⟨rfl,hB⟩;have B10:Hid (Bw W w10):=Za B9.out hB;have vd:=k2c (n:=W.heap.size) hB vL vB.out;have od:=k3c (n:=w1.heap.size) hB oL oB.out;clear vB v0 v1 vf vL oB o0 o1 o2 of oL;obtain ⟨vB,v0,v1,vf,vL,vN⟩:=vd;obtain ⟨oB,o0,o1,o2,of,oL,oN⟩:=od;have uu:w10.cell? ⟨g,j,none⟩=some (.int .i64 u):=(B10.out.cell (p:=⟨g,j,none⟩) hgl).trans hu;have uf:w10.frozen? ⟨g,j,none⟩=false:=(B10.out.frozen (p:=⟨g,j,none⟩) hgl).trans hf;clear hB HH))
 go_ret
 exact ⟨rfl,_,B10.out,rfl⟩
theorem set_ref {W:World} {p:Value} {r i d N:Int} {nm:ByteArray} {a:Option Addr} {m:Nat} {g j:Nat} {u:Int} (HF:Hid (∀ w,Bw W w→Calls Tryz.prog 81 #[p,.int .i64 r] w fun e w'=>e=.returned (.tuple #[.agg #[.int .i64 d,.string nm,.slice a m m],.int .i64 0])∧Bw w w')) (hR:rfB d nm=true) (HH:Hid (∀ w:World,Calls Tryz.prog 82 #[.agg #[.int .i64 d,.string nm,.slice a m m],.int .i64 i] w fun e w'=>e=.returned (.bool true)∧Bw w w')) (hj:Hid (i=(j:Int))) (hjm:j<m) (ha:Hid (a=some ⟨g,0,none⟩)) (hu:W.cell? ⟨g,j,none⟩=some (.int .i64 u)) (hf:W.frozen? ⟨g,j,none⟩=false) (h0:¬ N=0) (HC:Hid (∀ w,Bw W w→Calls Tryz.prog 85 #[p,.agg #[.int .i64 d,.string nm,.slice a m m],.int .i64 N] w fun e w'=>e=.returned (.int .i64 0)∧Bw w w')):Calls Tryz.prog 46 #[p,.int .i64 r,.int .i64 i,.agg #[.bool true,.int .i64 N]] W fun e w'=>e=.returned (.int .i64 0)∧∃ w2,Bw W w2∧w'=w2.setCell ⟨g,j,none⟩ (.int .i64 N):=by
 have B0:Hid (Bw W (W.alloc (.cells #[.bool true,.int .i64 N] 38))):=(Below.refl _ _).alloc (Nat.le_refl _) _
 have HR:Hid (∀ w:World,Calls Tryz.prog 83 #[.agg #[.int .i64 d,.string nm,.slice a m m]] w fun e w'=>e=.returned (.bool true)∧Bw w w'):=fun w=>by
  have:=Qy d nm (.slice a m m) w
  rw [hR] at this;exact this
 have HI:Hid (∀ w:World,Calls Tryz.prog 84 #[.int .i64 N] w fun e w'=>e=.returned (.bool (i32B N))∧w'=w):=fun w=>Xo N w
 clear hR
 obtain ⟨I,hI⟩:∃ I,i32B N=I:=⟨_,rfl⟩
 rw [hI] at HI
 have HI0:Hid (i32B N=I):=hI
 clear hI
 go_enter Tryz.func46,Tryz.ntmps46
 go_upto_region 4 with (go_at_call 81;refine (HF.out _ B0.out).mono ?_;rintro e w1 ⟨rfl,hB⟩;have B1:Hid (Bw W w1):=Za B0.out hB;obtain ⟨zB,z0,z1,zf,zL,zN⟩:=k2c (n:=W.heap.size) hB;clear hB HF)
 obtain ⟨U,hU⟩:∃ U,U=w1.alloc (.cells #[.int .i64 d,.string nm,.slice a m m] 155):=⟨_,rfl⟩
 have HUE:Hid (U=w1.alloc (.cells #[.int .i64 d,.string nm,.slice a m m] 155)):=hU
 have BU:Hid (Bw W U):=by rw [hU];exact B1.out.alloc B1.out.size _
 have hUs:U.heap.size=w1.heap.size+1:=by rw [hU];simp
 have uv:Hid (U.heap[W.heap.size]?=some (.cells #[.bool true,.int .i64 N] 38 (0,0))):=by rw [hU];exact hkA zB.out
 have uo:Hid (U.heap[w1.heap.size]?=some (.cells #[.int .i64 d,.string nm,.slice a m m] 155 (0,0))):=by rw [hU];exact Zg _ _
 clear hU zB z0 z1 zf zN
 obtain ⟨σ,V,hne,V1,V2⟩:=class_of' (fun w'=>Bw U w') ⟨_,Below.refl _ _⟩
 have ev:=fun q=>r2c (((V1.out q).block W.heap.size (by omega)).trans uv.out)
 have eo:=fun q=>r3c (((V1.out q).block w1.heap.size (by omega)).trans uo.out)
 have e0:=fun q=>(ev q).1
 have e1:=fun q=>(ev q).2.1
 have e2:=fun q=>(eo q).1
 have e3:=fun q=>(eo q).2.1
 have e4:=fun q=>(eo q).2.2.1
 have HVR:Hid (∀ q,Calls Tryz.prog 83 #[.agg #[.int .i64 d,.string nm,.slice a m m]] (V q) fun e w'=>e=.returned (.bool true)∧∃ q',w'=V q'):=fun q=>(HR.out _).mono fun e w' ⟨h1,h2⟩=>⟨h1,V2.out _ (Za (V1.out q) h2)⟩
 have HVI:Hid (∀ q,Calls Tryz.prog 84 #[.int .i64 N] (V q) fun e w'=>e=.returned (.bool I)∧∃ q',w'=V q'):=fun q=>(HI.out _).mono fun e w' ⟨h1,h2⟩=>⟨h1,q,h2⟩
 clear ev eo HR HI
 rw [← HUE.out]
 refine Zc (C:=fun w'=>∃ q,w'=V q) (by kernel_rfl) (by kernel_rfl) (V2.out _ (Below.refl _ _).drew) ?_
 repeat (go_big_quiet_step (first|(go_at_call 83;exact HVR.out _)|(go_at_call 84;exact HVI.out _)))
 refine wpQuiet_nil ?_
 intro w9 hw9
 obtain ⟨s9,rfl⟩:=hw9
 have B9:Hid (Bw W (V s9)):=Za BU.out (V1.out s9)
 have hz9:=(V1.out s9).size
 have vB:Hid ((V s9).heap[W.heap.size]?=some (.cells #[.bool true,.int .i64 N] 38 (0,0))):=((V1.out s9).block W.heap.size (by omega)).trans uv.out
 have oB:Hid ((V s9).heap[w1.heap.size]?=some (.cells #[.int .i64 d,.string nm,.slice a m m] 155 (0,0))):=((V1.out s9).block w1.heap.size (by omega)).trans uo.out
 clear e0 e1 e2 e3 e4 HVR HVI V1 V2 uv uo hUs HUE BU
 generalize V s9=w9 at *
 clear V hne s9
 obtain ⟨v0,v1,vf,vL⟩:=r2c vB.out
 obtain ⟨o0,o1,o2,of,oL⟩:=r3c oB.out
 obtain rfl:=hj.out
 obtain rfl:=ha.out
 have hgl:g<W.heap.size:=World.block_lt_of_cell? W _ hu
 have hjI:(j:Int)<(m:Int):=by omega
 go_wp2_with (first|(go_at_call 82;refine (HH.out _).mono ?_;rintro e w10 ⟨rfl,hB⟩;have B10:Hid (Bw W w10):=Za B9.out hB;have vd:=k2c (n:=W.heap.size) hB vL vB.out;have od:=k3c (n:=w1.heap.size) hB oL oB.out;clear vB v0 v1 vf vL oB o0 o1 o2 of oL;obtain ⟨vB,v0,v1,vf,vL,vN⟩:=vd;obtain ⟨oB,o0,o1,o2,of,oL,oN⟩:=od;have uu:w10.cell? ⟨g,j,none⟩=some (.int .i64 u):=(B10.out.cell (p:=⟨g,j,none⟩) hgl).trans hu;have uf:w10.frozen? ⟨g,j,none⟩=false:=(B10.out.frozen (p:=⟨g,j,none⟩) hgl).trans hf;clear hB HH)|(go_at_call 85;refine (HC.out _ B10.out).mono ?_;rintro e w11 ⟨rfl,hB⟩;have B11:Hid (Bw W w11):=Za B10.out hB;have vd:=k2c (n:=W.heap.size) hB vL vB.out;have od:=k3c (n:=w1.heap.size) hB oL oB.out;clear vB v0 v1 vf vL vN oB o0 o1 o2 of oL oN;obtain ⟨vB,v0,v1,vf,vL,vN⟩:=vd;obtain ⟨oB,o0,o1,o2,of,oL,oN⟩:=od;have uv:w11.cell? ⟨g,j,none⟩=some (.int .i64 u):=(B11.out.cell (p:=⟨g,j,none⟩) hgl).trans hu;have uw:w11.frozen? ⟨g,j,none⟩=false:=(B11.out.frozen (p:=⟨g,j,none⟩) hgl).trans hf;clear hB HC))
 go_ret
 exact ⟨rfl,_,B11.out,rfl⟩
theorem set_chk {W:World} {p:Value} {r i d N:Int} {nm:ByteArray} {a:Option Addr} {m:Nat} {E:Int} (HF:Hid (∀ w,Bw W w→Calls Tryz.prog 81 #[p,.int .i64 r] w fun e w'=>e=.returned (.tuple #[.agg #[.int .i64 d,.string nm,.slice a m m],.int .i64 0])∧Bw w w')) (hR:rfB d nm=true) (HH:Hid (∀ w:World,Calls Tryz.prog 82 #[.agg #[.int .i64 d,.string nm,.slice a m m],.int .i64 i] w fun e w'=>e=.returned (.bool true)∧Bw w w')) (h0:¬ N=0) (hE:¬ E=0) (HC:Hid (∀ w,Bw W w→Calls Tryz.prog 85 #[p,.agg #[.int .i64 d,.string nm,.slice a m m],.int .i64 N] w fun e w'=>e=.returned (.int .i64 E)∧Bw w w')):Calls Tryz.prog 46 #[p,.int .i64 r,.int .i64 i,.agg #[.bool true,.int .i64 N]] W fun e w'=>e=.returned (.int .i64 E)∧Bw W w':=by
 have B0:Hid (Bw W (W.alloc (.cells #[.bool true,.int .i64 N] 38))):=(Below.refl _ _).alloc (Nat.le_refl _) _
 have HR:Hid (∀ w:World,Calls Tryz.prog 83 #[.agg #[.int .i64 d,.string nm,.slice a m m]] w fun e w'=>e=.returned (.bool true)∧Bw w w'):=fun w=>by
  have:=Qy d nm (.slice a m m) w
  rw [hR] at this;exact this
 have HI:Hid (∀ w:World,Calls Tryz.prog 84 #[.int .i64 N] w fun e w'=>e=.returned (.bool (i32B N))∧w'=w):=fun w=>Xo N w
 clear hR
 obtain ⟨I,hI⟩:∃ I,i32B N=I:=⟨_,rfl⟩
 rw [hI] at HI
 have HI0:Hid (i32B N=I):=hI
 clear hI
 go_enter Tryz.func46,Tryz.ntmps46
 go_upto_region 4 with (go_at_call 81;refine (HF.out _ B0.out).mono ?_;rintro e w1 ⟨rfl,hB⟩;have B1:Hid (Bw W w1):=Za B0.out hB;obtain ⟨zB,z0,z1,zf,zL,zN⟩:=k2c (n:=W.heap.size) hB;clear hB HF)
 obtain ⟨U,hU⟩:∃ U,U=w1.alloc (.cells #[.int .i64 d,.string nm,.slice a m m] 155):=⟨_,rfl⟩
 have HUE:Hid (U=w1.alloc (.cells #[.int .i64 d,.string nm,.slice a m m] 155)):=hU
 have BU:Hid (Bw W U):=by rw [hU];exact B1.out.alloc B1.out.size _
 have hUs:U.heap.size=w1.heap.size+1:=by rw [hU];simp
 have uv:Hid (U.heap[W.heap.size]?=some (.cells #[.bool true,.int .i64 N] 38 (0,0))):=by rw [hU];exact hkA zB.out
 have uo:Hid (U.heap[w1.heap.size]?=some (.cells #[.int .i64 d,.string nm,.slice a m m] 155 (0,0))):=by rw [hU];exact Zg _ _
 clear hU zB z0 z1 zf zN
 obtain ⟨σ,V,hne,V1,V2⟩:=class_of' (fun w'=>Bw U w') ⟨_,Below.refl _ _⟩
 have ev:=fun q=>r2c (((V1.out q).block W.heap.size (by omega)).trans uv.out)
 have eo:=fun q=>r3c (((V1.out q).block w1.heap.size (by omega)).trans uo.out)
 have e0:=fun q=>(ev q).1
 have e1:=fun q=>(ev q).2.1
 have e2:=fun q=>(eo q).1
 have e3:=fun q=>(eo q).2.1
 have e4:=fun q=>(eo q).2.2.1
 have HVR:Hid (∀ q,Calls Tryz.prog 83 #[.agg #[.int .i64 d,.string nm,.slice a m m]] (V q) fun e w'=>e=.returned (.bool true)∧∃ q',w'=V q'):=fun q=>(HR.out _).mono fun e w' ⟨h1,h2⟩=>⟨h1,V2.out _ (Za (V1.out q) h2)⟩
 have HVI:Hid (∀ q,Calls Tryz.prog 84 #[.int .i64 N] (V q) fun e w'=>e=.returned (.bool I)∧∃ q',w'=V q'):=fun q=>(HI.out _).mono fun e w' ⟨h1,h2⟩=>⟨h1,q,h2⟩
 clear ev eo HR HI
 rw [← HUE.out]
 refine Zc (C:=fun w'=>∃ q,w'=V q) (by kernel_rfl) (by kernel_rfl) (V2.out _ (Below.refl _ _).drew) ?_
 repeat (go_big_quiet_step (first|(go_at_call 83;exact HVR.out _)|(go_at_call 84;exact HVI.out _)))
 refine wpQuiet_nil ?_
 intro w9 hw9
 obtain ⟨s9,rfl⟩:=hw9
 have B9:Hid (Bw W (V s9)):=Za BU.out (V1.out s9)
 have hz9:=(V1.out s9).size
 have vB:Hid ((V s9).heap[W.heap.size]?=some (.cells #[.bool true,.int .i64 N] 38 (0,0))):=((V1.out s9).block W.heap.size (by omega)).trans uv.out
 have oB:Hid ((V s9).heap[w1.heap.size]?=some (.cells #[.int .i64 d,.string nm,.slice a m m] 155 (0,0))):=((V1.out s9).block w1.heap.size (by omega)).trans uo.out
 clear e0 e1 e2 e3 e4 HVR HVI V1 V2 uv uo hUs HUE BU
 generalize V s9=w9 at *
 clear V hne s9
 obtain ⟨v0,v1,vf,vL⟩:=r2c vB.out
 obtain ⟨o0,o1,o2,of,oL⟩:=r3c oB.out
 go_wp2_with (first|(go_at_call 82;refine (HH.out _).mono ?_;rintro e w10 ⟨rfl,hB⟩;have B10:Hid (Bw W w10):=Za B9.out hB;have vd:=k2c (n:=W.heap.size) hB vL vB.out;have od:=k3c (n:=w1.heap.size) hB oL oB.out;clear vB v0 v1 vf vL oB o0 o1 o2 of oL;obtain ⟨vB,v0,v1,vf,vL,vN⟩:=vd;obtain ⟨oB,o0,o1,o2,of,oL,oN⟩:=od;clear hB HH)|(go_at_call 85;refine (HC.out _ B10.out).mono ?_;rintro e w11 ⟨rfl,hB⟩;have B11:Hid (Bw W w11):=Za B10.out hB;have vd:=k2c (n:=W.heap.size) hB vL vB.out;have od:=k3c (n:=w1.heap.size) hB oL oB.out;clear vB v0 v1 vf vL vN oB o0 o1 o2 of oL oN;obtain ⟨vB,v0,v1,vf,vL,vN⟩:=vd;obtain ⟨oB,o0,o1,o2,of,oL,oN⟩:=od;clear hB HC))
 go_ret
 exact ⟨rfl,B11.out⟩
end Go.Proofs.YtlnojhhddinjkaaGreat
