import Derived.Test.YtlnojhhddinjkaaGreatHpN
set_option maxHeartbeats 4000000
set_option maxRecDepth 100000
namespace Go.Proofs.YtlnojhhddinjkaaGreat
open Go.RowKit Go.Maps
theorem set_same {w w':World} {p:Addr} (v:Value) (h:w'.heap[p.block]?=w.heap[p.block]?):(w'.setCell p v).heap[p.block]?=(w.setCell p v).heap[p.block]?:=by
 unfold World.setCell
 simp only [Array.getElem?_modify]
 simp [h]
theorem Yw {N:Nat} {w w':World} (h:Below N w w') (p:Addr) (v:Value):Below N (w.setCell p v) (w'.setCell p v) :=
 ⟨h.os,h.tape,h.output,by simpa [World.setCell] using h.size,fun j hj=>by
  by_cases e:j=p.block
  ·subst e;exact set_same v (h.block _ hj)
  ·exact (Below.heap_setCell _ _ _ _ e).trans ((h.block j hj).trans (Below.heap_setCell _ _ _ _ e).symm)⟩
theorem dst_err {W:World} {p:Value} {x i N E:Int} {n:Int} {Rf:Bool} (hE:¬ E=0) (HL:Hid (∀ w,Bw W w→Calls Tryz.prog 9 #[p,.int .i64 x] w fun e w'=>e=.returned (.tuple #[.int .i64 n,.int .i64 E])∧Bw w w')):Calls Tryz.prog 47 #[p,.int .i64 x,.int .i64 i,.agg #[.bool Rf,.int .i64 N]] W fun e w'=>e=.returned (.int .i64 E)∧Bw W w':=by
 go_enter Tryz.func47,Tryz.ntmps47
 go_wp2_with (go_at_call 9;refine (HL.out _ sqR).mono ?_;rintro e w1 ⟨rfl,hb⟩;have B1:Hid (Bw W w1):=Za ((Below.refl _ _).alloc (Nat.le_refl _) _) hb;clear hb)
 go_ret
 exact ⟨rfl,B1.out⟩
structure SD (W:World) (r b k L gt k1 gv k2:Nat) (o:Dv) (vv:Value):Prop where
 c0:W.cell? ⟨r,0,none⟩=some (.pointer (some ⟨b,0,none⟩))
 c1:W.cell? ⟨r,1,none⟩=some (.slice (some ⟨gt,0,none⟩) L k1)
 c2:W.cell? ⟨r,2,none⟩=some (.slice (some ⟨gv,0,none⟩) L k2)
 t0:W.cell? ⟨gt,k * 2,none⟩=some (.int .i64 o.d)
 t1:W.cell? ⟨gt,k * 2+1,none⟩=some (.string o.nm)
 v0:W.cell? ⟨gv,k,none⟩=some vv
theorem SD.bel {W w:World} {r b k L gt k1 gv k2:Nat} {o:Dv} {vv:Value} (h:SD W r b k L gt k1 gv k2 o vv) (hb:Bw W w):SD w r b k L gt k1 gv k2 o vv :=
 ⟨(hb.cell (p:=⟨r,0,none⟩) (World.block_lt_of_cell? W _ h.c0)).trans h.c0,(hb.cell (p:=⟨r,1,none⟩) (World.block_lt_of_cell? W _ h.c1)).trans h.c1,(hb.cell (p:=⟨r,2,none⟩) (World.block_lt_of_cell? W _ h.c2)).trans h.c2,(hb.cell (p:=⟨gt,k * 2,none⟩) (World.block_lt_of_cell? W _ h.t0)).trans h.t0,(hb.cell (p:=⟨gt,k * 2+1,none⟩) (World.block_lt_of_cell? W _ h.t1)).trans h.t1,(hb.cell (p:=⟨gv,k,none⟩) (World.block_lt_of_cell? W _ h.v0)).trans h.v0⟩
theorem RhAt.sd {W:World} {S:Nat→Prop} {r b:Nat} {tv ev:Value} {es:List Dv} (h:RhAt W S r b tv ev es) {k:Nat} {o:Dv} (hk:es[k]?=some o):∃ gt k1 gv k2,SD W r b k es.length gt k1 gv k2 o (dvV o):=by
 obtain ⟨c0,c1,c2,fz,hl⟩:=h.cells
 have hkl:=(List.getElem?_eq_some_iff.1 hk).1
 have htw:=h.tw
 have hvw:=h.vw
 obtain ⟨gt,k1,e1⟩:=Go.Joins.ownsRow_form htw (by omega)
 obtain ⟨gv,k2,e2⟩:=Go.Joins.ownsRow_form hvw (by omega)
 rw [e1] at htw c1
 rw [e2] at hvw c2
 obtain ⟨f0,f1⟩:=Zaw es k o hk
 refine ⟨gt,k1,gv,k2,c0,c1,c2,(htw.cellAt _ (by omega)).trans f0,(htw.cellAt _ (by omega)).trans f1,?_⟩
 rw [hvw.cellAt k (by omega),List.getElem?_map,hk]
 rfl
theorem dst_kind {W:World} {r b k L gt k1 gv k2 x:Nat} {o:Dv} {vv:Value} {i N:Int} {Rf R:Bool} (sd:SD W r b k L gt k1 gv k2 o vv) (hkL:k<L) (hL:L≤1000) (hR:rfD o.d o.nm=R) (HL:Hid (∀ w,Bw W w→Calls Tryz.prog 9 #[.pointer (some ⟨r,0,none⟩),.int .i64 ((k:Int)+1)] w fun e w'=>e=.returned (.tuple #[.int .i64 (x:Int),.int .i64 0])∧Bw w w')) (hne0:¬ Rf=R):Calls Tryz.prog 47 #[.pointer (some ⟨r,0,none⟩),.int .i64 ((k:Int)+1),.int .i64 i,.agg #[.bool Rf,.int .i64 N]] W fun e w'=>e=.returned (.int .i64 35)∧Bw W w':=by
 have hq:(Rf == R)=false:=by simpa using hne0
 obtain ⟨dd,nm,eb,vs⟩:=o
 simp only at *
 have B0:Hid (Bw W (W.alloc (.cells #[.bool Rf,.int .i64 N] 38))):=(Below.refl _ _).alloc (Nat.le_refl _) _
 have HR:Hid (∀ w:World,Calls Tryz.prog 86 #[.agg #[.int .i64 dd,.string nm]] w fun e w'=>e=.returned (.bool R)∧Bw w w'):=fun w=>by
  have:=Xd dd nm w
  rw [hR] at this;exact this
 have HSD:Hid (SD W r b k L gt k1 gv k2 ⟨dd,nm,eb,vs⟩ vv):=sd
 have hkI:(k:Int)<(L:Int):=by omega
 have wk:IntKind.i64.wrap (k:Int)=(k:Int):=by rw [IntKind.wrap_i64];omega
 clear hR sd
 go_enter Tryz.func47,Tryz.ntmps47
 go_upto_region 5 with (go_at_call 9;refine (HL.out _ B0.out).mono ?_;rintro e w1 ⟨rfl,hB⟩;have B1:Hid (Bw W w1):=Za B0.out hB;obtain ⟨zB,z0,z1,zf,zL,zN⟩:=k2c (n:=W.heap.size) hB;have s1:=HSD.out.bel B1.out;have y1:=s1.c1;have yt0:=s1.t0;have yt1:=s1.t1;clear hB HL s1)
 obtain ⟨U,hU⟩:∃ U,U=w1.alloc (.cells #[.int .i64 dd,.string nm] 40):=⟨_,rfl⟩
 have HUE:Hid (U=w1.alloc (.cells #[.int .i64 dd,.string nm] 40)):=hU
 have BU:Hid (Bw W U):=by rw [hU];exact B1.out.alloc B1.out.size _
 have hUs:U.heap.size=w1.heap.size+1:=by rw [hU];simp
 have uv:Hid (U.heap[W.heap.size]?=some (.cells #[.bool Rf,.int .i64 N] 38 (0,0))):=by rw [hU];exact hkA zB.out
 have uo:Hid (U.heap[w1.heap.size]?=some (.cells #[.int .i64 dd,.string nm] 40 (0,0))):=by rw [hU];exact Zg _ _
 clear hU zB z0 z1 zf zN
 obtain ⟨σ,V,hne,V1,V2⟩:=class_of' (fun w'=>Bw U w') ⟨_,Below.refl _ _⟩
 have ev:=fun q=>r2c (((V1.out q).block W.heap.size (by omega)).trans uv.out)
 have eo:=fun q=>r2c (((V1.out q).block w1.heap.size (by omega)).trans uo.out)
 have e0:=fun q=>(ev q).1
 have e1:=fun q=>(ev q).2.1
 have e2:=fun q=>(eo q).1
 have e3:=fun q=>(eo q).2.1
 have HVR:Hid (∀ q,Calls Tryz.prog 86 #[.agg #[.int .i64 dd,.string nm]] (V q) fun e w'=>e=.returned (.bool R)∧∃ q',w'=V q'):=fun q=>(HR.out _).mono fun e w' ⟨h1,h2⟩=>⟨h1,V2.out _ (Za (V1.out q) h2)⟩
 clear ev eo HR
 rw [← HUE.out]
 refine Zc (C:=fun w'=>∃ q,w'=V q) (by kernel_rfl) (by kernel_rfl) (V2.out _ (Below.refl _ _).drew) ?_
 repeat (go_big_quiet_step (first|(go_at_call 86;exact HVR.out _)))
 refine wpQuiet_nil ?_
 intro w9 hw9
 obtain ⟨s9,rfl⟩:=hw9
 have B9:Hid (Bw W (V s9)):=Za BU.out (V1.out s9)
 go_wp2
 go_ret
 exact ⟨rfl,B9.out⟩
theorem dst_wide {W:World} {r b k L gt k1 gv k2 x:Nat} {o:Dv} {vv:Value} {i N:Int} {Rf R:Bool} (sd:SD W r b k L gt k1 gv k2 o vv) (hkL:k<L) (hL:L≤1000) (hR:rfD o.d o.nm=R) (HL:Hid (∀ w,Bw W w→Calls Tryz.prog 9 #[.pointer (some ⟨r,0,none⟩),.int .i64 ((k:Int)+1)] w fun e w'=>e=.returned (.tuple #[.int .i64 (x:Int),.int .i64 0])∧Bw w w')) (h1:Rf=false) (h2:R=false) (h3:N < -2147483648):Calls Tryz.prog 47 #[.pointer (some ⟨r,0,none⟩),.int .i64 ((k:Int)+1),.int .i64 i,.agg #[.bool Rf,.int .i64 N]] W fun e w'=>e=.returned (.int .i64 35)∧Bw W w':=by
 subst h1 h2
 obtain ⟨dd,nm,eb,vs⟩:=o
 simp only at *
 have B0:Hid (Bw W (W.alloc (.cells #[.bool false,.int .i64 N] 38))):=(Below.refl _ _).alloc (Nat.le_refl _) _
 have HR:Hid (∀ w:World,Calls Tryz.prog 86 #[.agg #[.int .i64 dd,.string nm]] w fun e w'=>e=.returned (.bool false)∧Bw w w'):=fun w=>by
  have:=Xd dd nm w
  rw [hR] at this;exact this
 have HSD:Hid (SD W r b k L gt k1 gv k2 ⟨dd,nm,eb,vs⟩ vv):=sd
 have hkI:(k:Int)<(L:Int):=by omega
 have wk:IntKind.i64.wrap (k:Int)=(k:Int):=by rw [IntKind.wrap_i64];omega
 clear hR sd
 go_enter Tryz.func47,Tryz.ntmps47
 go_upto_region 5 with (go_at_call 9;refine (HL.out _ B0.out).mono ?_;rintro e w1 ⟨rfl,hB⟩;have B1:Hid (Bw W w1):=Za B0.out hB;obtain ⟨zB,z0,z1,zf,zL,zN⟩:=k2c (n:=W.heap.size) hB;have s1:=HSD.out.bel B1.out;have y1:=s1.c1;have yt0:=s1.t0;have yt1:=s1.t1;clear hB HL s1)
 obtain ⟨U,hU⟩:∃ U,U=w1.alloc (.cells #[.int .i64 dd,.string nm] 40):=⟨_,rfl⟩
 have HUE:Hid (U=w1.alloc (.cells #[.int .i64 dd,.string nm] 40)):=hU
 have BU:Hid (Bw W U):=by rw [hU];exact B1.out.alloc B1.out.size _
 have hUs:U.heap.size=w1.heap.size+1:=by rw [hU];simp
 have uv:Hid (U.heap[W.heap.size]?=some (.cells #[.bool false,.int .i64 N] 38 (0,0))):=by rw [hU];exact hkA zB.out
 have uo:Hid (U.heap[w1.heap.size]?=some (.cells #[.int .i64 dd,.string nm] 40 (0,0))):=by rw [hU];exact Zg _ _
 clear hU zB z0 z1 zf zN
 obtain ⟨σ,V,hne,V1,V2⟩:=class_of' (fun w'=>Bw U w') ⟨_,Below.refl _ _⟩
 have ev:=fun q=>r2c (((V1.out q).block W.heap.size (by omega)).trans uv.out)
 have eo:=fun q=>r2c (((V1.out q).block w1.heap.size (by omega)).trans uo.out)
 have e0:=fun q=>(ev q).1
 have e1:=fun q=>(ev q).2.1
 have e2:=fun q=>(eo q).1
 have e3:=fun q=>(eo q).2.1
 have HVR:Hid (∀ q,Calls Tryz.prog 86 #[.agg #[.int .i64 dd,.string nm]] (V q) fun e w'=>e=.returned (.bool false)∧∃ q',w'=V q'):=fun q=>(HR.out _).mono fun e w' ⟨h1,h2⟩=>⟨h1,V2.out _ (Za (V1.out q) h2)⟩
 clear ev eo HR
 rw [← HUE.out]
 refine Zc (C:=fun w'=>∃ q,w'=V q) (by kernel_rfl) (by kernel_rfl) (V2.out _ (Below.refl _ _).drew) ?_
 repeat (go_big_quiet_step (first|(go_at_call 86;exact HVR.out _)))
 refine wpQuiet_nil ?_
 intro w9 hw9
 obtain ⟨s9,rfl⟩:=hw9
 have B9:Hid (Bw W (V s9)):=Za BU.out (V1.out s9)
 go_wp2
 go_ret
 exact ⟨rfl,B9.out⟩
theorem Zku {W:World} {r b k L gt k1 gv k2 x:Nat} {o:Dv} {vv:Value} {i N:Int} {Rf R:Bool} (sd:SD W r b k L gt k1 gv k2 o vv) (hkL:k<L) (hL:L≤1000) (hR:rfD o.d o.nm=R) (HL:Hid (∀ w,Bw W w→Calls Tryz.prog 9 #[.pointer (some ⟨r,0,none⟩),.int .i64 ((k:Int)+1)] w fun e w'=>e=.returned (.tuple #[.int .i64 (x:Int),.int .i64 0])∧Bw w w')) (h1:Rf=false) (h2:R=false) (h3:¬ N < -2147483648) (h4:2147483647<N):Calls Tryz.prog 47 #[.pointer (some ⟨r,0,none⟩),.int .i64 ((k:Int)+1),.int .i64 i,.agg #[.bool Rf,.int .i64 N]] W fun e w'=>e=.returned (.int .i64 35)∧Bw W w':=by
 subst h1 h2
 have HH3:Hid (¬ N < -2147483648):=h3
 have HH4:Hid (2147483647<N):=h4
 obtain ⟨dd,nm,eb,vs⟩:=o
 simp only at *
 have B0:Hid (Bw W (W.alloc (.cells #[.bool false,.int .i64 N] 38))):=(Below.refl _ _).alloc (Nat.le_refl _) _
 have HR:Hid (∀ w:World,Calls Tryz.prog 86 #[.agg #[.int .i64 dd,.string nm]] w fun e w'=>e=.returned (.bool false)∧Bw w w'):=fun w=>by
  have:=Xd dd nm w
  rw [hR] at this;exact this
 have HSD:Hid (SD W r b k L gt k1 gv k2 ⟨dd,nm,eb,vs⟩ vv):=sd
 have hkI:(k:Int)<(L:Int):=by omega
 have wk:IntKind.i64.wrap (k:Int)=(k:Int):=by rw [IntKind.wrap_i64];omega
 clear hR sd
 go_enter Tryz.func47,Tryz.ntmps47
 go_upto_region 5 with (go_at_call 9;refine (HL.out _ B0.out).mono ?_;rintro e w1 ⟨rfl,hB⟩;have B1:Hid (Bw W w1):=Za B0.out hB;obtain ⟨zB,z0,z1,zf,zL,zN⟩:=k2c (n:=W.heap.size) hB;have s1:=HSD.out.bel B1.out;have y1:=s1.c1;have yt0:=s1.t0;have yt1:=s1.t1;clear hB HL s1)
 obtain ⟨U,hU⟩:∃ U,U=w1.alloc (.cells #[.int .i64 dd,.string nm] 40):=⟨_,rfl⟩
 have HUE:Hid (U=w1.alloc (.cells #[.int .i64 dd,.string nm] 40)):=hU
 have BU:Hid (Bw W U):=by rw [hU];exact B1.out.alloc B1.out.size _
 have hUs:U.heap.size=w1.heap.size+1:=by rw [hU];simp
 have uv:Hid (U.heap[W.heap.size]?=some (.cells #[.bool false,.int .i64 N] 38 (0,0))):=by rw [hU];exact hkA zB.out
 have uo:Hid (U.heap[w1.heap.size]?=some (.cells #[.int .i64 dd,.string nm] 40 (0,0))):=by rw [hU];exact Zg _ _
 clear hU zB z0 z1 zf zN
 obtain ⟨σ,V,hne,V1,V2⟩:=class_of' (fun w'=>Bw U w') ⟨_,Below.refl _ _⟩
 have ev:=fun q=>r2c (((V1.out q).block W.heap.size (by omega)).trans uv.out)
 have eo:=fun q=>r2c (((V1.out q).block w1.heap.size (by omega)).trans uo.out)
 have e0:=fun q=>(ev q).1
 have e1:=fun q=>(ev q).2.1
 have e2:=fun q=>(eo q).1
 have e3:=fun q=>(eo q).2.1
 have HVR:Hid (∀ q,Calls Tryz.prog 86 #[.agg #[.int .i64 dd,.string nm]] (V q) fun e w'=>e=.returned (.bool false)∧∃ q',w'=V q'):=fun q=>(HR.out _).mono fun e w' ⟨h1,h2⟩=>⟨h1,V2.out _ (Za (V1.out q) h2)⟩
 clear ev eo HR
 have dh3:decide (N < -2147483648)=false:=decide_eq_false (by have:=HH3.out;omega)
 have dh4:decide (2147483647<N)=true:=decide_eq_true (by have:=HH4.out;omega)
 rw [← HUE.out]
 refine Zc (C:=fun w'=>∃ q,w'=V q) (by kernel_rfl) (by kernel_rfl) (V2.out _ (Below.refl _ _).drew) ?_
 repeat (go_big_quiet_step (first|(go_at_call 86;exact HVR.out _)))
 refine wpQuiet_nil ?_
 intro w9 hw9
 obtain ⟨s9,rfl⟩:=hw9
 have B9:Hid (Bw W (V s9)):=Za BU.out (V1.out s9)
 go_wp2
 go_ret
 exact ⟨rfl,B9.out⟩
theorem dst_i31a {W:World} {r b k L gt k1 gv k2 x:Nat} {o:Dv} {vv:Value} {i N:Int} {Rf R:Bool} (sd:SD W r b k L gt k1 gv k2 o vv) (hkL:k<L) (hL:L≤1000) (hR:rfD o.d o.nm=R) (HL:Hid (∀ w,Bw W w→Calls Tryz.prog 9 #[.pointer (some ⟨r,0,none⟩),.int .i64 ((k:Int)+1)] w fun e w'=>e=.returned (.tuple #[.int .i64 (x:Int),.int .i64 0])∧Bw w w')) (h1:Rf=false) (h2:R=false) (h3:¬ N < -2147483648) (h4:¬ 2147483647<N) (h5:i<0):Calls Tryz.prog 47 #[.pointer (some ⟨r,0,none⟩),.int .i64 ((k:Int)+1),.int .i64 i,.agg #[.bool Rf,.int .i64 N]] W fun e w'=>e=.returned (.int .i64 31)∧Bw W w':=by
 subst h1 h2
 have HH3:Hid (¬ N < -2147483648):=h3
 have HH4:Hid (¬ 2147483647<N):=h4
 obtain ⟨dd,nm,eb,vs⟩:=o
 simp only at *
 have B0:Hid (Bw W (W.alloc (.cells #[.bool false,.int .i64 N] 38))):=(Below.refl _ _).alloc (Nat.le_refl _) _
 have HR:Hid (∀ w:World,Calls Tryz.prog 86 #[.agg #[.int .i64 dd,.string nm]] w fun e w'=>e=.returned (.bool false)∧Bw w w'):=fun w=>by
  have:=Xd dd nm w
  rw [hR] at this;exact this
 have HSD:Hid (SD W r b k L gt k1 gv k2 ⟨dd,nm,eb,vs⟩ vv):=sd
 have hkI:(k:Int)<(L:Int):=by omega
 have wk:IntKind.i64.wrap (k:Int)=(k:Int):=by rw [IntKind.wrap_i64];omega
 clear hR sd
 go_enter Tryz.func47,Tryz.ntmps47
 go_upto_region 5 with (go_at_call 9;refine (HL.out _ B0.out).mono ?_;rintro e w1 ⟨rfl,hB⟩;have B1:Hid (Bw W w1):=Za B0.out hB;obtain ⟨zB,z0,z1,zf,zL,zN⟩:=k2c (n:=W.heap.size) hB;have s1:=HSD.out.bel B1.out;have y1:=s1.c1;have yt0:=s1.t0;have yt1:=s1.t1;clear hB HL s1)
 obtain ⟨U,hU⟩:∃ U,U=w1.alloc (.cells #[.int .i64 dd,.string nm] 40):=⟨_,rfl⟩
 have HUE:Hid (U=w1.alloc (.cells #[.int .i64 dd,.string nm] 40)):=hU
 have BU:Hid (Bw W U):=by rw [hU];exact B1.out.alloc B1.out.size _
 have hUs:U.heap.size=w1.heap.size+1:=by rw [hU];simp
 have uv:Hid (U.heap[W.heap.size]?=some (.cells #[.bool false,.int .i64 N] 38 (0,0))):=by rw [hU];exact hkA zB.out
 have uo:Hid (U.heap[w1.heap.size]?=some (.cells #[.int .i64 dd,.string nm] 40 (0,0))):=by rw [hU];exact Zg _ _
 clear hU zB z0 z1 zf zN
 obtain ⟨σ,V,hne,V1,V2⟩:=class_of' (fun w'=>Bw U w') ⟨_,Below.refl _ _⟩
 have ev:=fun q=>r2c (((V1.out q).block W.heap.size (by omega)).trans uv.out)
 have eo:=fun q=>r2c (((V1.out q).block w1.heap.size (by omega)).trans uo.out)
 have e0:=fun q=>(ev q).1
 have e1:=fun q=>(ev q).2.1
 have e2:=fun q=>(eo q).1
 have e3:=fun q=>(eo q).2.1
 have HVR:Hid (∀ q,Calls Tryz.prog 86 #[.agg #[.int .i64 dd,.string nm]] (V q) fun e w'=>e=.returned (.bool false)∧∃ q',w'=V q'):=fun q=>(HR.out _).mono fun e w' ⟨h1,h2⟩=>⟨h1,V2.out _ (Za (V1.out q) h2)⟩
 clear ev eo HR
 have dh3:decide (N < -2147483648)=false:=decide_eq_false (by have:=HH3.out;omega)
 have dh4:decide (2147483647<N)=false:=decide_eq_false (by have:=HH4.out;omega)
 rw [← HUE.out]
 refine Zc (C:=fun w'=>∃ q,w'=V q) (by kernel_rfl) (by kernel_rfl) (V2.out _ (Below.refl _ _).drew) ?_
 repeat (go_big_quiet_step (first|(go_at_call 86;exact HVR.out _)))
 refine wpQuiet_nil ?_
 intro w9 hw9
 obtain ⟨s9,rfl⟩:=hw9
 have B9:Hid (Bw W (V s9)):=Za BU.out (V1.out s9)
 go_wp2
 go_ret
 exact ⟨rfl,B9.out⟩
theorem dst_i31b {W:World} {r b k L gt k1 gv k2 x:Nat} {o:Dv} {vv:Value} {i N:Int} {Rf R:Bool} (sd:SD W r b k L gt k1 gv k2 o vv) (hkL:k<L) (hL:L≤1000) (hR:rfD o.d o.nm=R) (HL:Hid (∀ w,Bw W w→Calls Tryz.prog 9 #[.pointer (some ⟨r,0,none⟩),.int .i64 ((k:Int)+1)] w fun e w'=>e=.returned (.tuple #[.int .i64 (x:Int),.int .i64 0])∧Bw w w')) (h1:Rf=false) (h2:R=false) (h3:¬ N < -2147483648) (h4:¬ 2147483647<N) (h5:¬ i<0) (h6:(x:Int)≤i):Calls Tryz.prog 47 #[.pointer (some ⟨r,0,none⟩),.int .i64 ((k:Int)+1),.int .i64 i,.agg #[.bool Rf,.int .i64 N]] W fun e w'=>e=.returned (.int .i64 31)∧Bw W w':=by
 subst h1 h2
 have HH3:Hid (¬ N < -2147483648):=h3
 have HH4:Hid (¬ 2147483647<N):=h4
 obtain ⟨dd,nm,eb,vs⟩:=o
 simp only at *
 have B0:Hid (Bw W (W.alloc (.cells #[.bool false,.int .i64 N] 38))):=(Below.refl _ _).alloc (Nat.le_refl _) _
 have HR:Hid (∀ w:World,Calls Tryz.prog 86 #[.agg #[.int .i64 dd,.string nm]] w fun e w'=>e=.returned (.bool false)∧Bw w w'):=fun w=>by
  have:=Xd dd nm w
  rw [hR] at this;exact this
 have HSD:Hid (SD W r b k L gt k1 gv k2 ⟨dd,nm,eb,vs⟩ vv):=sd
 have hkI:(k:Int)<(L:Int):=by omega
 have wk:IntKind.i64.wrap (k:Int)=(k:Int):=by rw [IntKind.wrap_i64];omega
 clear hR sd
 go_enter Tryz.func47,Tryz.ntmps47
 go_upto_region 5 with (go_at_call 9;refine (HL.out _ B0.out).mono ?_;rintro e w1 ⟨rfl,hB⟩;have B1:Hid (Bw W w1):=Za B0.out hB;obtain ⟨zB,z0,z1,zf,zL,zN⟩:=k2c (n:=W.heap.size) hB;have s1:=HSD.out.bel B1.out;have y1:=s1.c1;have yt0:=s1.t0;have yt1:=s1.t1;clear hB HL s1)
 obtain ⟨U,hU⟩:∃ U,U=w1.alloc (.cells #[.int .i64 dd,.string nm] 40):=⟨_,rfl⟩
 have HUE:Hid (U=w1.alloc (.cells #[.int .i64 dd,.string nm] 40)):=hU
 have BU:Hid (Bw W U):=by rw [hU];exact B1.out.alloc B1.out.size _
 have hUs:U.heap.size=w1.heap.size+1:=by rw [hU];simp
 have uv:Hid (U.heap[W.heap.size]?=some (.cells #[.bool false,.int .i64 N] 38 (0,0))):=by rw [hU];exact hkA zB.out
 have uo:Hid (U.heap[w1.heap.size]?=some (.cells #[.int .i64 dd,.string nm] 40 (0,0))):=by rw [hU];exact Zg _ _
 clear hU zB z0 z1 zf zN
 obtain ⟨σ,V,hne,V1,V2⟩:=class_of' (fun w'=>Bw U w') ⟨_,Below.refl _ _⟩
 have ev:=fun q=>r2c (((V1.out q).block W.heap.size (by omega)).trans uv.out)
 have eo:=fun q=>r2c (((V1.out q).block w1.heap.size (by omega)).trans uo.out)
 have e0:=fun q=>(ev q).1
 have e1:=fun q=>(ev q).2.1
 have e2:=fun q=>(eo q).1
 have e3:=fun q=>(eo q).2.1
 have HVR:Hid (∀ q,Calls Tryz.prog 86 #[.agg #[.int .i64 dd,.string nm]] (V q) fun e w'=>e=.returned (.bool false)∧∃ q',w'=V q'):=fun q=>(HR.out _).mono fun e w' ⟨h1,h2⟩=>⟨h1,V2.out _ (Za (V1.out q) h2)⟩
 clear ev eo HR
 have dh3:decide (N < -2147483648)=false:=decide_eq_false (by have:=HH3.out;omega)
 have dh4:decide (2147483647<N)=false:=decide_eq_false (by have:=HH4.out;omega)
 rw [← HUE.out]
 refine Zc (C:=fun w'=>∃ q,w'=V q) (by kernel_rfl) (by kernel_rfl) (V2.out _ (Below.refl _ _).drew) ?_
 repeat (go_big_quiet_step (first|(go_at_call 86;exact HVR.out _)))
 refine wpQuiet_nil ?_
 intro w9 hw9
 obtain ⟨s9,rfl⟩:=hw9
 have B9:Hid (Bw W (V s9)):=Za BU.out (V1.out s9)
 go_wp2
 go_ret
 exact ⟨rfl,B9.out⟩
theorem dst_r31a {W:World} {r b k L gt k1 gv k2 x:Nat} {o:Dv} {vv:Value} {i N:Int} {Rf R:Bool} (sd:SD W r b k L gt k1 gv k2 o vv) (hkL:k<L) (hL:L≤1000) (hR:rfD o.d o.nm=R) (HL:Hid (∀ w,Bw W w→Calls Tryz.prog 9 #[.pointer (some ⟨r,0,none⟩),.int .i64 ((k:Int)+1)] w fun e w'=>e=.returned (.tuple #[.int .i64 (x:Int),.int .i64 0])∧Bw w w')) (h1:Rf=true) (h2:R=true) (h5:i<0):Calls Tryz.prog 47 #[.pointer (some ⟨r,0,none⟩),.int .i64 ((k:Int)+1),.int .i64 i,.agg #[.bool Rf,.int .i64 N]] W fun e w'=>e=.returned (.int .i64 31)∧Bw W w':=by
 subst h1 h2
 obtain ⟨dd,nm,eb,vs⟩:=o
 simp only at *
 have B0:Hid (Bw W (W.alloc (.cells #[.bool true,.int .i64 N] 38))):=(Below.refl _ _).alloc (Nat.le_refl _) _
 have HR:Hid (∀ w:World,Calls Tryz.prog 86 #[.agg #[.int .i64 dd,.string nm]] w fun e w'=>e=.returned (.bool true)∧Bw w w'):=fun w=>by
  have:=Xd dd nm w
  rw [hR] at this;exact this
 have HSD:Hid (SD W r b k L gt k1 gv k2 ⟨dd,nm,eb,vs⟩ vv):=sd
 have hkI:(k:Int)<(L:Int):=by omega
 have wk:IntKind.i64.wrap (k:Int)=(k:Int):=by rw [IntKind.wrap_i64];omega
 clear hR sd
 go_enter Tryz.func47,Tryz.ntmps47
 go_upto_region 5 with (go_at_call 9;refine (HL.out _ B0.out).mono ?_;rintro e w1 ⟨rfl,hB⟩;have B1:Hid (Bw W w1):=Za B0.out hB;obtain ⟨zB,z0,z1,zf,zL,zN⟩:=k2c (n:=W.heap.size) hB;have s1:=HSD.out.bel B1.out;have y1:=s1.c1;have yt0:=s1.t0;have yt1:=s1.t1;clear hB HL s1)
 obtain ⟨U,hU⟩:∃ U,U=w1.alloc (.cells #[.int .i64 dd,.string nm] 40):=⟨_,rfl⟩
 have HUE:Hid (U=w1.alloc (.cells #[.int .i64 dd,.string nm] 40)):=hU
 have BU:Hid (Bw W U):=by rw [hU];exact B1.out.alloc B1.out.size _
 have hUs:U.heap.size=w1.heap.size+1:=by rw [hU];simp
 have uv:Hid (U.heap[W.heap.size]?=some (.cells #[.bool true,.int .i64 N] 38 (0,0))):=by rw [hU];exact hkA zB.out
 have uo:Hid (U.heap[w1.heap.size]?=some (.cells #[.int .i64 dd,.string nm] 40 (0,0))):=by rw [hU];exact Zg _ _
 clear hU zB z0 z1 zf zN
 obtain ⟨σ,V,hne,V1,V2⟩:=class_of' (fun w'=>Bw U w') ⟨_,Below.refl _ _⟩
 have ev:=fun q=>r2c (((V1.out q).block W.heap.size (by omega)).trans uv.out)
 have eo:=fun q=>r2c (((V1.out q).block w1.heap.size (by omega)).trans uo.out)
 have e0:=fun q=>(ev q).1
 have e1:=fun q=>(ev q).2.1
 have e2:=fun q=>(eo q).1
 have e3:=fun q=>(eo q).2.1
 have HVR:Hid (∀ q,Calls Tryz.prog 86 #[.agg #[.int .i64 dd,.string nm]] (V q) fun e w'=>e=.returned (.bool true)∧∃ q',w'=V q'):=fun q=>(HR.out _).mono fun e w' ⟨h1,h2⟩=>⟨h1,V2.out _ (Za (V1.out q) h2)⟩
 clear ev eo HR
 rw [← HUE.out]
 refine Zc (C:=fun w'=>∃ q,w'=V q) (by kernel_rfl) (by kernel_rfl) (V2.out _ (Below.refl _ _).drew) ?_
 repeat (go_big_quiet_step (first|(go_at_call 86;exact HVR.out _)))
 refine wpQuiet_nil ?_
 intro w9 hw9
 obtain ⟨s9,rfl⟩:=hw9
 have B9:Hid (Bw W (V s9)):=Za BU.out (V1.out s9)
 go_wp2
 go_ret
 exact ⟨rfl,B9.out⟩
theorem dst_r31b {W:World} {r b k L gt k1 gv k2 x:Nat} {o:Dv} {vv:Value} {i N:Int} {Rf R:Bool} (sd:SD W r b k L gt k1 gv k2 o vv) (hkL:k<L) (hL:L≤1000) (hR:rfD o.d o.nm=R) (HL:Hid (∀ w,Bw W w→Calls Tryz.prog 9 #[.pointer (some ⟨r,0,none⟩),.int .i64 ((k:Int)+1)] w fun e w'=>e=.returned (.tuple #[.int .i64 (x:Int),.int .i64 0])∧Bw w w')) (h1:Rf=true) (h2:R=true) (h5:¬ i<0) (h6:(x:Int)≤i):Calls Tryz.prog 47 #[.pointer (some ⟨r,0,none⟩),.int .i64 ((k:Int)+1),.int .i64 i,.agg #[.bool Rf,.int .i64 N]] W fun e w'=>e=.returned (.int .i64 31)∧Bw W w':=by
 subst h1 h2
 obtain ⟨dd,nm,eb,vs⟩:=o
 simp only at *
 have B0:Hid (Bw W (W.alloc (.cells #[.bool true,.int .i64 N] 38))):=(Below.refl _ _).alloc (Nat.le_refl _) _
 have HR:Hid (∀ w:World,Calls Tryz.prog 86 #[.agg #[.int .i64 dd,.string nm]] w fun e w'=>e=.returned (.bool true)∧Bw w w'):=fun w=>by
  have:=Xd dd nm w
  rw [hR] at this;exact this
 have HSD:Hid (SD W r b k L gt k1 gv k2 ⟨dd,nm,eb,vs⟩ vv):=sd
 have hkI:(k:Int)<(L:Int):=by omega
 have wk:IntKind.i64.wrap (k:Int)=(k:Int):=by rw [IntKind.wrap_i64];omega
 clear hR sd
 go_enter Tryz.func47,Tryz.ntmps47
 go_upto_region 5 with (go_at_call 9;refine (HL.out _ B0.out).mono ?_;rintro e w1 ⟨rfl,hB⟩;have B1:Hid (Bw W w1):=Za B0.out hB;obtain ⟨zB,z0,z1,zf,zL,zN⟩:=k2c (n:=W.heap.size) hB;have s1:=HSD.out.bel B1.out;have y1:=s1.c1;have yt0:=s1.t0;have yt1:=s1.t1;clear hB HL s1)
 obtain ⟨U,hU⟩:∃ U,U=w1.alloc (.cells #[.int .i64 dd,.string nm] 40):=⟨_,rfl⟩
 have HUE:Hid (U=w1.alloc (.cells #[.int .i64 dd,.string nm] 40)):=hU
 have BU:Hid (Bw W U):=by rw [hU];exact B1.out.alloc B1.out.size _
 have hUs:U.heap.size=w1.heap.size+1:=by rw [hU];simp
 have uv:Hid (U.heap[W.heap.size]?=some (.cells #[.bool true,.int .i64 N] 38 (0,0))):=by rw [hU];exact hkA zB.out
 have uo:Hid (U.heap[w1.heap.size]?=some (.cells #[.int .i64 dd,.string nm] 40 (0,0))):=by rw [hU];exact Zg _ _
 clear hU zB z0 z1 zf zN
 obtain ⟨σ,V,hne,V1,V2⟩:=class_of' (fun w'=>Bw U w') ⟨_,Below.refl _ _⟩
 have ev:=fun q=>r2c (((V1.out q).block W.heap.size (by omega)).trans uv.out)
 have eo:=fun q=>r2c (((V1.out q).block w1.heap.size (by omega)).trans uo.out)
 have e0:=fun q=>(ev q).1
 have e1:=fun q=>(ev q).2.1
 have e2:=fun q=>(eo q).1
 have e3:=fun q=>(eo q).2.1
 have HVR:Hid (∀ q,Calls Tryz.prog 86 #[.agg #[.int .i64 dd,.string nm]] (V q) fun e w'=>e=.returned (.bool true)∧∃ q',w'=V q'):=fun q=>(HR.out _).mono fun e w' ⟨h1,h2⟩=>⟨h1,V2.out _ (Za (V1.out q) h2)⟩
 clear ev eo HR
 rw [← HUE.out]
 refine Zc (C:=fun w'=>∃ q,w'=V q) (by kernel_rfl) (by kernel_rfl) (V2.out _ (Below.refl _ _).drew) ?_
 repeat (go_big_quiet_step (first|(go_at_call 86;exact HVR.out _)))
 refine wpQuiet_nil ?_
 intro w9 hw9
 obtain ⟨s9,rfl⟩:=hw9
 have B9:Hid (Bw W (V s9)):=Za BU.out (V1.out s9)
 go_wp2
 go_ret
 exact ⟨rfl,B9.out⟩
theorem dst_iok {W:World} {r b k L gt k1 gv k2 x g:Nat} {o:Dv} {i N:Int} {j:Nat} {y:Bool×Int} {Rf R:Bool} (sd:SD W r b k L gt k1 gv k2 o (.slice (some ⟨g,0,none⟩) x x)) (hkL:k<L) (hL:L≤1000) (hR:rfD o.d o.nm=R) (HL:Hid (∀ w,Bw W w→Calls Tryz.prog 9 #[.pointer (some ⟨r,0,none⟩),.int .i64 ((k:Int)+1)] w fun e w'=>e=.returned (.tuple #[.int .i64 (x:Int),.int .i64 0])∧Bw w w')) (h1:Rf=false) (h2:R=false) (h3:¬ N < -2147483648) (h4:¬ 2147483647<N) (f0:W.cell? ⟨g,j * 2,none⟩=some (.bool y.1)) (f1:W.cell? ⟨g,j * 2+1,none⟩=some (.int .i64 y.2)) (z0:W.frozen? ⟨g,j * 2,none⟩=false) (z1:W.frozen? ⟨g,j * 2+1,none⟩=false) (hj:j<x) (hi:i=(j:Int)):Calls Tryz.prog 47 #[.pointer (some ⟨r,0,none⟩),.int .i64 ((k:Int)+1),.int .i64 i,.agg #[.bool Rf,.int .i64 N]] W fun e w'=>e=.returned (.int .i64 0)∧Below W.heap.size ((W.setCell ⟨g,j * 2,none⟩ (.bool Rf)).setCell ⟨g,j * 2+1,none⟩ (.int .i64 N)) w':=by
 subst hi
 obtain ⟨y1,y2⟩:=y
 simp only at f0 f1
 have gl:g<W.heap.size:=World.block_lt_of_cell? W _ f0
 have ji:¬ (j:Int)<0:=by omega
 have jx:¬ (x:Int)≤(j:Int):=by omega
 subst h1 h2
 have HH3:Hid (¬ N < -2147483648):=h3
 have HH4:Hid (¬ 2147483647<N):=h4
 obtain ⟨dd,nm,eb,vs⟩:=o
 simp only at *
 have B0:Hid (Bw W (W.alloc (.cells #[.bool false,.int .i64 N] 38))):=(Below.refl _ _).alloc (Nat.le_refl _) _
 have HR:Hid (∀ w:World,Calls Tryz.prog 86 #[.agg #[.int .i64 dd,.string nm]] w fun e w'=>e=.returned (.bool false)∧Bw w w'):=fun w=>by
  have:=Xd dd nm w
  rw [hR] at this;exact this
 have HSD:Hid (SD W r b k L gt k1 gv k2 ⟨dd,nm,eb,vs⟩ (.slice (some ⟨g,0,none⟩) x x)):=sd
 have hkI:(k:Int)<(L:Int):=by omega
 have wk:IntKind.i64.wrap (k:Int)=(k:Int):=by rw [IntKind.wrap_i64];omega
 clear hR sd
 go_enter Tryz.func47,Tryz.ntmps47
 go_upto_region 5 with (go_at_call 9;refine (HL.out _ B0.out).mono ?_;rintro e w1 ⟨rfl,hB⟩;have B1:Hid (Bw W w1):=Za B0.out hB;obtain ⟨zB,z0,z1,zf,zL,zN⟩:=k2c (n:=W.heap.size) hB;have s1:=HSD.out.bel B1.out;have y1:=s1.c1;have yt0:=s1.t0;have yt1:=s1.t1;clear hB HL s1)
 obtain ⟨U,hU⟩:∃ U,U=w1.alloc (.cells #[.int .i64 dd,.string nm] 40):=⟨_,rfl⟩
 have HUE:Hid (U=w1.alloc (.cells #[.int .i64 dd,.string nm] 40)):=hU
 have BU:Hid (Bw W U):=by rw [hU];exact B1.out.alloc B1.out.size _
 have hUs:U.heap.size=w1.heap.size+1:=by rw [hU];simp
 have uv:Hid (U.heap[W.heap.size]?=some (.cells #[.bool false,.int .i64 N] 38 (0,0))):=by rw [hU];exact hkA zB.out
 have uo:Hid (U.heap[w1.heap.size]?=some (.cells #[.int .i64 dd,.string nm] 40 (0,0))):=by rw [hU];exact Zg _ _
 clear hU zB z0 z1 zf zN
 obtain ⟨σ,V,hne,V1,V2⟩:=class_of' (fun w'=>Bw U w') ⟨_,Below.refl _ _⟩
 have ev:=fun q=>r2c (((V1.out q).block W.heap.size (by omega)).trans uv.out)
 have eo:=fun q=>r2c (((V1.out q).block w1.heap.size (by omega)).trans uo.out)
 have e0:=fun q=>(ev q).1
 have e1:=fun q=>(ev q).2.1
 have e2:=fun q=>(eo q).1
 have e3:=fun q=>(eo q).2.1
 have HVR:Hid (∀ q,Calls Tryz.prog 86 #[.agg #[.int .i64 dd,.string nm]] (V q) fun e w'=>e=.returned (.bool false)∧∃ q',w'=V q'):=fun q=>(HR.out _).mono fun e w' ⟨h1,h2⟩=>⟨h1,V2.out _ (Za (V1.out q) h2)⟩
 clear ev eo HR
 have dh3:decide (N < -2147483648)=false:=decide_eq_false (by have:=HH3.out;omega)
 have dh4:decide (2147483647<N)=false:=decide_eq_false (by have:=HH4.out;omega)
 rw [← HUE.out]
 refine Zc (C:=fun w'=>∃ q,w'=V q) (by kernel_rfl) (by kernel_rfl) (V2.out _ (Below.refl _ _).drew) ?_
 repeat (go_big_quiet_step (first|(go_at_call 86;exact HVR.out _)))
 refine wpQuiet_nil ?_
 intro w9 hw9
 obtain ⟨s9,rfl⟩:=hw9
 have B9:Hid (Bw W (V s9)):=Za BU.out (V1.out s9)
 have sB:=HSD.out.bel B9.out
 have x0:=sB.c0
 have x2:=sB.c2
 have xv:=sB.v0
 have f2:=(B9.out.cell (p:=⟨g,j * 2,none⟩) gl).trans f0
 have f3:=(B9.out.cell (p:=⟨g,j * 2+1,none⟩) gl).trans f1
 have f4:=(World.frozen?_of_block (a:=⟨g,j * 2,none⟩) (B9.out.block g gl)).trans z0
 have f5:=(World.frozen?_of_block (a:=⟨g,j * 2+1,none⟩) (B9.out.block g gl)).trans z1
 clear sB
 go_upto_region 17 with fail
 all_goals go_region
 all_goals go_wp2
 all_goals
  go_ret
  exact ⟨rfl,(Yw (Yw B9.out _ _) _ _).drew⟩
theorem dst_null {W:World} {r b k L gt k1 gv k2 x g:Nat} {o:Dv} {i N:Int} {j:Nat} {y:Bool×Int} {Rf R:Bool} (sd:SD W r b k L gt k1 gv k2 o (.slice (some ⟨g,0,none⟩) x x)) (hkL:k<L) (hL:L≤1000) (hR:rfD o.d o.nm=R) (HL:Hid (∀ w,Bw W w→Calls Tryz.prog 9 #[.pointer (some ⟨r,0,none⟩),.int .i64 ((k:Int)+1)] w fun e w'=>e=.returned (.tuple #[.int .i64 (x:Int),.int .i64 0])∧Bw w w')) (h1:Rf=true) (h2:R=true) (h3:N=0) (f0:W.cell? ⟨g,j * 2,none⟩=some (.bool y.1)) (f1:W.cell? ⟨g,j * 2+1,none⟩=some (.int .i64 y.2)) (z0:W.frozen? ⟨g,j * 2,none⟩=false) (z1:W.frozen? ⟨g,j * 2+1,none⟩=false) (hj:j<x) (hi:i=(j:Int)):Calls Tryz.prog 47 #[.pointer (some ⟨r,0,none⟩),.int .i64 ((k:Int)+1),.int .i64 i,.agg #[.bool Rf,.int .i64 N]] W fun e w'=>e=.returned (.int .i64 0)∧Below W.heap.size ((W.setCell ⟨g,j * 2,none⟩ (.bool Rf)).setCell ⟨g,j * 2+1,none⟩ (.int .i64 N)) w':=by
 subst h3
 subst hi
 obtain ⟨y1,y2⟩:=y
 simp only at f0 f1
 have gl:g<W.heap.size:=World.block_lt_of_cell? W _ f0
 have ji:¬ (j:Int)<0:=by omega
 have jx:¬ (x:Int)≤(j:Int):=by omega
 subst h1 h2
 obtain ⟨dd,nm,eb,vs⟩:=o
 simp only at *
 have B0:Hid (Bw W (W.alloc (.cells #[.bool true,.int .i64 0] 38))):=(Below.refl _ _).alloc (Nat.le_refl _) _
 have HR:Hid (∀ w:World,Calls Tryz.prog 86 #[.agg #[.int .i64 dd,.string nm]] w fun e w'=>e=.returned (.bool true)∧Bw w w'):=fun w=>by
  have:=Xd dd nm w
  rw [hR] at this;exact this
 have HSD:Hid (SD W r b k L gt k1 gv k2 ⟨dd,nm,eb,vs⟩ (.slice (some ⟨g,0,none⟩) x x)):=sd
 have hkI:(k:Int)<(L:Int):=by omega
 have wk:IntKind.i64.wrap (k:Int)=(k:Int):=by rw [IntKind.wrap_i64];omega
 clear hR sd
 go_enter Tryz.func47,Tryz.ntmps47
 go_upto_region 5 with (go_at_call 9;refine (HL.out _ B0.out).mono ?_;rintro e w1 ⟨rfl,hB⟩;have B1:Hid (Bw W w1):=Za B0.out hB;obtain ⟨zB,z0,z1,zf,zL,zN⟩:=k2c (n:=W.heap.size) hB;have s1:=HSD.out.bel B1.out;have y1:=s1.c1;have yt0:=s1.t0;have yt1:=s1.t1;clear hB HL s1)
 obtain ⟨U,hU⟩:∃ U,U=w1.alloc (.cells #[.int .i64 dd,.string nm] 40):=⟨_,rfl⟩
 have HUE:Hid (U=w1.alloc (.cells #[.int .i64 dd,.string nm] 40)):=hU
 have BU:Hid (Bw W U):=by rw [hU];exact B1.out.alloc B1.out.size _
 have hUs:U.heap.size=w1.heap.size+1:=by rw [hU];simp
 have uv:Hid (U.heap[W.heap.size]?=some (.cells #[.bool true,.int .i64 0] 38 (0,0))):=by rw [hU];exact hkA zB.out
 have uo:Hid (U.heap[w1.heap.size]?=some (.cells #[.int .i64 dd,.string nm] 40 (0,0))):=by rw [hU];exact Zg _ _
 clear hU zB z0 z1 zf zN
 obtain ⟨σ,V,hne,V1,V2⟩:=class_of' (fun w'=>Bw U w') ⟨_,Below.refl _ _⟩
 have ev:=fun q=>r2c (((V1.out q).block W.heap.size (by omega)).trans uv.out)
 have eo:=fun q=>r2c (((V1.out q).block w1.heap.size (by omega)).trans uo.out)
 have e0:=fun q=>(ev q).1
 have e1:=fun q=>(ev q).2.1
 have e2:=fun q=>(eo q).1
 have e3:=fun q=>(eo q).2.1
 have HVR:Hid (∀ q,Calls Tryz.prog 86 #[.agg #[.int .i64 dd,.string nm]] (V q) fun e w'=>e=.returned (.bool true)∧∃ q',w'=V q'):=fun q=>(HR.out _).mono fun e w' ⟨h1,h2⟩=>⟨h1,V2.out _ (Za (V1.out q) h2)⟩
 clear ev eo HR
 rw [← HUE.out]
 refine Zc (C:=fun w'=>∃ q,w'=V q) (by kernel_rfl) (by kernel_rfl) (V2.out _ (Below.refl _ _).drew) ?_
 repeat (go_big_quiet_step (first|(go_at_call 86;exact HVR.out _)))
 refine wpQuiet_nil ?_
 intro w9 hw9
 obtain ⟨s9,rfl⟩:=hw9
 have B9:Hid (Bw W (V s9)):=Za BU.out (V1.out s9)
 have sB:=HSD.out.bel B9.out
 have x0:=sB.c0
 have x2:=sB.c2
 have xv:=sB.v0
 have f2:=(B9.out.cell (p:=⟨g,j * 2,none⟩) gl).trans f0
 have f3:=(B9.out.cell (p:=⟨g,j * 2+1,none⟩) gl).trans f1
 have f4:=(World.frozen?_of_block (a:=⟨g,j * 2,none⟩) (B9.out.block g gl)).trans z0
 have f5:=(World.frozen?_of_block (a:=⟨g,j * 2+1,none⟩) (B9.out.block g gl)).trans z1
 clear sB
 go_upto_region 17 with fail
 all_goals go_region
 all_goals go_wp2
 all_goals
  go_ret
  exact ⟨rfl,(Yw (Yw B9.out _ _) _ _).drew⟩
theorem Zff (vs:Array Value) (w:World):(callFunc 88 vs).run Tryz.prog w=.ok (.enter 88 vs) w:=by simp [go_sem]
theorem dst_rerr {W:World} {r b k L gt k1 gv k2 x:Nat} {o:Dv} {vv:Value} {i N td E:Int} {tn:ByteArray} {Rf R:Bool} (sd:SD W r b k L gt k1 gv k2 o vv) (hkL:k<L) (hL:L≤1000) (hR:rfD o.d o.nm=R) (HL:Hid (∀ w,Bw W w→Calls Tryz.prog 9 #[.pointer (some ⟨r,0,none⟩),.int .i64 ((k:Int)+1)] w fun e w'=>e=.returned (.tuple #[.int .i64 (x:Int),.int .i64 0])∧Bw w w')) (h1:Rf=true) (h2:R=true) (hN0:¬ N=0) (HT:Hid (∀ w,Bw W w→Calls Tryz.prog 40 #[.pointer (some ⟨r,0,none⟩),.int .i64 N] w fun e w'=>e=.returned (.tuple #[.agg #[.int .i64 td,.string tn],.int .i64 E])∧Bw w w')) (hE:¬ E=0) (h5:¬ i<0) (h6:¬ (x:Int)≤i):Calls Tryz.prog 47 #[.pointer (some ⟨r,0,none⟩),.int .i64 ((k:Int)+1),.int .i64 i,.agg #[.bool Rf,.int .i64 N]] W fun e w'=>e=.returned (.int .i64 E)∧Bw W w':=by
 subst h1 h2
 obtain ⟨dd,nm,eb,vs⟩:=o
 simp only at *
 have B0:Hid (Bw W (W.alloc (.cells #[.bool true,.int .i64 N] 38))):=(Below.refl _ _).alloc (Nat.le_refl _) _
 have HR:Hid (∀ w:World,Calls Tryz.prog 86 #[.agg #[.int .i64 dd,.string nm]] w fun e w'=>e=.returned (.bool true)∧Bw w w'):=fun w=>by
  have:=Xd dd nm w
  rw [hR] at this;exact this
 have HSD:Hid (SD W r b k L gt k1 gv k2 ⟨dd,nm,eb,vs⟩ vv):=sd
 have hkI:(k:Int)<(L:Int):=by omega
 have wk:IntKind.i64.wrap (k:Int)=(k:Int):=by rw [IntKind.wrap_i64];omega
 clear hR sd
 go_enter Tryz.func47,Tryz.ntmps47
 go_upto_region 5 with (go_at_call 9;refine (HL.out _ B0.out).mono ?_;rintro e w1 ⟨rfl,hB⟩;have B1:Hid (Bw W w1):=Za B0.out hB;obtain ⟨zB,z0,z1,zf,zL,zN⟩:=k2c (n:=W.heap.size) hB;have s1:=HSD.out.bel B1.out;have y1:=s1.c1;have yt0:=s1.t0;have yt1:=s1.t1;clear hB HL s1)
 obtain ⟨U,hU⟩:∃ U,U=w1.alloc (.cells #[.int .i64 dd,.string nm] 40):=⟨_,rfl⟩
 have HUE:Hid (U=w1.alloc (.cells #[.int .i64 dd,.string nm] 40)):=hU
 have BU:Hid (Bw W U):=by rw [hU];exact B1.out.alloc B1.out.size _
 have hUs:U.heap.size=w1.heap.size+1:=by rw [hU];simp
 have uv:Hid (U.heap[W.heap.size]?=some (.cells #[.bool true,.int .i64 N] 38 (0,0))):=by rw [hU];exact hkA zB.out
 have uo:Hid (U.heap[w1.heap.size]?=some (.cells #[.int .i64 dd,.string nm] 40 (0,0))):=by rw [hU];exact Zg _ _
 clear hU zB z0 z1 zf zN
 obtain ⟨σ,V,hne,V1,V2⟩:=class_of' (fun w'=>Bw U w') ⟨_,Below.refl _ _⟩
 have ev:=fun q=>r2c (((V1.out q).block W.heap.size (by omega)).trans uv.out)
 have eo:=fun q=>r2c (((V1.out q).block w1.heap.size (by omega)).trans uo.out)
 have e0:=fun q=>(ev q).1
 have e1:=fun q=>(ev q).2.1
 have e2:=fun q=>(eo q).1
 have e3:=fun q=>(eo q).2.1
 have HVR:Hid (∀ q,Calls Tryz.prog 86 #[.agg #[.int .i64 dd,.string nm]] (V q) fun e w'=>e=.returned (.bool true)∧∃ q',w'=V q'):=fun q=>(HR.out _).mono fun e w' ⟨h1,h2⟩=>⟨h1,V2.out _ (Za (V1.out q) h2)⟩
 clear ev eo HR
 rw [← HUE.out]
 refine Zc (C:=fun w'=>∃ q,w'=V q) (by kernel_rfl) (by kernel_rfl) (V2.out _ (Below.refl _ _).drew) ?_
 repeat (go_big_quiet_step (first|(go_at_call 86;exact HVR.out _)))
 refine wpQuiet_nil ?_
 intro w9 hw9
 obtain ⟨s9,rfl⟩:=hw9
 have B9:Hid (Bw W (V s9)):=Za BU.out (V1.out s9)
 have vB9:Hid ((V s9).heap[W.heap.size]?=some (.cells #[.bool true,.int .i64 N] 38 (0,0))):=((V1.out s9).block W.heap.size (by omega)).trans uv.out
 have tB9:Hid ((V s9).heap[w1.heap.size]?=some (.cells #[.int .i64 dd,.string nm] 40 (0,0))):=((V1.out s9).block w1.heap.size (by omega)).trans uo.out
 have vL9:W.heap.size<(V s9).heap.size:=(Array.getElem?_eq_some_iff.1 vB9.out).1
 have tL9:w1.heap.size<(V s9).heap.size:=(Array.getElem?_eq_some_iff.1 tB9.out).1
 generalize V s9=Y at *
 have ea:=(r2c vB9.out).1
 have eb2:=(r2c vB9.out).2.1
 go_wp2_with (go_at_call 40;refine (HT.out _ B9.out).mono ?_;rintro e w2 ⟨rfl,hb⟩;have B2:Hid (Bw W w2):=Za B9.out hb;obtain ⟨aB,a0,a1,af,aL,aN⟩:=k2c (n:=W.heap.size) hb vL9 vB9.out;obtain ⟨pB,p0,p1,pf,pL,pN⟩:=k2c (n:=w1.heap.size) hb tL9 tB9.out;clear hb)
 go_ret
 exact ⟨rfl,B2.out.alloc B2.out.size _⟩
theorem dst_rno {W:World} {r b k L gt k1 gv k2 x:Nat} {o:Dv} {vv:Value} {i N td cd ce se:Int} {tn cn:ByteArray} {Q:Bool} {Rf R:Bool} (sd:SD W r b k L gt k1 gv k2 o vv) (hkL:k<L) (hL:L≤1000) (hR:rfD o.d o.nm=R) (HL:Hid (∀ w,Bw W w→Calls Tryz.prog 9 #[.pointer (some ⟨r,0,none⟩),.int .i64 ((k:Int)+1)] w fun e w'=>e=.returned (.tuple #[.int .i64 (x:Int),.int .i64 0])∧Bw w w')) (h1:Rf=true) (h2:R=true) (hN0:¬ N=0) (HT:Hid (∀ w,Bw W w→Calls Tryz.prog 40 #[.pointer (some ⟨r,0,none⟩),.int .i64 N] w fun e w'=>e=.returned (.tuple #[.agg #[.int .i64 td,.string tn],.int .i64 0])∧Bw w w')) (HC:Hid (∀ w:World,Calls Tryz.prog 87 #[.agg #[.int .i64 o.d,.string o.nm]] w fun e w'=>e=.returned (.tuple #[.agg #[.int .i64 cd,.string cn],.int .i64 ce])∧Bw w w')) (HU:Hid (∀ w,Bw W w→Calls Tryz.prog 88 #[.pointer (some ⟨b,0,none⟩),.agg #[.int .i64 td,.string tn],.agg #[.int .i64 cd,.string cn]] w fun e w'=>e=.returned (.tuple #[.bool Q,.int .i64 se])∧Bw w w')) (hQ:Q=false) (h5:¬ i<0) (h6:¬ (x:Int)≤i):Calls Tryz.prog 47 #[.pointer (some ⟨r,0,none⟩),.int .i64 ((k:Int)+1),.int .i64 i,.agg #[.bool Rf,.int .i64 N]] W fun e w'=>e=.returned (.int .i64 28)∧Bw W w':=by
 subst hQ
 subst h1 h2
 obtain ⟨dd,nm,eb,vs⟩:=o
 simp only at *
 have B0:Hid (Bw W (W.alloc (.cells #[.bool true,.int .i64 N] 38))):=(Below.refl _ _).alloc (Nat.le_refl _) _
 have HR:Hid (∀ w:World,Calls Tryz.prog 86 #[.agg #[.int .i64 dd,.string nm]] w fun e w'=>e=.returned (.bool true)∧Bw w w'):=fun w=>by
  have:=Xd dd nm w
  rw [hR] at this;exact this
 have HSD:Hid (SD W r b k L gt k1 gv k2 ⟨dd,nm,eb,vs⟩ vv):=sd
 have hkI:(k:Int)<(L:Int):=by omega
 have wk:IntKind.i64.wrap (k:Int)=(k:Int):=by rw [IntKind.wrap_i64];omega
 clear hR sd
 go_enter Tryz.func47,Tryz.ntmps47
 go_upto_region 5 with (go_at_call 9;refine (HL.out _ B0.out).mono ?_;rintro e w1 ⟨rfl,hB⟩;have B1:Hid (Bw W w1):=Za B0.out hB;obtain ⟨zB,z0,z1,zf,zL,zN⟩:=k2c (n:=W.heap.size) hB;have s1:=HSD.out.bel B1.out;have y1:=s1.c1;have yt0:=s1.t0;have yt1:=s1.t1;clear hB HL s1)
 obtain ⟨U,hU⟩:∃ U,U=w1.alloc (.cells #[.int .i64 dd,.string nm] 40):=⟨_,rfl⟩
 have HUE:Hid (U=w1.alloc (.cells #[.int .i64 dd,.string nm] 40)):=hU
 have BU:Hid (Bw W U):=by rw [hU];exact B1.out.alloc B1.out.size _
 have hUs:U.heap.size=w1.heap.size+1:=by rw [hU];simp
 have uv:Hid (U.heap[W.heap.size]?=some (.cells #[.bool true,.int .i64 N] 38 (0,0))):=by rw [hU];exact hkA zB.out
 have uo:Hid (U.heap[w1.heap.size]?=some (.cells #[.int .i64 dd,.string nm] 40 (0,0))):=by rw [hU];exact Zg _ _
 clear hU zB z0 z1 zf zN
 obtain ⟨σ,V,hne,V1,V2⟩:=class_of' (fun w'=>Bw U w') ⟨_,Below.refl _ _⟩
 have ev:=fun q=>r2c (((V1.out q).block W.heap.size (by omega)).trans uv.out)
 have eo:=fun q=>r2c (((V1.out q).block w1.heap.size (by omega)).trans uo.out)
 have e0:=fun q=>(ev q).1
 have e1:=fun q=>(ev q).2.1
 have e2:=fun q=>(eo q).1
 have e3:=fun q=>(eo q).2.1
 have HVR:Hid (∀ q,Calls Tryz.prog 86 #[.agg #[.int .i64 dd,.string nm]] (V q) fun e w'=>e=.returned (.bool true)∧∃ q',w'=V q'):=fun q=>(HR.out _).mono fun e w' ⟨h1,h2⟩=>⟨h1,V2.out _ (Za (V1.out q) h2)⟩
 clear ev eo HR
 rw [← HUE.out]
 refine Zc (C:=fun w'=>∃ q,w'=V q) (by kernel_rfl) (by kernel_rfl) (V2.out _ (Below.refl _ _).drew) ?_
 repeat (go_big_quiet_step (first|(go_at_call 86;exact HVR.out _)))
 refine wpQuiet_nil ?_
 intro w9 hw9
 obtain ⟨s9,rfl⟩:=hw9
 have B9:Hid (Bw W (V s9)):=Za BU.out (V1.out s9)
 have vB9:Hid ((V s9).heap[W.heap.size]?=some (.cells #[.bool true,.int .i64 N] 38 (0,0))):=((V1.out s9).block W.heap.size (by omega)).trans uv.out
 have tB9:Hid ((V s9).heap[w1.heap.size]?=some (.cells #[.int .i64 dd,.string nm] 40 (0,0))):=((V1.out s9).block w1.heap.size (by omega)).trans uo.out
 have vL9:W.heap.size<(V s9).heap.size:=(Array.getElem?_eq_some_iff.1 vB9.out).1
 have tL9:w1.heap.size<(V s9).heap.size:=(Array.getElem?_eq_some_iff.1 tB9.out).1
 generalize V s9=Y at *
 have ea:=(r2c vB9.out).1
 have eb2:=(r2c vB9.out).2.1
 go_upto_region 14 with (first|(go_at_call 87;refine (HC.out _).mono ?_;rintro e w3 ⟨rfl,hb⟩;have B3:Hid (Bw W w3):=Za (B2.out.alloc B2.out.size _) hb;have aB':=aB.out;clear aB a0 a1 af aN pB p0 p1 pf pN;obtain ⟨aB,a0,a1,af,aL3,aN⟩:=k2c (n:=W.heap.size) hb (by simp;omega) (hkA aB');obtain ⟨qB,q0,q1,qf,qL,qN⟩:=k2c (n:=w2.heap.size) hb (by simp) (Zg _ _);have x0:=(HSD.out.bel B3.out).c0;have rL3:r<w3.heap.size:=World.block_lt_of_cell? w3 _ x0;have rN3:¬ r=w3.heap.size:=Nat.ne_of_lt rL3;clear hb aB')|(go_at_call 40;refine (HT.out _ B9.out).mono ?_;rintro e w2 ⟨rfl,hb⟩;have B2:Hid (Bw W w2):=Za B9.out hb;obtain ⟨aB,a0,a1,af,aL,aN⟩:=k2c (n:=W.heap.size) hb vL9 vB9.out;obtain ⟨pB,p0,p1,pf,pL,pN⟩:=k2c (n:=w1.heap.size) hb tL9 tB9.out;clear hb))
 go_region_law (refine Qj rfl 88 Zff (.tmp 88) (.tmp 89) (.tmp 90) 30 40 40 rfl (.pointer (some ⟨b,0,none⟩)) (.agg #[.int .i64 td,.string tn]) (.agg #[.int .i64 cd,.string cn]) (by first|(simp [Act.eval];done)|(simp [Act.eval,Act.put];done)) (by first|(simp [Act.eval];done)|(simp [Act.eval,Act.put];done)) (by first|(simp [Act.eval];done)|(simp [Act.eval,Act.put];done)) (HU.out _ ((B3.out.alloc B3.out.size _).drew)) ?_;rintro e w4 ⟨rfl,hb⟩;refine ⟨_,rfl,?_⟩;have hb2:Bw w3 w4:=(((Below.refl _ _).alloc (Nat.le_refl _) _).drew).trans (hb.mono (by simp));have B4:Hid (Bw W w4):=Za B3.out hb2;obtain ⟨oB,o0,o1,of,oL,oN⟩:=k2c (n:=W.heap.size) hb2 aL3 aB.out;clear hb hb2)
 all_goals go_wp2
 all_goals
  go_ret
  exact ⟨rfl,B4.out⟩
theorem dst_rok {W:World} {r b k L gt k1 gv k2 x g:Nat} {o:Dv} {i N td cd ce se:Int} {tn cn:ByteArray} {Q:Bool} {j:Nat} {y:Bool×Int} {Rf R:Bool} (sd:SD W r b k L gt k1 gv k2 o (.slice (some ⟨g,0,none⟩) x x)) (hkL:k<L) (hL:L≤1000) (hR:rfD o.d o.nm=R) (HL:Hid (∀ w,Bw W w→Calls Tryz.prog 9 #[.pointer (some ⟨r,0,none⟩),.int .i64 ((k:Int)+1)] w fun e w'=>e=.returned (.tuple #[.int .i64 (x:Int),.int .i64 0])∧Bw w w')) (h1:Rf=true) (h2:R=true) (hN0:¬ N=0) (HT:Hid (∀ w,Bw W w→Calls Tryz.prog 40 #[.pointer (some ⟨r,0,none⟩),.int .i64 N] w fun e w'=>e=.returned (.tuple #[.agg #[.int .i64 td,.string tn],.int .i64 0])∧Bw w w')) (HC:Hid (∀ w:World,Calls Tryz.prog 87 #[.agg #[.int .i64 o.d,.string o.nm]] w fun e w'=>e=.returned (.tuple #[.agg #[.int .i64 cd,.string cn],.int .i64 ce])∧Bw w w')) (HU:Hid (∀ w,Bw W w→Calls Tryz.prog 88 #[.pointer (some ⟨b,0,none⟩),.agg #[.int .i64 td,.string tn],.agg #[.int .i64 cd,.string cn]] w fun e w'=>e=.returned (.tuple #[.bool Q,.int .i64 se])∧Bw w w')) (hQ:Q=true) (f0:W.cell? ⟨g,j * 2,none⟩=some (.bool y.1)) (f1:W.cell? ⟨g,j * 2+1,none⟩=some (.int .i64 y.2)) (z0:W.frozen? ⟨g,j * 2,none⟩=false) (z1:W.frozen? ⟨g,j * 2+1,none⟩=false) (hj:j<x) (hi:i=(j:Int)):Calls Tryz.prog 47 #[.pointer (some ⟨r,0,none⟩),.int .i64 ((k:Int)+1),.int .i64 i,.agg #[.bool Rf,.int .i64 N]] W fun e w'=>e=.returned (.int .i64 0)∧Below W.heap.size ((W.setCell ⟨g,j * 2,none⟩ (.bool Rf)).setCell ⟨g,j * 2+1,none⟩ (.int .i64 N)) w':=by
 subst hQ
 subst hi
 obtain ⟨y1,y2⟩:=y
 simp only at f0 f1
 have gl:g<W.heap.size:=World.block_lt_of_cell? W _ f0
 have ji:¬ (j:Int)<0:=by omega
 have jx:¬ (x:Int)≤(j:Int):=by omega
 subst h1 h2
 obtain ⟨dd,nm,eb,vs⟩:=o
 simp only at *
 have B0:Hid (Bw W (W.alloc (.cells #[.bool true,.int .i64 N] 38))):=(Below.refl _ _).alloc (Nat.le_refl _) _
 have HR:Hid (∀ w:World,Calls Tryz.prog 86 #[.agg #[.int .i64 dd,.string nm]] w fun e w'=>e=.returned (.bool true)∧Bw w w'):=fun w=>by
  have:=Xd dd nm w
  rw [hR] at this;exact this
 have HSD:Hid (SD W r b k L gt k1 gv k2 ⟨dd,nm,eb,vs⟩ (.slice (some ⟨g,0,none⟩) x x)):=sd
 have hkI:(k:Int)<(L:Int):=by omega
 have wk:IntKind.i64.wrap (k:Int)=(k:Int):=by rw [IntKind.wrap_i64];omega
 clear hR sd
 go_enter Tryz.func47,Tryz.ntmps47
 go_upto_region 5 with (go_at_call 9;refine (HL.out _ B0.out).mono ?_;rintro e w1 ⟨rfl,hB⟩;have B1:Hid (Bw W w1):=Za B0.out hB;obtain ⟨zB,z0,z1,zf,zL,zN⟩:=k2c (n:=W.heap.size) hB;have s1:=HSD.out.bel B1.out;have y1:=s1.c1;have yt0:=s1.t0;have yt1:=s1.t1;clear hB HL s1)
 obtain ⟨U,hU⟩:∃ U,U=w1.alloc (.cells #[.int .i64 dd,.string nm] 40):=⟨_,rfl⟩
 have HUE:Hid (U=w1.alloc (.cells #[.int .i64 dd,.string nm] 40)):=hU
 have BU:Hid (Bw W U):=by rw [hU];exact B1.out.alloc B1.out.size _
 have hUs:U.heap.size=w1.heap.size+1:=by rw [hU];simp
 have uv:Hid (U.heap[W.heap.size]?=some (.cells #[.bool true,.int .i64 N] 38 (0,0))):=by rw [hU];exact hkA zB.out
 have uo:Hid (U.heap[w1.heap.size]?=some (.cells #[.int .i64 dd,.string nm] 40 (0,0))):=by rw [hU];exact Zg _ _
 clear hU zB z0 z1 zf zN
 obtain ⟨σ,V,hne,V1,V2⟩:=class_of' (fun w'=>Bw U w') ⟨_,Below.refl _ _⟩
 have ev:=fun q=>r2c (((V1.out q).block W.heap.size (by omega)).trans uv.out)
 have eo:=fun q=>r2c (((V1.out q).block w1.heap.size (by omega)).trans uo.out)
 have e0:=fun q=>(ev q).1
 have e1:=fun q=>(ev q).2.1
 have e2:=fun q=>(eo q).1
 have e3:=fun q=>(eo q).2.1
 have HVR:Hid (∀ q,Calls Tryz.prog 86 #[.agg #[.int .i64 dd,.string nm]] (V q) fun e w'=>e=.returned (.bool true)∧∃ q',w'=V q'):=fun q=>(HR.out _).mono fun e w' ⟨h1,h2⟩=>⟨h1,V2.out _ (Za (V1.out q) h2)⟩
 clear ev eo HR
 rw [← HUE.out]
 refine Zc (C:=fun w'=>∃ q,w'=V q) (by kernel_rfl) (by kernel_rfl) (V2.out _ (Below.refl _ _).drew) ?_
 repeat (go_big_quiet_step (first|(go_at_call 86;exact HVR.out _)))
 refine wpQuiet_nil ?_
 intro w9 hw9
 obtain ⟨s9,rfl⟩:=hw9
 have B9:Hid (Bw W (V s9)):=Za BU.out (V1.out s9)
 have vB9:Hid ((V s9).heap[W.heap.size]?=some (.cells #[.bool true,.int .i64 N] 38 (0,0))):=((V1.out s9).block W.heap.size (by omega)).trans uv.out
 have tB9:Hid ((V s9).heap[w1.heap.size]?=some (.cells #[.int .i64 dd,.string nm] 40 (0,0))):=((V1.out s9).block w1.heap.size (by omega)).trans uo.out
 have vL9:W.heap.size<(V s9).heap.size:=(Array.getElem?_eq_some_iff.1 vB9.out).1
 have tL9:w1.heap.size<(V s9).heap.size:=(Array.getElem?_eq_some_iff.1 tB9.out).1
 generalize V s9=Y at *
 have ea:=(r2c vB9.out).1
 have eb2:=(r2c vB9.out).2.1
 go_upto_region 14 with (first|(go_at_call 87;refine (HC.out _).mono ?_;rintro e w3 ⟨rfl,hb⟩;have B3:Hid (Bw W w3):=Za (B2.out.alloc B2.out.size _) hb;have aB':=aB.out;clear aB a0 a1 af aN pB p0 p1 pf pN;obtain ⟨aB,a0,a1,af,aL3,aN⟩:=k2c (n:=W.heap.size) hb (by simp;omega) (hkA aB');obtain ⟨qB,q0,q1,qf,qL,qN⟩:=k2c (n:=w2.heap.size) hb (by simp) (Zg _ _);have x0:=(HSD.out.bel B3.out).c0;have rL3:r<w3.heap.size:=World.block_lt_of_cell? w3 _ x0;have rN3:¬ r=w3.heap.size:=Nat.ne_of_lt rL3;clear hb aB')|(go_at_call 40;refine (HT.out _ B9.out).mono ?_;rintro e w2 ⟨rfl,hb⟩;have B2:Hid (Bw W w2):=Za B9.out hb;obtain ⟨aB,a0,a1,af,aL,aN⟩:=k2c (n:=W.heap.size) hb vL9 vB9.out;obtain ⟨pB,p0,p1,pf,pL,pN⟩:=k2c (n:=w1.heap.size) hb tL9 tB9.out;clear hb))
 go_region_law (refine Qj rfl 88 Zff (.tmp 88) (.tmp 89) (.tmp 90) 30 40 40 rfl (.pointer (some ⟨b,0,none⟩)) (.agg #[.int .i64 td,.string tn]) (.agg #[.int .i64 cd,.string cn]) (by first|(simp [Act.eval];done)|(simp [Act.eval,Act.put];done)) (by first|(simp [Act.eval];done)|(simp [Act.eval,Act.put];done)) (by first|(simp [Act.eval];done)|(simp [Act.eval,Act.put];done)) (HU.out _ ((B3.out.alloc B3.out.size _).drew)) ?_;rintro e w4 ⟨rfl,hb⟩;refine ⟨_,rfl,?_⟩;have hb2:Bw w3 w4:=(((Below.refl _ _).alloc (Nat.le_refl _) _).drew).trans (hb.mono (by simp));have B4:Hid (Bw W w4):=Za B3.out hb2;obtain ⟨oB,o0,o1,of,oL,oN⟩:=k2c (n:=W.heap.size) hb2 aL3 aB.out;clear hb hb2)
 all_goals have sB:=HSD.out.bel B4.out
 all_goals have x0b:=sB.c0
 all_goals have x2:=sB.c2
 all_goals have xv:=sB.v0
 all_goals have f2:=(B4.out.cell (p:=⟨g,j * 2,none⟩) gl).trans f0
 all_goals have f3:=(B4.out.cell (p:=⟨g,j * 2+1,none⟩) gl).trans f1
 all_goals have f4:=(World.frozen?_of_block (a:=⟨g,j * 2,none⟩) (B4.out.block g gl)).trans z0
 all_goals have f5:=(World.frozen?_of_block (a:=⟨g,j * 2+1,none⟩) (B4.out.block g gl)).trans z1
 all_goals clear sB
 all_goals go_upto_region 17 with fail
 all_goals go_region
 all_goals go_wp2
 all_goals
  go_ret
  exact ⟨rfl,(Yw (Yw B4.out _ _) _ _).drew⟩
end Go.Proofs.YtlnojhhddinjkaaGreat
