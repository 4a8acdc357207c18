import Derived.Test.YtenpnkkkjjdccaaGreatSiL
set_option maxRecDepth 100000
namespace Go.Proofs.YtenpnkkkjjdccaaGreat
open Go.RowKit Go.Maps
def PostN (R:Act→World→Prop):Exit→Act→World→Prop
  | .normal=>R
  | _=>fun _ _=>False
theorem wp_normal {P:Program} {c:Code} {Q:Exit→Act→World→Prop} {a:Act} {w:World} (h:c.wp P (PostN fun a w=>Q .normal a w) a w):c.wp P Q a w :=
  Code.wp_mono (by intro e a w h;cases e <;> first|exact h|exact h.elim) h
theorem RsW.set {W w:World} {sb lb:Nat} {d:Int} {c n ds:ByteArray} {pc:Nat} {rd:Int} {tp:Option Addr} {ms od om:Int} {pl pe:Nat} {E:Int} (h:RsW W w sb lb d c n ds pc rd tp ms od om pl pe E) (o:Nat) (u:Value) {ms' od' om':Int} (e:(sbC lb d 3 false c n ds pc 2 rd tp ms od om).setIfInBounds o u=sbC lb d 3 false c n ds pc 2 rd tp ms' od' om'):RsW W (w.setCell ⟨sb,o,none⟩ u) sb lb d c n ds pc rd tp ms' od' om' pl pe E:=by
  have hn1:pl≠sb:=by rintro rfl;have:=h.hl;rw [h.si] at this;cases this
  have hn2:pe≠sb:=by rintro rfl;have:=h.he;rw [h.si] at this;cases this
  exact ⟨h.si.setc o u e,(Below.heap_setCell _ _ _ _ hn1).trans h.hl,(Below.heap_setCell _ _ _ _ hn2).trans h.he,Tch.set (S:=fun k=>k=sb) h.t (.inl rfl) _⟩
theorem RsW.drew {W w:World} {sb lb:Nat} {d:Int} {c n ds:ByteArray} {pc:Nat} {rd:Int} {tp:Option Addr} {ms od om:Int} {pl pe:Nat} {E:Int} (h:RsW W w sb lb d c n ds pc rd tp ms od om pl pe E):RsW W w.drew sb lb d c n ds pc rd tp ms od om pl pe E:=⟨h.si,h.hl,h.he,h.t.drew⟩
theorem RsW.cs {W w:World} {sb lb:Nat} {d:Int} {c n ds:ByteArray} {pc:Nat} {rd:Int} {tp:Option Addr} {ms od om:Int} {pl pe:Nat} {E:Int} (h:RsW W w sb lb d c n ds pc rd tp ms od om pl pe E):w.cell? ⟨pl,0,none⟩=some (.pointer (some ⟨sb,0,none⟩))∧w.cell? ⟨pe,0,none⟩=some (.int .i64 E)∧w.cell? ⟨sb,10,none⟩=some (.pointer tp)∧w.cell? ⟨sb,11,none⟩=some (.int .i32 ms)∧w.cell? ⟨sb,13,none⟩=some (.int .u32 od)∧w.cell? ⟨sb,14,none⟩=some (.int .i32 om)∧w.cell? ⟨sb,15,none⟩=some (.int .u32 0)∧(∀ k,w.frozen? ⟨sb,k,none⟩=false) :=
  ⟨(cell_of_row w pl 0 _ _ _ h.hl).trans rfl,(cell_of_row w pe 0 _ _ _ h.he).trans rfl,h.si.cells.2.2.1.2.2.2,h.si.cells.2.2.2.1.1,h.si.cells.2.2.2.1.2.1,h.si.cells.2.2.2.1.2.2.1,h.si.cells.2.2.2.1.2.2.2,h.si.cells.2.2.2.2.1⟩
set_option maxHeartbeats 4000000 in
theorem rsd_no (sb lb:Nat) (d:Int) (c n ds:ByteArray) (pc:Nat) (rd:Int) (E:Int) (hE:¬ E=0) (W:World) (hS:SiAt W sb lb d c n ds pc rd none 0 0 0)
    (HR:Hid (∀ w,SiAt w sb lb d c n ds pc rd none 1 0 1→Tch (fun k=>k=sb) W w→Calls Tryz.prog 93 #[.pointer (some ⟨sb,0,none⟩)] w fun e w'=>e=.returned (.int .i64 E)∧(SiAt w' sb lb d c n ds pc rd none 1 0 1)∧Tch (fun k=>k=sb) w w')) :
    Calls Tryz.prog 57 #[.pointer (some ⟨sb,0,none⟩)] W fun e w'=>e=.returned (.tuple #[.pointer none,.int .i64 E])∧Tch (fun k=>k=sb) W w':=by
  have hsl:=hS.cells.2.2.2.2.2
  obtain ⟨U1,hU1⟩:∃ U,U=W.alloc (.cells #[.pointer (some ⟨sb,0,none⟩)] 38):=⟨_,rfl⟩
  have b1:U1.heap[W.heap.size]?=some (.cells #[.pointer (some ⟨sb,0,none⟩)] 38 (0,0)):=by rw [hU1];exact halloc1 _ _
  have z1:U1.heap.size=W.heap.size+1:=by rw [hU1];simp
  have S1:SiAt U1 sb lb d c n ds pc rd none 0 0 0:=hS.keep (by rw [hU1];exact Below.heap_alloc _ _ _ hsl)
  have T1:Tch (fun k=>k=sb) W U1:=by rw [hU1];exact (Tch.refl _ W).alloc _
  have p1:U1.cell? ⟨W.heap.size,0,none⟩=some (.pointer (some ⟨sb,0,none⟩)):=(cell_of_row U1 _ 0 _ _ _ b1).trans rfl
  have HLd:Hid (Calls Tryz.prog 40 #[.pointer (some ⟨sb,10,none⟩)] U1 fun e w'=>e=.returned (.pointer none)∧w'=U1):=tload0 sb 10 U1 S1.cells.2.2.1.2.2.2
  have HLk:Hid (Calls Tryz.prog 89 #[.pointer (some ⟨sb,11,none⟩)] U1 fun e w'=>e=.returned (.tuple #[])∧w'=U1.setCell ⟨sb,11,none⟩ (.int .i32 1)):=Go.MuLone.lock_free Tryz.muLib ⟨sb,11,none⟩ _ S1.cells.2.2.2.1.1 (S1.cells.2.2.2.2.1 11)
  obtain ⟨U2,hU2⟩:∃ U,U=U1.setCell ⟨sb,11,none⟩ (.int .i32 1):=⟨_,rfl⟩
  rw [← hU2] at HLk
  have S2:SiAt U2 sb lb d c n ds pc rd none 1 0 0:=by rw [hU2];exact S1.setc 11 _ rfl
  have z2:U2.heap.size=W.heap.size+1:=by rw [hU2];simpa using z1
  have b2:U2.heap[W.heap.size]?=some (.cells #[.pointer (some ⟨sb,0,none⟩)] 38 (0,0)):=by rw [hU2];exact (Below.heap_setCell _ _ _ _ (by simp;omega)).trans b1
  have T2:Tch (fun k=>k=sb) W U2:=by rw [hU2];exact Tch.set (S:=fun k=>k=sb) T1 (.inl rfl) _
  have p2:U2.cell? ⟨W.heap.size,0,none⟩=some (.pointer (some ⟨sb,0,none⟩)):=(cell_of_row U2 _ 0 _ _ _ b2).trans rfl
  have R3:RsW W (U2.alloc (.cells #[.int .i64 0] 30)) sb lb d c n ds pc rd none 1 0 0 W.heap.size (W.heap.size+1) 0:=⟨S2.keep (Below.heap_alloc _ _ _ (by omega)),(Below.heap_alloc _ _ _ (by omega)).trans b2,by rw [← z2];exact halloc1 _ _,T2.alloc _⟩
  obtain ⟨U3,hU3⟩:∃ U,U=U2.alloc (.cells #[.int .i64 0] 30):=⟨_,rfl⟩
  rw [← hU3] at R3
  obtain ⟨P,hP⟩:∃ P:World→Prop,P=fun w=>RsW W w sb lb d c n ds pc rd none 1 0 1 W.heap.size (W.heap.size+1) E:=⟨_,rfl⟩
  have HDo:Hid (Calls Tryz.prog 91 #[.pointer (some ⟨sb,13,none⟩),.func (.func 92) #[] #[.pointer (some ⟨W.heap.size,0,none⟩),.pointer (some ⟨W.heap.size+1,0,none⟩)]] U3 fun e w'=>e=.returned (.tuple #[])∧∃ w1,P w1∧w'=(w1.drew.setCell ⟨sb,13,none⟩ (.int .u32 1)).setCell ⟨sb,13+1,none⟩ (.int .i32 0)):=by
    obtain ⟨c1,c2,c3,c4,c5,c6,c7,cf⟩:=R3.cs
    refine do_c sb 13 W.heap.size (W.heap.size+1) P U3 c5 c6 (cf 14) ?_ ?_
    · rw [hP]
      exact clo_no sb lb d c n ds pc rd W.heap.size (W.heap.size+1) E W _ (R3.set 14 _ rfl) (Nat.le_refl _) (by omega) (by omega) HR
    · intro w hw
      rw [hP] at hw
      have hq:=hw
      obtain ⟨c1,c2,c3,c4,c5,c6,c7,cf⟩:=hq.cs
      exact ⟨c5,cf 13,c6,cf 14⟩
  have HU1:Hid (U1=W.alloc (.cells #[.pointer (some ⟨sb,0,none⟩)] 38)):=hU1
  have HU3:Hid (U3=U2.alloc (.cells #[.int .i64 0] 30)):=hU3
  have HPq:Hid (P=fun w=>RsW W w sb lb d c n ds pc rd none 1 0 1 W.heap.size (W.heap.size+1) E):=hP
  have c13:U3.cell? ⟨W.heap.size,0,none⟩=some (.pointer (some ⟨sb,0,none⟩)):=R3.cs.1
  have hmf:∀ (fn:Fn) (first cap:Array Value) (w:World),(Instr.makeFunc fn first cap).run Tryz.prog w=.ok (.func fn first cap) w:=fun _ _ _ _=>rfl
  have Z2:Hid (U2.heap.size=W.heap.size+1):=z2
  have HL2:Hid (∀ w:World,w.cell? ⟨sb,10,none⟩=some (.pointer none)→Calls Tryz.prog 40 #[.pointer (some ⟨sb,10,none⟩)] w fun e w'=>e=.returned (.pointer none)∧w'=w):=fun w h=>tload0 sb 10 w h
  clear hU1 hU2 hU3 hP R3 S1 S2 T1 T2 b1 b2 z1 z2 HR hS
  go_enter_defers Tryz.func57,Tryz.ntmps57
  go_upto_region 1 with fail
  rw [← HU1.out]
  go_upto_region 7 with (first
    | (go_at_call 40;refine HLd.out.mono ?_;rintro e w' ⟨rfl,hw⟩;obtain rfl:=hw.symm;clear HLd)
    | (go_at_call 89;refine HLk.out.mono ?_;rintro e w' ⟨rfl,hw⟩;obtain rfl:=hw.symm;clear HLk p1))
  rw [Z2.out,← HU3.out]
  go_upto_region 8 with (first
    | (go_at_call 91; refine HDo.out.mono ?_; rintro e w6 ⟨rfl, w5, hw5, hw6⟩
       rw [HPq.out] at hw5
       have hq:=hw5
       have R6:RsW W w6 sb lb d c n ds pc rd none 1 1 0 W.heap.size (W.heap.size+1) E:=(by rw [hw6];exact (hq.drew.set 13 _ rfl).set 14 _ rfl)
       skip
       have HR6:Hid (RsW W w6 sb lb d c n ds pc rd none 1 1 0 W.heap.size (W.heap.size+1) E):=R6
       obtain ⟨d1,d2,d3,d4,d5,d6,d7,df⟩:=R6.cs
       have df3:=df 13
       have df4:=df 14
       have df5:=df 15
       (try clear hw5);clear hw6 hq R6 HDo HPq df))
  go_upto_region 10 with fail
  have R7:RsW W (((w6.setCell ⟨sb,13,none⟩ (.int .u32 0)).setCell ⟨sb,14,none⟩ (.int .i32 0)).setCell ⟨sb,15,none⟩ (.int .u32 0)) sb lb d c n ds pc rd none 1 0 0 W.heap.size (W.heap.size+1) E:=((HR6.out.set 13 _ rfl).set 14 _ rfl).set 15 _ rfl
  obtain ⟨w7,hw7⟩:∃ w7,w7=((w6.setCell ⟨sb,13,none⟩ (.int .u32 0)).setCell ⟨sb,14,none⟩ (.int .i32 0)).setCell ⟨sb,15,none⟩ (.int .u32 0):=⟨_,rfl⟩
  rw [← hw7] at R7 ⊢
  have HR7:Hid (RsW W w7 sb lb d c n ds pc rd none 1 0 0 W.heap.size (W.heap.size+1) E):=R7
  obtain ⟨g1,g2,g3,g4,g5,g6,g7,gf⟩:=R7.cs
  clear R7 hw7 d1 d2 d3 d4 d5 d6 d7 df3 df4 df5 HR6
  go_upto_region 10 with fail
  refine wp_normal ?_
  go_region_with (go_at_call 40;refine (HL2.out _ (by rw [World.cell?_drew];exact g3)).mono ?_;rintro e w' ⟨rfl,hw⟩;obtain rfl:=hw.symm)
  all_goals simp only [PostN]
  all_goals go_wp2
  all_goals
    refine leaves_cons (f:=90) (args:=#[.pointer (some ⟨sb,11,none⟩)]) (by simp) (by simp [go_sem]) ?_
    refine (Go.MuLone.unlock_deferred Tryz.muLib ⟨sb,11,none⟩ .returning _ (by first|exact g4|(rw [World.cell?_drew];exact g4)) (by first|exact gf 11|(rw [World.frozen?_drew];exact gf 11))).mono ?_
    rintro e u' w'' ⟨rfl,rfl,rfl⟩
    exact ⟨_,results_tmp2 rfl _ _ _,rfl,Tch.set (S:=fun k=>k=sb) HR7.out.t.drew (.inl rfl) _⟩
set_option maxHeartbeats 4000000 in
theorem rsd_yes (sb lb:Nat) (d:Int) (c n ds:ByteArray) (pc:Nat) (rd:Int) (m1 m2:Int) (mf:Bool) (dm:Int) (nm:ByteArray) (r1 r2 er:Int) (W:World) (hS:SiAt W sb lb d c n ds pc rd none 0 0 0)
    (HR:Hid (∀ w,SiAt w sb lb d c n ds pc rd none 1 0 1→Tch (fun k=>k=sb) W w→Calls Tryz.prog 93 #[.pointer (some ⟨sb,0,none⟩)] w fun e w'=>e=.returned (.int .i64 0)∧(∃ tb,w.heap.size≤tb∧SiAt w' sb lb d c n ds pc rd (some ⟨tb,0,none⟩) 1 0 1∧TgAt w' tb m1 m2 mf dm nm r1 r2 er)∧Tch (fun k=>k=sb) w w')) :
    Calls Tryz.prog 57 #[.pointer (some ⟨sb,0,none⟩)] W fun e w'=>∃ tb,e=.returned (.tuple #[.pointer (some ⟨tb,0,none⟩),.int .i64 0])∧W.heap.size≤tb∧SiAt w' sb lb d c n ds pc rd (some ⟨tb,0,none⟩) 0 1 0∧TgAt w' tb m1 m2 mf dm nm r1 r2 er∧Tch (fun k=>k=sb) W w':=by
  have hsl:=hS.cells.2.2.2.2.2
  obtain ⟨U1,hU1⟩:∃ U,U=W.alloc (.cells #[.pointer (some ⟨sb,0,none⟩)] 38):=⟨_,rfl⟩
  have b1:U1.heap[W.heap.size]?=some (.cells #[.pointer (some ⟨sb,0,none⟩)] 38 (0,0)):=by rw [hU1];exact halloc1 _ _
  have z1:U1.heap.size=W.heap.size+1:=by rw [hU1];simp
  have S1:SiAt U1 sb lb d c n ds pc rd none 0 0 0:=hS.keep (by rw [hU1];exact Below.heap_alloc _ _ _ hsl)
  have T1:Tch (fun k=>k=sb) W U1:=by rw [hU1];exact (Tch.refl _ W).alloc _
  have p1:U1.cell? ⟨W.heap.size,0,none⟩=some (.pointer (some ⟨sb,0,none⟩)):=(cell_of_row U1 _ 0 _ _ _ b1).trans rfl
  have HLd:Hid (Calls Tryz.prog 40 #[.pointer (some ⟨sb,10,none⟩)] U1 fun e w'=>e=.returned (.pointer none)∧w'=U1):=tload0 sb 10 U1 S1.cells.2.2.1.2.2.2
  have HLk:Hid (Calls Tryz.prog 89 #[.pointer (some ⟨sb,11,none⟩)] U1 fun e w'=>e=.returned (.tuple #[])∧w'=U1.setCell ⟨sb,11,none⟩ (.int .i32 1)):=Go.MuLone.lock_free Tryz.muLib ⟨sb,11,none⟩ _ S1.cells.2.2.2.1.1 (S1.cells.2.2.2.2.1 11)
  obtain ⟨U2,hU2⟩:∃ U,U=U1.setCell ⟨sb,11,none⟩ (.int .i32 1):=⟨_,rfl⟩
  rw [← hU2] at HLk
  have S2:SiAt U2 sb lb d c n ds pc rd none 1 0 0:=by rw [hU2];exact S1.setc 11 _ rfl
  have z2:U2.heap.size=W.heap.size+1:=by rw [hU2];simpa using z1
  have b2:U2.heap[W.heap.size]?=some (.cells #[.pointer (some ⟨sb,0,none⟩)] 38 (0,0)):=by rw [hU2];exact (Below.heap_setCell _ _ _ _ (by simp;omega)).trans b1
  have T2:Tch (fun k=>k=sb) W U2:=by rw [hU2];exact Tch.set (S:=fun k=>k=sb) T1 (.inl rfl) _
  have p2:U2.cell? ⟨W.heap.size,0,none⟩=some (.pointer (some ⟨sb,0,none⟩)):=(cell_of_row U2 _ 0 _ _ _ b2).trans rfl
  have R3:RsW W (U2.alloc (.cells #[.int .i64 0] 30)) sb lb d c n ds pc rd none 1 0 0 W.heap.size (W.heap.size+1) 0:=⟨S2.keep (Below.heap_alloc _ _ _ (by omega)),(Below.heap_alloc _ _ _ (by omega)).trans b2,by rw [← z2];exact halloc1 _ _,T2.alloc _⟩
  obtain ⟨U3,hU3⟩:∃ U,U=U2.alloc (.cells #[.int .i64 0] 30):=⟨_,rfl⟩
  rw [← hU3] at R3
  obtain ⟨P,hP⟩:∃ P:World→Prop,P=fun w=>∃ tb,W.heap.size≤tb∧RsW W w sb lb d c n ds pc rd (some ⟨tb,0,none⟩) 1 0 1 W.heap.size (W.heap.size+1) 0∧TgAt w tb m1 m2 mf dm nm r1 r2 er:=⟨_,rfl⟩
  have HDo:Hid (Calls Tryz.prog 91 #[.pointer (some ⟨sb,13,none⟩),.func (.func 92) #[] #[.pointer (some ⟨W.heap.size,0,none⟩),.pointer (some ⟨W.heap.size+1,0,none⟩)]] U3 fun e w'=>e=.returned (.tuple #[])∧∃ w1,P w1∧w'=(w1.drew.setCell ⟨sb,13,none⟩ (.int .u32 1)).setCell ⟨sb,13+1,none⟩ (.int .i32 0)):=by
    obtain ⟨c1,c2,c3,c4,c5,c6,c7,cf⟩:=R3.cs
    refine do_c sb 13 W.heap.size (W.heap.size+1) P U3 c5 c6 (cf 14) ?_ ?_
    · rw [hP]
      exact clo_yes sb lb d c n ds pc rd W.heap.size (W.heap.size+1) m1 m2 mf dm nm r1 r2 er W _ (R3.set 14 _ rfl) (Nat.le_refl _) (by omega) (by omega) HR
    · intro w hw
      rw [hP] at hw
      obtain ⟨tb,_,hq,_⟩:=hw
      obtain ⟨c1,c2,c3,c4,c5,c6,c7,cf⟩:=hq.cs
      exact ⟨c5,cf 13,c6,cf 14⟩
  have HU1:Hid (U1=W.alloc (.cells #[.pointer (some ⟨sb,0,none⟩)] 38)):=hU1
  have HU3:Hid (U3=U2.alloc (.cells #[.int .i64 0] 30)):=hU3
  have HPq:Hid (P=fun w=>∃ tb,W.heap.size≤tb∧RsW W w sb lb d c n ds pc rd (some ⟨tb,0,none⟩) 1 0 1 W.heap.size (W.heap.size+1) 0∧TgAt w tb m1 m2 mf dm nm r1 r2 er):=hP
  have c13:U3.cell? ⟨W.heap.size,0,none⟩=some (.pointer (some ⟨sb,0,none⟩)):=R3.cs.1
  have hmf:∀ (fn:Fn) (first cap:Array Value) (w:World),(Instr.makeFunc fn first cap).run Tryz.prog w=.ok (.func fn first cap) w:=fun _ _ _ _=>rfl
  have Z2:Hid (U2.heap.size=W.heap.size+1):=z2
  have HL2:Hid (∀ (tb:Nat) (w:World),w.cell? ⟨sb,10,none⟩=some (.pointer (some ⟨tb,0,none⟩))→TgAt w tb m1 m2 mf dm nm r1 r2 er→Calls Tryz.prog 40 #[.pointer (some ⟨sb,10,none⟩)] w fun e w'=>e=.returned (.pointer (some ⟨tb,0,none⟩))∧w'=w):=fun tb w h ht=>tload1 sb 10 tb _ rfl w h ht
  clear hU1 hU2 hU3 hP R3 S1 S2 T1 T2 b1 b2 z1 z2 HR hS
  go_enter_defers Tryz.func57,Tryz.ntmps57
  go_upto_region 1 with fail
  rw [← HU1.out]
  go_upto_region 7 with (first
    | (go_at_call 40;refine HLd.out.mono ?_;rintro e w' ⟨rfl,hw⟩;obtain rfl:=hw.symm;clear HLd)
    | (go_at_call 89;refine HLk.out.mono ?_;rintro e w' ⟨rfl,hw⟩;obtain rfl:=hw.symm;clear HLk p1))
  rw [Z2.out,← HU3.out]
  go_upto_region 8 with (first
    | (go_at_call 91; refine HDo.out.mono ?_; rintro e w6 ⟨rfl, w5, hw5, hw6⟩
       rw [HPq.out] at hw5
       obtain ⟨tb,htb,hq,htg⟩:=hw5
       have R6:RsW W w6 sb lb d c n ds pc rd (some ⟨tb,0,none⟩) 1 1 0 W.heap.size (W.heap.size+1) 0:=(by rw [hw6];exact (hq.drew.set 13 _ rfl).set 14 _ rfl)
       have TG6:Hid (TgAt w6 tb m1 m2 mf dm nm r1 r2 er):=(by rw [hw6];exact ((Below.heap_setCell _ _ _ _ (by simp;omega)).trans ((Below.heap_setCell _ _ _ _ (by simp;omega)).trans htg)))
       have HR6:Hid (RsW W w6 sb lb d c n ds pc rd (some ⟨tb,0,none⟩) 1 1 0 W.heap.size (W.heap.size+1) 0):=R6
       obtain ⟨d1,d2,d3,d4,d5,d6,d7,df⟩:=R6.cs
       have df3:=df 13
       have df4:=df 14
       have df5:=df 15
       (try clear hw5);clear hw6 hq R6 HDo HPq df))
  have g1:=d1
  have g2:=d2
  have g3:=d3
  have g4:=d4
  have gf:=HR6.out.cs.2.2.2.2.2.2.2
  clear d1 d2 d3 d4
  go_upto_region 10 with fail
  refine wp_normal ?_
  go_region_with (go_at_call 40;refine (HL2.out _ _ (by rw [World.cell?_drew];exact g3) (show TgAt w6.drew tb m1 m2 mf dm nm r1 r2 er from TG6.out)).mono ?_;rintro e w' ⟨rfl,hw⟩;obtain rfl:=hw.symm)
  all_goals simp only [PostN]
  all_goals go_wp2
  all_goals
    refine leaves_cons (f:=90) (args:=#[.pointer (some ⟨sb,11,none⟩)]) (by simp) (by simp [go_sem]) ?_
    refine (Go.MuLone.unlock_deferred Tryz.muLib ⟨sb,11,none⟩ .returning _ (by first|exact g4|(rw [World.cell?_drew];exact g4)) (by first|exact gf 11|(rw [World.frozen?_drew];exact gf 11))).mono ?_
    rintro e u' w'' ⟨rfl,rfl,rfl⟩
    exact ⟨_,results_tmp2 rfl _ _ _,tb,rfl,htb,HR6.out.drew.si.setc 11 _ rfl,(Below.heap_setCell _ _ _ _ (by simp;omega)).trans TG6.out,Tch.set (S:=fun k=>k=sb) HR6.out.t.drew (.inl rfl) _⟩
theorem made_s {W:World} {sb lb:Nat} (h:W.cell? ⟨sb,0,none⟩=some (.pointer (some ⟨lb,0,none⟩))):Calls Tryz.prog 34 #[.pointer (some ⟨sb,0,none⟩)] W fun e w'=>e=.returned (.bool true)∧w'=W:=by
  go_enter Tryz.func34,Tryz.ntmps34
  go_wp2
  go_ret
  exact ⟨rfl,rfl⟩
theorem malf3 {W:World} {sb:Nat} (h:W.cell? ⟨sb,2,none⟩=some (.int .i64 3)):Calls Tryz.prog 56 #[.pointer (some ⟨sb,0,none⟩)] W fun e w'=>e=.returned (.bool false)∧w'=W:=by
  go_enter Tryz.func56,Tryz.ntmps56
  go_wp2
  go_ret
  exact ⟨rfl,rfl⟩
set_option maxHeartbeats 1000000 in
theorem rsd_again (sb lb:Nat) (d:Int) (c n ds:ByteArray) (pc:Nat) (rd:Int) (tb:Nat) (m1 m2:Int) (mf:Bool) (dm:Int) (nm:ByteArray) (r1 r2 er:Int) (W:World) (hS:SiAt W sb lb d c n ds pc rd (some ⟨tb,0,none⟩) 0 1 0) (hT:TgAt W tb m1 m2 mf dm nm r1 r2 er) :
    Calls Tryz.prog 57 #[.pointer (some ⟨sb,0,none⟩)] W fun e w'=>e=.returned (.tuple #[.pointer (some ⟨tb,0,none⟩),.int .i64 0])∧Below W.heap.size W w':=by
  have hsl:=hS.cells.2.2.2.2.2
  have htl:=hT.cells.2.2.2
  obtain ⟨U1,hU1⟩:∃ U,U=W.alloc (.cells #[.pointer (some ⟨sb,0,none⟩)] 38):=⟨_,rfl⟩
  have p1:U1.cell? ⟨W.heap.size,0,none⟩=some (.pointer (some ⟨sb,0,none⟩)):=by rw [hU1];exact (cell_of_row _ _ 0 _ _ _ (halloc1 _ _)).trans rfl
  have B1:Hid (Below W.heap.size W U1):=by rw [hU1];exact (Below.refl _ _).alloc (Nat.le_refl _) _
  have HLd:Hid (Calls Tryz.prog 40 #[.pointer (some ⟨sb,10,none⟩)] U1 fun e w'=>e=.returned (.pointer (some ⟨tb,0,none⟩))∧w'=U1):=tload1 sb 10 tb _ rfl U1 ((B1.out.cell (p:=⟨sb,10,none⟩) hsl).trans hS.cells.2.2.1.2.2.2) ((B1.out.block tb htl).trans hT)
  have HU1:Hid (U1=W.alloc (.cells #[.pointer (some ⟨sb,0,none⟩)] 38)):=hU1
  clear hU1 hS hT
  go_enter_defers Tryz.func57,Tryz.ntmps57
  go_upto_region 1 with fail
  rw [← HU1.out]
  go_wp2_with (go_at_call 40;refine HLd.out.mono ?_;rintro e w' ⟨rfl,hw⟩;obtain rfl:=hw.symm;clear HLd)
  exact ⟨_,results_tmp2 rfl _ _ _,rfl,B1.out⟩
set_option maxHeartbeats 1000000 in
theorem lkd_no (sb:Nat) (E:Int) (hE:¬ E=0) (R:World→Prop) (W:World) (h2:W.cell? ⟨sb,2,none⟩=some (.int .i64 3))
    (HR:Hid (Calls Tryz.prog 57 #[.pointer (some ⟨sb,0,none⟩)] W fun e w'=>e=.returned (.tuple #[.pointer none,.int .i64 E])∧R w')) :
    Calls Tryz.prog 35 #[.pointer (some ⟨sb,0,none⟩)] W fun e w'=>e=.returned (.tuple #[.pointer none,.int .i64 E])∧R w':=by
  have HM:Hid (Calls Tryz.prog 56 #[.pointer (some ⟨sb,0,none⟩)] W fun e w'=>e=.returned (.bool false)∧w'=W):=malf3 h2
  have hE2:(E == 0)=false:=by simpa using hE
  go_enter Tryz.func35,Tryz.ntmps35
  go_wp2_with (first
    | (go_at_call 56;refine HM.out.mono ?_;rintro e w' ⟨rfl,hw⟩;obtain rfl:=hw.symm;clear HM)
    | (go_at_call 57;refine HR.out.mono ?_;rintro e w5 ⟨rfl,h5⟩;have H5:Hid (R w5):=h5;clear h5 HR))
  go_ret2
  exact ⟨rfl,H5.out⟩
set_option maxHeartbeats 1000000 in
theorem lkd_yes (sb:Nat) (mf:Bool) (R:Nat→World→Prop) (W:World) (h2:W.cell? ⟨sb,2,none⟩=some (.int .i64 3)) (hR:Hid (∀ tb w,R tb w→w.cell? ⟨tb,2,none⟩=some (.bool mf)))
    (HR:Hid (Calls Tryz.prog 57 #[.pointer (some ⟨sb,0,none⟩)] W fun e w'=>∃ tb,e=.returned (.tuple #[.pointer (some ⟨tb,0,none⟩),.int .i64 0])∧R tb w')) :
    Calls Tryz.prog 35 #[.pointer (some ⟨sb,0,none⟩)] W fun e w'=>∃ tb,e=.returned (if mf then .tuple #[.pointer none,.int .i64 23] else .tuple #[.pointer (some ⟨tb,0,none⟩),.int .i64 0])∧R tb w':=by
  have HM:Hid (Calls Tryz.prog 56 #[.pointer (some ⟨sb,0,none⟩)] W fun e w'=>e=.returned (.bool false)∧w'=W):=malf3 h2
  cases mf
  · go_enter Tryz.func35,Tryz.ntmps35
    go_wp2_with (first
      | (go_at_call 56;refine HM.out.mono ?_;rintro e w' ⟨rfl,hw⟩;obtain rfl:=hw.symm;clear HM)
      | (go_at_call 57;refine HR.out.mono ?_;rintro e w5 ⟨tb,rfl,h5⟩;have c5:=hR.out tb w5 h5;have H5:Hid (R tb w5):=h5;clear h5 HR hR))
    go_ret2
    first|exact ⟨tb,rfl,H5.out⟩|exact ⟨rfl,tb,H5.out⟩
  · go_enter Tryz.func35,Tryz.ntmps35
    go_wp2_with (first
      | (go_at_call 56;refine HM.out.mono ?_;rintro e w' ⟨rfl,hw⟩;obtain rfl:=hw.symm;clear HM)
      | (go_at_call 57;refine HR.out.mono ?_;rintro e w5 ⟨tb,rfl,h5⟩;have c5:=hR.out tb w5 h5;have H5:Hid (R tb w5):=h5;clear h5 HR hR))
    go_ret2
    first|exact ⟨tb,rfl,H5.out⟩|exact ⟨rfl,tb,H5.out⟩
theorem link_c (sb lb:Nat) (E:Int) (R:World→Prop) (W:World) (h0:W.cell? ⟨sb,0,none⟩=some (.pointer (some ⟨lb,0,none⟩)))
    (HL:Hid (Calls Tryz.prog 35 #[.pointer (some ⟨sb,0,none⟩)] W fun e w'=>(∃ v,e=.returned (.tuple #[v,.int .i64 E]))∧R w')) :
    Calls Tryz.prog 12 #[.pointer (some ⟨sb,0,none⟩)] W fun e w'=>e=.returned (.int .i64 E)∧R w':=by
  have HM:Hid (Calls Tryz.prog 34 #[.pointer (some ⟨sb,0,none⟩)] W fun e w'=>e=.returned (.bool true)∧w'=W):=made_s h0
  go_enter Tryz.func12,Tryz.ntmps12
  go_wp2_with (first
    | (go_at_call 34;refine HM.out.mono ?_;rintro e w' ⟨rfl,hw⟩;obtain rfl:=hw.symm;clear HM)
    | (go_at_call 35;refine HL.out.mono ?_;rintro e w5 ⟨⟨v5,rfl⟩,h5⟩;have H5:Hid (R w5):=h5;clear h5 HL))
  go_ret
  exact ⟨rfl,H5.out⟩
set_option maxHeartbeats 1000000 in
theorem hold_c (sb lb b:Nat) (nm:ByteArray) (r:Int) (W:World) (h0:W.cell? ⟨sb,0,none⟩=some (.pointer (some ⟨lb,0,none⟩))) (h2:W.cell? ⟨sb,2,none⟩=some (.int .i64 3)) (hl:W.cell? ⟨lb,0,none⟩=some (.pointer (some ⟨b,0,none⟩)))
    (HH:Hid (∀ w,Below W.heap.size W w→Calls Tryz.prog 94 #[.pointer (some ⟨b,0,none⟩),.agg #[.int .i64 0,.string nm]] w fun e w'=>e=.returned (.tuple #[.int .i64 r,.int .i64 0])∧Below w.heap.size w w'))
    (HI:Hid (∀ w,Below W.heap.size W w→Calls Tryz.prog 8 #[.pointer (some ⟨b,0,none⟩),.int .i64 r] w fun e w'=>e=.returned (.bool false)∧Below w.heap.size w w')) :
    Calls Tryz.prog 58 #[.pointer (some ⟨sb,0,none⟩),.agg #[.int .i64 0,.string nm]] W fun e w'=>e=.returned (.tuple #[.int .i64 r,.int .i64 0])∧Below W.heap.size W w':=by
  have hs:sb<W.heap.size:=World.block_lt_of_cell? _ _ h0
  have hlt:lb<W.heap.size:=World.block_lt_of_cell? _ _ hl
  obtain ⟨U,hU⟩:∃ U,U=W.alloc (.cells #[.int .i64 0,.string nm] 49):=⟨_,rfl⟩
  have BU:Hid (Below W.heap.size W U):=by rw [hU];exact (Below.refl _ _).alloc (Nat.le_refl _) _
  have a0:U.cell? ⟨sb,0,none⟩=some (.pointer (some ⟨lb,0,none⟩)):=(BU.out.cell (p:=⟨sb,0,none⟩) hs).trans h0
  have a2:U.cell? ⟨sb,2,none⟩=some (.int .i64 3):=(BU.out.cell (p:=⟨sb,2,none⟩) hs).trans h2
  have al:U.cell? ⟨lb,0,none⟩=some (.pointer (some ⟨b,0,none⟩)):=(BU.out.cell (p:=⟨lb,0,none⟩) hlt).trans hl
  have t0:U.cell? ⟨W.heap.size,0,none⟩=some (.int .i64 0):=by rw [hU];exact (cell_of_row _ _ 0 _ _ _ (halloc1 _ _)).trans rfl
  have t1:U.cell? ⟨W.heap.size,1,none⟩=some (.string nm):=by rw [hU];exact (cell_of_row _ _ 1 _ _ _ (halloc1 _ _)).trans rfl
  have HL:Hid (Calls Tryz.prog 29 #[.pointer (some ⟨lb,0,none⟩)] U fun e w'=>e=.returned (.pointer (some ⟨b,0,none⟩))∧w'=U):=lwld_c lb _ _ al
  have HU:Hid (U=W.alloc (.cells #[.int .i64 0,.string nm] 49)):=hU
  clear hU h0 h2 hl al hs hlt
  go_enter Tryz.func58,Tryz.ntmps58
  go_upto_region 1 with fail
  rw [← HU.out]
  go_wp2_with (first
    | (go_at_call 29;refine HL.out.mono ?_;rintro e w' ⟨rfl,hw⟩;obtain rfl:=hw.symm;clear HL)
    | (go_at_call 94;refine (HH.out _ BU.out).mono ?_;rintro e w1 ⟨rfl,hb⟩;have B1:Hid (Below W.heap.size W w1):=bstep BU.out hb;clear hb HH a0 a2 t0 t1)
    | (go_at_call 8;refine (HI.out _ B1.out).mono ?_;rintro e w2 ⟨rfl,hb⟩;have B2:Hid (Below W.heap.size W w2):=bstep B1.out hb;clear hb HI))
  go_ret2
  exact ⟨rfl,B2.out⟩
theorem out0_c (W:World):Calls Tryz.prog 96 #[.int .i64 0] W fun e w'=>e=.returned (.agg #[.int .i64 0,.int .i64 0,.int .i64 0])∧Below W.heap.size W w':=by
  go_enter Tryz.func96,Tryz.ntmps96
  go_wp2
  exact bodyPost_ret (v:=.agg #[.int .i64 0,.int .i64 0,.int .i64 0]) (by simp [results,Tryz.results96,go_sem]) rfl ⟨rfl,(by repeat (first|exact Below.refl _ _|refine Below.setCell ?_ (by simp;try omega) _|refine Below.alloc ?_ (by simp;try omega) _|refine Below.drew ?_))⟩
theorem num_c (a b e:Int) (W:World):Calls Tryz.prog 99 #[.agg #[.int .i64 a,.int .i64 b,.int .i64 e]] W fun r w'=>(∃ k,r=.returned (.int .i64 k))∧Below W.heap.size W w':=by
  by_cases he:e=0
  · subst he
    go_enter Tryz.func99,Tryz.ntmps99
    go_wp2
    go_ret
    exact ⟨⟨_,rfl⟩,(by repeat (first|exact Below.refl _ _|refine Below.setCell ?_ (by simp;try omega) _|refine Below.alloc ?_ (by simp;try omega) _|refine Below.drew ?_))⟩
  · have he2:(e == 0)=false:=by simpa using he
    go_enter Tryz.func99,Tryz.ntmps99
    go_wp2
    go_ret
    exact ⟨⟨_,rfl⟩,(by repeat (first|exact Below.refl _ _|refine Below.setCell ?_ (by simp;try omega) _|refine Below.alloc ?_ (by simp;try omega) _|refine Below.drew ?_))⟩
set_option maxHeartbeats 4000000 in
theorem slook_c (sb lb tb:Nat) (nm:ByteArray) (m1 m2:Int) (dm:Int) (t:ByteArray) (r1 r2 er r n:Int) (W:World) (h0:W.cell? ⟨sb,0,none⟩=some (.pointer (some ⟨lb,0,none⟩))) (hT:TgAt W tb m1 m2 false dm t r1 r2 er)
    (HB:Hid (∀ w,Below W.heap.size W w→Calls Tryz.prog 151 #[.pointer (some ⟨lb,0,none⟩),.agg #[.int .i64 0,.string nm],.agg #[.int .i64 dm,.string t]] w fun e w'=>e=.returned (.tuple #[.bool true,.int .i64 n,.int .i64 0])∧Below w.heap.size w w')) :
    Calls Tryz.prog 97 #[.pointer (some ⟨sb,0,none⟩),.pointer (some ⟨tb,0,none⟩),.agg #[.int .i64 0,.string nm],.int .i64 r] W fun e w'=>(∃ k,e=.returned (.tuple #[.agg #[.int .i64 r1,.int .i64 r2,.int .i64 er],.int .i64 k]))∧Below W.heap.size W w':=by
  have hs:sb<W.heap.size:=World.block_lt_of_cell? _ _ h0
  obtain ⟨⟨t0,t1,t2,t3,t4⟩,⟨t5,t7,t8,t9⟩,tf,htl⟩:=hT.cells
  obtain ⟨U,hU⟩:∃ U,U=(W.alloc (.cells #[.int .i64 0,.string nm] 49)).alloc (.cells #[.int .i64 0,.int .i64 0,.int .i64 0] 110):=⟨_,rfl⟩
  have BU:Hid (Below W.heap.size W U):=by rw [hU];exact ((Below.refl _ _).alloc (Nat.le_refl _) _).alloc (by simp) _
  have hz:W.heap.size+1<U.heap.size:=by rw [hU];simp
  have d1:U.heap[W.heap.size]?=some (.cells #[.int .i64 0,.string nm] 49 (0,0)):=by rw [hU];exact hkeep (halloc1 _ _)
  have d2:U.heap[W.heap.size+1]?=some (.cells #[.int .i64 0,.int .i64 0,.int .i64 0] 110 (0,0)):=by rw [hU];exact halloc2 _ _ (by simp)
  obtain ⟨σ,V,hne,V1,V2⟩:=class_of' (fun w'=>Below U.heap.size U w') ⟨_,Below.refl _ _⟩
  have kp:∀ (q:σ) (bb j:Nat) (v:Value),bb<U.heap.size→U.cell? ⟨bb,j,none⟩=some v→(V q).cell? ⟨bb,j,none⟩=some v:=fun q bb j v hl h=>((V1.out q).cell (p:=⟨bb,j,none⟩) hl).trans h
  have kw:∀ (q:σ) (bb j:Nat) (v:Value),bb<W.heap.size→W.cell? ⟨bb,j,none⟩=some v→(V q).cell? ⟨bb,j,none⟩=some v:=fun q bb j v hl h=>kp q bb j v (Nat.lt_of_lt_of_le hl BU.out.size) ((BU.out.cell (p:=⟨bb,j,none⟩) hl).trans h)
  have e0:=fun q=>kw q sb 0 _ hs h0
  have e1:=fun q=>kp q W.heap.size 0 (.int .i64 0) (by omega) ((cell_of_row U _ 0 _ _ _ d1).trans rfl)
  have e2:=fun q=>kp q W.heap.size 1 (.string nm) (by omega) ((cell_of_row U _ 1 _ _ _ d1).trans rfl)
  have e3:=fun q=>kw q tb 3 _ htl t3
  have e4:=fun q=>kw q tb 4 _ htl t4
  have HV:Hid (∀ q,Calls Tryz.prog 151 #[.pointer (some ⟨lb,0,none⟩),.agg #[.int .i64 0,.string nm],.agg #[.int .i64 dm,.string t]] (V q) fun e w'=>e=.returned (.tuple #[.bool true,.int .i64 n,.int .i64 0])∧∃ q',w'=V q'):=fun q=>(HB.out _ (bstep BU.out (V1.out q))).mono fun e w' ⟨h1,h2⟩=>⟨h1,V2.out _ (bstep (V1.out q) h2)⟩
  have HK:Hid (∀ q,(V q).cell? ⟨tb,5,none⟩=some (.int .i64 0)∧(V q).cell? ⟨tb,7,none⟩=some (.int .i64 r1)∧(V q).cell? ⟨tb,8,none⟩=some (.int .i64 r2)∧(V q).cell? ⟨tb,9,none⟩=some (.int .i64 er)∧(V q).heap[W.heap.size+1]?=some (.cells #[.int .i64 0,.int .i64 0,.int .i64 0] 110 (0,0))):=fun q=>⟨kw q tb 5 _ htl t5,kw q tb 7 _ htl t7,kw q tb 8 _ htl t8,kw q tb 9 _ htl t9,((V1.out q).block _ hz).trans d2⟩
  have HU:Hid (U=(W.alloc (.cells #[.int .i64 0,.string nm] 49)).alloc (.cells #[.int .i64 0,.int .i64 0,.int .i64 0] 110)):=hU
  clear kp kw d1 d2 HB h0 hT hU t0 t1 t2 t3 t4 t5 t7 t8 t9 tf hs
  go_enter Tryz.func97,Tryz.ntmps97
  go_upto_region 1 with fail
  rw [← HU.out]
  refine wp_region_class (C:=fun w'=>∃ q,w'=V q) (by kernel_rfl) (by kernel_rfl) (V2.out _ (Below.refl _ _).drew) ?_
  repeat (go_big_quiet_step (first|(go_at_call 151;exact HV.out _)))
  refine wpQuiet_nil ?_
  intro w9 hw9
  obtain ⟨s9,hw9⟩:=hw9
  have B9:Hid (Below W.heap.size W w9):=by rw [hw9];exact bstep BU.out (V1.out s9)
  have hk:=HK.out s9
  rw [← hw9] at hk
  obtain ⟨k5,k7,k8,k9,k10⟩:=hk
  have j0:w9.cell? ⟨W.heap.size+1,0,none⟩=some (.int .i64 0):=(cell_of_row w9 _ 0 _ _ _ k10).trans rfl
  have j1:w9.cell? ⟨W.heap.size+1,1,none⟩=some (.int .i64 0):=(cell_of_row w9 _ 1 _ _ _ k10).trans rfl
  have j2:w9.cell? ⟨W.heap.size+1,2,none⟩=some (.int .i64 0):=(cell_of_row w9 _ 2 _ _ _ k10).trans rfl
  have jf:=fun k=>frozen_of_row w9 (W.heap.size+1) k _ _ k10
  have hn1:¬ W.heap.size+1=tb:=by omega
  have hn2:¬ tb=W.heap.size+1:=by omega
  clear hw9 e0 e1 e2 e3 e4 HV HK V1 V2 hne k10
  go_wp2
  exact bodyPost_ret (v:=.tuple #[.agg #[.int .i64 r1,.int .i64 r2,.int .i64 er],.int .i64 n]) (by simp [results,Tryz.results97,go_sem, *]) rfl ⟨⟨_,rfl⟩,((B9.out.setCell (by simp) _).setCell (by simp) _).setCell (by simp) _⟩
def S3 (sb pc qc:Nat):Nat→Prop:=fun k=>k=pc∨k=qc∨k=sb
structure Gd (W w:World) (sb lb:Nat) (d:Int) (c n ds:ByteArray) (pc qc:Nat) (rd:Int) (tb:Nat) (m1 m2 dm:Int) (t:ByteArray) (r1 r2 er:Int) (nm:ByteArray):Prop where
  si:SiAt w sb lb d c n ds pc rd (some ⟨tb,0,none⟩) 0 1 0
  tg:TgAt w tb m1 m2 false dm t r1 r2 er
  t:Tch (S3 sb pc qc) W w
  b0:w.heap[W.heap.size]?=some (.cells #[.int .i64 0,.string nm] 49 (0,0))
  b1:w.heap[W.heap.size+1]?=some (.cells #[.pointer (some ⟨pc,0,none⟩),.int .i64 2] 95 (0,0))
  b2:w.heap[W.heap.size+1+1]?=some (.cells #[.int .i64 0,.int .i64 0,.int .i64 0] 110 (0,0))
theorem lt_of_blk {w:World} {k:Nat} {o:Obj} (h:w.heap[k]?=some o):k<w.heap.size:=(Array.getElem?_eq_some_iff.1 h).1
theorem Gd.step {W w w':World} {sb lb:Nat} {d:Int} {c n ds:ByteArray} {pc qc:Nat} {rd:Int} {tb:Nat} {m1 m2 dm:Int} {t:ByteArray} {r1 r2 er:Int} {nm:ByteArray} (h:Gd W w sb lb d c n ds pc qc rd tb m1 m2 dm t r1 r2 er nm) (hp:∃ u,w.heap[pc]?=some (.cells u 147 (0,0))) (hq:∃ u,w.heap[qc]?=some (.cells u 186 (0,0))) (ht:Tch (fun k=>k=pc∨k=qc) w w'):Gd W w' sb lb d c n ds pc qc rd tb m1 m2 dm t r1 r2 er nm:=by
  obtain ⟨u,hp⟩:=hp
  obtain ⟨v,hq⟩:=hq
  have key:∀ (k:Nat) (x:Array Value) (e:TypeId),w.heap[k]?=some (.cells x e (0,0))→e≠147→e≠186→w'.heap[k]?=w.heap[k]?:=fun k x e hk h1 h2=>ht.blk k (lt_of_blk hk) (by
    rintro (rfl|rfl)
    · rw [hp] at hk;cases hk;exact h1 rfl
    · rw [hq] at hk;cases hk;exact h2 rfl)
  exact ⟨h.si.keep (key _ _ _ h.si (by decide) (by decide)),(key _ _ _ h.tg (by decide) (by decide)).trans h.tg,h.t.trans ht (fun k _ x=>x.elim .inl (fun y=>.inr (.inl y))),(key _ _ _ h.b0 (by decide) (by decide)).trans h.b0,(key _ _ _ h.b1 (by decide) (by decide)).trans h.b1,(key _ _ _ h.b2 (by decide) (by decide)).trans h.b2⟩
theorem Gd.bel {W w w':World} {sb lb:Nat} {d:Int} {c n ds:ByteArray} {pc qc:Nat} {rd:Int} {tb:Nat} {m1 m2 dm:Int} {t:ByteArray} {r1 r2 er:Int} {nm:ByteArray} (h:Gd W w sb lb d c n ds pc qc rd tb m1 m2 dm t r1 r2 er nm) (hb:Below w.heap.size w w'):Gd W w' sb lb d c n ds pc qc rd tb m1 m2 dm t r1 r2 er nm :=
  ⟨h.si.keep (hb.block _ (lt_of_blk h.si)),(hb.block _ (lt_of_blk h.tg)).trans h.tg,h.t.bel hb,(hb.block _ (lt_of_blk h.b0)).trans h.b0,(hb.block _ (lt_of_blk h.b1)).trans h.b1,(hb.block _ (lt_of_blk h.b2)).trans h.b2⟩
theorem E1.bel {w w':World} {p q:Nat} {h m r:Int} (H:E1 w p q h m r) (hb:Below w.heap.size w w'):E1 w' p q h m r:=H.keep (hb.block _ H.lt.1) (hb.block _ H.lt.2)
theorem E1.ex {w:World} {p q:Nat} {h m r:Int} (H:E1 w p q h m r):(∃ u,w.heap[p]?=some (.cells u 147 (0,0)))∧(∃ u,w.heap[q]?=some (.cells u 186 (0,0))):=⟨⟨_,H.hp⟩,⟨_,H.hq⟩⟩
theorem Gd.cs {W w:World} {sb lb:Nat} {d:Int} {c n ds:ByteArray} {pc qc:Nat} {rd:Int} {tb:Nat} {m1 m2 dm:Int} {t:ByteArray} {r1 r2 er:Int} {nm:ByteArray} (h:Gd W w sb lb d c n ds pc qc rd tb m1 m2 dm t r1 r2 er nm):w.cell? ⟨W.heap.size,0,none⟩=some (.int .i64 0)∧w.cell? ⟨W.heap.size,1,none⟩=some (.string nm)∧w.cell? ⟨W.heap.size+1,0,none⟩=some (.pointer (some ⟨pc,0,none⟩))∧w.cell? ⟨W.heap.size+1,1,none⟩=some (.int .i64 2) :=
  ⟨(cell_of_row w _ 0 _ _ _ h.b0).trans rfl,(cell_of_row w _ 1 _ _ _ h.b0).trans rfl,(cell_of_row w _ 0 _ _ _ h.b1).trans rfl,(cell_of_row w _ 1 _ _ _ h.b1).trans rfl⟩
theorem Gd.far {W w:World} {sb lb:Nat} {d:Int} {c n ds:ByteArray} {pc qc:Nat} {rd:Int} {tb:Nat} {m1 m2 dm:Int} {t:ByteArray} {r1 r2 er:Int} {nm:ByteArray} (h:Gd W w sb lb d c n ds pc qc rd tb m1 m2 dm t r1 r2 er nm) {k:Nat} (hk:W.heap.size+1+1<k) (hs:sb<W.heap.size) (ht:tb<W.heap.size) (o:Nat) (u:Value):Gd W (w.setCell ⟨k,o,none⟩ u) sb lb d c n ds pc qc rd tb m1 m2 dm t r1 r2 er nm :=
  ⟨h.si.keep (Below.heap_setCell _ _ _ _ (by simp;omega)),(Below.heap_setCell _ _ _ _ (by simp;omega)).trans h.tg,Tch.set (S:=S3 sb pc qc) h.t (.inr (by simp;omega)) _,(Below.heap_setCell _ _ _ _ (by simp;omega)).trans h.b0,(Below.heap_setCell _ _ _ _ (by simp;omega)).trans h.b1,(Below.heap_setCell _ _ _ _ (by simp;omega)).trans h.b2⟩
theorem E1.far {w:World} {p q:Nat} {h m r:Int} (H:E1 w p q h m r) {k:Nat} (h1:p<k) (h2:q<k) (o:Nat) (u:Value):E1 (w.setCell ⟨k,o,none⟩ u) p q h m r:=H.keep (Below.heap_setCell _ _ _ _ (by simp;omega)) (Below.heap_setCell _ _ _ _ (by simp;omega))
set_option maxHeartbeats 4000000 in
theorem rec_c (sb lb:Nat) (d:Int) (c n ds:ByteArray) (pc qc:Nat) (rd:Int) (tb:Nat) (m1 m2 dm:Int) (t:ByteArray) (r1 r2 er:Int) (nm:ByteArray) (r k0:Int) (W:World) (hS:SiAt W sb lb d c n ds pc rd (some ⟨tb,0,none⟩) 0 1 0) (hT:TgAt W tb m1 m2 false dm t r1 r2 er) (hE:E1 W pc qc 0 0 0)
    (HB:Hid (∀ w,Tch (S3 sb pc qc) W w→Calls Tryz.prog 151 #[.pointer (some ⟨lb,0,none⟩),.agg #[.int .i64 0,.string nm],.agg #[.int .i64 dm,.string t]] w fun e w'=>e=.returned (.tuple #[.bool true,.int .i64 k0,.int .i64 0])∧Below w.heap.size w w')) :
    Calls Tryz.prog 60 #[.pointer (some ⟨sb,0,none⟩),.pointer (some ⟨tb,0,none⟩),.agg #[.int .i64 0,.string nm],.int .i64 r,.agg #[.pointer (some ⟨pc,0,none⟩),.int .i64 2]] W fun e w'=>e=.returned (.agg #[.int .i64 r1,.int .i64 r2,.int .i64 er])∧Tch (S3 sb pc qc) W w':=by
  have hsl:=lt_of_blk hS
  have htl:=lt_of_blk hT
  obtain ⟨hpl,hql⟩:=hE.lt
  obtain ⟨U,hU⟩:∃ U,U=((W.alloc (.cells #[.int .i64 0,.string nm] 49)).alloc (.cells #[.pointer (some ⟨pc,0,none⟩),.int .i64 2] 95)).alloc (.cells #[.int .i64 0,.int .i64 0,.int .i64 0] 110):=⟨_,rfl⟩
  have BU:Below W.heap.size W U:=by rw [hU];exact (((Below.refl _ _).alloc (Nat.le_refl _) _).alloc (by simp) _).alloc (by simp;omega) _
  have GU:Gd W U sb lb d c n ds pc qc rd tb m1 m2 dm t r1 r2 er nm:=⟨hS.keep (BU.block _ hsl),(BU.block _ htl).trans hT,(Tch.refl _ W).bel BU,by rw [hU];exact hkeep (hkeep (halloc1 _ _)),by rw [hU];exact hkeep (halloc2 _ _ (by simp)),by rw [hU];exact halloc2 _ _ (by simp)⟩
  have EU:E1 U pc qc 0 0 0:=hE.keep (BU.block _ hpl) (BU.block _ hql)
  have HG:Hid (Calls Tryz.prog 95 #[.pointer (some ⟨pc,0,none⟩),.int .i64 r] U fun e w'=>e=.returned (.tuple #[.int .i64 0,.bool false])∧E1 w' pc qc 0 (wrap64 (0+1)) 0∧Gd W w' sb lb d c n ds pc qc rd tb m1 m2 dm t r1 r2 er nm):=(c1get EU r).mono fun e w' ⟨a,b,c⟩=>⟨a,b,GU.step EU.ex.1 EU.ex.2 (c.mono fun _ _ x=>.inl x)⟩
  obtain ⟨p0,p1,p2,p3⟩:=GU.cs
  have HU:Hid (U=((W.alloc (.cells #[.int .i64 0,.string nm] 49)).alloc (.cells #[.pointer (some ⟨pc,0,none⟩),.int .i64 2] 95)).alloc (.cells #[.int .i64 0,.int .i64 0,.int .i64 0] 110)):=hU
  have HO:Hid (∀ w:World,Calls Tryz.prog 96 #[.int .i64 0] w fun e w'=>e=.returned (.agg #[.int .i64 0,.int .i64 0,.int .i64 0])∧Below w.heap.size w w'):=out0_c
  have HN:Hid (∀ w:World,Calls Tryz.prog 99 #[.agg #[.int .i64 r1,.int .i64 r2,.int .i64 er]] w fun e w'=>(∃ k,e=.returned (.int .i64 k))∧Below w.heap.size w w'):=num_c r1 r2 er
  generalize wrap64 (0+1)=M at *
  have HP:Hid (∀ w k,E1 w pc qc 0 M 0→Calls Tryz.prog 98 #[.pointer (some ⟨pc,0,none⟩),.int .i64 r,.int .i64 k] w fun e w'=>e=.returned (.tuple #[.int .i64 0,.int .i64 0,.bool false])∧Tch (fun k=>k=qc) w w'):=fun w k h=>c1put h r k
  have HLk:Hid (∀ w,Gd W w sb lb d c n ds pc qc rd tb m1 m2 dm t r1 r2 er nm→Calls Tryz.prog 97 #[.pointer (some ⟨sb,0,none⟩),.pointer (some ⟨tb,0,none⟩),.agg #[.int .i64 0,.string nm],.int .i64 r] w fun e w'=>(∃ k,e=.returned (.tuple #[.agg #[.int .i64 r1,.int .i64 r2,.int .i64 er],.int .i64 k]))∧Below w.heap.size w w'):=fun w hg=>slook_c sb lb tb nm m1 m2 dm t r1 r2 er r k0 w hg.si.cells.1.1 hg.tg (fun w' hw=>HB.out w' (hg.t.bel hw))
  clear hU BU GU EU hS hT hE HB
  go_enter Tryz.func60,Tryz.ntmps60
  go_upto_region 1 with fail
  rw [← HU.out]
  go_upto_region 8 with (first
    | (go_at_call 95;refine HG.out.mono ?_;rintro e w1 ⟨rfl,e1,g1⟩;have E1':Hid (E1 w1 pc qc 0 M 0):=e1;have G1:Hid (Gd W w1 sb lb d c n ds pc qc rd tb m1 m2 dm t r1 r2 er nm):=g1;clear e1 g1 HG p0 p1 p2 p3)
    | (go_at_call 96;refine (HO.out _).mono ?_;rintro e w2 ⟨rfl,hb⟩;have E2':Hid (E1 w2 pc qc 0 M 0):=E1'.out.bel hb;have G2:Hid (Gd W w2 sb lb d c n ds pc qc rd tb m1 m2 dm t r1 r2 er nm):=G1.out.bel hb;have G3:=G1.out.bel (bstep hb ((Below.refl _ w2).alloc (Nat.le_refl _) (.cells #[.int .i64 0,.int .i64 0,.int .i64 0] 110)));obtain ⟨x0,x1,x2,x3⟩:=G3.cs;clear hb E1' G1 HO G3)
    | (go_at_call 97; refine (HLk.out _ (G2.out.bel ((Below.refl _ w2).alloc (Nat.le_refl _) _))).mono ?_; rintro e w3 ⟨⟨k3, rfl⟩, hb⟩
       have hz2:W.heap.size+1+1<w2.heap.size:=lt_of_blk G2.out.b2
       have G3:Hid (Gd W w3 sb lb d c n ds pc qc rd tb m1 m2 dm t r1 r2 er nm):=(G2.out.bel ((Below.refl _ w2).alloc (Nat.le_refl _) _)).bel hb
       have E3':Hid (E1 w3 pc qc 0 M 0):=(E2'.out.bel ((Below.refl _ w2).alloc (Nat.le_refl _) _)).bel hb
       have d3:w3.heap[w2.heap.size]?=some (.cells #[.int .i64 0,.int .i64 0,.int .i64 0] 110 (0,0)):=(hb.block w2.heap.size (by simp)).trans (halloc1 _ _)
       have D3:Hid (w3.heap[w2.heap.size]?=some (.cells #[.int .i64 0,.int .i64 0,.int .i64 0] 110 (0,0))):=d3
       have z0:w3.cell? ⟨w2.heap.size,0,none⟩=some (.int .i64 0):=(cell_of_row w3 _ 0 _ _ _ d3).trans rfl
       have z1:w3.cell? ⟨w2.heap.size,1,none⟩=some (.int .i64 0):=(cell_of_row w3 _ 1 _ _ _ d3).trans rfl
       have z2:w3.cell? ⟨w2.heap.size,2,none⟩=some (.int .i64 0):=(cell_of_row w3 _ 2 _ _ _ d3).trans rfl
       have zf:=fun k=>frozen_of_row w3 w2.heap.size k _ _ d3
       clear hb d3 HLk G2 E2' x0 x1 x2 x3))
  obtain ⟨w4,hw4⟩:∃ w4,w4=((w3.setCell ⟨w2.heap.size,0,none⟩ (.int .i64 r1)).setCell ⟨w2.heap.size,1,none⟩ (.int .i64 r2)).setCell ⟨w2.heap.size,2,none⟩ (.int .i64 er):=⟨_,rfl⟩
  have G4:Hid (Gd W w4 sb lb d c n ds pc qc rd tb m1 m2 dm t r1 r2 er nm):=by rw [hw4];exact ((G3.out.far hz2 hsl htl _ _).far hz2 hsl htl _ _).far hz2 hsl htl _ _
  have E4':Hid (E1 w4 pc qc 0 M 0):=by rw [hw4];exact ((E3'.out.far (by omega) (by omega) _ _).far (by omega) (by omega) _ _).far (by omega) (by omega) _ _
  have D4:Hid (w4.heap[w2.heap.size]?=some (.cells #[.int .i64 r1,.int .i64 r2,.int .i64 er] 110 (0,0))):=by rw [Hid,hw4,Go.Joins.block_setCell (Go.Joins.block_setCell (Go.Joins.block_setCell D3.out _) _)];rfl
  rw [← hw4]
  obtain ⟨x0,x1,x2,x3⟩:=G4.out.cs
  have y0:w4.cell? ⟨w2.heap.size,0,none⟩=some (.int .i64 r1):=(cell_of_row w4 _ 0 _ _ _ D4.out).trans rfl
  have y1:w4.cell? ⟨w2.heap.size,1,none⟩=some (.int .i64 r2):=(cell_of_row w4 _ 1 _ _ _ D4.out).trans rfl
  have y2:w4.cell? ⟨w2.heap.size,2,none⟩=some (.int .i64 er):=(cell_of_row w4 _ 2 _ _ _ D4.out).trans rfl
  clear hw4 G3 E3' D3 z0 z1 z2 zf
  go_region_with (first
    | (go_at_call 99; refine (HN.out _).mono ?_; rintro e w5 ⟨⟨k5, rfl⟩, hb0⟩
       have hb:=bstep (Below.refl _ w4).drew hb0
       have G5:Hid (Gd W w5 sb lb d c n ds pc qc rd tb m1 m2 dm t r1 r2 er nm):=G4.out.bel hb
       have E5':Hid (E1 w5 pc qc 0 M 0):=E4'.out.bel hb
       have D5:Hid (w5.heap[w2.heap.size]?=some (.cells #[.int .i64 r1,.int .i64 r2,.int .i64 er] 110 (0,0))):=(hb.block _ (lt_of_blk D4.out)).trans D4.out
       have x5:w5.cell? ⟨W.heap.size+1,0,none⟩=some (.pointer (some ⟨pc,0,none⟩)):=(G4.out.bel hb).cs.2.2.1
       clear hb hb0 HN G4 E4' D4)
    | (go_at_call 98; refine (HP.out _ _ E5'.out).mono ?_; rintro e w6 ⟨rfl, ht⟩
       have G6:Gd W w6 sb lb d c n ds pc qc rd tb m1 m2 dm t r1 r2 er nm:=G5.out.step E5'.out.ex.1 E5'.out.ex.2 (ht.mono fun _ _ x=>.inr x)
       have HG6:Hid (Gd W w6 sb lb d c n ds pc qc rd tb m1 m2 dm t r1 r2 er nm):=G6
       have D6:Hid (w6.heap[w2.heap.size]?=some (.cells #[.int .i64 r1,.int .i64 r2,.int .i64 er] 110 (0,0))):=(ht.blk _ (lt_of_blk D5.out) (by omega)).trans D5.out
       have HAd:Hid (∀ y,Calls Tryz.prog 100 #[.pointer (some ⟨sb,9,none⟩),.int .i64 y] w6 fun e w'=>e=.returned (.int .i64 (wrap64 (rd+y)))∧w'=w6.setCell ⟨sb,9,none⟩ (.int .i64 (wrap64 (rd+y)))):=fun y=>iadd_c sb 9 rd y w6 G6.si.cells.2.2.1.2.2.1 (G6.si.cells.2.2.2.2.1 9)
       clear ht HP G5 E5' D5 G6 x5))
  all_goals go_wp2_with (first
    | (go_at_call 100; refine (HAd.out _).mono ?_; rintro e w7 ⟨rfl, hw7⟩
       have T7:Hid (Tch (S3 sb pc qc) W w7):=(by rw [hw7];exact Tch.set (S:=S3 sb pc qc) HG6.out.t (.inl (.inr (.inr rfl))) _)
       have d7:w7.heap[w2.heap.size]?=some (.cells #[.int .i64 r1,.int .i64 r2,.int .i64 er] 110 (0,0)):=(by rw [hw7];exact (Below.heap_setCell _ _ _ _ (by simp;omega)).trans D6.out)
       have u7:w7.heap[W.heap.size+1+1]?=some (.cells #[.int .i64 0,.int .i64 0,.int .i64 0] 110 (0,0)):=(by rw [hw7];exact (Below.heap_setCell _ _ _ _ (by simp;omega)).trans HG6.out.b2)
       have v0:w7.cell? ⟨w2.heap.size,0,none⟩=some (.int .i64 r1):=(cell_of_row w7 _ 0 _ _ _ d7).trans rfl
       have v1:w7.cell? ⟨w2.heap.size,1,none⟩=some (.int .i64 r2):=(cell_of_row w7 _ 1 _ _ _ d7).trans rfl
       have v2:w7.cell? ⟨w2.heap.size,2,none⟩=some (.int .i64 er):=(cell_of_row w7 _ 2 _ _ _ d7).trans rfl
       have u0:w7.cell? ⟨W.heap.size+1+1,0,none⟩=some (.int .i64 0):=(cell_of_row w7 _ 0 _ _ _ u7).trans rfl
       have u1:w7.cell? ⟨W.heap.size+1+1,1,none⟩=some (.int .i64 0):=(cell_of_row w7 _ 1 _ _ _ u7).trans rfl
       have u2:w7.cell? ⟨W.heap.size+1+1,2,none⟩=some (.int .i64 0):=(cell_of_row w7 _ 2 _ _ _ u7).trans rfl
       have uf:=fun k=>frozen_of_row w7 (W.heap.size+1+1) k _ _ u7
       clear hw7 d7 u7 HAd D6 HG6))
  all_goals exact bodyPost_ret (v:=.agg #[.int .i64 r1,.int .i64 r2,.int .i64 er]) (by simp [results,Tryz.results60,go_sem, *]) rfl ⟨rfl,Tch.set (S:=S3 sb pc qc) (Tch.set (S:=S3 sb pc qc) (Tch.set (S:=S3 sb pc qc) T7.out (.inr (by simp;omega)) _) (.inr (by simp;omega)) _) (.inr (by simp;omega)) _⟩
end Go.Proofs.YtenpnkkkjjdccaaGreat
