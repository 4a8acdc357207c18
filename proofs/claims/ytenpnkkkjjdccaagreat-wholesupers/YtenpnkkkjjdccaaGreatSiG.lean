import Derived.Test.YtenpnkkkjjdccaaGreatSiF
set_option maxRecDepth 100000
namespace Go.Proofs.YtenpnkkkjjdccaaGreat
open Go.RowKit Go.Maps
set_option maxHeartbeats 4000000 in
theorem ans_c (sb pc qc tb:Nat) (nm:ByteArray) (r r1 r2 er:Int) (W:World) (h2:W.cell? ⟨sb,2,none⟩=some (.int .i64 3)) (hpl:pc<W.heap.size) (hql:qc<W.heap.size)
    (HH:Hid (∀ w,Below W.heap.size W w→Calls Tryz.prog 58 #[.pointer (some ⟨sb,0,none⟩),.agg #[.int .i64 0,.string nm]] w fun e w'=>e=.returned (.tuple #[.int .i64 r,.int .i64 0])∧Below w.heap.size w w'))
    (HL:Hid (∀ w,Below W.heap.size W w→Calls Tryz.prog 35 #[.pointer (some ⟨sb,0,none⟩)] w fun e w'=>e=.returned (.tuple #[.pointer (some ⟨tb,0,none⟩),.int .i64 0])∧Below w.heap.size w w'))
    (HR:Hid (∀ w,Below W.heap.size W w→Calls Tryz.prog 60 #[.pointer (some ⟨sb,0,none⟩),.pointer (some ⟨tb,0,none⟩),.agg #[.int .i64 0,.string nm],.int .i64 r,.agg #[.pointer (some ⟨pc,0,none⟩),.int .i64 2]] w fun e w'=>e=.returned (.agg #[.int .i64 r1,.int .i64 r2,.int .i64 er])∧Tch (S3 sb pc qc) w w')) :
    Calls Tryz.prog 36 #[.pointer (some ⟨sb,0,none⟩),.agg #[.int .i64 0,.string nm],.agg #[.pointer (some ⟨pc,0,none⟩),.int .i64 2]] W fun e w'=>e=.returned (.agg #[.int .i64 r1,.int .i64 r2,.int .i64 er])∧Tch (S3 sb pc qc) W w':=by
  have hsl:sb<W.heap.size:=World.block_lt_of_cell? _ _ h2
  obtain ⟨U,hU⟩:∃ U,U=((W.alloc (.cells #[.int .i64 0,.string nm] 49)).alloc (.cells #[.pointer (some ⟨pc,0,none⟩),.int .i64 2] 95)).alloc (.cells #[.int .i64 0,.int .i64 0,.int .i64 0] 110):=⟨_,rfl⟩
  have BU:Hid (Below W.heap.size W U):=by rw [hU];exact (((Below.refl _ _).alloc (Nat.le_refl _) _).alloc (by simp) _).alloc (by simp;omega) _
  have d0:U.heap[W.heap.size]?=some (.cells #[.int .i64 0,.string nm] 49 (0,0)):=by rw [hU];exact hkeep (hkeep (halloc1 _ _))
  have d1:U.heap[W.heap.size+1]?=some (.cells #[.pointer (some ⟨pc,0,none⟩),.int .i64 2] 95 (0,0)):=by rw [hU];exact hkeep (halloc2 _ _ (by simp))
  have d2:U.heap[W.heap.size+1+1]?=some (.cells #[.int .i64 0,.int .i64 0,.int .i64 0] 110 (0,0)):=by rw [hU];exact halloc2 _ _ (by simp)
  have hz:W.heap.size+1+1<U.heap.size:=lt_of_blk d2
  have t0:U.cell? ⟨W.heap.size,0,none⟩=some (.int .i64 0):=(cell_of_row U _ 0 _ _ _ d0).trans rfl
  have t1:U.cell? ⟨W.heap.size,1,none⟩=some (.string nm):=(cell_of_row U _ 1 _ _ _ d0).trans rfl
  have HK:Hid (∀ w,Below U.heap.size U w→w.cell? ⟨W.heap.size,0,none⟩=some (.int .i64 0)∧w.cell? ⟨W.heap.size,1,none⟩=some (.string nm)∧w.cell? ⟨W.heap.size+1,0,none⟩=some (.pointer (some ⟨pc,0,none⟩))∧w.cell? ⟨W.heap.size+1,1,none⟩=some (.int .i64 2)∧w.cell? ⟨sb,2,none⟩=some (.int .i64 3)∧w.heap[W.heap.size+1+1]?=some (.cells #[.int .i64 0,.int .i64 0,.int .i64 0] 110 (0,0))):=fun w hb =>
    ⟨(hb.cell (p:=⟨W.heap.size,0,none⟩) (by simp;omega)).trans t0,(hb.cell (p:=⟨W.heap.size,1,none⟩) (by simp;omega)).trans t1,(hb.cell (p:=⟨W.heap.size+1,0,none⟩) (by simp;omega)).trans ((cell_of_row U _ 0 _ _ _ d1).trans rfl),(hb.cell (p:=⟨W.heap.size+1,1,none⟩) (by simp;omega)).trans ((cell_of_row U _ 1 _ _ _ d1).trans rfl),((bstep BU.out hb).cell (p:=⟨sb,2,none⟩) hsl).trans h2,(hb.block _ hz).trans d2⟩
  have HU:Hid (U=((W.alloc (.cells #[.int .i64 0,.string nm] 49)).alloc (.cells #[.pointer (some ⟨pc,0,none⟩),.int .i64 2] 95)).alloc (.cells #[.int .i64 0,.int .i64 0,.int .i64 0] 110)):=hU
  clear hU d0 d1 d2 h2
  go_enter Tryz.func36,Tryz.ntmps36
  go_upto_region 1 with fail
  rw [← HU.out]
  go_wp2_with (first
    | (go_at_call 58;refine (HH.out _ BU.out).mono ?_;rintro e w1 ⟨rfl,hb⟩;have B1:Hid (Below U.heap.size U w1):=hb;clear hb HH t0 t1)
    | (go_at_call 35;refine (HL.out _ (bstep BU.out B1.out)).mono ?_;rintro e w2 ⟨rfl,hb⟩;have B2:Hid (Below U.heap.size U w2):=bstep B1.out hb;obtain ⟨k0,k1,k2,k3,k4,_⟩:=HK.out w2 (bstep B1.out hb);clear hb HL B1)
    | (go_at_call 60; refine (HR.out _ (bstep BU.out B2.out)).mono ?_; rintro e w3 ⟨rfl, ht⟩
       have d3:w3.heap[W.heap.size+1+1]?=some (.cells #[.int .i64 0,.int .i64 0,.int .i64 0] 110 (0,0)):=(ht.blk _ (Nat.lt_of_lt_of_le hz B2.out.size) (by rintro (x|x|x) <;> omega)).trans (HK.out w2 B2.out).2.2.2.2.2
       have u0:w3.cell? ⟨W.heap.size+1+1,0,none⟩=some (.int .i64 0):=(cell_of_row w3 _ 0 _ _ _ d3).trans rfl
       have u1:w3.cell? ⟨W.heap.size+1+1,1,none⟩=some (.int .i64 0):=(cell_of_row w3 _ 1 _ _ _ d3).trans rfl
       have u2:w3.cell? ⟨W.heap.size+1+1,2,none⟩=some (.int .i64 0):=(cell_of_row w3 _ 2 _ _ _ d3).trans rfl
       have uf:=fun k=>frozen_of_row w3 (W.heap.size+1+1) k _ _ d3
       have T3:Hid (Tch (S3 sb pc qc) W w3):=((Tch.refl _ W).bel (bstep BU.out B2.out)).trans ht (fun _ _ x=>x)
       clear ht d3 HR HK B2 k0 k1 k2 k3 k4))
  exact bodyPost_ret (v:=.agg #[.int .i64 r1,.int .i64 r2,.int .i64 er]) (by simp [results,Tryz.results36,go_sem, *]) rfl ⟨rfl,Tch.set (S:=S3 sb pc qc) (Tch.set (S:=S3 sb pc qc) (Tch.set (S:=S3 sb pc qc) T3.out (.inr (by simp;omega)) _) (.inr (by simp;omega)) _) (.inr (by simp;omega)) _⟩
theorem callAns (vs:Array Value) (w:World):(callFunc 36 vs).run Tryz.prog w=.ok (.enter 36 vs) w:=by simp [go_sem]
set_option maxHeartbeats 8000000 in
theorem scall_c (sb lb pc qc:Nat) (nm:ByteArray) (r1 r2 er:Int) (W:World) (h0:W.cell? ⟨sb,0,none⟩=some (.pointer (some ⟨lb,0,none⟩))) (h7:W.cell? ⟨sb,7,none⟩=some (.pointer (some ⟨pc,0,none⟩))) (h8:W.cell? ⟨sb,8,none⟩=some (.int .i64 2)) (hpl:pc<W.heap.size) (hql:qc<W.heap.size)
    (HA:Hid (∀ w,Below W.heap.size W w→Calls Tryz.prog 36 #[.pointer (some ⟨sb,0,none⟩),.agg #[.int .i64 0,.string nm],.agg #[.pointer (some ⟨pc,0,none⟩),.int .i64 2]] w fun e w'=>e=.returned (.agg #[.int .i64 r1,.int .i64 r2,.int .i64 er])∧Tch (S3 sb pc qc) w w')) :
    Calls Tryz.prog 13 #[.pointer (some ⟨sb,0,none⟩),.agg #[.int .i64 0,.string nm]] W fun e w'=>e=.returned (.tuple #[.agg #[.int .i64 r1,.int .i64 r2],.int .i64 er])∧Tch (S3 sb pc qc) W w':=by
  have hsl:sb<W.heap.size:=World.block_lt_of_cell? _ _ h0
  obtain ⟨U,hU⟩:∃ U,U=(W.alloc (.cells #[.int .i64 0,.string nm] 49)).alloc (.cells #[.int .i64 0,.int .i64 0] 45):=⟨_,rfl⟩
  have BU:Hid (Below W.heap.size W U):=by rw [hU];exact ((Below.refl _ _).alloc (Nat.le_refl _) _).alloc (by simp) _
  have d0:U.heap[W.heap.size]?=some (.cells #[.int .i64 0,.string nm] 49 (0,0)):=by rw [hU];exact hkeep (halloc1 _ _)
  have d1:U.heap[W.heap.size+1]?=some (.cells #[.int .i64 0,.int .i64 0] 45 (0,0)):=by rw [hU];exact halloc2 _ _ (by simp)
  have hz:W.heap.size+1<U.heap.size:=lt_of_blk d1
  have D1:Hid (U.heap[W.heap.size+1]?=some (.cells #[.int .i64 0,.int .i64 0] 45 (0,0))):=d1
  have t0:U.cell? ⟨W.heap.size,0,none⟩=some (.int .i64 0):=(cell_of_row U _ 0 _ _ _ d0).trans rfl
  have t1:U.cell? ⟨W.heap.size,1,none⟩=some (.string nm):=(cell_of_row U _ 1 _ _ _ d0).trans rfl
  have a0:U.cell? ⟨sb,0,none⟩=some (.pointer (some ⟨lb,0,none⟩)):=(BU.out.cell (p:=⟨sb,0,none⟩) hsl).trans h0
  have a7:U.cell? ⟨sb,7,none⟩=some (.pointer (some ⟨pc,0,none⟩)):=(BU.out.cell (p:=⟨sb,7,none⟩) hsl).trans h7
  have a8:U.cell? ⟨sb,8,none⟩=some (.int .i64 2):=(BU.out.cell (p:=⟨sb,8,none⟩) hsl).trans h8
  have HM:Hid (Calls Tryz.prog 34 #[.pointer (some ⟨sb,0,none⟩)] U fun e w'=>e=.returned (.bool true)∧w'=U):=made_s a0
  have HU:Hid (U=(W.alloc (.cells #[.int .i64 0,.string nm] 49)).alloc (.cells #[.int .i64 0,.int .i64 0] 45)):=hU
  have q1:¬ sb=U.heap.size:=by omega
  have q3:sb<U.heap.size:=by omega
  have q4:W.heap.size<U.heap.size:=by omega
  have q2:¬ W.heap.size=U.heap.size:=by omega
  clear hU d0 d1 h0 h7 h8 a0
  go_enter Tryz.func13,Tryz.ntmps13
  go_upto_region 1 with fail
  rw [← HU.out]
  go_upto_region 3 with (go_at_call 34;refine HM.out.mono ?_;rintro e w' ⟨rfl,hw⟩;obtain rfl:=hw.symm;clear HM)
  go_cut [6] (fun s6 wx=>Hid (∃ g,s6=.pointer (some ⟨g,0,none⟩)∧U.heap.size≤g∧wx.heap[g]?=some (.cells #[.int .i64 r1,.int .i64 r2,.int .i64 er] 110 (0,0))∧Tch (S3 sb pc qc) U wx))
  case first =>
    go_region_law (first
      | (refine step_call3 rfl 36 callAns (.tmp 11) (.tmp 12) (.tmp 16) 38 49 95 rfl (.pointer (some ⟨sb, 0, none⟩)) (.agg #[.int .i64 0, .string nm]) (.agg #[.pointer (some ⟨pc, 0, none⟩), .int .i64 2]) (by simp [Act.eval]) (by simp [Act.eval]) (by simp [Act.eval]) (HA.out _ (by first | exact BU.out.drew | exact (BU.out.drew).alloc BU.out.size _ | exact (BU.out.alloc BU.out.size _).drew)) ?_; rintro e w3 ⟨rfl, ht⟩; refine ⟨_, rfl, ?_⟩
         have X3:Hid (Tch (S3 sb pc qc) U w3):=Tch.trans (by first|exact (Tch.refl _ U).drew|exact ((Tch.refl _ U).drew).alloc _|exact ((Tch.refl _ U).alloc _).drew) ht (fun _ _ x=>x)
         (try (have zzB:Hid (w3.heap[U.heap.size]?=some (.cells #[.int .i64 0,.int .i64 0,.int .i64 0] 110 (0,0))):=(ht.blk U.heap.size (by simp;done) (by rintro (x|x|x) <;> omega)).trans (halloc1 _ _);have zz0:w3.cell? ⟨U.heap.size,0,none⟩=some (.int .i64 0):=(cell_of_row w3 _ 0 _ _ _ zzB.out).trans rfl;have zz1:w3.cell? ⟨U.heap.size,1,none⟩=some (.int .i64 0):=(cell_of_row w3 _ 1 _ _ _ zzB.out).trans rfl;have zz2:w3.cell? ⟨U.heap.size,2,none⟩=some (.int .i64 0):=(cell_of_row w3 _ 2 _ _ _ zzB.out).trans rfl;have zzf:=fun k=>frozen_of_row w3 U.heap.size k _ _ zzB.out))
         clear ht HA))
    all_goals (go_wp2_with fail)
    all_goals go_meet
    all_goals first
      | exact ⟨_,rfl,X3.out.size,halloc1 _ _,X3.out.alloc _⟩
      | exact ⟨_,rfl,Nat.le_refl _,by rw [Go.Joins.block_setCell (Go.Joins.block_setCell (Go.Joins.block_setCell zzB.out _) _)];rfl,Tch.set (S:=S3 sb pc qc) (Tch.set (S:=S3 sb pc qc) (Tch.set (S:=S3 sb pc qc) X3.out (.inr (by simp)) _) (.inr (by simp)) _) (.inr (by simp)) _⟩
  case rest =>
    obtain ⟨g,rfl,hg,hgB,hT⟩:=hcut.out
    obtain ⟨wa,rfl⟩:∃ wa,wa=wc:=⟨_,rfl⟩
    have d2:wa.heap[W.heap.size+1]?=some (.cells #[.int .i64 0,.int .i64 0] 45 (0,0)):=(hT.blk _ hz (by rintro (x|x|x) <;> omega)).trans D1.out
    have y0:wa.cell? ⟨g,0,none⟩=some (.int .i64 r1):=(cell_of_row wa _ 0 _ _ _ hgB).trans rfl
    have y1:wa.cell? ⟨g,1,none⟩=some (.int .i64 r2):=(cell_of_row wa _ 1 _ _ _ hgB).trans rfl
    have y2:wa.cell? ⟨g,2,none⟩=some (.int .i64 er):=(cell_of_row wa _ 2 _ _ _ hgB).trans rfl
    have u0:wa.cell? ⟨W.heap.size+1,0,none⟩=some (.int .i64 0):=(cell_of_row wa _ 0 _ _ _ d2).trans rfl
    have u1:wa.cell? ⟨W.heap.size+1,1,none⟩=some (.int .i64 0):=(cell_of_row wa _ 1 _ _ _ d2).trans rfl
    have uf:=fun k=>frozen_of_row wa (W.heap.size+1) k _ _ d2
    have hn1:¬ g=W.heap.size+1:=by omega
    have hn2:¬ W.heap.size+1=g:=by omega
    have TT:Hid (Tch (S3 sb pc qc) W wa):=((Tch.refl _ W).bel BU.out).trans hT (fun _ _ x=>x)
    clear hcut hgB hT d2 D1 t0 t1 a7 a8
    go_upto_region 4 with fail
    go_region
    all_goals go_wp2
    all_goals exact bodyPost_ret (v:=.tuple #[.agg #[.int .i64 r1,.int .i64 r2],.int .i64 er]) (by simp [results,Tryz.results13,go_sem, *]) rfl ⟨rfl,by first|exact Tch.set (S:=S3 sb pc qc) (Tch.set (S:=S3 sb pc qc) TT.out.drew (.inr (by simp)) _) (.inr (by simp)) _|exact (Tch.set (S:=S3 sb pc qc) (Tch.set (S:=S3 sb pc qc) TT.out (.inr (by simp)) _) (.inr (by simp)) _).drew⟩
end Go.Proofs.YtenpnkkkjjdccaaGreat
