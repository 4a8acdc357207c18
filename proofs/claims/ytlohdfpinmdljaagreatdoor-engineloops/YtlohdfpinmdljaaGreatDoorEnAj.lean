import Derived.Test.YtlohdfpinmdljaaGreatDoorEnS
import Derived.Test.YtlohdfpinmdljaaGreatDoorEnAb
import Derived.Test.YtlohdfpinmdljaaGreatDoorEnV
import Derived.Test.YtlohdfpinmdljaaGreatDoorEnWd
import Derived.Test.YtlohdfpinmdljaaGreatDoorDcmL
set_option maxRecDepth 100000
namespace Go.Proofs.YtlohdfpinmdljaaGreatDoor.Sk
open Go.RowKit Go.Maps
theorem dup_e {W:World} {K:Nat→Prop} {sb rb:Nat} {p:PF} (h:StA W K sb [p]) (hn:¬ K rb) (hc:W.cell? ⟨rb,2,none⟩=some (.pointer (some ⟨sb,0,none⟩))) (ys:List (Bool×Int)) (v1:Bool) (v2:Int) (hx:p.xs=ys++[(v1,v2)]) (hr:ys.length+1<p.rm):Calls Tryz.prog 95 #[.pointer (some ⟨rb,0,none⟩)] W fun e w'=>e=.returned (.tuple #[])∧SkR K W w' sb [{ p with xs:=ys++[(v1,v2),(v1,v2)] }]:=by
  have HA:Hid (Calls Tryz.prog 94 #[.pointer (some ⟨rb,0,none⟩)] W fun e w'=>e=.returned (.agg #[.bool v1,.int .i64 v2])∧SkR K W w' sb [{ p with xs:=ys }]):=take_e h hc ys v1 v2 hx
  have HB:Hid (∀ K1 w,StA w K1 sb [{ p with xs:=ys }]→w.cell? ⟨rb,2,none⟩=some (.pointer (some ⟨sb,0,none⟩))→Calls Tryz.prog 153 #[.pointer (some ⟨rb,0,none⟩),.agg #[.bool v1,.int .i64 v2]] w fun e w'=>e=.returned (.tuple #[])∧SkR K1 w w' sb [{ p with xs:=ys++[(v1,v2)] }]):=fun K1 w s c=>put_e s c (by show ys.length<p.rm;omega) v1 v2
  have HD:Hid (∀ K1 w,StA w K1 sb [{ p with xs:=ys++[(v1,v2)] }]→w.cell? ⟨rb,2,none⟩=some (.pointer (some ⟨sb,0,none⟩))→Calls Tryz.prog 153 #[.pointer (some ⟨rb,0,none⟩),.agg #[.bool v1,.int .i64 v2]] w fun e w'=>e=.returned (.tuple #[])∧SkR K1 w w' sb [{ p with xs:=ys++[(v1,v2)]++[(v1,v2)] }]):=fun K1 w s c=>put_e s c (by show (ys++[(v1,v2)]).length<p.rm;simp;omega) v1 v2
  rw [show ys++[(v1,v2),(v1,v2)]=ys++[(v1,v2)]++[(v1,v2)] by simp]
  have C0:Hid (W.cell? ⟨rb,2,none⟩=some (.pointer (some ⟨sb,0,none⟩))):=hc
  have N0:Hid (¬ K rb):=hn
  clear h hc hx hr hn
  go_enter Tryz.func95,Tryz.ntmps95
  go_wp2_with (first
    | (go_at_call 153;refine (HD.out _ _ S2.out C2.out).mono ?_;rintro e w3 ⟨rfl,hk⟩;have R3:=SkR.trans A2.out T2.out hk;clear hk HD)
    | (go_at_call 153; refine (HB.out _ _ (S1.out.below ((Below.refl _ _).alloc (Nat.le_refl _) _)) (kc ((Below.refl _ _).alloc (Nat.le_refl _) _) C1.out)).mono ?_; rintro e w2 ⟨rfl, hk⟩
       have hk0:=hk
       obtain ⟨_,_,_,t2⟩:=hk0
       obtain ⟨b0,b1,_,_⟩:=r2c (halloc1 w1 (.cells #[.bool v1,.int .i64 v2] 32))
       have x0:w2.cell? ⟨w1.heap.size,0,none⟩=some (.bool v1):=tchCell t2 N1.out b0
       have x1:w2.cell? ⟨w1.heap.size,1,none⟩=some (.int .i64 v2):=tchCell t2 N1.out b1
       obtain ⟨K2,s2,a2,t3⟩:=SkR.trans A1.out (T1.out.alloc _) hk
       have S2:Hid (StA w2 K2 sb [{ p with xs:=ys++[(v1,v2)] }]):=s2
       have A2:Hid (∀ j,K2 j→K j∨W.heap.size≤j):=a2
       have T2:Hid (Tch K W w2):=t3
       have C2:Hid (w2.cell? ⟨rb,2,none⟩=some (.pointer (some ⟨sb,0,none⟩))):=tchCell t3 N0.out C0.out
       clear hk t2 b0 b1 s2 a2 t3 HB S1 A1 T1 C1 N1)
    | (go_at_call 94; refine (HA.out).mono ?_; rintro e w1 ⟨rfl, hk⟩
       obtain ⟨K1,s1,a1,t1⟩:=hk
       have S1:Hid (StA w1 K1 sb [{ p with xs:=ys }]):=s1
       have A1:Hid (∀ j,K1 j→K j∨W.heap.size≤j):=a1
       have T1:Hid (Tch K W w1):=t1
       have N1:Hid (¬ K1 w1.heap.size):=fun x=>by have:=s1.lt x;omega
       have C1:Hid (w1.cell? ⟨rb,2,none⟩=some (.pointer (some ⟨sb,0,none⟩))):=tchCell t1 N0.out C0.out
       clear s1 a1 t1 HA))
  exact bodyPost_end (results_none rfl _ _ _) rfl ⟨rfl,R3⟩
set_option maxHeartbeats 2000000 in
theorem store_e {W:World} {K:Nat→Prop} {sb rb:Nat} {p:PF} (h:StA W K sb [p]) (hn:¬ K rb) (hc:W.cell? ⟨rb,2,none⟩=some (.pointer (some ⟨sb,0,none⟩))) (ys:List (Bool×Int)) (v2:Int) (hx:p.xs=ys++[(false,v2)]) (i:Nat) (hi:i<p.ls.length):Calls Tryz.prog 91 #[.pointer (some ⟨rb,0,none⟩),inV (3,(i:Int))] W fun e w'=>e=.returned (.tuple #[])∧SkR K W w' sb [{ p with xs:=ys,ls:=p.ls.set i (false,v2) }]:=by
  have hrb:rb<W.heap.size:=World.block_lt_of_cell? W _ hc
  have HA:Hid (∀ w,Below W.heap.size W w→Calls Tryz.prog 156 #[.pointer (some ⟨rb,0,none⟩),.bool false] w fun e w'=>e=.returned (.agg #[.bool false,.int .i64 v2])∧SkR K w w' sb [{ p with xs:=ys }]):=fun w hb=>takeKind_e (h.below hb) (kc hb hc) ys v2 hx
  have HB:Hid (∀ K1 w,StA w K1 sb [{ p with xs:=ys }]→Calls Tryz.prog 86 #[.pointer (some ⟨sb,0,none⟩),.int .i64 (i:Int),.agg #[.bool false,.int .i64 v2]] w fun e w'=>e=.returned (.int .i64 0)∧SkR K1 w w' sb [{ p with xs:=ys,ls:=p.ls.set i (false,v2) }]):=fun K1 w s=>setl_r s i hi false v2
  have HK:Hid (∀ w:World,Calls Tryz.prog 72 #[.int .i64 0] w fun e w'=>e=.returned (.tuple #[])∧w'=w):=fun w=>chk_ok w
  have C0:Hid (W.cell? ⟨rb,2,none⟩=some (.pointer (some ⟨sb,0,none⟩))):=hc
  have N0:Hid (¬ K rb):=hn
  have M0:Hid (¬ K W.heap.size):=fun x=>by have:=h.lt x;omega
  have R0:Hid (rb<W.heap.size):=hrb
  clear h hc hx hn hi hrb
  unfold inV
  go_enter Tryz.func91,Tryz.ntmps91
  go_upto_region 2 with (first
    | (go_at_call 156; refine (HA.out _ ((Below.refl _ _).alloc (Nat.le_refl _) _)).mono ?_; rintro e w1 ⟨rfl, K1, s1, a1, t1⟩
       have hb0:=halloc1 W (.cells #[.int .i64 3,.int .i64 (i:Int),.string ⟨#[]⟩,.bool false,.string ⟨#[]⟩,.string ⟨#[]⟩,.string ⟨#[]⟩] 28)
       have b1:(W.alloc (.cells #[.int .i64 3,.int .i64 (i:Int),.string ⟨#[]⟩,.bool false,.string ⟨#[]⟩,.string ⟨#[]⟩,.string ⟨#[]⟩] 28)).cell? ⟨W.heap.size,1,none⟩=some (.int .i64 (i:Int)):=(cell_of_row _ _ 1 _ _ _ hb0).trans rfl
       have y1:w1.cell? ⟨W.heap.size,1,none⟩=some (.int .i64 (i:Int)):=tchCell t1 M0.out b1
       have y2:w1.cell? ⟨rb,2,none⟩=some (.pointer (some ⟨sb,0,none⟩)):=tchCell t1 N0.out (kc ((Below.refl _ _).alloc (Nat.le_refl _) _) C0.out)
       have M1:Hid (¬ K1 W.heap.size):=fun x=>(a1 _ x).elim M0.out (fun z=>by rw [World.size_alloc] at z;omega)
       have P1:Hid (¬ K1 rb):=fun x=>(a1 _ x).elim N0.out (fun z=>by have:=R0.out;simp at z;omega)
       have S1:Hid (StA w1 K1 sb [{ p with xs:=ys }]):=s1
       have A1:Hid (∀ j,K1 j→K j∨W.heap.size≤j):=fun j hj=>(a1 j hj).imp id (fun z=>by simp at z;omega)
       have T1:Hid (Tch K W w1):=((Tch.refl K W).alloc _).trans t1 (fun _ _ x=>x)
       have hz1:W.heap.size+1≤w1.heap.size:=(by have:=t1.size;simpa using this)
       clear hb0 b1 s1 a1 t1 HA))
  have N1:Hid (¬ K1 w1.heap.size):=fun x=>by have:=S1.out.lt x;omega
  have hb2:=halloc1 w1 (.cells #[.bool false,.int .i64 v2] 32)
  obtain ⟨z0,z1,_,_⟩:=r2c hb2
  have x1:(w1.alloc (.cells #[.bool false,.int .i64 v2] 32)).cell? ⟨W.heap.size,1,none⟩=some (.int .i64 (i:Int)):=kc ((Below.refl _ _).alloc (Nat.le_refl _) _) y1
  have x2:(w1.alloc (.cells #[.bool false,.int .i64 v2] 32)).cell? ⟨rb,2,none⟩=some (.pointer (some ⟨sb,0,none⟩)):=kc ((Below.refl _ _).alloc (Nat.le_refl _) _) y2
  have BA:Hid (Below w1.heap.size w1 (w1.alloc (.cells #[.bool false,.int .i64 v2] 32))):=(Below.refl _ _).alloc (Nat.le_refl _) _
  generalize w1.alloc (.cells #[.bool false,.int .i64 v2] 32)=U at *
  clear hb2
  go_region_held3 (fun w'=>w'.cell? ⟨W.heap.size,1,none⟩=some (.int .i64 (i:Int))∧w'.cell? ⟨rb,2,none⟩=some (.pointer (some ⟨sb,0,none⟩))∧w'.cell? ⟨w1.heap.size,0,none⟩=some (.bool false)∧w'.cell? ⟨w1.heap.size,1,none⟩=some (.int .i64 v2)) (first|go_keep|exact HS2.out) (first
    | (go_at_call 72;refine (HK.out _).mono ?_;rintro e w3 ⟨rfl,hw⟩;obtain rfl:=hw.symm)
    | (go_at_call 86;refine (HB.out _ _ (S1.out.below (Below.step BA.out (Below.refl _ _).drew))).mono ?_;rintro e w2 ⟨rfl,hk⟩;have hk0:=hk;obtain ⟨_,_,_,t2⟩:=hk0;have R2:=SkR.trans A1.out (T1.out.bel (Below.step BA.out (Below.refl _ _).drew)) hk;have HS2:Hid (w2.cell? ⟨W.heap.size,1,none⟩=some (.int .i64 (i:Int))∧w2.cell? ⟨rb,2,none⟩=some (.pointer (some ⟨sb,0,none⟩))∧w2.cell? ⟨w1.heap.size,0,none⟩=some (.bool false)∧w2.cell? ⟨w1.heap.size,1,none⟩=some (.int .i64 v2)):=⟨tchCell t2 M1.out (kc (Below.refl _ _).drew x1),tchCell t2 P1.out (kc (Below.refl _ _).drew x2),tchCell t2 N1 (kc (Below.refl _ _).drew z0),tchCell t2 N1 (kc (Below.refl _ _).drew z1)⟩;clear hk t2 HB))
  all_goals go_wp2
  all_goals exact bodyPost_end (results_none rfl _ _ _) rfl ⟨rfl,R2⟩
set_option maxHeartbeats 1000000 in
theorem do_dup {W:World} {rb:Nat} {n:Int} {Q:World→Prop} (HL:Hid (∀ w,Below W.heap.size W w→Calls Tryz.prog 95 #[.pointer (some ⟨rb,0,none⟩)] w fun e w'=>e=.returned (.tuple #[])∧Q w')):Calls Tryz.prog 50 #[.pointer (some ⟨rb,0,none⟩),inV (20,n)] W fun e w'=>e=.returned (.tuple #[])∧Q w':=by
  unfold inV
  go_enter Tryz.func50,Tryz.ntmps50
  go_wp2_with (go_at_call 95;refine (HL.out _ (by repeat (first|exact Below.refl _ _|refine Below.setCell ?_ (by simp;try omega) _|refine Below.alloc ?_ (by simp;try omega) _|refine Below.drew ?_))).mono ?_;rintro e w1 ⟨rfl,hq⟩)
  exact bodyPost_end (results_none rfl _ _ _) rfl ⟨rfl,hq⟩
set_option maxHeartbeats 1000000 in
theorem do_store {W:World} {rb:Nat} {n:Int} {Q:World→Prop} (HL:Hid (∀ w,Below W.heap.size W w→Calls Tryz.prog 91 #[.pointer (some ⟨rb,0,none⟩),.agg #[.int .i64 3,.int .i64 n,.string ⟨#[]⟩,.bool false,.string ⟨#[]⟩,.string ⟨#[]⟩,.string ⟨#[]⟩]] w fun e w'=>e=.returned (.tuple #[])∧Q w')):Calls Tryz.prog 50 #[.pointer (some ⟨rb,0,none⟩),inV (3,n)] W fun e w'=>e=.returned (.tuple #[])∧Q w':=by
  unfold inV
  go_enter Tryz.func50,Tryz.ntmps50
  go_wp2_with (go_at_call 91;refine (HL.out _ (by repeat (first|exact Below.refl _ _|refine Below.setCell ?_ (by simp;try omega) _|refine Below.alloc ?_ (by simp;try omega) _|refine Below.drew ?_))).mono ?_;rintro e w1 ⟨rfl,hq⟩)
  exact bodyPost_end (results_none rfl _ _ _) rfl ⟨rfl,hq⟩
theorem stp_dup {W:World} {K:Nat→Prop} {rb:Nat} {A:RA} {sp nx:Nat} {p:PF} (h:RuAt W K rb A sp nx p) (n:Int) (hi:A.code[nx]?=some (20,n)) (hz:A.code.length≤1000) (hsp:(sp:Int)<A.fu) (hfu:A.fu≤100000) (ys:List (Bool×Int)) (v1:Bool) (v2:Int) (hx:p.xs=ys++[(v1,v2)]) (hr:ys.length+1<p.rm) :
    Calls Tryz.prog 26 #[.pointer (some ⟨rb,0,none⟩)] W fun e w'=>e=.returned (.tuple #[])∧RuR K W w' rb A (sp+1) (nx+1) { p with xs:=ys++[(v1,v2),(v1,v2)] } :=
  step_e h 20 n hi hz hsp hfu _ (.inl rfl) _ fun _ hw ht=>do_dup fun _ hb=>(dup_e (hw.below hb).sk (hw.below hb).nr (hw.below hb).c.2.1 ys v1 v2 hx hr).mono fun _ _ x=>⟨x.1,ruR_of (hw.below hb) (ht.bel hb) x.2⟩
theorem stp_store {W:World} {K:Nat→Prop} {rb:Nat} {A:RA} {sp nx:Nat} {p:PF} (h:RuAt W K rb A sp nx p) (i:Nat) (hi:A.code[nx]?=some (3,(i:Int))) (hz:A.code.length≤1000) (hsp:(sp:Int)<A.fu) (hfu:A.fu≤100000) (ys:List (Bool×Int)) (v2:Int) (hx:p.xs=ys++[(false,v2)]) (hl:i<p.ls.length) :
    Calls Tryz.prog 26 #[.pointer (some ⟨rb,0,none⟩)] W fun e w'=>e=.returned (.tuple #[])∧RuR K W w' rb A (sp+1) (nx+1) { p with xs:=ys,ls:=p.ls.set i (false,v2) } :=
  step_e h 3 i hi hz hsp hfu _ (.inl rfl) _ fun _ hw ht=>do_store fun _ hb=>(store_e (hw.below hb).sk (hw.below hb).nr (hw.below hb).c.2.1 ys v2 hx i hl).mono fun _ _ x=>⟨x.1,ruR_of (hw.below hb) (ht.bel hb) x.2⟩
theorem met13_e {W:World} {K:Nat→Prop} {sb rb:Nat} {p:PF} (h:StA W K sb [p]) (hc:W.cell? ⟨rb,2,none⟩=some (.pointer (some ⟨sb,0,none⟩))) (ys:List (Bool×Int)) (v:Int) (hx:p.xs=ys++[(false,v)]):Calls Tryz.prog 160 #[.pointer (some ⟨rb,0,none⟩),.int .i64 13] W fun e w'=>e=.returned (.bool (decide (¬ v=0)))∧SkR K W w' sb [{ p with xs:=ys }]:=by
  have HA:Hid (Calls Tryz.prog 157 #[.pointer (some ⟨rb,0,none⟩)] W fun e w'=>e=.returned (.int .i64 v)∧SkR K W w' sb [{ p with xs:=ys }]):=takeInt_e h hc ys v hx
  clear h hc hx
  by_cases hv:v=0
  · subst hv
    go_enter Tryz.func160,Tryz.ntmps160
    go_wp2_with (go_at_call 157;refine (HA.out).mono ?_;rintro e w1 ⟨rfl,hk⟩;have R1:Hid _:=hk;clear hk)
    go_ret
    exact ⟨rfl,R1.out⟩
  · go_enter Tryz.func160,Tryz.ntmps160
    go_wp2_with (go_at_call 157;refine (HA.out).mono ?_;rintro e w1 ⟨rfl,hk⟩;have R1:Hid _:=hk;clear hk)
    go_ret
    exact ⟨by simp [hv],R1.out⟩
theorem jump_e {W:World} {K:Nat→Prop} {rb:Nat} {A:RA} {sp nx:Nat} {p:PF} (h:RuAt W K rb A sp nx p) (n:Nat) (ys:List (Bool×Int)) (v:Int) (hx:p.xs=ys++[(false,v)]):Calls Tryz.prog 93 #[.pointer (some ⟨rb,0,none⟩),inV (13,(n:Int))] W fun e w'=>e=.returned (.tuple #[])∧RuR K W w' rb A sp (if v=0 then nx else n) { p with xs:=ys }:=by
  have HA:Hid (∀ w,Below W.heap.size W w→Calls Tryz.prog 160 #[.pointer (some ⟨rb,0,none⟩),.int .i64 13] w fun e w'=>e=.returned (.bool (decide (¬ v=0)))∧RuR K w w' rb A sp nx { p with xs:=ys }):=fun w hb=>(met13_e (h.below hb).sk (h.below hb).c.2.1 ys v hx).mono fun _ _ ⟨a1,a2⟩=>⟨a1,ruR_of (h.below hb) (Tch.refl _ w) a2⟩
  have M0:Hid (¬ (K W.heap.size∨W.heap.size=rb∨W.heap.size=A.fb)):=fun x=>by
    have h1:=h.rl
    have h2:=h.fbl
    rcases x with x|x|x
    · have:=h.sk.lt x;omega
    · omega
    · omega
  clear h hx
  unfold inV
  by_cases hv:v=0
  · rw [if_pos hv]
    rw [show decide (¬ v=0)=false by simp [hv]] at HA
    go_enter Tryz.func93,Tryz.ntmps93
    go_wp2_with (go_at_call 160;refine (HA.out _ ((Below.refl _ _).alloc (Nat.le_refl _) _)).mono ?_;rintro e w1 ⟨rfl,hk⟩;obtain ⟨K1,r1,a1,t1⟩:=hk;have R1:Hid (RuR K W w1 rb A sp nx { p with xs:=ys }):=⟨K1,r1,fun j hj=>(a1 j hj).imp id (fun x=>Nat.le_trans (Nat.le_of_lt (by rw [World.size_alloc];omega)) x),((Tch.refl _ W).bel ((Below.refl _ _).alloc (Nat.le_refl _) _)).trans t1 (fun _ _ x=>x)⟩;clear r1 a1 t1)
    exact bodyPost_end (results_none rfl _ _ _) rfl ⟨rfl,R1.out⟩
  · rw [if_neg hv]
    rw [show decide (¬ v=0)=true by simp [hv]] at HA
    go_enter Tryz.func93,Tryz.ntmps93
    go_upto_region 2 with (first
      | (go_at_call 160; refine (HA.out _ ((Below.refl _ _).alloc (Nat.le_refl _) _)).mono ?_; rintro e w1 ⟨rfl, hk⟩
         obtain ⟨K1,r1,a1,t1⟩:=hk
         have hb0:=halloc1 W (.cells #[.int .i64 13,.int .i64 (n:Int),.string ⟨#[]⟩,.bool false,.string ⟨#[]⟩,.string ⟨#[]⟩,.string ⟨#[]⟩] 28)
         have b1:(W.alloc (.cells #[.int .i64 13,.int .i64 (n:Int),.string ⟨#[]⟩,.bool false,.string ⟨#[]⟩,.string ⟨#[]⟩,.string ⟨#[]⟩] 28)).cell? ⟨W.heap.size,1,none⟩=some (.int .i64 (n:Int)):=(cell_of_row _ _ 1 _ _ _ hb0).trans rfl
         have y1:w1.cell? ⟨W.heap.size,1,none⟩=some (.int .i64 (n:Int)):=tchCell t1 M0.out b1
         have R1:Hid (RuAt w1 K1 rb A sp nx { p with xs:=ys }):=r1
         have A1:Hid (∀ j,K1 j→K j∨W.heap.size≤j):=fun j hj=>(a1 j hj).imp id (fun x=>Nat.le_trans (Nat.le_of_lt (by rw [World.size_alloc];omega)) x)
         have T1:Hid (Tch (fun j=>K j∨j=rb∨j=A.fb) W w1):=((Tch.refl _ W).bel ((Below.refl _ _).alloc (Nat.le_refl _) _)).trans t1 (fun _ _ x=>x)
         clear hb0 b1 r1 a1 t1 HA))
    have HT:Hid (∀ w,Below w1.heap.size w1 w→Calls Tryz.prog 48 #[.pointer (some ⟨rb,0,none⟩)] w fun e w'=>e=.returned (.pointer (some ⟨A.fb,0,none⟩))∧w'=w.drew):=fun w hb=>top_e (R1.out.below hb).c.2.2.1
    have z8:=R1.out.f.2.2.1
    have zf:=R1.out.f.2.2.2
    have hl1:=World.block_lt_of_cell? w1 _ y1
    go_region_with (go_at_call 48;refine (HT.out _ (by first|exact Below.refl _ _|exact (Below.refl _ _).drew)).mono ?_;rintro e w2 ⟨rfl,hw⟩;obtain rfl:=hw.symm)
    all_goals go_wp2
    all_goals
      refine bodyPost_end (results_none rfl _ _ _) rfl ⟨rfl,?_⟩
      exact ⟨K1,(R1.out.setNx n).below (by first|exact ((Below.refl _ _).drew).drew|exact (Below.refl _ _).drew|exact Below.refl _ _),A1.out,((T1.out.set (p:=⟨A.fb,8,none⟩) (.inl (.inr (.inr rfl))) _).drew).drew⟩
set_option maxHeartbeats 1000000 in
theorem do_ifne {W:World} {rb:Nat} {n:Int} {Q:World→Prop} (HL:Hid (∀ w,Below W.heap.size W w→Calls Tryz.prog 93 #[.pointer (some ⟨rb,0,none⟩),.agg #[.int .i64 13,.int .i64 n,.string ⟨#[]⟩,.bool false,.string ⟨#[]⟩,.string ⟨#[]⟩,.string ⟨#[]⟩]] w fun e w'=>e=.returned (.tuple #[])∧Q w')):Calls Tryz.prog 50 #[.pointer (some ⟨rb,0,none⟩),inV (13,n)] W fun e w'=>e=.returned (.tuple #[])∧Q w':=by
  unfold inV
  go_enter Tryz.func50,Tryz.ntmps50
  go_wp2_with (go_at_call 93;refine (HL.out _ (by repeat (first|exact Below.refl _ _|refine Below.setCell ?_ (by simp;try omega) _|refine Below.alloc ?_ (by simp;try omega) _|refine Below.drew ?_))).mono ?_;rintro e w1 ⟨rfl,hq⟩)
  exact bodyPost_end (results_none rfl _ _ _) rfl ⟨rfl,hq⟩
theorem stp_ifne {W:World} {K:Nat→Prop} {rb:Nat} {A:RA} {sp nx:Nat} {p:PF} (h:RuAt W K rb A sp nx p) (n:Nat) (hi:A.code[nx]?=some (13,(n:Int))) (hz:A.code.length≤1000) (hsp:(sp:Int)<A.fu) (hfu:A.fu≤100000) (ys:List (Bool×Int)) (v:Int) (hx:p.xs=ys++[(false,v)]) :
    Calls Tryz.prog 26 #[.pointer (some ⟨rb,0,none⟩)] W fun e w'=>e=.returned (.tuple #[])∧RuR K W w' rb A (sp+1) (if v=0 then nx+1 else n) { p with xs:=ys } :=
  step_e h 13 n hi hz hsp hfu _ (.inl rfl) _ fun _ hw ht=>do_ifne fun _ hb=>(jump_e (hw.below hb) n ys v hx).mono fun _ _ ⟨x,K1,r1,a1,t1⟩ =>
    ⟨x,K1,r1,fun j hj=>(a1 j hj).imp id (fun y=>Nat.le_trans (ht.bel hb).size y),((ht.bel hb).mono fun _ _ hk=>.inr hk).trans t1 fun _ _ y=>y⟩
def cdL:List (Int×Int):=[(2,0),(39,0),(2,0),(1,1),(8,0),(20,0),(3,0),(13,0),(38,0)]
def bIV:ByteArray:=⟨#[40,73,41,86]⟩
def clL:Cls:=clS bMain bIV 4 6 cdL
theorem wL_cas:casI (wld [clL]) 3 4 0 ⟨#[]⟩=0:=by decide +kernel
theorem wL_crf:crfI 4 false bMain ⟨#[102]⟩ bIV=0:=by decide +kernel
theorem wL_met:metR (wld [clL]) 3 false bMain ⟨#[102]⟩ bIV=((3,0),0):=by decide +kernel
theorem wL_fts:ftsB (wld [clL]) 4 (3,0)=true:=by decide +kernel
theorem wL_hld:hldR (wld [clL]) 0 bMain=(3,0):=by decide +kernel
theorem wL_rck:rckE [77,97,105,110] [102] [40,73,41,86]=0:=by decide +kernel
theorem wL_pd:pdE [40,73,41,86]=0∧pdD [40,73,41,86]=([(0,[])],none):=by decide +kernel
theorem wL_w:ClsW clL:=by
  unfold ClsW
  refine ⟨by decide,by decide,fun p hp=>(by simp [clL,clS] at hp),by decide,by decide,fun m hm=>?_⟩
  simp [clL,clS] at hm
  subst hm
  unfold MthW
  refine ⟨by decide,by decide,by decide,by decide,by decide,fun i hi=>?_⟩
  simp [cdL] at hi
  rcases hi with rfl|rfl|rfl|rfl|rfl|rfl|rfl|rfl|rfl <;> (refine ⟨by decide,?_⟩;simp [InsOK,insI];exact Nat.zero_le _)
theorem wL_plc:(plcI (wld [clL]) 3).map (fun q=>q.c)=some (hcOf clL):=by kernel_rfl
theorem wL_meth:∃ q m,plcI (wld [clL]) 3=some q∧methP q 0=some m∧PlcB q∧m=hmOf ⟨⟨#[102]⟩,bIV,9,4,6,cdL.map insI⟩:=by
  cases e:plcI (wld [clL]) 3 with
  | none=>have:=wL_plc;rw [e] at this;cases this
  | some q =>
    have h:=wL_plc
    rw [e] at h
    have hq:q.c=hcOf clL:=by simpa using h
    refine ⟨q,hmOf ⟨⟨#[102]⟩,bIV,9,4,6,cdL.map insI⟩,rfl,by rw [methP,hq];rfl,?_,rfl⟩
    refine (wld_wi [clL] (fun c hc=>by simp at hc;subst hc;exact wL_w)).pb q ?_
    rcases plcI_cases (wld [clL]) 3 with ⟨h1,_⟩|⟨k,q',_,h2,h1⟩
    · rw [h1] at e;cases e
    · rw [h1] at e;cases e;exact List.mem_of_getElem? h2
theorem descL (W:World):Calls Tryz.prog 18 #[.string bIV] W fun e w'=>(∃ a c vo x s,e=.returned (.tuple #[.agg #[.slice a 1 c,.bool vo,.int .i64 x,.string s],.int .i64 0])∧vo=true∧x=0∧s=⟨#[]⟩∧∀ j,j<1→∃ g,a=some ⟨g,0,none⟩∧w'.cell? ⟨g,j * 2,none⟩=some (.int .i64 0)∧w'.cell? ⟨g,j * 2+1,none⟩=some (.string ⟨#[]⟩))∧Below W.heap.size W w':=by
  refine (parseDesc_any bIV (by decide) W).mono ?_
  rintro e w' ⟨v,rfl,ho,hb⟩
  rw [show bIV.data.toList=[40,73,41,86] from rfl,wL_pd.2] at *
  rw [wL_pd.1]
  obtain ⟨g,c,rfl⟩:=Go.Joins.ownsRow_form ho (by decide)
  refine ⟨⟨_,c,_,_,_,rfl,rfl,rfl,rfl,fun j hj=>⟨g,rfl,?_,?_⟩⟩,hb⟩
  · match j,hj with
    | 0,_=>exact (ho.cellAt 0 (by decide)).trans rfl
  · match j,hj with
    | 0,_=>exact (ho.cellAt 1 (by decide)).trans rfl
def nxL (n k:Nat):Nat:=if k=8 * n then 8 else k % 8
def xsL (m:Int) (j:Nat):List (Bool×Int):=if j=0∨j=2 then [] else if j=1∨j=3 then [(false,m)] else if j=4 then [(false,m),(false,1)] else if j=6 then [(false,m - 1),(false,m - 1)] else [(false,m - 1)]
def lsL (m:Int):List (Bool×Int):=[(false,m),(false,0),(false,0),(false,0)]
def pfL (n k:Nat):PF:=⟨xsL ((n:Int) - (k / 8:Nat)) (k % 8),6,lsL (if k % 8=7 then (n:Int) - (k / 8:Nat) - 1 else (n:Int) - (k / 8:Nat))⟩
def linesL (n:Nat):Nat→List UInt8
  | 0=>[]
  | c+1=>linesL n c++Lib.itoa ((n:Int) - (c:Nat))++[10]
def outL (n k:Nat):List UInt8:=linesL n ((k+6) / 8)
theorem nx_at {n k i j:Nat} (hk:k=8 * i+j) (hj:j<8) (hi:i<n):nxL n k=j:=by
  rw [nxL,if_neg (by omega)];omega
theorem pf_at {n k i j:Nat} (hk:k=8 * i+j) (hj:j<8):pfL n k=⟨xsL ((n:Int) - (i:Nat)) j,6,lsL (if j=7 then (n:Int) - (i:Nat) - 1 else (n:Int) - (i:Nat))⟩:=by
  rw [pfL,show k / 8=i by omega,show k % 8=j by omega]
theorem out_at {n k i j:Nat} (hk:k=8 * i+j) (hj:j<8):outL n k=linesL n (if j<2 then i else i+1):=by
  rw [outL];congr 1;split <;> omega
theorem itoa_len {m:Int} (h:0≤m∧m≤400):(Lib.itoa m).length≤3:=by
  obtain ⟨k,rfl⟩:=Int.eq_ofNat_of_zero_le h.1
  have hk:k<401:=by omega
  have hall:((List.range 401).all fun k=>decide ((Lib.itoa (k:Int)).length≤3))=true:=by decide +kernel
  simpa using List.all_eq_true.1 hall k (List.mem_range.2 hk)
theorem lines_len {n:Nat} (hn:n≤400):∀ c,c≤n→(linesL n c).length≤4 * c
  | 0,_=>Nat.zero_le _
  | c+1,h=>by
    have h1:=lines_len hn c (by omega)
    have h2:=itoa_len (m:=(n:Int) - (c:Nat)) ⟨by omega,by omega⟩
    rw [linesL,List.length_append,List.length_append]
    simp only [List.length_singleton]
    omega
theorem w32_s {m:Int} (h:0≤m∧m≤400):wrap32 (cmpI 8 m 1)=m - 1:=by
  show wrap32 (m - 1)=m - 1
  unfold wrap32;omega
def GAL (fuel:Int) (A:RA):Prop:=A.code=cdL∧A.ds=bIV∧A.fu=fuel
theorem stpL {n M:Nat} {fuel:Int} (hn:n≤400) (hM:M≤8 * n) (hf:(M:Int)≤fuel) (hf2:fuel≤4000):StpO (GAL fuel) (nxL n) (pfL n) (outL n) M:=by
  intro rb A ⟨hc,_,hfu⟩ k hk K w B hr ho hB hT hK h1 h2
  obtain ⟨i,j,hkj,hj⟩:∃ i j,k=8 * i+j∧j<8:=⟨k / 8,k % 8,by omega,by omega⟩
  have hi:i<n:=by omega
  have hz:A.code.length≤1000:=by rw [hc];decide
  have hsp:(k:Int)<A.fu:=by rw [hfu];omega
  have hfl:A.fu≤100000:=by rw [hfu];omega
  have hm:0≤(n:Int) - (i:Nat)∧(n:Int) - (i:Nat)≤400:=by omega
  rw [nx_at hkj hj hi,pf_at hkj hj] at hr
  rw [out_at hkj hj] at ho
  match j,hj with
  | 0,_ =>
    rw [nx_at (i:=i) (j:=1) (by omega) (by omega) hi,pf_at (i:=i) (j:=1) (by omega) (by omega),out_at (i:=i) (j:=1) (by omega) (by omega)]
    exact (stp_load hr 0 ((n:Int) - (i:Nat)) (by rw [hc];rfl) hz hsp hfl rfl (by show 0<6;decide)).mono fun e w' ⟨he,h⟩=>⟨he,RuR.o ho h⟩
  | 1,_ =>
    rw [nx_at (i:=i) (j:=2) (by omega) (by omega) hi,pf_at (i:=i) (j:=2) (by omega) (by omega),out_at (i:=i) (j:=2) (by omega) (by omega)]
    have hl:=lines_len hn i (by omega)
    have hl2:=itoa_len hm
    exact stp_print hr ho hB hT hK h1 h2 0 (by rw [hc];rfl) hz hsp hfl [] ((n:Int) - (i:Nat)) rfl (by unfold I32;omega) (by show (linesL n i).length+_+1≤4096;omega)
  | 2,_ =>
    rw [nx_at (i:=i) (j:=3) (by omega) (by omega) hi,pf_at (i:=i) (j:=3) (by omega) (by omega),out_at (i:=i) (j:=3) (by omega) (by omega)]
    exact (stp_load hr 0 ((n:Int) - (i:Nat)) (by rw [hc];rfl) hz hsp hfl rfl (by show 0<6;decide)).mono fun e w' ⟨he,h⟩=>⟨he,RuR.o ho h⟩
  | 3,_ =>
    rw [nx_at (i:=i) (j:=4) (by omega) (by omega) hi,pf_at (i:=i) (j:=4) (by omega) (by omega),out_at (i:=i) (j:=4) (by omega) (by omega)]
    exact (stp_iconst hr 1 (by rw [hc];rfl) hz hsp hfl (by show 1<6;decide)).mono fun e w' ⟨he,h⟩=>⟨he,RuR.o ho h⟩
  | 4,_ =>
    rw [nx_at (i:=i) (j:=5) (by omega) (by omega) hi,pf_at (i:=i) (j:=5) (by omega) (by omega),out_at (i:=i) (j:=5) (by omega) (by omega)]
    refine (stp_comp hr 8 0 (by rw [hc];rfl) hz hsp hfl [] ((n:Int) - (i:Nat)) 1 rfl (by show 0<6;decide) (.inr (.inl rfl)) (by unfold I32;omega) (by unfold I32;omega)).mono fun e w' ⟨he,h⟩=>⟨he,RuR.o ho ?_⟩
    rw [w32_s hm] at h
    exact h
  | 5,_ =>
    rw [nx_at (i:=i) (j:=6) (by omega) (by omega) hi,pf_at (i:=i) (j:=6) (by omega) (by omega),out_at (i:=i) (j:=6) (by omega) (by omega)]
    exact (stp_dup hr 0 (by rw [hc];rfl) hz hsp hfl [] false ((n:Int) - (i:Nat) - 1) rfl (by show 0+1<6;decide)).mono fun e w' ⟨he,h⟩=>⟨he,RuR.o ho h⟩
  | 6,_ =>
    rw [nx_at (i:=i) (j:=7) (by omega) (by omega) hi,pf_at (i:=i) (j:=7) (by omega) (by omega),out_at (i:=i) (j:=7) (by omega) (by omega)]
    exact (stp_store hr 0 (by rw [hc];rfl) hz hsp hfl [(false,(n:Int) - (i:Nat) - 1)] ((n:Int) - (i:Nat) - 1) rfl (by show 0<4;decide)).mono fun e w' ⟨he,h⟩=>⟨he,RuR.o ho h⟩
  | 7,_ =>
    have hnx:nxL n (k+1)=if (n:Int) - (i:Nat) - 1=0 then 8 else 0:=by
      rw [nxL];split <;> split <;> omega
    rw [hnx,pf_at (i:=i+1) (j:=0) (by omega) (by omega),out_at (i:=i+1) (j:=0) (by omega) (by omega)]
    refine (stp_ifne hr 0 (by rw [hc];rfl) hz hsp hfl [] ((n:Int) - (i:Nat) - 1) rfl).mono fun e w' ⟨he,h⟩=>⟨he,RuR.o ho ?_⟩
    have e1:(n:Int) - ((i+1:Nat):Int)=(n:Int) - (i:Nat) - 1:=by omega
    rw [e1]
    exact h
def pfA (k:Nat):PF:=⟨if k=0 then [] else if k=1 then [(false,5)] else if k=2 then [(false,5),(false,1)] else [(false,6)],2,lsI 1 [5] 1⟩
theorem runA_e {W:World} {ge lb b g c:Nat} (hw:WAt b (wld [clA]) W) (hg:W.cell? ⟨ge,0,none⟩=some (.pointer (some ⟨lb,0,none⟩))) (hl:W.cell? ⟨lb,0,none⟩=some (.pointer (some ⟨b,0,none⟩))) (hv:W.cell? ⟨g,0,none⟩=some (.int .i64 5)) :
    Calls Tryz.prog 6 #[.pointer (some ⟨ge,0,none⟩),.agg #[.bool false,.string ⟨#[65]⟩,.string ⟨#[102]⟩,.string ⟨#[40,73,41,73]⟩],.slice (some ⟨g,0,none⟩) 1 c,.int .i64 10] W fun e w'=>e=.returned (.tuple #[resV 0 true 6 4,.int .i64 0])∧Below W.heap.size W w':=by
  obtain ⟨q,m,hq,hm,hB,rfl⟩:=wA_meth
  have HD:Hid (∀ w,Calls Tryz.prog 18 #[.string ⟨#[40,73,41,73]⟩] w fun e w'=>(∃ a c vo x s,e=.returned (.tuple #[.agg #[.slice a 1 c,.bool vo,.int .i64 x,.string s],.int .i64 0])∧vo=false∧x=0∧s=⟨#[]⟩∧∀ j,j<1→∃ g,a=some ⟨g,0,none⟩∧w'.cell? ⟨g,j * 2,none⟩=some (.int .i64 0)∧w'.cell? ⟨g,j * 2+1,none⟩=some (.string ⟨#[]⟩))∧Below w.heap.size w w'):=fun w=>by
    refine (parseDesc_any ⟨#[40,73,41,73]⟩ (by decide) w).mono ?_
    rintro e w' ⟨v,rfl,ho,hb⟩
    rw [show (⟨#[40,73,41,73]⟩:ByteArray).data.toList=[40,73,41,73] from rfl,wA_pd.2] at *
    rw [wA_pd.1]
    obtain ⟨g,c,rfl⟩:=Go.Joins.ownsRow_form ho (by decide)
    refine ⟨⟨_,c,_,_,_,rfl,rfl,rfl,rfl,fun j hj=>⟨g,rfl,?_,?_⟩⟩,hb⟩
    · obtain rfl:j=0:=by omega
      exact (ho.cellAt 0 (by decide)).trans rfl
    · obtain rfl:j=0:=by omega
      exact (ho.cellAt 1 (by decide)).trans rfl
  refine run_stat hw (wld_wi [clA] (fun c hc=>by simp at hc;subst hc;exact wA_w)) hg hl ⟨#[65]⟩ ⟨#[102]⟩ ⟨#[40,73,41,73]⟩ (by decide) (by decide) (by decide) 0 ⟨#[65]⟩ 3 0 (by decide) (fun w=>?_) wA_hld 3 0 wA_cas wA_crf wA_met wA_fts wA_rck q hq _ hm hB cdA rfl (flatN_I cdA) (by decide) (by decide) (by decide) [5] (some ⟨g,0,none⟩) c (fun k x hk=>?_) (by decide) (by decide) (fun w=>?_) 10 id pfA 3 6 rfl rfl (fun A=>A.bb=.slice none 0 0∧A.code=cdA∧A.ds=⟨#[40,73,41,73]⟩∧A.fu=10) (fun A h=>h.1) (fun _ _ _ _ _ _=>⟨rfl,rfl,rfl,rfl⟩) ?_ ?_
  · have:=parseRef_any ⟨#[65]⟩ (by decide) w
    rw [show (⟨#[65]⟩:ByteArray).data.toList=[65] from rfl,wA_prf.1,wA_prf.2] at this
    exact this
  · cases k with
    | zero=>simp at hk;subst hk;exact ⟨by unfold I32;decide,g,rfl,hv⟩
    | succ k=>simp at hk
  · refine (HD.out w).mono ?_
    rintro e w' ⟨⟨a,c,vo,x,s,rfl,_,_,_,h⟩,hb⟩
    exact ⟨⟨a,c,vo,x,s,rfl,h⟩,hb⟩
  · intro rb A ⟨_,h2,_,h4⟩ k hk K w hr
    have hz:A.code.length≤1000:=by rw [h2];decide
    have hfu:A.fu≤100000:=by rw [h4];decide
    match k,hk with
    | 0,_=>exact stp_load hr 0 5 (by rw [h2];rfl) hz (by rw [h4];decide) hfu rfl (by decide)
    | 1,_=>exact stp_iconst hr 1 (by rw [h2];rfl) hz (by rw [h4];decide) hfu (by decide)
    | 2,_ =>
      have e:=stp_comp hr 7 0 (by rw [h2];rfl) hz (by rw [h4];decide) hfu [] 5 1 rfl (by decide) (.inl rfl) (by unfold I32;decide) (by unfold I32;decide)
      rw [show wrap32 (cmpI 7 5 1)=6 by decide +kernel] at e
      exact e
  · intro rb A ⟨_,h2,h3,h4⟩ K w hr
    refine stp_ret hr 0 (by rw [h2];rfl) (by rw [h2];decide) (by rw [h4];decide) (by rw [h4];decide) [] 6 rfl (fun w=>?_)
    rw [h3]
    refine (HD.out w).mono ?_
    rintro e w' ⟨⟨a,c,vo,x,s,rfl,rfl,rfl,rfl,_⟩,hb⟩
    exact ⟨⟨a,1,c,rfl⟩,hb⟩
set_option maxHeartbeats 1000000 in
theorem awake22_e (W:World):Calls Tryz.prog 4 #[] W fun e w'=>e=.returned (.bool true)∧Below W.heap.size W w':=by
  have HSt:Hid (∀ w v,IsClss w v [clA]→Calls Tryz.prog 8 #[v,.int .i64 0] w fun e w'=>∃ b ge lb,e=.returned (.tuple #[.pointer (some ⟨b,0,none⟩),.pointer (some ⟨ge,0,none⟩),.int .i64 0])∧Below w.heap.size w w'∧WAt b (wld [clA]) w'∧w'.cell? ⟨ge,0,none⟩=some (.pointer (some ⟨lb,0,none⟩))∧w'.cell? ⟨lb,0,none⟩=some (.pointer (some ⟨b,0,none⟩))):=fun w v h=>started_e v [clA] 0 (.inl rfl) w h
  go_enter Tryz.func4,Tryz.ntmps4
  go_wp2_with (first
    | (go_at_call 8;refine (HSt.out _ _ (clss_lit (n1:=W.heap.size+3) (n2:=W.heap.size+1) (n3:=W.heap.size) (k:=4) (cd:=cdA) (haA _ _ (by simp)) (hkA (hkA (haA _ _ (by simp)))) (hkA (hkA (hkA (haA W _ rfl)))) rfl (by decide) wA_w)).mono ?_;rintro e w1 ⟨b,ge,lb,rfl,hb,hw,hg,hl⟩;have B1:Hid (Below W.heap.size W w1):=Below.step (by repeat (first|exact Below.refl _ _|refine Below.setCell ?_ (by simp;try omega) _|refine Below.alloc ?_ (by simp;try omega) _|refine Below.drew ?_)) hb;have HX:Hid (WAt b (wld [clA]) w1∧w1.cell? ⟨ge,0,none⟩=some (.pointer (some ⟨lb,0,none⟩))∧w1.cell? ⟨lb,0,none⟩=some (.pointer (some ⟨b,0,none⟩))):=⟨hw,hg,hl⟩;clear hb hw hg hl HSt)
    | (go_at_call 6;refine (runA_e (W:=w1.alloc _) (HX.out.1.below ((Below.refl _ _).alloc (Nat.le_refl _) _)) (kc ((Below.refl _ _).alloc (Nat.le_refl _) _) HX.out.2.1) (kc ((Below.refl _ _).alloc (Nat.le_refl _) _) HX.out.2.2) (by simp)).mono ?_;rintro e w2 ⟨he,hb⟩;rw [resV] at he;subst he;have B2:Hid (Below W.heap.size W w2):=Below.step (B1.out.alloc B1.out.size _) hb;clear hb))
  go_ret
  exact ⟨rfl,B2.out.alloc B2.out.size _⟩
theorem out_full (n:Nat):outL n (8 * n)=linesL n n:=by rw [outL,show (8 * n+6) / 8=n by omega]
section
variable {W:World} {ge lb b g c:Nat}
theorem runL {n:Nat} {fuel:Int} (hn1:1≤n) (hn:n≤400) (hf1:0≤fuel) (hf:fuel≤4000) (hT:TenIn W) (hw:WAt b (wld [clL]) W) (hg:W.cell? ⟨ge,0,none⟩=some (.pointer (some ⟨lb,0,none⟩))) (hl:W.cell? ⟨lb,0,none⟩=some (.pointer (some ⟨b,0,none⟩))) (hv:W.cell? ⟨g,0,none⟩=some (.int .i64 n))
    (m sp:Nat) (th:Int) (o:List UInt8) (hol:o.length≤1000000) (HC:Hid (HCn (GAL fuel) (nxL n) (pfL n) (outL n) bMain ⟨#[102]⟩ bIV (.slice (some ⟨g,0,none⟩) 1 c) m sp false 0 th o)) :
    Calls Tryz.prog 6 #[.pointer (some ⟨ge,0,none⟩),.agg #[.bool false,.string bMain,.string ⟨#[102]⟩,.string bIV],.slice (some ⟨g,0,none⟩) 1 c,.int .i64 fuel] W fun e w'=>e=.returned (.tuple #[resO th false 0 sp ⟨o.toArray⟩,.int .i64 0])∧Below W.heap.size W w':=by
  obtain ⟨q,m',hq,hm,hB,rfl⟩:=wL_meth
  have hfu:fuI fuel=fuel:=by unfold fuI;omega
  refine run_c hw (wld_wi [clL] (fun c hc=>by simp at hc;subst hc;exact wL_w)) hg hl bMain ⟨#[102]⟩ bIV (by decide) (by decide) (by decide) 0 bMain 3 0 (by decide) (fun w=>refM w) wL_hld 3 0 wL_cas wL_crf wL_met wL_fts wL_rck q hq _ hm hB cdL rfl (flatN_I cdL) (by simp [cdL]) ⟨by show (0:Int)≤4;decide,by show (4:Int)≤40;decide⟩ ⟨by show (0:Int)≤6;decide,by show (6:Int)≤40;decide⟩ [(n:Int)] (some ⟨g,0,none⟩) c (fun k z hk=>?_) (by show ((1:Nat):Int)≤4;decide) (by show 1≤1000;decide) (fun w=>?_) hT fuel (nxL n) (pfL n) (outL n) ?_ ?_ ?_ (GAL fuel) (fun _ _ _ _ _ _=>⟨rfl,rfl,hfu⟩) m sp false 0 th o hol HC
  · match k,hk with
    | 0,hk=>simp at hk;subst hk;exact ⟨by unfold I32;omega,g,rfl,hv⟩
    | k+1,hk=>simp at hk
  · refine (descL w).mono ?_
    rintro e w' ⟨⟨a,c,vo,x,s,rfl,_,_,_,h⟩,hb⟩
    exact ⟨⟨a,c,vo,x,s,rfl,h⟩,hb⟩
  · rw [nxL,if_neg (by omega)]
  · rw [pf_at (i:=0) (j:=0) rfl (by omega)]
    simp [lsI,lsL,xsL]
    exact ⟨rfl,by decide⟩
  · rfl
theorem galC (fuel:Int):∀ A b1 b2,GAL fuel A→GAL fuel { A with ba:=b1,bb:=b2 }:=fun _ _ _ h=>h
theorem runL_ret {n:Nat} {fuel:Int} (hn1:1≤n) (hn:n≤400) (hf1:8 * (n:Int)<fuel) (hf:fuel≤4000) (hT:TenIn W) (hw:WAt b (wld [clL]) W) (hg:W.cell? ⟨ge,0,none⟩=some (.pointer (some ⟨lb,0,none⟩))) (hl:W.cell? ⟨lb,0,none⟩=some (.pointer (some ⟨b,0,none⟩))) (hv:W.cell? ⟨g,0,none⟩=some (.int .i64 n)) :
    Calls Tryz.prog 6 #[.pointer (some ⟨ge,0,none⟩),.agg #[.bool false,.string bMain,.string ⟨#[102]⟩,.string bIV],.slice (some ⟨g,0,none⟩) 1 c,.int .i64 fuel] W fun e w'=>e=.returned (.tuple #[resO 0 false 0 (8 * n+1) ⟨(linesL n n).toArray⟩,.int .i64 0])∧Below W.heap.size W w':=by
  have hlen:=lines_len hn n (Nat.le_refl _)
  refine runL hn1 hn (by omega) hf hT hw hg hl hv 0 (8 * n+1) 0 (linesL n n) (by omega) ?_
  rw [← out_full]
  refine hc_ret (8 * n) false 0 (galC fuel) (stpL hn (Nat.le_refl _) (by omega) hf) ?_
  intro rb A ⟨h2,h3,h4⟩ K w hr
  rw [show nxL n (8 * n)=8 by rw [nxL,if_pos rfl]] at hr
  refine stp_return hr 0 (by rw [h2];rfl) (by rw [h2];decide) (by rw [h4];omega) (by rw [h4];omega) (fun w=>?_)
  rw [h3]
  refine (descL w).mono ?_
  rintro e w' ⟨⟨a,c,vo,x,s,rfl,rfl,rfl,rfl,_⟩,hb⟩
  exact ⟨⟨a,1,c,rfl⟩,hb⟩
theorem runL_thr {n:Nat} {fuel:Nat} (hn1:1≤n) (hn:n≤400) (hf:fuel≤8 * n) (hT:TenIn W) (hw:WAt b (wld [clL]) W) (hg:W.cell? ⟨ge,0,none⟩=some (.pointer (some ⟨lb,0,none⟩))) (hl:W.cell? ⟨lb,0,none⟩=some (.pointer (some ⟨b,0,none⟩))) (hv:W.cell? ⟨g,0,none⟩=some (.int .i64 n)) :
    Calls Tryz.prog 6 #[.pointer (some ⟨ge,0,none⟩),.agg #[.bool false,.string bMain,.string ⟨#[102]⟩,.string bIV],.slice (some ⟨g,0,none⟩) 1 c,.int .i64 fuel] W fun e w'=>e=.returned (.tuple #[resO 36 false 0 fuel ⟨(linesL n ((fuel+6) / 8)).toArray⟩,.int .i64 0])∧Below W.heap.size W w':=by
  have hlen:=lines_len hn ((fuel+6) / 8) (by omega)
  refine runL hn1 hn (by omega) (by omega) hT hw hg hl hv 1 fuel 36 (linesL n ((fuel+6) / 8)) (by omega) ?_
  refine hc_thr fuel (galC fuel) (stpL hn hf (Int.le_refl _) (by omega)) ?_
  intro A ⟨h2,_,h4⟩
  refine ⟨?_,by rw [h4];exact Int.le_refl _⟩
  have h9:cdL.length=9:=rfl
  rw [h2,h9,nxL]
  split <;> omega
end
theorem oneL {W:World} {n3 t3:Nat} (hc:W.heap[n3]?=some (.cells (flatN cdL).toArray t3 (0,0))):Calls Tryz.prog 5 #[.string bIV,.slice (some ⟨n3,0,none⟩) 9 9] W fun e w'=>∃ b ge lb,e=.returned (.pointer (some ⟨ge,0,none⟩))∧Below W.heap.size W w'∧WAt b (wld [clL]) w'∧w'.cell? ⟨ge,0,none⟩=some (.pointer (some ⟨lb,0,none⟩))∧w'.cell? ⟨lb,0,none⟩=some (.pointer (some ⟨b,0,none⟩)):=by
  obtain ⟨A,hA⟩:∃ A,A=(flatN cdL).toArray:=⟨_,rfl⟩
  rw [← hA] at hc
  have HQ:Hid (∀ (w:World) (n1 n2 n3 t1 t2 t3:Nat),w.heap[n1]?=some (.cells #[.string ⟨#[77,97,105,110]⟩,.string ⟨#[79,98,106,101,99,116]⟩,.slice none 0 0,.int .i64 1,.int .i64 0,.slice (some ⟨n2,0,none⟩) 1 1] t1 (0,0))→w.heap[n2]?=some (.cells #[.string ⟨#[102]⟩,.string bIV,.int .i64 9,.int .i64 4,.int .i64 6,.slice (some ⟨n3,0,none⟩) 9 9] t2 (0,0))→w.heap[n3]?=some (.cells A t3 (0,0))→IsClss w (.slice (some ⟨n1,0,none⟩) 1 1) [clL]):=fun w n1 n2 n3 t1 t2 t3 h1 h2 h3=>by
    rw [hA] at h3
    exact clss_lit (cn:=bMain) (ds:=bIV) (k:=9) (lo:=4) (st:=6) (cd:=cdL) h1 h2 h3 rfl (by decide) wL_w
  clear hA
  refine Calls.mono (one_w (k:=9) (A:=A) (ds:=bIV) (Q:=fun w v=>IsClss w v [clL]) (P:=fun w' ge=>∃ b lb,WAt b (wld [clL]) w'∧w'.cell? ⟨ge,0,none⟩=some (.pointer (some ⟨lb,0,none⟩))∧w'.cell? ⟨lb,0,none⟩=some (.pointer (some ⟨b,0,none⟩))) hc HQ
    (fun w v h=>Calls.mono (started_e v [clL] 1 (.inr rfl) w h) fun e w' ⟨b,ge,lb,h1,h2,h3,h4,h5⟩=>⟨b,ge,h1,h2,b,lb,h3,h4,h5⟩)) ?_
  rintro e w' ⟨ge,h1,h2,b,lb,h3,h4,h5⟩
  exact ⟨b,ge,lb,h1,h2,h3,h4,h5⟩
def PL (w:World) (ge:Nat):Prop:=∃ b lb,WAt b (wld [clL]) w∧w.cell? ⟨ge,0,none⟩=some (.pointer (some ⟨lb,0,none⟩))∧w.cell? ⟨lb,0,none⟩=some (.pointer (some ⟨b,0,none⟩))
theorem str_add (a b:List UInt8):(⟨(a++b).toArray⟩:ByteArray)=⟨a.toArray⟩++⟨b.toArray⟩:=by
  apply ByteArray.ext;simp [ByteArray.data_append]
theorem EngineLoops_any (n fuel:Int) (W:World) (_:-9223372036854775808≤n∧n≤9223372036854775807) (_:-9223372036854775808≤fuel∧fuel≤9223372036854775807) (hT:TenIn W):Calls Tryz.prog 3 #[.int .i64 n,.int .i64 fuel] W fun e w'=>e=.returned (.bool true)∧Below W.heap.size W w':=by
  have HA:Hid (∀ w,Calls Tryz.prog 4 #[] w fun e w'=>e=.returned (.bool true)∧Below w.heap.size w w'):=fun w=>awake22_e w
  by_cases h1:n<1
  · exact lk_o0 h1 HA
  by_cases h2:400<n
  · exact lk_o1 ⟨h1,h2⟩ HA
  by_cases h3:fuel<0
  · exact lk_o2 ⟨h1,h2,h3⟩ HA
  by_cases h4:4000<fuel
  · exact lk_o3 ⟨h1,h2,h3,h4⟩ HA
  obtain ⟨N,rfl⟩:=Int.eq_ofNat_of_zero_le (show 0≤n by omega)
  obtain ⟨F,rfl⟩:=Int.eq_ofNat_of_zero_le (show 0≤fuel by omega)
  have hN1:1≤N:=by omega
  have hN:N≤400:=by omega
  have hF:F≤4000:=by omega
  have hL:((F:Int)+6).tdiv 8=((F+6) / 8:Nat):=by rw [Int.tdiv_eq_ediv_of_nonneg (by omega)];omega
  have H1:Hid (∀ (w:World) (n3 t3:Nat),Below W.heap.size W w→w.heap[n3]?=some (.cells (flatN cdL).toArray t3 (0,0))→Calls Tryz.prog 5 #[.string bIV,.slice (some ⟨n3,0,none⟩) 9 9] w fun e w'=>∃ ge,e=.returned (.pointer (some ⟨ge,0,none⟩))∧Below w.heap.size w w'∧PL w' ge):=fun w n3 t3 _ h=>(oneL h).mono fun _ _ ⟨b,ge,lb,q1,q2,q3,q4,q5⟩=>⟨ge,q1,q2,b,lb,q3,q4,q5⟩
  have HD:Hid (∀ (k:Nat) (w:World),(k:Int)≤(N:Int)→Calls Tryz.prog 7 #[.int .i64 ((N:Int) - (k:Int))] w fun e w'=>e=.returned (.string ((fun k:Nat=>(⟨(Lib.itoa ((N:Int) - (k:Nat))).toArray⟩:ByteArray)) k))∧Below w.heap.size w w'):=fun k w _=>rDecimal_any _ (by omega) (by omega) w
  have hT2:∀ k,(fun k=>(⟨(linesL N k).toArray⟩:ByteArray)) (k+1)=(fun k=>(⟨(linesL N k).toArray⟩:ByteArray)) k++(fun k:Nat=>(⟨(Lib.itoa ((N:Int) - (k:Nat))).toArray⟩:ByteArray)) k++⟨#[10]⟩:=fun k=>by
    show (⟨(linesL N k++Lib.itoa ((N:Int) - (k:Nat))++[10]).toArray⟩:ByteArray)=_
    rw [str_add,str_add]
  have hz:∀ k:Nat,(k:Int)<(N:Int)→((fun k=>(⟨(linesL N k).toArray⟩:ByteArray)) k).size≤100000∧((fun k:Nat=>(⟨(Lib.itoa ((N:Int) - (k:Nat))).toArray⟩:ByteArray)) k).size≤100:=fun k hk=>by
    have q1:=lines_len hN k (by omega)
    have q2:=itoa_len (m:=(N:Int) - (k:Nat)) ⟨by omega,by omega⟩
    exact ⟨by show (linesL N k).toArray.size≤_;simp;omega,by show (Lib.itoa ((N:Int) - (k:Nat))).toArray.size≤_;simp;omega⟩
  by_cases hc:8 * (N:Int)<(F:Int)
  · exact lk_ret (c:=N) (P:=PL) (T:=fun k=>⟨(linesL N k).toArray⟩) (D:=fun k=>⟨(Lib.itoa ((N:Int) - (k:Nat))).toArray⟩) ⟨by omega,by omega⟩ ⟨by omega,by omega⟩ hc hL ⟨by omega,by omega⟩ ⟨by omega,by omega,by omega⟩ rfl hT2 hz HA H1
      (fun w w2 ge g ⟨b,lb,p1,p2,p3⟩ hb1 hb hv=>(runL_ret (c:=1) hN1 hN hc (by omega) (hT.below (Below.step hb1 hb)) (p1.below hb) (kc hb p2) (kc hb p3) hv).mono fun e w' ⟨he,h⟩=>⟨he,h⟩) HD
  · exact lk_thr (c:=(F+6) / 8) (P:=PL) (T:=fun k=>⟨(linesL N k).toArray⟩) (D:=fun k=>⟨(Lib.itoa ((N:Int) - (k:Nat))).toArray⟩) ⟨by omega,by omega⟩ ⟨by omega,by omega⟩ (by omega) hL ⟨by omega,by omega⟩ ⟨by omega,by omega,by omega⟩ rfl hT2 hz HA H1
      (fun w w2 ge g ⟨b,lb,p1,p2,p3⟩ hb1 hb hv=>(runL_thr (c:=1) hN1 hN (by omega) (hT.below (Below.step hb1 hb)) (p1.below hb) (kc hb p2) (kc hb p3) hv).mono fun e w' ⟨he,h⟩=>⟨he,h⟩) HD
end Go.Proofs.YtlohdfpinmdljaaGreatDoor.Sk
