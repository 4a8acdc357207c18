import Derived.Test.YtgoncofcmchnjaaGreatDoorEnQ
import Derived.Test.YtgoncofcmchnjaaGreatDoorEnWb
set_option maxRecDepth 100000
namespace Go.Proofs.YtgoncofcmchnjaaGreatDoor.Sk
open Go.RowKit Go.Maps
def cdM (op:Int):List (Int×Int):=[(2,0),(2,1),(op,0),(36,0)]
def bMain:ByteArray:=⟨#[77,97,105,110]⟩
def bII:ByteArray:=⟨#[40,73,73,41,73]⟩
def OpM (op:Int):Prop:=op=7∨op=8∨op=9∨op=10
def clM (op:Int):Cls:=clS bMain bII 4 6 (cdM op)
theorem wM_cas {op:Int} (ho:OpM op):casI (wld [clM op]) 3 4 0 ⟨#[]⟩=0:=by rcases ho with rfl|rfl|rfl|rfl <;> decide +kernel
theorem wM_crf:crfI 4 false bMain ⟨#[102]⟩ bII=0:=by decide +kernel
theorem wM_met {op:Int} (ho:OpM op):metR (wld [clM op]) 3 false bMain ⟨#[102]⟩ bII=((3,0),0):=by rcases ho with rfl|rfl|rfl|rfl <;> decide +kernel
theorem wM_fts {op:Int} (ho:OpM op):ftsB (wld [clM op]) 4 (3,0)=true:=by rcases ho with rfl|rfl|rfl|rfl <;> decide +kernel
theorem wM_hld {op:Int} (ho:OpM op):hldR (wld [clM op]) 0 bMain=(3,0):=by rcases ho with rfl|rfl|rfl|rfl <;> decide +kernel
theorem wM_prf:prfT [77,97,105,110]=(0,[77,97,105,110])∧prfE [77,97,105,110]=0:=by decide +kernel
theorem wM_rck:rckE [77,97,105,110] [102] [40,73,73,41,73]=0:=by decide +kernel
theorem wM_pd:pdE [40,73,73,41,73]=0∧pdD [40,73,73,41,73]=([(0,[]),(0,[])],some (0,[])):=by decide +kernel
theorem wM_w {op:Int} (ho:OpM op):ClsW (clM op):=by
  rcases ho with rfl|rfl|rfl|rfl
  all_goals
    unfold ClsW
    refine ⟨by decide,by decide,fun p hp=>(by simp [clM,clS] at hp),by decide,by decide,fun m hm=>?_⟩
    simp [clM,clS] at hm
    subst hm
    unfold MthW
    refine ⟨by decide,by decide,by decide,by decide,by decide,fun i hi=>?_⟩
    simp [cdM] at hi
    rcases hi with rfl|rfl|rfl|rfl <;> (refine ⟨by decide,?_⟩;simp [InsOK,insI];exact Nat.zero_le _)
theorem wM_plc {op:Int} (ho:OpM op):(plcI (wld [clM op]) 3).map (fun q=>q.c)=some (hcOf (clM op)):=by rcases ho with rfl|rfl|rfl|rfl <;> kernel_rfl
theorem wM_meth {op:Int} (ho:OpM op):∃ q m,plcI (wld [clM op]) 3=some q∧methP q 0=some m∧PlcB q∧m=hmOf ⟨⟨#[102]⟩,bII,9,4,6,(cdM op).map insI⟩:=by
  cases e:plcI (wld [clM op]) 3 with
  | none=>have:=wM_plc ho;rw [e] at this;cases this
  | some q =>
    have h:=wM_plc ho
    rw [e] at h
    have hq:q.c=hcOf (clM op):=by simpa using h
    refine ⟨q,hmOf ⟨⟨#[102]⟩,bII,9,4,6,(cdM op).map insI⟩,rfl,by rw [methP,hq];rfl,?_,rfl⟩
    refine (wld_wi [clM op] (fun c hc=>by simp at hc;subst hc;exact wM_w ho)).pb q ?_
    rcases plcI_cases (wld [clM op]) 3 with ⟨h1,_⟩|⟨k,q',_,h2,h1⟩
    · rw [h1] at e;cases e
    · rw [h1] at e;cases e;exact List.mem_of_getElem? h2
def pfM (a b v:Int) (k:Nat):PF:=⟨if k=0 then [] else if k=1 then [(false,a)] else if k=2 then [(false,a),(false,b)] else [(false,v)],6,lsI 4 [a,b] 2⟩
theorem descM (W:World):Calls Tryz.prog 17 #[.string bII] W fun e w'=>(∃ a c vo x s,e=.returned (.tuple #[.agg #[.slice a 2 c,.bool vo,.int .i64 x,.string s],.int .i64 0])∧vo=false∧x=0∧s=⟨#[]⟩∧∀ j,j<2→∃ g,a=some ⟨g,0,none⟩∧w'.cell? ⟨g,j * 2,none⟩=some (.int .i64 0)∧w'.cell? ⟨g,j * 2+1,none⟩=some (.string ⟨#[]⟩))∧Below W.heap.size W w':=by
  refine (parseDesc_any bII (by decide) W).mono ?_
  rintro e w' ⟨v,rfl,ho,hb⟩
  rw [show bII.data.toList=[40,73,73,41,73] from rfl,wM_pd.2] at *
  rw [wM_pd.1]
  obtain ⟨g,c,rfl⟩:=Go.Joins.ownsRow_form ho (by decide)
  refine ⟨⟨_,c,_,_,_,rfl,rfl,rfl,rfl,fun j hj=>⟨g,rfl,?_,?_⟩⟩,hb⟩
  · match j,hj with
    | 0,_=>exact (ho.cellAt 0 (by decide)).trans rfl
    | 1,_=>exact (ho.cellAt 2 (by decide)).trans rfl
  · match j,hj with
    | 0,_=>exact (ho.cellAt 1 (by decide)).trans rfl
    | 1,_=>exact (ho.cellAt 3 (by decide)).trans rfl
theorem refM (w:World):Calls Tryz.prog 34 #[.string bMain] w fun e w'=>e=.returned (.tuple #[.agg #[.int .i64 0,.string bMain],.int .i64 0])∧Below w.heap.size w w':=by
  have:=parseRef_any bMain (by decide) w
  rw [show bMain.data.toList=[77,97,105,110] from rfl,wM_prf.1,wM_prf.2] at this
  exact this
section
variable {W:World} {ge lb b g c:Nat}
theorem runM_e {op x y:Int} (ho:OpM op) (hd:¬ (op=10∧y=0)) (hx:I32 x) (hy:I32 y) (hw:WAt b (wld [clM op]) W) (hg:W.cell? ⟨ge,0,none⟩=some (.pointer (some ⟨lb,0,none⟩))) (hl:W.cell? ⟨lb,0,none⟩=some (.pointer (some ⟨b,0,none⟩))) (hv:W.cell? ⟨g,0,none⟩=some (.int .i64 x)) (hv2:W.cell? ⟨g,1,none⟩=some (.int .i64 y)) :
    Calls Tryz.prog 6 #[.pointer (some ⟨ge,0,none⟩),.agg #[.bool false,.string bMain,.string ⟨#[102]⟩,.string bII],.slice (some ⟨g,0,none⟩) 2 c,.int .i64 9] W fun e w'=>e=.returned (.tuple #[resV 0 true (wrap32 (cmpI op x y)) 4,.int .i64 0])∧Below W.heap.size W w':=by
  obtain ⟨q,m,hq,hm,hB,rfl⟩:=wM_meth ho
  have ho2:op=7∨op=8∨op=9∨op=10∧¬ y=0:=by
    rcases ho with h|h|h|h
    · exact .inl h
    · exact .inr (.inl h)
    · exact .inr (.inr (.inl h))
    · exact .inr (.inr (.inr ⟨h,fun e=>hd ⟨h,e⟩⟩))
  refine run_stat hw (wld_wi [clM op] (fun c hc=>by simp at hc;subst hc;exact wM_w ho)) hg hl bMain ⟨#[102]⟩ bII (by decide) (by decide) (by decide) 0 bMain 3 0 (by decide) (fun w=>refM w) (wM_hld ho) 3 0 (wM_cas ho) wM_crf (wM_met ho) (wM_fts ho) wM_rck q hq _ hm hB (cdM op) rfl (flatN_I (cdM op)) (by simp [cdM]) ⟨by show (0:Int)≤4;decide,by show (4:Int)≤40;decide⟩ ⟨by show (0:Int)≤6;decide,by show (6:Int)≤40;decide⟩ [x,y] (some ⟨g,0,none⟩) c (fun k z hk=>?_) (by show ((2:Nat):Int)≤4;decide) (by show 2≤1000;decide) (fun w=>?_) 9 id (pfM x y (wrap32 (cmpI op x y))) 3 (wrap32 (cmpI op x y)) rfl rfl (fun A=>A.bb=.slice none 0 0∧A.code=cdM op∧A.ds=bII∧A.fu=9) (fun A h=>h.1) (fun _ _ _ _ _ _=>⟨rfl,rfl,rfl,rfl⟩) ?_ ?_
  · match k,hk with
    | 0,hk=>simp at hk;subst hk;exact ⟨hx,g,rfl,hv⟩
    | 1,hk=>simp at hk;subst hk;exact ⟨hy,g,rfl,hv2⟩
    | k+2,hk=>simp at hk
  · refine (descM w).mono ?_
    rintro e w' ⟨⟨a,c,vo,x,s,rfl,_,_,_,h⟩,hb⟩
    exact ⟨⟨a,c,vo,x,s,rfl,h⟩,hb⟩
  · intro rb A ⟨_,h2,_,h4⟩ k hk K w hr
    have hz:A.code.length≤1000:=by rw [h2];simp [cdM]
    have hfu:A.fu≤100000:=by rw [h4];decide
    match k,hk with
    | 0,_=>exact stp_load hr 0 x (by rw [h2];rfl) hz (by rw [h4];decide) hfu rfl (by simp [pfM])
    | 1,_=>exact stp_load hr 1 y (by rw [h2];rfl) hz (by rw [h4];decide) hfu rfl (by simp [pfM])
    | 2,_=>exact stp_comp hr op 0 (by rw [h2];rfl) hz (by rw [h4];decide) hfu [] x y rfl (by simp [pfM]) ho2 hx hy
  · intro rb A ⟨_,h2,h3,h4⟩ K w hr
    refine stp_ret hr 0 (by rw [h2];rfl) (by rw [h2];simp [cdM]) (by rw [h4];decide) (by rw [h4];decide) [] (wrap32 (cmpI op x y)) rfl (fun w=>?_)
    rw [h3]
    refine (descM w).mono ?_
    rintro e w' ⟨⟨a,c,vo,x,s,rfl,rfl,rfl,rfl,_⟩,hb⟩
    exact ⟨⟨a,2,c,rfl⟩,hb⟩
theorem runM_0 {x:Int} (hx:I32 x) (hw:WAt b (wld [clM 10]) W) (hg:W.cell? ⟨ge,0,none⟩=some (.pointer (some ⟨lb,0,none⟩))) (hl:W.cell? ⟨lb,0,none⟩=some (.pointer (some ⟨b,0,none⟩))) (hv:W.cell? ⟨g,0,none⟩=some (.int .i64 x)) (hv2:W.cell? ⟨g,1,none⟩=some (.int .i64 0)) :
    Calls Tryz.prog 6 #[.pointer (some ⟨ge,0,none⟩),.agg #[.bool false,.string bMain,.string ⟨#[102]⟩,.string bII],.slice (some ⟨g,0,none⟩) 2 c,.int .i64 9] W fun e w'=>e=.returned (.tuple #[resV 29 false 0 3,.int .i64 0])∧Below W.heap.size W w':=by
  have ho:OpM 10:=.inr (.inr (.inr rfl))
  obtain ⟨q,m,hq,hm,hB,rfl⟩:=wM_meth ho
  refine run_thr hw (wld_wi [clM 10] (fun c hc=>by simp at hc;subst hc;exact wM_w ho)) hg hl bMain ⟨#[102]⟩ bII (by decide) (by decide) (by decide) 0 bMain 3 0 (by decide) (fun w=>refM w) (wM_hld ho) 3 0 (wM_cas ho) wM_crf (wM_met ho) (wM_fts ho) wM_rck q hq _ hm hB (cdM 10) rfl (flatN_I (cdM 10)) (by simp [cdM]) ⟨by show (0:Int)≤4;decide,by show (4:Int)≤40;decide⟩ ⟨by show (0:Int)≤6;decide,by show (6:Int)≤40;decide⟩ [x,0] (some ⟨g,0,none⟩) c (fun k z hk=>?_) (by show ((2:Nat):Int)≤4;decide) (by show 2≤1000;decide) (fun w=>?_) 9 id (pfM x 0 0) 2 29 rfl rfl (fun A=>A.bb=.slice none 0 0∧A.code=cdM 10∧A.ds=bII∧A.fu=9) (fun A h=>h.1) (fun _ _ _ _ _ _=>⟨rfl,rfl,rfl,rfl⟩) ?_ ?_
  · match k,hk with
    | 0,hk=>simp at hk;subst hk;exact ⟨hx,g,rfl,hv⟩
    | 1,hk=>simp at hk;subst hk;exact ⟨by unfold I32;decide,g,rfl,hv2⟩
    | k+2,hk=>simp at hk
  · refine (descM w).mono ?_
    rintro e w' ⟨⟨a,c,vo,x,s,rfl,_,_,_,h⟩,hb⟩
    exact ⟨⟨a,c,vo,x,s,rfl,h⟩,hb⟩
  · intro rb A ⟨_,h2,_,h4⟩ k hk K w hr
    have hz:A.code.length≤1000:=by rw [h2];simp [cdM]
    have hfu:A.fu≤100000:=by rw [h4];decide
    match k,hk with
    | 0,_=>exact stp_load hr 0 x (by rw [h2];rfl) hz (by rw [h4];decide) hfu rfl (by simp [pfM])
    | 1,_=>exact stp_load hr 1 0 (by rw [h2];rfl) hz (by rw [h4];decide) hfu rfl (by simp [pfM])
  · intro rb A ⟨_,h2,h3,h4⟩ K w hr
    exact stp_div0 hr 0 (by rw [h2];rfl) (by rw [h2];simp [cdM]) (by rw [h4];decide) (by rw [h4];decide) [] x rfl
end
def pfA (k:Nat):PF:=⟨if k=0 then [] else if k=1 then [(false,5)] else if k=2 then [(false,5),(false,1)] else [(false,6)],2,lsI 1 [5] 1⟩
theorem runA_e {W:World} {ge lb b g c:Nat} (hw:WAt b (wld [clA]) W) (hg:W.cell? ⟨ge,0,none⟩=some (.pointer (some ⟨lb,0,none⟩))) (hl:W.cell? ⟨lb,0,none⟩=some (.pointer (some ⟨b,0,none⟩))) (hv:W.cell? ⟨g,0,none⟩=some (.int .i64 5)) :
    Calls Tryz.prog 6 #[.pointer (some ⟨ge,0,none⟩),.agg #[.bool false,.string ⟨#[65]⟩,.string ⟨#[102]⟩,.string ⟨#[40,73,41,73]⟩],.slice (some ⟨g,0,none⟩) 1 c,.int .i64 10] W fun e w'=>e=.returned (.tuple #[resV 0 true 6 4,.int .i64 0])∧Below W.heap.size W w':=by
  obtain ⟨q,m,hq,hm,hB,rfl⟩:=wA_meth
  have HD:Hid (∀ w,Calls Tryz.prog 17 #[.string ⟨#[40,73,41,73]⟩] w fun e w'=>(∃ a c vo x s,e=.returned (.tuple #[.agg #[.slice a 1 c,.bool vo,.int .i64 x,.string s],.int .i64 0])∧vo=false∧x=0∧s=⟨#[]⟩∧∀ j,j<1→∃ g,a=some ⟨g,0,none⟩∧w'.cell? ⟨g,j * 2,none⟩=some (.int .i64 0)∧w'.cell? ⟨g,j * 2+1,none⟩=some (.string ⟨#[]⟩))∧Below w.heap.size w w'):=fun w=>by
    refine (parseDesc_any ⟨#[40,73,41,73]⟩ (by decide) w).mono ?_
    rintro e w' ⟨v,rfl,ho,hb⟩
    rw [show (⟨#[40,73,41,73]⟩:ByteArray).data.toList=[40,73,41,73] from rfl,wA_pd.2] at *
    rw [wA_pd.1]
    obtain ⟨g,c,rfl⟩:=Go.Joins.ownsRow_form ho (by decide)
    refine ⟨⟨_,c,_,_,_,rfl,rfl,rfl,rfl,fun j hj=>⟨g,rfl,?_,?_⟩⟩,hb⟩
    · obtain rfl:j=0:=by omega
      exact (ho.cellAt 0 (by decide)).trans rfl
    · obtain rfl:j=0:=by omega
      exact (ho.cellAt 1 (by decide)).trans rfl
  refine run_stat hw (wld_wi [clA] (fun c hc=>by simp at hc;subst hc;exact wA_w)) hg hl ⟨#[65]⟩ ⟨#[102]⟩ ⟨#[40,73,41,73]⟩ (by decide) (by decide) (by decide) 0 ⟨#[65]⟩ 3 0 (by decide) (fun w=>?_) wA_hld 3 0 wA_cas wA_crf wA_met wA_fts wA_rck q hq _ hm hB cdA rfl (flatN_I cdA) (by decide) (by decide) (by decide) [5] (some ⟨g,0,none⟩) c (fun k x hk=>?_) (by decide) (by decide) (fun w=>?_) 10 id pfA 3 6 rfl rfl (fun A=>A.bb=.slice none 0 0∧A.code=cdA∧A.ds=⟨#[40,73,41,73]⟩∧A.fu=10) (fun A h=>h.1) (fun _ _ _ _ _ _=>⟨rfl,rfl,rfl,rfl⟩) ?_ ?_
  · have:=parseRef_any ⟨#[65]⟩ (by decide) w
    rw [show (⟨#[65]⟩:ByteArray).data.toList=[65] from rfl,wA_prf.1,wA_prf.2] at this
    exact this
  · cases k with
    | zero=>simp at hk;subst hk;exact ⟨by unfold I32;decide,g,rfl,hv⟩
    | succ k=>simp at hk
  · refine (HD.out w).mono ?_
    rintro e w' ⟨⟨a,c,vo,x,s,rfl,_,_,_,h⟩,hb⟩
    exact ⟨⟨a,c,vo,x,s,rfl,h⟩,hb⟩
  · intro rb A ⟨_,h2,_,h4⟩ k hk K w hr
    have hz:A.code.length≤1000:=by rw [h2];decide
    have hfu:A.fu≤100000:=by rw [h4];decide
    match k,hk with
    | 0,_=>exact stp_load hr 0 5 (by rw [h2];rfl) hz (by rw [h4];decide) hfu rfl (by decide)
    | 1,_=>exact stp_iconst hr 1 (by rw [h2];rfl) hz (by rw [h4];decide) hfu (by decide)
    | 2,_ =>
      have e:=stp_comp hr 7 0 (by rw [h2];rfl) hz (by rw [h4];decide) hfu [] 5 1 rfl (by decide) (.inl rfl) (by unfold I32;decide) (by unfold I32;decide)
      rw [show wrap32 (cmpI 7 5 1)=6 by decide +kernel] at e
      exact e
  · intro rb A ⟨_,h2,h3,h4⟩ K w hr
    refine stp_ret hr 0 (by rw [h2];rfl) (by rw [h2];decide) (by rw [h4];decide) (by rw [h4];decide) [] 6 rfl (fun w=>?_)
    rw [h3]
    refine (HD.out w).mono ?_
    rintro e w' ⟨⟨a,c,vo,x,s,rfl,rfl,rfl,rfl,_⟩,hb⟩
    exact ⟨⟨a,1,c,rfl⟩,hb⟩
set_option maxHeartbeats 1000000 in
theorem awake22_e (W:World):Calls Tryz.prog 4 #[] W fun e w'=>e=.returned (.bool true)∧Below W.heap.size W w':=by
  have HSt:Hid (∀ w v,IsClss w v [clA]→Calls Tryz.prog 7 #[v,.int .i64 0] w fun e w'=>∃ b ge lb,e=.returned (.tuple #[.pointer (some ⟨b,0,none⟩),.pointer (some ⟨ge,0,none⟩),.int .i64 0])∧Below w.heap.size w w'∧WAt b (wld [clA]) w'∧w'.cell? ⟨ge,0,none⟩=some (.pointer (some ⟨lb,0,none⟩))∧w'.cell? ⟨lb,0,none⟩=some (.pointer (some ⟨b,0,none⟩))):=fun w v h=>started_e v [clA] 0 (.inl rfl) w h
  go_enter Tryz.func4,Tryz.ntmps4
  go_wp2_with (first
    | (go_at_call 7;refine (HSt.out _ _ (clss_lit (n1:=W.heap.size+3) (n2:=W.heap.size+1) (n3:=W.heap.size) (k:=4) (cd:=cdA) (haA _ _ (by simp)) (hkA (hkA (haA _ _ (by simp)))) (hkA (hkA (hkA (haA W _ rfl)))) rfl (by decide) wA_w)).mono ?_;rintro e w1 ⟨b,ge,lb,rfl,hb,hw,hg,hl⟩;have B1:Hid (Below W.heap.size W w1):=Below.step (by repeat (first|exact Below.refl _ _|refine Below.setCell ?_ (by simp;try omega) _|refine Below.alloc ?_ (by simp;try omega) _|refine Below.drew ?_)) hb;have HX:Hid (WAt b (wld [clA]) w1∧w1.cell? ⟨ge,0,none⟩=some (.pointer (some ⟨lb,0,none⟩))∧w1.cell? ⟨lb,0,none⟩=some (.pointer (some ⟨b,0,none⟩))):=⟨hw,hg,hl⟩;clear hb hw hg hl HSt)
    | (go_at_call 6;refine (runA_e (W:=w1.alloc _) (HX.out.1.below ((Below.refl _ _).alloc (Nat.le_refl _) _)) (kc ((Below.refl _ _).alloc (Nat.le_refl _) _) HX.out.2.1) (kc ((Below.refl _ _).alloc (Nat.le_refl _) _) HX.out.2.2) (by simp)).mono ?_;rintro e w2 ⟨he,hb⟩;rw [resV] at he;subst he;have B2:Hid (Below W.heap.size W w2):=Below.step (B1.out.alloc B1.out.size _) hb;clear hb))
  go_ret
  exact ⟨rfl,B2.out.alloc B2.out.size _⟩
theorem one_e {op:Int} (ho:OpM op) {W:World} {n3 t3:Nat} (hc:W.heap[n3]?=some (.cells (flatN (cdM op)).toArray t3 (0,0))):Calls Tryz.prog 5 #[.string bII,.slice (some ⟨n3,0,none⟩) 4 4] W fun e w'=>∃ b ge lb,e=.returned (.pointer (some ⟨ge,0,none⟩))∧Below W.heap.size W w'∧WAt b (wld [clM op]) w'∧w'.cell? ⟨ge,0,none⟩=some (.pointer (some ⟨lb,0,none⟩))∧w'.cell? ⟨lb,0,none⟩=some (.pointer (some ⟨b,0,none⟩)):=by
  refine Calls.mono (one_w (Q:=fun w v=>IsClss w v [clM op]) (P:=fun w' ge=>∃ b lb,WAt b (wld [clM op]) w'∧w'.cell? ⟨ge,0,none⟩=some (.pointer (some ⟨lb,0,none⟩))∧w'.cell? ⟨lb,0,none⟩=some (.pointer (some ⟨b,0,none⟩))) hc
    (fun w n1 n2 n3 t1 t2 t3 h1 h2 h3=>clss_lit (cn:=bMain) (ds:=bII) (k:=4) (cd:=cdM op) h1 h2 h3 rfl (by decide) (wM_w ho))
    (fun w v h=>Calls.mono (started_e v [clM op] 1 (.inr rfl) w h) fun e w' ⟨b,ge,lb,h1,h2,h3,h4,h5⟩=>⟨b,ge,h1,h2,b,lb,h3,h4,h5⟩)) ?_
  rintro e w' ⟨ge,h1,h2,b,lb,h3,h4,h5⟩
  exact ⟨b,ge,lb,h1,h2,h3,h4,h5⟩
def PM (op:Int) (w:World) (ge:Nat):Prop:=∃ b lb,WAt b (wld [clM op]) w∧w.cell? ⟨ge,0,none⟩=some (.pointer (some ⟨lb,0,none⟩))∧w.cell? ⟨lb,0,none⟩=some (.pointer (some ⟨b,0,none⟩))
theorem pm_one {op:Int} (ho:OpM op) (w:World) (n3 t3:Nat) (h:w.heap[n3]?=some (.cells #[.int .i64 2,.int .i64 0,.string ⟨#[]⟩,.bool false,.string ⟨#[]⟩,.string ⟨#[]⟩,.string ⟨#[]⟩,.int .i64 2,.int .i64 1,.string ⟨#[]⟩,.bool false,.string ⟨#[]⟩,.string ⟨#[]⟩,.string ⟨#[]⟩,.int .i64 op,.int .i64 0,.string ⟨#[]⟩,.bool false,.string ⟨#[]⟩,.string ⟨#[]⟩,.string ⟨#[]⟩,.int .i64 36,.int .i64 0,.string ⟨#[]⟩,.bool false,.string ⟨#[]⟩,.string ⟨#[]⟩,.string ⟨#[]⟩] t3 (0,0))) :
    Calls Tryz.prog 5 #[.string ⟨#[40,73,73,41,73]⟩,.slice (some ⟨n3,0,none⟩) 4 4] w fun e w'=>∃ ge,e=.returned (.pointer (some ⟨ge,0,none⟩))∧Below w.heap.size w w'∧PM op w' ge :=
  (one_e ho (n3:=n3) (t3:=t3) (h.trans rfl)).mono fun _ _ ⟨b,ge,lb,h1,h2,h3,h4,h5⟩=>⟨ge,h1,h2,b,lb,h3,h4,h5⟩
theorem pm_run {op x y z:Int} (ho:OpM op) (hd:¬ (op=10∧y=0)) (hx:I32 x) (hy:I32 y) (hz:cmpI op x y=z) (w w2:World) (ge g:Nat) (h:PM op w ge) (hb:Below w.heap.size w w2) (hv:w2.cell? ⟨g,0,none⟩=some (.int .i64 x)) (hv2:w2.cell? ⟨g,1,none⟩=some (.int .i64 y)) :
    Calls Tryz.prog 6 #[.pointer (some ⟨ge,0,none⟩),.agg #[.bool false,.string ⟨#[77,97,105,110]⟩,.string ⟨#[102]⟩,.string ⟨#[40,73,73,41,73]⟩],.slice (some ⟨g,0,none⟩) 2 2,.int .i64 9] w2 fun e w'=>e=.returned (.tuple #[.agg #[.string ⟨#[]⟩,.int .i64 0,.bool true,.bool false,.int .i64 (wrap32 z),.int .i64 4],.int .i64 0])∧Below w2.heap.size w2 w':=by
  obtain ⟨b,lb,hw,hg,hl⟩:=h
  refine Calls.mono (runM_e (c:=2) ho hd hx hy (hw.below hb) (kc hb hg) (kc hb hl) hv hv2) ?_
  rintro e w' ⟨rfl,h⟩
  exact ⟨by rw [hz];rfl,h⟩
theorem pm_run0 {x:Int} (hx:I32 x) (w w2:World) (ge g:Nat) (h:PM 10 w ge) (hb:Below w.heap.size w w2) (hv:w2.cell? ⟨g,0,none⟩=some (.int .i64 x)) (hv2:w2.cell? ⟨g,1,none⟩=some (.int .i64 0)) :
    Calls Tryz.prog 6 #[.pointer (some ⟨ge,0,none⟩),.agg #[.bool false,.string ⟨#[77,97,105,110]⟩,.string ⟨#[102]⟩,.string ⟨#[40,73,73,41,73]⟩],.slice (some ⟨g,0,none⟩) 2 2,.int .i64 9] w2 fun e w'=>e=.returned (.tuple #[.agg #[.string ⟨#[]⟩,.int .i64 29,.bool false,.bool false,.int .i64 0,.int .i64 3],.int .i64 0])∧Below w2.heap.size w2 w':=by
  obtain ⟨b,lb,hw,hg,hl⟩:=h
  refine Calls.mono (runM_0 (c:=2) hx (hw.below hb) (kc hb hg) (kc hb hl) hv hv2) ?_
  rintro e w' ⟨rfl,h⟩
  exact ⟨rfl,h⟩
theorem EngineReckons_any (a b op:Int) (W:World) (ha:-2147483648≤a∧a≤2147483647) (hb:-2147483648≤b∧b≤2147483647) (_:-9223372036854775808≤op∧op≤9223372036854775807):Calls Tryz.prog 3 #[.int .i32 a,.int .i32 b,.int .i64 op] W fun e w'=>e=.returned (.bool true)∧Below W.heap.size W w':=by
  have HA:Hid (∀ w,Calls Tryz.prog 4 #[] w fun e w'=>e=.returned (.bool true)∧Below w.heap.size w w'):=fun w=>awake22_e w
  by_cases hr:op<7∨10<op
  · exact rk_x hr HA
  · have ho:op=7∨op=8∨op=9∨op=10:=by omega
    rcases ho with rfl|rfl|rfl|rfl
    · exact rk_7 ha hb HA (pm_one (.inl rfl)) (pm_run (.inl rfl) (by omega) ha hb rfl)
    · exact rk_8 ha hb HA (pm_one (.inr (.inl rfl))) (pm_run (.inr (.inl rfl)) (by omega) ha hb rfl)
    · exact rk_9 ha hb HA (pm_one (.inr (.inr (.inl rfl)))) (pm_run (.inr (.inr (.inl rfl))) (by omega) ha hb rfl)
    · by_cases hz:b=0
      · subst hz
        exact rk_0 ha HA (pm_one (.inr (.inr (.inr rfl)))) (pm_run0 ha)
      · exact rk_10 ha hb hz HA (pm_one (.inr (.inr (.inr rfl)))) (pm_run (.inr (.inr (.inr rfl))) (fun h=>hz h.2) ha hb rfl)
end Go.Proofs.YtgoncofcmchnjaaGreatDoor.Sk
