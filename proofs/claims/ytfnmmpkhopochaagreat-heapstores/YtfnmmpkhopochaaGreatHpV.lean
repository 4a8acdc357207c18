import Derived.Test.YtfnmmpkhopochaaGreatHpN
import Derived.Test.YtfnmmpkhopochaaGreatHpI
set_option maxRecDepth 100000
namespace Go.Proofs.YtfnmmpkhopochaaGreat
open Go.RowKit Go.Maps
def stE (ps:List Plc) (os:List Ob) (r i:Int) (Rf:Bool) (N:Int):Int:=match arO os r with
  | none=>arF os r
  | some o=>if rfB o.d o.nm=Rf then (if Rf=false∧i32B N=false then 35 else if 0≤i∧i<(o.xs.length:Int) then (if Rf=true∧¬ N=0 then csE ps os o.d o.nm N else 0) else 31) else 35
def stL (ps:List Plc) (os:List Ob) (r i:Int) (Rf:Bool) (N:Int):List Ob:=match arO os r with
  | none=>os
  | some o=>if stE ps os r i Rf N=0 then os.set (r - 1).toNat { o with xs:=o.xs.set i.toNat N } else os
theorem HpAt.stored {W w2:World} {S:Nat→Prop} {hb b:Nat} {ov:Value} {os:List Ob} (h:HpAt W S hb b ov os) {k j g:Nat} {o:Ob} (hk:os[k]?=some o) (hg:o.eb=some g) (N:Int) (hl:Below W.heap.size W w2):HpN S W (w2.setCell ⟨g,j,none⟩ (.int .i64 N)) hb b (os.set k { o with xs:=o.xs.set j N }):=by
  have hs:=(h.below hl).setEl k j g o hk hg N
  refine ⟨⟨ov,hs.mono (fun x hx=>hx.elim (fun y=>hs.sz x y) (fun y=>y.2)) (fun _ _ x=>.inl x)⟩,?_⟩
  exact ((Tch.refl S W).bel hl).set (p:=⟨g,j,none⟩) (.inl (h.eS o (List.mem_of_getElem? hk) g hg)) _
theorem set_c {W:World} {S:Nat→Prop} {hb b:Nat} {ov:Value} {os:List Ob} (h:HpAt W S hb b ov os) {ps:List Plc} (hw:WAt b ps W) (hi:WI ps) (hsz:∀ o∈os,o.nm.size≤maxLen) (r i N:Int) (Rf:Bool) :
    Calls Tryz.prog 16 #[.pointer (some ⟨hb,0,none⟩),.int .i64 r,.int .i64 i,.agg #[.bool Rf,.int .i64 N]] W fun e w'=>e=.returned (.int .i64 (stE ps os r i Rf N))∧HpN S W w' hb b (stL ps os r i Rf N):=by
  have HF:∀ w,Below W.heap.size W w→Calls Tryz.prog 43 #[.pointer (some ⟨hb,0,none⟩),.int .i64 r] w fun e w'=>e=.returned (.tuple #[obW (arO os r),.int .i64 (arF os r)])∧Below w.heap.size w w':=fun w hl=>farr_c (h.below hl) r
  cases ho:arO os r with
  | none =>
    have q1:stE ps os r i Rf N=arF os r:=by rw [stE,ho]
    have q2:stL ps os r i Rf N=os:=by rw [stL,ho]
    rw [ho] at HF
    rw [q1,q2]
    exact (set_err (arF_none ho) HF).mono fun e w' ⟨a1,a2⟩=>⟨a1,h.stay a2⟩
  | some o =>
    have hob:=(arO_obI ho).1
    have hm:=obI_mem hob
    obtain ⟨av,hv⟩:=elV_form o (h.no o hm)
    rw [ho,arF_some ho,obW,obV,hv] at HF
    have R:∀ E,stE ps os r i Rf N=E→¬ E=0→stL ps os r i Rf N=os:=fun E e1 e2=>by rw [stL,ho];simp only;rw [if_neg (by rw [e1];exact e2)]
    have q0:stE ps os r i Rf N=if rfB o.d o.nm=Rf then (if Rf=false∧i32B N=false then 35 else if 0≤i∧i<(o.xs.length:Int) then (if Rf=true∧¬ N=0 then csE ps os o.d o.nm N else 0) else 31) else 35:=by rw [stE,ho]
    by_cases hk:rfB o.d o.nm=Rf
    · rw [if_pos hk] at q0
      by_cases hN:Rf=false∧i32B N=false
      · rw [if_pos hN] at q0
        rw [q0,R _ q0 (by decide)]
        obtain ⟨rfl,hN⟩:=hN
        exact (set_i32 HF hk hN).mono fun e w' ⟨a1,a2⟩=>⟨a1,h.stay a2⟩
      · rw [if_neg hN] at q0
        by_cases hij:0≤i∧i<(o.xs.length:Int)
        · rw [if_pos hij] at q0
          have HH:∀ w:World,Calls Tryz.prog 44 #[.agg #[.int .i64 o.d,.string o.nm,.slice av o.xs.length o.xs.length],.int .i64 i] w fun e w'=>e=.returned (.bool true)∧Below w.heap.size w w':=fun w=>by
            have:=has_o o.d i o.nm av o.xs.length o.xs.length w
            rw [decide_eq_true hij] at this;exact this
          obtain ⟨j,hj⟩:∃ j:Nat,i=(j:Int):=⟨i.toNat,by omega⟩
          have hjl:j<o.xs.length:=by omega
          obtain ⟨g,hg⟩:∃ g,o.eb=some g:=by
            cases e:o.eb with
            | none=>rw [h.no o hm e] at hjl;simp at hjl
            | some g=>exact ⟨g,rfl⟩
          have hav:av=some ⟨g,0,none⟩:=by rw [elV,hg,ebV] at hv;injection hv with e1;exact e1.symm
          have hu:W.cell? ⟨g,j,none⟩=some (.int .i64 (o.xs[j])):=by
            rw [cell_of_row W g j _ _ _ (h.el o hm g hg)];simp [intL,hjl]
          have hf:W.frozen? ⟨g,j,none⟩=false:=frozen_of_row W g j _ _ (h.el o hm g hg)
          obtain ⟨k,hrk,hok⟩:∃ k:Nat,(r - 1).toNat=k∧os[k]?=some o:=by
            rcases obI_cases os r with ⟨h1,_⟩|⟨k,q,h0,h2,h1⟩
            · rw [h1] at hob;cases hob
            · rw [h1] at hob;cases hob;exact ⟨k,by omega,h2⟩
          have Y:stE ps os r i Rf N=0→stL ps os r i Rf N=os.set k { o with xs:=o.xs.set j N }:=fun e1=>by
            rw [stL,ho];simp only;rw [if_pos e1,hrk,hj,Int.toNat_natCast]
          have FIN:∀ w',(∃ w2,Below W.heap.size W w2∧w'=w2.setCell ⟨g,j,none⟩ (.int .i64 N))→HpN S W w' hb b (os.set k { o with xs:=o.xs.set j N }):=fun w' ⟨w2,l,e⟩=>by rw [e];exact h.stored hok hg N l
          by_cases hc:Rf=true∧¬ N=0
          · rw [if_pos hc] at q0
            obtain ⟨rfl,hN0⟩:=hc
            have HC:∀ w,Below W.heap.size W w→Calls Tryz.prog 47 #[.pointer (some ⟨hb,0,none⟩),.agg #[.int .i64 o.d,.string o.nm,.slice av o.xs.length o.xs.length],.int .i64 N] w fun e w'=>e=.returned (.int .i64 (csE ps os o.d o.nm N))∧Below w.heap.size w w':=fun w hl=>check_s (h.below hl) (hw.below hl) hi hsz o.d o.nm (hsz o hm) av _ N
            by_cases hE:csE ps os o.d o.nm N=0
            · rw [hE] at q0 HC
              rw [q0,Y q0]
              exact (set_ref HF hk HH hj hjl hav hu hf hN0 HC).mono fun e w' ⟨a1,a2⟩=>⟨a1,FIN w' a2⟩
            · rw [q0,R _ q0 hE]
              exact (set_chk HF hk HH hN0 hE HC).mono fun e w' ⟨a1,a2⟩=>⟨a1,h.stay a2⟩
          · rw [if_neg hc] at q0
            rw [q0,Y q0]
            cases Rf with
            | true =>
              have h0:N=0:=by
                by_cases e:N=0
                · exact e
                · exact absurd ⟨rfl,e⟩ hc
              exact (set_null HF hk HH hj hjl hav hu hf h0).mono fun e w' ⟨a1,a2⟩=>⟨a1,FIN w' a2⟩
            | false =>
              have h0:i32B N=true:=by
                cases e:i32B N with
                | true=>rfl
                | false=>exact absurd ⟨rfl,e⟩ hN
              exact (set_int HF hk h0 HH hj hjl hav hu hf).mono fun e w' ⟨a1,a2⟩=>⟨a1,FIN w' a2⟩
        · rw [if_neg hij] at q0
          rw [q0,R _ q0 (by decide)]
          have HH:∀ w:World,Calls Tryz.prog 44 #[.agg #[.int .i64 o.d,.string o.nm,.slice av o.xs.length o.xs.length],.int .i64 i] w fun e w'=>e=.returned (.bool false)∧Below w.heap.size w w':=fun w=>by
            have:=has_o o.d i o.nm av o.xs.length o.xs.length w
            rw [decide_eq_false hij] at this;exact this
          cases Rf with
          | true=>exact (set_off_t HF hk HH).mono fun e w' ⟨a1,a2⟩=>⟨a1,h.stay a2⟩
          | false =>
            have h0:i32B N=true:=by
              cases e:i32B N with
              | true=>rfl
              | false=>exact absurd ⟨rfl,e⟩ hN
            exact (set_off_f HF hk h0 HH).mono fun e w' ⟨a1,a2⟩=>⟨a1,h.stay a2⟩
    · rw [if_neg hk] at q0
      rw [q0,R _ q0 (by decide)]
      cases Rf with
      | true=>exact (set_kt HF (by simpa using hk)).mono fun e w' ⟨a1,a2⟩=>⟨a1,h.stay a2⟩
      | false=>exact (set_kf HF (by simpa using hk)).mono fun e w' ⟨a1,a2⟩=>⟨a1,h.stay a2⟩
set_option maxHeartbeats 4000000 in
theorem opened_c (v:Value) (l:List Cls) (W:World) (h:IsClss W v l):Calls Tryz.prog 9 #[v] W fun e w'=>∃ b hb V,e=.returned (.tuple #[.pointer (some ⟨b,0,none⟩),.pointer (some ⟨hb,0,none⟩)])∧Below W.heap.size W V∧WAt b (wld l) V∧Below V.heap.size V w'∧V.heap.size≤hb∧HpAt w' (fun k=>k=hb) hb b (.slice none 0 0) []:=by
  have hCW:=clss_w h
  obtain ⟨ao,cap,rfl,h1,h2,h3⟩:=h
  unfold maxLen at h2
  obtain ⟨L,hL⟩:∃ L,l.length=L:=⟨_,rfl⟩
  have HL:Hid (l.length=L):=hL
  have HI:Hid _:=h3
  have HCW:Hid (∀ c∈l,ClsW c):=hCW
  rw [hL] at h1 ⊢
  clear hL h3 hCW
  have HN:Hid (∀ w:World,Calls Tryz.prog 25 #[] w fun e w'=>e=.returned (.pointer (some ⟨w.heap.size+1,0,none⟩))∧(∃ vp pv,HW w' w.heap.size (w.heap.size+1) w.heap.size P3 vp pv)∧Below w.heap.size w w'):=new_any
  go_enter Tryz.func9,Tryz.ntmps9
  go_wp2_with (first
    | (go_at_call 25;refine (HN.out _).mono ?_;rintro e w2 ⟨rfl,hw,hb⟩;have H2:Hid (∃ vp pv,HW w2 W.heap.size (W.heap.size+1) W.heap.size P3 vp pv):=hw;have B2:Hid (Below W.heap.size W w2):=hb;clear hb hw HN))
  go_loopw [5] (fun iv wr=>∃ (i:Nat),iv=.int .i64 i∧i≤L∧Hid (∃ vp pv,HW wr W.heap.size (W.heap.size+1) W.heap.size (wld (l.take i)) vp pv)∧Hid (Below W.heap.size W wr)) (fun iv _=>L - (intOf iv).toNat)
  case atStart=>exact ⟨0,rfl,Nat.zero_le _,H2,B2⟩
  case round =>
    clear H2 B2
    obtain ⟨i,rfl,hi,hHW,hB⟩:=hrel
    by_cases hlt:i<L
    · obtain ⟨c,hc⟩:∃ c,l[i]?=some c:=⟨_,List.getElem?_eq_getElem (by rw [HL.out];exact hlt)⟩
      obtain ⟨bk,o,rfl,hbk,hcl⟩:=HI.out (fun e=>by rw [e] at hc;simp at hc)
      obtain ⟨vi,vm,hcell,hin⟩:=hcl i c hc
      have bel:Below W.heap.size W wr:=hB.out
      have p0:wr.cell? ⟨bk,o+i * 6,none⟩=some (.string c.nm):=(bel.cell (p:=⟨bk,o+i * 6,none⟩) hbk).trans (hcell 0 _ rfl)
      have p1:wr.cell? ⟨bk,o+i * 6+1,none⟩=some (.string c.su):=(bel.cell (p:=⟨bk,o+i * 6+1,none⟩) hbk).trans (hcell 1 _ rfl)
      have p2:wr.cell? ⟨bk,o+i * 6+2,none⟩=some vi:=(bel.cell (p:=⟨bk,o+i * 6+2,none⟩) hbk).trans (hcell 2 _ rfl)
      have p3:wr.cell? ⟨bk,o+i * 6+3,none⟩=some (.int .i64 c.fl):=(bel.cell (p:=⟨bk,o+i * 6+3,none⟩) hbk).trans (hcell 3 _ rfl)
      have p4:wr.cell? ⟨bk,o+i * 6+4,none⟩=some (.int .i64 c.ld):=(bel.cell (p:=⟨bk,o+i * 6+4,none⟩) hbk).trans (hcell 4 _ rfl)
      have p5:wr.cell? ⟨bk,o+i * 6+5,none⟩=some vm:=(bel.cell (p:=⟨bk,o+i * 6+5,none⟩) hbk).trans (hcell 5 _ rfl)
      have hWI:WI (wld (l.take i)):=wld_wi _ (fun c hc=>HCW.out c (List.mem_of_mem_take hc))
      have HD:Hid (Calls Tryz.prog 26 #[.pointer (some ⟨W.heap.size+1,0,none⟩),.agg #[.string c.nm,.string c.su,vi,.int .i64 c.fl,.int .i64 c.ld,vm]] wr fun e w'=>(∃ u,e=.returned u)∧Hid (∃ vp pv,HW w' W.heap.size (W.heap.size+1) W.heap.size (wld (l.take (i+1))) vp pv)∧Hid (Below W.heap.size W w')):=by
        obtain ⟨vp,pv,hw⟩:=hHW.out
        refine (define_any W.heap.size (W.heap.size+1) W.heap.size _ vp pv c vi vm wr hw hB.out.size (hin.keep bel) hWI.nm).mono ?_
        rintro e w' ⟨rfl,hw',hb',_⟩
        rw [wld_at hc]
        exact ⟨⟨_,rfl⟩,hw',hB.out.trans hb'⟩
      clear hcl hcell hin hc bel hWI hHW hB HI
      go_wp2_with (go_at_call 26;refine HD.out.mono ?_;rintro e w3 ⟨⟨u3,rfl⟩,hw3,hb3⟩;clear HD)
      go_roundw
      case rel=>exact ⟨i+1,by go_num,by omega,hw3,hb3⟩
      case measure=>simp [intOf];omega
    · have e:i=L:=by omega
      subst e
      have HF:Hid (WAt (W.heap.size+1) (wld l) wr):=by
        obtain ⟨vp,pv,hw⟩:=hHW.out
        rw [List.take_of_length_le (by rw [HL.out];exact Nat.le_refl _)] at hw
        exact hw.wat
      clear hHW HI
      have HL2:Hid (∀ (b:Nat) (w:World),Calls Tryz.prog 27 #[.pointer (some ⟨b,0,none⟩)] w fun e w'=>e=.returned (.tuple #[.pointer (some ⟨w.heap.size+1,0,none⟩),.int .i64 0])∧w'.cell? ⟨w.heap.size+1,0,none⟩=some (.pointer (some ⟨b,0,none⟩))∧w.heap.size+2≤w'.heap.size∧Below w.heap.size w w'):=lnew_h
      go_wp2_with (first
        | (go_at_call 27;refine (HL2.out _ _).mono ?_;rintro e w5 ⟨rfl,hc,hz5,hb⟩;have B5:Hid (Below wr.heap.size wr w5):=hb;have C5:Hid _:=hc;clear hb hc HL2)
        | (go_at_call 24;refine (hnew_c _ _ _ C5.out).mono ?_;rintro e w6 ⟨rfl,hp,hb,hz6⟩;have P6:Hid _:=hp;have B6:Hid (Below w5.heap.size w5 w6):=hb;clear hp hb))
      go_ret2
      exact ⟨_,_,wr,rfl,hB.out,HF.out,bstep B5.out B6.out,by omega,P6.out⟩
theorem clss_nil (W:World):IsClss W (.slice none 0 0) []:=⟨none,0,rfl,Nat.le_refl _,Nat.zero_le _,fun h=>absurd rfl h⟩
theorem own_sz {S:Nat→Prop} {V W w:World} (h:Tch S W w) (hl:Below V.heap.size V W) (hs:∀ k,S k→V.heap.size≤k):Below V.heap.size V w:=hl.trans (h.below hl.size hs)
theorem awk_1:aryE P3 [] 0 ⟨#[]⟩ 3=0:=by decide +kernel
theorem awk_2:aryN P3 [] 0 ⟨#[]⟩ 3=1:=by rw [aryN,awk_1];rfl
theorem awk_3:aryL P3 [] 0 ⟨#[]⟩ 3=[(1,⟨#[]⟩,[0,0,0])]:=by rw [aryL,awk_1];rfl
set_option maxHeartbeats 1000000 in
theorem awake20_c (W:World):Calls Tryz.prog 8 #[] W fun e w'=>e=.returned (.bool true)∧Below W.heap.size W w':=by
  have HO:Hid (∀ w:World,Calls Tryz.prog 9 #[.slice none 0 0] w fun e w'=>∃ b hb V,e=.returned (.tuple #[.pointer (some ⟨b,0,none⟩),.pointer (some ⟨hb,0,none⟩)])∧Below w.heap.size w V∧WAt b (wld []) V∧Below V.heap.size V w'∧V.heap.size≤hb∧HpAt w' (fun k=>k=hb) hb b (.slice none 0 0) []):=fun w=>opened_c _ [] w (clss_nil w)
  go_enter Tryz.func8,Tryz.ntmps8
  go_wp2_with (first
    | (go_at_call 9;refine (HO.out _).mono ?_;rintro e w1 ⟨b,hb,V,rfl,hb1,hw1,hb2,hz1,hp1⟩;have B1:Hid (Below W.heap.size W V):=hb1;have B2:Hid (Below V.heap.size V w1):=hb2;have W1:Hid (WAt b (wld []) V):=hw1;have P1:Hid (HpAt w1 (fun k=>k=hb) hb b (.slice none 0 0) []):=hp1;clear hb1 hw1 hb2 hp1 HO)
    | (go_at_call 13;refine (array_c P1.out (W1.out.below B2.out) 0 ⟨#[]⟩ (Nat.zero_le _) 3).mono ?_;rintro e w2 ⟨rfl,new,hn,hm⟩;have N2:Hid (HpN (fun k=>k=hb) w1 w2 hb b ([]++new)):=hn;have M2:Hid (new.map Ob.p=aryL (wld []) [] 0 ⟨#[]⟩ 3):=hm;rw [show aryN (wld []) [] 0 ⟨#[]⟩ 3=1 from awk_2,show aryE (wld []) [] 0 ⟨#[]⟩ 3=0 from awk_1];clear hn hm)
    | (go_at_call 17;refine (hlen_c N2.out.1.choose_spec).mono ?_;rintro e w3 ⟨rfl,hw⟩;obtain rfl:=hw.symm;rw [show (([]++new:List Ob).length:Int)=1 by (have h1:=congrArg List.length M2.out;rw [show aryL (wld []) [] 0 ⟨#[]⟩ 3=[(1,⟨#[]⟩,[0,0,0])] from awk_3] at h1;simp at h1;simp [h1])])
    | (go_at_call 21;refine (hwds_c N2.out.1.choose_spec).mono ?_;rintro e w3 ⟨rfl,hw⟩;obtain rfl:=hw.symm;rw [show (wdL ([]++new):Int)=3 by (have h1:=congrArg wdP M2.out;rw [wdP_map,show aryL (wld []) [] 0 ⟨#[]⟩ 3=[(1,⟨#[]⟩,[0,0,0])] from awk_3] at h1;simp [wdP] at h1;simp [h1])]))
  go_ret
  exact ⟨rfl,bstep B1.out (own_sz N2.out.2 B2.out (fun k hk=>by rw [hk];exact hz1))⟩
theorem new_one {os new:List Ob} {ps:List Plc} {d n:Int} {nm:ByteArray} (h:new.map Ob.p=aryL ps os d nm n) (hE:aryE ps os d nm n=0):∃ o,new=[o]∧o.d=d+1∧o.nm=nm∧o.xs=List.replicate n.toNat 0:=by
  rw [aryL,if_pos hE] at h
  match new,h with
  | [],h=>simp at h
  | [o],h =>
    simp at h
    exact ⟨o,rfl,congrArg Prod.fst h,congrArg (fun x=>x.2.1) h,congrArg (fun x=>x.2.2) h⟩
  | _::_::_,h=>simp at h
theorem ary_ok {ps:List Plc} {os:List Ob} {d n:Int} {nm:ByteArray} (h:aryE ps os d nm n=0):arrE d nm.data.toList=0∧ldI ps d nm=0∧0≤n∧os.length+1≤1000∧wdL os+n.toNat≤20000:=by
  unfold aryE at h
  split at h
  · rename_i h1
    split at h
    · rename_i h2
      unfold filE at h
      split at h
      · cases h
      · rename_i h3
        split at h
        · rename_i h4
          simp [negB] at h3
          simp [rmB,szC,wdC] at h4
          exact ⟨h1,h2,h3,by omega,by omega⟩
        · cases h
    · rename_i h2;exact absurd h h2
  · rename_i h1;exact absurd h h1
structure StF (ps:List Plc) (o1 o2:Ob) (d:Int) (nm s:ByteArray):Prop where
  d1:o1.d=d+1
  n1:o1.nm=nm
  x1:o1.xs=[0,0]
  d2:o2.d=0
  n2:o2.nm=s
  hd:0≤d
  snd:sndB (d+1) nm.data.toList=true
  ld1:ldI ps d nm=0
  ld2:ldI ps 0 s=0
  sz:s.size≤maxLen
theorem ar_one {o1:Ob} {r:List Ob} (h:¬ o1.d=0):arO (o1::r) 1=some o1:=by
  have:obI (o1::r) 1=some o1:=by rw [obI,if_pos (by omega)];rfl
  rw [arO,this];simp [h]
theorem ob_two {o1 o2:Ob} {r:List Ob}:obI (o1::o2::r) 2=some o2:=by rw [obI,if_pos (by omega)];rfl
theorem rf_arr {d:Int} {nm:ByteArray} (h:¬ (d=0∧nm.toList=[])):rfB (d+1) nm=true:=by
  unfold rfB
  by_cases h1:d=0
  · have:¬ nm.toList=[]:=fun e=>h ⟨h1,e⟩
    simp [this]
  · have:¬ d+1=1:=by omega
    simp [this]
theorem sto_cs {ps:List Plc} {o1 o2:Ob} {d:Int} {nm s:ByteArray} (F:StF ps o1 o2 d nm s):csE ps [o1,o2] o1.d o1.nm 2=if sbB ps 0 s d nm then 0 else 28:=by
  have e:cmpE (d+1) nm.data.toList=0:=by rw [cmpE,if_pos F.snd,if_neg (by have:=F.hd;omega)]
  rw [csE,ob_two,F.d1,F.n1,e]
  simp only [outD,outS,if_true,F.d2,F.n2,show d+1 - 1=d by omega]
theorem sto_1 {ps:List Plc} {o1 o2:Ob} {d:Int} {nm s:ByteArray} (F:StF ps o1 o2 d nm s) (hr:¬ (d=0∧nm.toList=[])):stE ps [o1,o2] 1 0 true 2=if sbB ps 0 s d nm then 0 else 28:=by
  have h0:¬ o1.d=0:=by rw [F.d1];have:=F.hd;omega
  rw [stE,ar_one h0]
  simp only
  rw [F.d1,F.n1,rf_arr hr,F.x1]
  simp only [if_true]
  rw [if_neg (by simp),if_pos (by simp),if_pos (by simp),← F.d1,← F.n1,sto_cs F,F.n1]
theorem sto_L {ps:List Plc} {o1 o2:Ob} {d:Int} {nm s:ByteArray} (F:StF ps o1 o2 d nm s) (hr:¬ (d=0∧nm.toList=[])):stL ps [o1,o2] 1 0 true 2=if sbB ps 0 s d nm then [{ o1 with xs:=[2,0] },o2] else [o1,o2]:=by
  have h0:¬ o1.d=0:=by rw [F.d1];have:=F.hd;omega
  rw [stL,ar_one h0]
  simp only
  rw [sto_1 F hr]
  cases sbB ps 0 s d nm
  · rfl
  · simp [F.x1]
theorem sto_2 {ps:List Plc} {o1 o2:Ob} {d:Int} {nm:ByteArray} (h1:o1.d=d+1) (h2:o1.nm=nm) (hd:0≤d) (y:Int) (hx:o1.xs=[y,0]) (hr:¬ (d=0∧nm.toList=[])):stE ps [o1,o2] 1 1 true 0=0∧geN (stL ps [o1,o2] 1 1 true 0) 1 0=y∧geE (stL ps [o1,o2] 1 1 true 0) 1 0=0∧geR (stL ps [o1,o2] 1 1 true 0) 1 0=true:=by
  have h0:¬ o1.d=0:=by rw [h1];omega
  have e1:stE ps [o1,o2] 1 1 true 0=0:=by
    rw [stE,ar_one h0]
    simp only
    rw [h1,h2,rf_arr hr,hx]
    simp
  have e2:stL ps [o1,o2] 1 1 true 0=[{ o1 with xs:=[y,0] },o2]:=by
    rw [stL,ar_one h0]
    simp only
    rw [e1,hx]
    simp
  have e3:arO [{ o1 with xs:=[y,0] },o2] 1=some { o1 with xs:=[y,0] }:=ar_one h0
  refine ⟨e1,?_,?_,?_⟩
  · rw [e2,geN,e3];simp
  · rw [e2,geE,e3];simp
  · rw [e2,geR,e3];simp [h1,h2,rf_arr hr]
def NmW (ps:List Plc):Prop:=∀ k q,ps[k]?=some q→lookL ps (nameL q)=some k∧validL (nameL q)=true
theorem cls_name {c:Cls} (h:clsB c=true):validL c.nm.data.toList=true:=by
  unfold clsB at h
  simp only [Bool.and_eq_true] at h
  exact h.1.1.1.1.1.1.1.1.1
theorem nmW (l:List Cls) (hl:∀ c∈l,ClsW c):NmW (wld l):=by
  refine wld_ind (P:=NmW) (fun k q hk=>?_) (fun ps c h hc=>?_) l hl
  · match k,hk with
    | 0,hk=>simp [P3] at hk;subst hk;exact ⟨by decide,by decide⟩
    | 1,hk=>simp [P3] at hk;subst hk;exact ⟨by decide,by decide⟩
    | 2,hk=>simp [P3] at hk;subst hk;exact ⟨by decide,by decide⟩
    | (k+3),hk=>simp [P3] at hk
  · cases hd:defN ps c with
    | error e=>exact h
    | ok p =>
      obtain ⟨h1,_,hn,s,l,_,_,rfl⟩:=def_ok hd
      intro k q hk
      have hk2:(ps++[(⟨hcOf c,s,gathL (ps.map Plc.cl) s l⟩:Plc)])[k]?=some q:=hk
      show lookL (ps++[_]) (nameL q)=some k∧_
      by_cases hlt:k<ps.length
      · rw [List.getElem?_append_left hlt] at hk2
        obtain ⟨h2,h3⟩:=h k q hk2
        exact ⟨look_snoc h2 hn,h3⟩
      · rw [List.getElem?_append_right (by omega)] at hk2
        have he:k - ps.length=0:=by
          have:=(List.getElem?_eq_some_iff.1 hk2).1
          simp at this;omega
        rw [he] at hk2
        simp at hk2
        subst hk2
        refine ⟨?_,cls_name h1⟩
        rw [lookL,lookF_snoc,if_pos rfl]
        congr 1;omega
theorem clss_kh {w w':World} {v:Value} {l:List Cls} (h:IsClss w v l) (hb:Below w.heap.size w w'):IsClss w' v l:=by
  obtain ⟨ao,cap,rfl,h1,h2,h3⟩:=h
  refine ⟨ao,cap,rfl,h1,h2,fun hne=>?_⟩
  obtain ⟨bk,o,e,hlt,hc⟩:=h3 hne
  refine ⟨bk,o,e,Nat.lt_of_lt_of_le hlt hb.size,fun k c hk=>?_⟩
  obtain ⟨vi,vm,h4,h5⟩:=hc k c hk
  exact ⟨vi,vm,fun j u hj=>(hb.cell hlt).trans (h4 j u hj),h5.keep hb⟩
theorem ld_name {ps:List Plc} (hN:NmW ps) {k:Nat} {q:Plc} (h:ps[k]?=some q):ldI ps 0 q.c.nm=0:=by
  obtain ⟨h1,h2⟩:=hN k q h
  have h1':lookL ps q.c.nm.data.toList=some k:=h1
  have h2':validL q.c.nm.data.toList=true:=h2
  have hs:sndB 0 q.c.nm.data.toList=true:=by
    unfold sndB
    simp [h2']
  rw [ldI,hs,h1']
  simp
theorem plc_at {ps:List Plc} {x:Int} {q:Plc} (h:plcI ps x=some q):∃ k:Nat,ps[k]?=some q:=by
  rcases plcI_cases ps x with ⟨h1,_⟩|⟨k,q',_,h2,h1⟩
  · rw [h1] at h;cases h
  · rw [h1] at h;cases h;exact ⟨k,h2⟩
theorem obn_ok {ps:List Plc} {os:List Ob} {x:Int} (h:obnE ps os x=0):∃ q,plcI ps x=some q∧obnL ps os x=os++[⟨0,q.c.nm,none,[]⟩]∧obnN ps os x=(os.length:Int)+1:=by
  cases hq:plcI ps x with
  | none=>rw [obnE,hq] at h;cases h
  | some q=>exact ⟨q,rfl,by rw [obnL,hq];simp [h],by rw [obnN,if_pos h]⟩
theorem sto_facts {ps:List Plc} (hI:WI ps) (hN:NmW ps) {new:List Ob} {d x:Int} {nm:ByteArray} (h1:new.map Ob.p=aryL ps [] d nm 2) (e1:aryE ps [] d nm 2=0) (e2:obnE ps new x=0):∃ o1 o2 s,new=[o1]∧obnL ps new x=[o1,o2]∧StF ps o1 o2 d nm s∧obnN ps new x=2∧aryN ps [] d nm 2=1:=by
  obtain ⟨o1,rfl,a1,a2,a3⟩:=new_one h1 e1
  obtain ⟨q,b1,b2,b3⟩:=obn_ok e2
  obtain ⟨c1,c2,c3,c4,c5⟩:=ary_ok e1
  obtain ⟨k,hk⟩:=plc_at b1
  obtain ⟨m,rfl,hm⟩:=arr_E0 c1
  exact ⟨o1,_,q.c.nm,rfl,b2,⟨a1,a2,a3,rfl,rfl,by omega,by simpa using hm,c2,ld_name hN hk,hI.nm q (List.mem_of_getElem? hk)⟩,by rw [b3];rfl,by rw [aryN,e1];rfl⟩
set_option maxHeartbeats 8000000 in
theorem HeapStores_any (v:Value) (l:List Cls) (d:Int) (nm:ByteArray) (x:Int) (W:World) (h:IsClss W v l) (hz:nm.size≤maxLen):Calls Tryz.prog 5 #[v,.agg #[.int .i64 d,.string nm],.int .i64 x] W fun e w'=>e=.returned (.bool true)∧Below W.heap.size W w':=by
  have B0:Hid (Below W.heap.size W (W.alloc (.cells #[.int .i64 d,.string nm] 40))):=(Below.refl _ _).alloc (Nat.le_refl _) _
  have HI:Hid (WI (wld l)):=wld_wi l (clss_w h)
  have HNm:Hid (NmW (wld l)):=nmW l (clss_w h)
  have HO:Hid (∀ w:World,Below W.heap.size W w→Calls Tryz.prog 9 #[v] w fun e w'=>∃ b hb V,e=.returned (.tuple #[.pointer (some ⟨b,0,none⟩),.pointer (some ⟨hb,0,none⟩)])∧Below w.heap.size w V∧WAt b (wld l) V∧Below V.heap.size V w'∧V.heap.size≤hb∧HpAt w' (fun k=>k=hb) hb b (.slice none 0 0) []):=fun w hw=>opened_c v l w (clss_kh h hw)
  clear h
  go_enter Tryz.func5,Tryz.ntmps5
  go_upto_region 6 with (first
    | (go_at_call 8;refine (awake20_c _).mono ?_;rintro e w1 ⟨rfl,hB⟩;have B1:Hid (Below W.heap.size W w1):=bstep B0.out hB;obtain ⟨zB,z0,z1,zf,zL,zN⟩:=k2c (n:=W.heap.size) hB;clear hB)
    | (go_at_call 9;refine (HO.out _ B1.out).mono ?_;rintro e w2 ⟨bb,hb,V,rfl,hb1,hw1,hb2,hz1,hp1⟩;have B2:Hid (Below W.heap.size W V):=bstep B1.out hb1;have B3:Hid (Below V.heap.size V w2):=hb2;have W1:Hid (WAt bb (wld l) V):=hw1;have P1:Hid (HpAt w2 (fun k=>k=hb) hb bb (.slice none 0 0) []):=hp1;have HV:Hid (W.heap.size<V.heap.size):=Nat.lt_of_lt_of_le zL hb1.size;have zd:=k2c (n:=W.heap.size) (bstep hb1 hb2) zL zB.out;clear zB z0 z1 zf zL zN;obtain ⟨zB,z0,z1,zf,zL,zN⟩:=zd;clear hb1 hw1 hb2 hp1 HO)
    | (go_at_call 13;refine (array_c P1.out (W1.out.below B3.out) d nm hz 2).mono ?_;rintro e w3 ⟨rfl,new,hn,hm⟩;rw [List.nil_append] at hn;have N3:Hid (HpN (fun k=>k=hb) w2 w3 hb bb new):=hn;have M3:Hid (new.map Ob.p=aryL (wld l) [] d nm 2):=hm;have B4:Hid (Below V.heap.size V w3):=own_sz N3.out.2 B3.out (fun k hk=>by rw [hk];exact hz1);have zt:=(N3.out.2.blk W.heap.size zL (fun x=>by have:=HV.out;omega)).trans zB.out;clear zB z0 z1 zf zL zN;have zB:Hid _:=zt;obtain ⟨z0,z1,zf,zL⟩:=r2c zt;clear zt hn hm)
    | (go_at_call 14;refine (object_c N3.out.1.choose_spec (W1.out.below B4.out) HI.out.pb x).mono ?_;rintro e w4 ⟨rfl,hn⟩;have N4:Hid (HpN (gS (fun k=>k=hb) w2.heap.size w3.heap.size) w3 w4 hb bb (obnL (wld l) new x)):=hn;have hz3:=N3.out.2.size;have hz2:=B3.out.size;have S4:Hid (∀ k,gS (fun k=>k=hb) w2.heap.size w3.heap.size k→V.heap.size≤k):=(fun k hk=>by rcases hk with hk|hk;rw [hk];exact hz1;omega);have B5:Hid (Below V.heap.size V w4):=own_sz N4.out.2 B4.out S4.out;have zt:=(N4.out.2.blk W.heap.size zL (fun x=>by have:=HV.out;have:=S4.out _ x;omega)).trans zB.out;clear zB z0 z1 zf zL;have zB:Hid _:=zt;obtain ⟨z0,z1,zf,zL⟩:=r2c zt;clear zt hn))
  have BF:Hid (Below W.heap.size W w4):=bstep B2.out B5.out
  by_cases hE1:aryE (wld l) [] d nm 2=0
  · by_cases hE2:obnE (wld l) new x=0
    · obtain ⟨o1,o2,s,rfl,hL,hF,hN2,hN1⟩:=sto_facts HI.out HNm.out M3.out hE1 hE2
      have F:Hid (StF (wld l) o1 o2 d nm s):=hF
      rw [hE1,hE2,hN2,hN1]
      rw [hL] at N4
      obtain ⟨v4,hp4⟩:=N4.out.1
      have P4:Hid (HpAt w4 (gS (gS (fun k=>k=hb) w2.heap.size w3.heap.size) w3.heap.size w4.heap.size) hb bb v4 [o1,o2]):=hp4
      have HT:Hid (∀ w,Below w4.heap.size w4 w→Calls Tryz.prog 18 #[.pointer (some ⟨hb,0,none⟩),.int .i64 2] w fun e w'=>e=.returned (.tuple #[.agg #[.int .i64 0,.string s],.int .i64 0])∧Below w.heap.size w w'):=fun w hw=>by
        have:=typeOf_c (P4.out.below hw) 2
        rw [obF,ob_two,tyO,hF.d2,hF.n2] at this
        exact this
      have HZ1:Hid (∀ o∈[o1,o2],o.nm.size≤maxLen):=fun o ho=>by
        simp at ho
        rcases ho with rfl|rfl
        · rw [hF.n1];exact hz
        · rw [hF.n2];exact hF.sz
      have HZ2:Hid (∀ o∈[{ o1 with xs:=[2,0] },o2],o.nm.size≤maxLen):=fun o ho=>by
        simp at ho
        rcases ho with rfl|rfl
        · show o1.nm.size≤maxLen;rw [hF.n1];exact hz
        · rw [hF.n2];exact hF.sz
      clear hE1 hE2 hL hF hN1 hN2 hp4 M3 N3 P1
      by_cases hr:d=0∧nm.toList=[]
      · obtain ⟨rfl,hnm⟩:=hr
        have hne:nm.toList.isEmpty=true:=by simpa using hnm
        go_wp2
        go_ret
        exact ⟨rfl,BF.out⟩
      · cases hB:sbB (wld l) 0 s d nm
        · have hxs:(o1:Ob).xs=[0,0]:=F.out.x1
          obtain ⟨s1,s2,s3,s4⟩:=sto_2 (ps:=wld l) (o1:=o1) (o2:=o2) (nm:=nm) F.out.d1 F.out.n1 F.out.hd 0 hxs hr
          have Q1:Hid (stE (wld l) [o1,o2] 1 0 true 2=28):=by rw [Hid,sto_1 F.out hr,hB];rfl
          have Q2:Hid (stL (wld l) [o1,o2] 1 0 true 2=[o1,o2]):=by rw [Hid,sto_L F.out hr,hB];rfl
          have Q3:Hid _:=s1
          have Q4:Hid _:=s2
          have Q5:Hid _:=s3
          have Q6:Hid _:=s4
          have HSub:Hid (∀ w,Below V.heap.size V w→Calls Tryz.prog 19 #[.pointer (some ⟨bb,0,none⟩),.agg #[.int .i64 0,.string s],.agg #[.int .i64 d,.string nm]] w fun e w'=>e=.returned (.tuple #[.bool false,.int .i64 0])∧Below w.heap.size w w'):=fun w hw=>by
            have:=sub_c (W1.out.below hw) HI.out 0 s d nm F.out.sz hz
            rw [suI_eq,hB,sbE,F.out.ld2,F.out.ld1] at this
            exact this
          clear s1 s2 s3 s4 hxs hB
          by_cases hd0:d=0
          · have hne:nm.toList.isEmpty=false:=by
              cases e2:nm.toList.isEmpty with
              | false=>rfl
              | true=>exact absurd ⟨hd0,by simpa using e2⟩ hr
            clear hr
            subst hd0
            go_wp2_with (first
              | (go_at_call 18;refine (HT.out _ (Below.refl _ _)).mono ?_;rintro e w5 ⟨rfl,hB⟩;have B6:Hid (Below w4.heap.size w4 w5):=hB;have zd:=k2c (n:=W.heap.size) hB zL zB.out;clear zB z0 z1 zf zL;obtain ⟨zB,z0,z1,zf,zL,zN⟩:=zd;clear hB)
              | (go_at_call 19;refine (HSub.out _ (B5.out.trans ((B6.out.alloc B6.out.size _).mono B5.out.size))).mono ?_;rintro e w6 ⟨rfl,hB⟩;have B7:Hid (Below w4.heap.size w4 w6):=bstep (B6.out.alloc B6.out.size _) hB;have zd:=k2c (n:=W.heap.size) hB (by simp;omega) (hkA zB.out);clear zB z0 z1 zf zL zN;obtain ⟨zB,z0,z1,zf,zL,zN⟩:=zd;clear hB)
              | (go_at_call 16;refine (set_c P8.out (W1.out.below B8.out) HI.out HZ1.out 1 1 0 true).mono ?_;rintro e w8 ⟨rfl,hn⟩;rw [Q3.out];have N9:Hid _:=hn;have B9:Hid (Below V.heap.size V w8):=own_sz hn.2 B8.out S8.out;clear hn)
              | (go_at_call 16;refine (set_c (P4.out.below B7.out) (W1.out.below (B5.out.trans (B7.out.mono B5.out.size))) HI.out HZ1.out 1 0 2 true).mono ?_;rintro e w7 ⟨rfl,hn⟩;rw [Q1.out];rw [Q2.out] at hn;have hzz:=hn.2.size;have hz47:=B7.out.size;have hzV:=B5.out.size;have hn2:=hn;obtain ⟨v8,hp8⟩:=hn.1;have P8:Hid (HpAt w7 _ hb bb v8 [o1,o2]):=hp8;have S8:Hid (∀ k,gS (gS (gS (fun k=>k=hb) w2.heap.size w3.heap.size) w3.heap.size w4.heap.size) w6.heap.size w7.heap.size k→V.heap.size≤k):=(fun k hk=>by rcases hk with (hk|hk)|hk;exact S4.out k hk;omega;omega);have B8:Hid (Below V.heap.size V w7):=own_sz hn.2 (B5.out.trans (B7.out.mono B5.out.size)) (fun k hk=>S8.out k (.inl hk));clear hn hp8 hn2)
              | (go_at_call 15;refine (get_c N9.out.1.choose_spec 1 0).mono ?_;rintro e w9 ⟨rfl,hB⟩;rw [Q4.out,Q5.out,Q6.out];have B10:Hid (Below V.heap.size V w9):=bstep B9.out hB;clear hB))
            go_ret
            exact ⟨rfl,bstep B2.out (B10.out.alloc B10.out.size _)⟩
          · clear hr
            go_wp2_with (first
              | (go_at_call 18;refine (HT.out _ (Below.refl _ _)).mono ?_;rintro e w5 ⟨rfl,hB⟩;have B6:Hid (Below w4.heap.size w4 w5):=hB;have zd:=k2c (n:=W.heap.size) hB zL zB.out;clear zB z0 z1 zf zL;obtain ⟨zB,z0,z1,zf,zL,zN⟩:=zd;clear hB)
              | (go_at_call 19;refine (HSub.out _ (B5.out.trans ((B6.out.alloc B6.out.size _).mono B5.out.size))).mono ?_;rintro e w6 ⟨rfl,hB⟩;have B7:Hid (Below w4.heap.size w4 w6):=bstep (B6.out.alloc B6.out.size _) hB;have zd:=k2c (n:=W.heap.size) hB (by simp;omega) (hkA zB.out);clear zB z0 z1 zf zL zN;obtain ⟨zB,z0,z1,zf,zL,zN⟩:=zd;clear hB)
              | (go_at_call 16;refine (set_c P8.out (W1.out.below B8.out) HI.out HZ1.out 1 1 0 true).mono ?_;rintro e w8 ⟨rfl,hn⟩;rw [Q3.out];have N9:Hid _:=hn;have B9:Hid (Below V.heap.size V w8):=own_sz hn.2 B8.out S8.out;clear hn)
              | (go_at_call 16;refine (set_c (P4.out.below B7.out) (W1.out.below (B5.out.trans (B7.out.mono B5.out.size))) HI.out HZ1.out 1 0 2 true).mono ?_;rintro e w7 ⟨rfl,hn⟩;rw [Q1.out];rw [Q2.out] at hn;have hzz:=hn.2.size;have hz47:=B7.out.size;have hzV:=B5.out.size;have hn2:=hn;obtain ⟨v8,hp8⟩:=hn.1;have P8:Hid (HpAt w7 _ hb bb v8 [o1,o2]):=hp8;have S8:Hid (∀ k,gS (gS (gS (fun k=>k=hb) w2.heap.size w3.heap.size) w3.heap.size w4.heap.size) w6.heap.size w7.heap.size k→V.heap.size≤k):=(fun k hk=>by rcases hk with (hk|hk)|hk;exact S4.out k hk;omega;omega);have B8:Hid (Below V.heap.size V w7):=own_sz hn.2 (B5.out.trans (B7.out.mono B5.out.size)) (fun k hk=>S8.out k (.inl hk));clear hn hp8 hn2)
              | (go_at_call 15;refine (get_c N9.out.1.choose_spec 1 0).mono ?_;rintro e w9 ⟨rfl,hB⟩;rw [Q4.out,Q5.out,Q6.out];have B10:Hid (Below V.heap.size V w9):=bstep B9.out hB;clear hB))
            go_ret
            exact ⟨rfl,bstep B2.out (B10.out.alloc B10.out.size _)⟩
        · have hxs:({ o1 with xs:=[2,0] }:Ob).xs=[2,0]:=rfl
          obtain ⟨s1,s2,s3,s4⟩:=sto_2 (ps:=wld l) (o1:={ o1 with xs:=[2,0] }) (o2:=o2) (nm:=nm) F.out.d1 F.out.n1 F.out.hd 2 hxs hr
          have Q1:Hid (stE (wld l) [o1,o2] 1 0 true 2=0):=by rw [Hid,sto_1 F.out hr,hB];rfl
          have Q2:Hid (stL (wld l) [o1,o2] 1 0 true 2=[{ o1 with xs:=[2,0] },o2]):=by rw [Hid,sto_L F.out hr,hB];rfl
          have Q3:Hid _:=s1
          have Q4:Hid _:=s2
          have Q5:Hid _:=s3
          have Q6:Hid _:=s4
          have HSub:Hid (∀ w,Below V.heap.size V w→Calls Tryz.prog 19 #[.pointer (some ⟨bb,0,none⟩),.agg #[.int .i64 0,.string s],.agg #[.int .i64 d,.string nm]] w fun e w'=>e=.returned (.tuple #[.bool true,.int .i64 0])∧Below w.heap.size w w'):=fun w hw=>by
            have:=sub_c (W1.out.below hw) HI.out 0 s d nm F.out.sz hz
            rw [suI_eq,hB,sbE,F.out.ld2,F.out.ld1] at this
            exact this
          clear s1 s2 s3 s4 hxs hB
          by_cases hd0:d=0
          · have hne:nm.toList.isEmpty=false:=by
              cases e2:nm.toList.isEmpty with
              | false=>rfl
              | true=>exact absurd ⟨hd0,by simpa using e2⟩ hr
            clear hr
            subst hd0
            go_wp2_with (first
              | (go_at_call 18;refine (HT.out _ (Below.refl _ _)).mono ?_;rintro e w5 ⟨rfl,hB⟩;have B6:Hid (Below w4.heap.size w4 w5):=hB;have zd:=k2c (n:=W.heap.size) hB zL zB.out;clear zB z0 z1 zf zL;obtain ⟨zB,z0,z1,zf,zL,zN⟩:=zd;clear hB)
              | (go_at_call 19;refine (HSub.out _ (B5.out.trans ((B6.out.alloc B6.out.size _).mono B5.out.size))).mono ?_;rintro e w6 ⟨rfl,hB⟩;have B7:Hid (Below w4.heap.size w4 w6):=bstep (B6.out.alloc B6.out.size _) hB;have zd:=k2c (n:=W.heap.size) hB (by simp;omega) (hkA zB.out);clear zB z0 z1 zf zL zN;obtain ⟨zB,z0,z1,zf,zL,zN⟩:=zd;clear hB)
              | (go_at_call 16;refine (set_c P8.out (W1.out.below B8.out) HI.out HZ2.out 1 1 0 true).mono ?_;rintro e w8 ⟨rfl,hn⟩;rw [Q3.out];have N9:Hid _:=hn;have B9:Hid (Below V.heap.size V w8):=own_sz hn.2 B8.out S8.out;clear hn)
              | (go_at_call 16;refine (set_c (P4.out.below B7.out) (W1.out.below (B5.out.trans (B7.out.mono B5.out.size))) HI.out HZ1.out 1 0 2 true).mono ?_;rintro e w7 ⟨rfl,hn⟩;rw [Q1.out];rw [Q2.out] at hn;have hzz:=hn.2.size;have hz47:=B7.out.size;have hzV:=B5.out.size;have hn2:=hn;obtain ⟨v8,hp8⟩:=hn.1;have P8:Hid (HpAt w7 _ hb bb v8 [{ o1 with xs:=[2,0] },o2]):=hp8;have S8:Hid (∀ k,gS (gS (gS (fun k=>k=hb) w2.heap.size w3.heap.size) w3.heap.size w4.heap.size) w6.heap.size w7.heap.size k→V.heap.size≤k):=(fun k hk=>by rcases hk with (hk|hk)|hk;exact S4.out k hk;omega;omega);have B8:Hid (Below V.heap.size V w7):=own_sz hn.2 (B5.out.trans (B7.out.mono B5.out.size)) (fun k hk=>S8.out k (.inl hk));clear hn hp8 hn2)
              | (go_at_call 15;refine (get_c N9.out.1.choose_spec 1 0).mono ?_;rintro e w9 ⟨rfl,hB⟩;rw [Q4.out,Q5.out,Q6.out];have B10:Hid (Below V.heap.size V w9):=bstep B9.out hB;clear hB))
            go_ret
            exact ⟨rfl,bstep B2.out (B10.out.alloc B10.out.size _)⟩
          · clear hr
            go_wp2_with (first
              | (go_at_call 18;refine (HT.out _ (Below.refl _ _)).mono ?_;rintro e w5 ⟨rfl,hB⟩;have B6:Hid (Below w4.heap.size w4 w5):=hB;have zd:=k2c (n:=W.heap.size) hB zL zB.out;clear zB z0 z1 zf zL;obtain ⟨zB,z0,z1,zf,zL,zN⟩:=zd;clear hB)
              | (go_at_call 19;refine (HSub.out _ (B5.out.trans ((B6.out.alloc B6.out.size _).mono B5.out.size))).mono ?_;rintro e w6 ⟨rfl,hB⟩;have B7:Hid (Below w4.heap.size w4 w6):=bstep (B6.out.alloc B6.out.size _) hB;have zd:=k2c (n:=W.heap.size) hB (by simp;omega) (hkA zB.out);clear zB z0 z1 zf zL zN;obtain ⟨zB,z0,z1,zf,zL,zN⟩:=zd;clear hB)
              | (go_at_call 16;refine (set_c P8.out (W1.out.below B8.out) HI.out HZ2.out 1 1 0 true).mono ?_;rintro e w8 ⟨rfl,hn⟩;rw [Q3.out];have N9:Hid _:=hn;have B9:Hid (Below V.heap.size V w8):=own_sz hn.2 B8.out S8.out;clear hn)
              | (go_at_call 16;refine (set_c (P4.out.below B7.out) (W1.out.below (B5.out.trans (B7.out.mono B5.out.size))) HI.out HZ1.out 1 0 2 true).mono ?_;rintro e w7 ⟨rfl,hn⟩;rw [Q1.out];rw [Q2.out] at hn;have hzz:=hn.2.size;have hz47:=B7.out.size;have hzV:=B5.out.size;have hn2:=hn;obtain ⟨v8,hp8⟩:=hn.1;have P8:Hid (HpAt w7 _ hb bb v8 [{ o1 with xs:=[2,0] },o2]):=hp8;have S8:Hid (∀ k,gS (gS (gS (fun k=>k=hb) w2.heap.size w3.heap.size) w3.heap.size w4.heap.size) w6.heap.size w7.heap.size k→V.heap.size≤k):=(fun k hk=>by rcases hk with (hk|hk)|hk;exact S4.out k hk;omega;omega);have B8:Hid (Below V.heap.size V w7):=own_sz hn.2 (B5.out.trans (B7.out.mono B5.out.size)) (fun k hk=>S8.out k (.inl hk));clear hn hp8 hn2)
              | (go_at_call 15;refine (get_c N9.out.1.choose_spec 1 0).mono ?_;rintro e w9 ⟨rfl,hB⟩;rw [Q4.out,Q5.out,Q6.out];have B10:Hid (Below V.heap.size V w9):=bstep B9.out hB;clear hB))
            go_ret
            exact ⟨rfl,bstep B2.out (B10.out.alloc B10.out.size _)⟩
    · obtain ⟨E2,e2⟩:∃ E2,obnE (wld l) new x=E2:=⟨_,rfl⟩
      rw [hE1,e2]
      rw [e2] at hE2
      clear e2 hE1
      go_wp2
      go_ret
      exact ⟨rfl,BF.out⟩
  · obtain ⟨E1,e1⟩:∃ E1,aryE (wld l) [] d nm 2=E1:=⟨_,rfl⟩
    rw [e1]
    rw [e1] at hE1
    clear e1
    go_wp2
    go_ret
    exact ⟨rfl,BF.out⟩
end Go.Proofs.YtfnmmpkhopochaaGreat
