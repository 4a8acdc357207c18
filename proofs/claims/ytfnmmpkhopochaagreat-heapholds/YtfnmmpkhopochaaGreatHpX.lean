import Derived.Test.YtfnmmpkhopochaaGreatHpN
import Derived.Test.YtfnmmpkhopochaaGreatHpI
set_option maxRecDepth 100000
namespace Go.Proofs.YtfnmmpkhopochaaGreat
open Go.RowKit Go.Maps
def stE (ps:List Plc) (os:List Ob) (r i:Int) (Rf:Bool) (N:Int):Int:=match arO os r with
  | none=>arF os r
  | some o=>if rfB o.d o.nm=Rf then (if Rf=false∧i32B N=false then 35 else if 0≤i∧i<(o.xs.length:Int) then (if Rf=true∧¬ N=0 then csE ps os o.d o.nm N else 0) else 31) else 35
def stL (ps:List Plc) (os:List Ob) (r i:Int) (Rf:Bool) (N:Int):List Ob:=match arO os r with
  | none=>os
  | some o=>if stE ps os r i Rf N=0 then os.set (r - 1).toNat { o with xs:=o.xs.set i.toNat N } else os
theorem HpAt.stored {W w2:World} {S:Nat→Prop} {hb b:Nat} {ov:Value} {os:List Ob} (h:HpAt W S hb b ov os) {k j g:Nat} {o:Ob} (hk:os[k]?=some o) (hg:o.eb=some g) (N:Int) (hl:Below W.heap.size W w2):HpN S W (w2.setCell ⟨g,j,none⟩ (.int .i64 N)) hb b (os.set k { o with xs:=o.xs.set j N }):=by
  have hs:=(h.below hl).setEl k j g o hk hg N
  refine ⟨⟨ov,hs.mono (fun x hx=>hx.elim (fun y=>hs.sz x y) (fun y=>y.2)) (fun _ _ x=>.inl x)⟩,?_⟩
  exact ((Tch.refl S W).bel hl).set (p:=⟨g,j,none⟩) (.inl (h.eS o (List.mem_of_getElem? hk) g hg)) _
theorem set_c {W:World} {S:Nat→Prop} {hb b:Nat} {ov:Value} {os:List Ob} (h:HpAt W S hb b ov os) {ps:List Plc} (hw:WAt b ps W) (hi:WI ps) (hsz:∀ o∈os,o.nm.size≤maxLen) (r i N:Int) (Rf:Bool) :
    Calls Tryz.prog 16 #[.pointer (some ⟨hb,0,none⟩),.int .i64 r,.int .i64 i,.agg #[.bool Rf,.int .i64 N]] W fun e w'=>e=.returned (.int .i64 (stE ps os r i Rf N))∧HpN S W w' hb b (stL ps os r i Rf N):=by
  have HF:∀ w,Below W.heap.size W w→Calls Tryz.prog 43 #[.pointer (some ⟨hb,0,none⟩),.int .i64 r] w fun e w'=>e=.returned (.tuple #[obW (arO os r),.int .i64 (arF os r)])∧Below w.heap.size w w':=fun w hl=>farr_c (h.below hl) r
  cases ho:arO os r with
  | none =>
    have q1:stE ps os r i Rf N=arF os r:=by rw [stE,ho]
    have q2:stL ps os r i Rf N=os:=by rw [stL,ho]
    rw [ho] at HF
    rw [q1,q2]
    exact (set_err (arF_none ho) HF).mono fun e w' ⟨a1,a2⟩=>⟨a1,h.stay a2⟩
  | some o =>
    have hob:=(arO_obI ho).1
    have hm:=obI_mem hob
    obtain ⟨av,hv⟩:=elV_form o (h.no o hm)
    rw [ho,arF_some ho,obW,obV,hv] at HF
    have R:∀ E,stE ps os r i Rf N=E→¬ E=0→stL ps os r i Rf N=os:=fun E e1 e2=>by rw [stL,ho];simp only;rw [if_neg (by rw [e1];exact e2)]
    have q0:stE ps os r i Rf N=if rfB o.d o.nm=Rf then (if Rf=false∧i32B N=false then 35 else if 0≤i∧i<(o.xs.length:Int) then (if Rf=true∧¬ N=0 then csE ps os o.d o.nm N else 0) else 31) else 35:=by rw [stE,ho]
    by_cases hk:rfB o.d o.nm=Rf
    · rw [if_pos hk] at q0
      by_cases hN:Rf=false∧i32B N=false
      · rw [if_pos hN] at q0
        rw [q0,R _ q0 (by decide)]
        obtain ⟨rfl,hN⟩:=hN
        exact (set_i32 HF hk hN).mono fun e w' ⟨a1,a2⟩=>⟨a1,h.stay a2⟩
      · rw [if_neg hN] at q0
        by_cases hij:0≤i∧i<(o.xs.length:Int)
        · rw [if_pos hij] at q0
          have HH:∀ w:World,Calls Tryz.prog 44 #[.agg #[.int .i64 o.d,.string o.nm,.slice av o.xs.length o.xs.length],.int .i64 i] w fun e w'=>e=.returned (.bool true)∧Below w.heap.size w w':=fun w=>by
            have:=has_o o.d i o.nm av o.xs.length o.xs.length w
            rw [decide_eq_true hij] at this;exact this
          obtain ⟨j,hj⟩:∃ j:Nat,i=(j:Int):=⟨i.toNat,by omega⟩
          have hjl:j<o.xs.length:=by omega
          obtain ⟨g,hg⟩:∃ g,o.eb=some g:=by
            cases e:o.eb with
            | none=>rw [h.no o hm e] at hjl;simp at hjl
            | some g=>exact ⟨g,rfl⟩
          have hav:av=some ⟨g,0,none⟩:=by rw [elV,hg,ebV] at hv;injection hv with e1;exact e1.symm
          have hu:W.cell? ⟨g,j,none⟩=some (.int .i64 (o.xs[j])):=by
            rw [cell_of_row W g j _ _ _ (h.el o hm g hg)];simp [intL,hjl]
          have hf:W.frozen? ⟨g,j,none⟩=false:=frozen_of_row W g j _ _ (h.el o hm g hg)
          obtain ⟨k,hrk,hok⟩:∃ k:Nat,(r - 1).toNat=k∧os[k]?=some o:=by
            rcases obI_cases os r with ⟨h1,_⟩|⟨k,q,h0,h2,h1⟩
            · rw [h1] at hob;cases hob
            · rw [h1] at hob;cases hob;exact ⟨k,by omega,h2⟩
          have Y:stE ps os r i Rf N=0→stL ps os r i Rf N=os.set k { o with xs:=o.xs.set j N }:=fun e1=>by
            rw [stL,ho];simp only;rw [if_pos e1,hrk,hj,Int.toNat_natCast]
          have FIN:∀ w',(∃ w2,Below W.heap.size W w2∧w'=w2.setCell ⟨g,j,none⟩ (.int .i64 N))→HpN S W w' hb b (os.set k { o with xs:=o.xs.set j N }):=fun w' ⟨w2,l,e⟩=>by rw [e];exact h.stored hok hg N l
          by_cases hc:Rf=true∧¬ N=0
          · rw [if_pos hc] at q0
            obtain ⟨rfl,hN0⟩:=hc
            have HC:∀ w,Below W.heap.size W w→Calls Tryz.prog 47 #[.pointer (some ⟨hb,0,none⟩),.agg #[.int .i64 o.d,.string o.nm,.slice av o.xs.length o.xs.length],.int .i64 N] w fun e w'=>e=.returned (.int .i64 (csE ps os o.d o.nm N))∧Below w.heap.size w w':=fun w hl=>check_s (h.below hl) (hw.below hl) hi hsz o.d o.nm (hsz o hm) av _ N
            by_cases hE:csE ps os o.d o.nm N=0
            · rw [hE] at q0 HC
              rw [q0,Y q0]
              exact (set_ref HF hk HH hj hjl hav hu hf hN0 HC).mono fun e w' ⟨a1,a2⟩=>⟨a1,FIN w' a2⟩
            · rw [q0,R _ q0 hE]
              exact (set_chk HF hk HH hN0 hE HC).mono fun e w' ⟨a1,a2⟩=>⟨a1,h.stay a2⟩
          · rw [if_neg hc] at q0
            rw [q0,Y q0]
            cases Rf with
            | true =>
              have h0:N=0:=by
                by_cases e:N=0
                · exact e
                · exact absurd ⟨rfl,e⟩ hc
              exact (set_null HF hk HH hj hjl hav hu hf h0).mono fun e w' ⟨a1,a2⟩=>⟨a1,FIN w' a2⟩
            | false =>
              have h0:i32B N=true:=by
                cases e:i32B N with
                | true=>rfl
                | false=>exact absurd ⟨rfl,e⟩ hN
              exact (set_int HF hk h0 HH hj hjl hav hu hf).mono fun e w' ⟨a1,a2⟩=>⟨a1,FIN w' a2⟩
        · rw [if_neg hij] at q0
          rw [q0,R _ q0 (by decide)]
          have HH:∀ w:World,Calls Tryz.prog 44 #[.agg #[.int .i64 o.d,.string o.nm,.slice av o.xs.length o.xs.length],.int .i64 i] w fun e w'=>e=.returned (.bool false)∧Below w.heap.size w w':=fun w=>by
            have:=has_o o.d i o.nm av o.xs.length o.xs.length w
            rw [decide_eq_false hij] at this;exact this
          cases Rf with
          | true=>exact (set_off_t HF hk HH).mono fun e w' ⟨a1,a2⟩=>⟨a1,h.stay a2⟩
          | false =>
            have h0:i32B N=true:=by
              cases e:i32B N with
              | true=>rfl
              | false=>exact absurd ⟨rfl,e⟩ hN
            exact (set_off_f HF hk h0 HH).mono fun e w' ⟨a1,a2⟩=>⟨a1,h.stay a2⟩
    · rw [if_neg hk] at q0
      rw [q0,R _ q0 (by decide)]
      cases Rf with
      | true=>exact (set_kt HF (by simpa using hk)).mono fun e w' ⟨a1,a2⟩=>⟨a1,h.stay a2⟩
      | false=>exact (set_kf HF (by simpa using hk)).mono fun e w' ⟨a1,a2⟩=>⟨a1,h.stay a2⟩
set_option maxHeartbeats 4000000 in
theorem opened_c (v:Value) (l:List Cls) (W:World) (h:IsClss W v l):Calls Tryz.prog 9 #[v] W fun e w'=>∃ b hb V,e=.returned (.tuple #[.pointer (some ⟨b,0,none⟩),.pointer (some ⟨hb,0,none⟩)])∧Below W.heap.size W V∧WAt b (wld l) V∧Below V.heap.size V w'∧V.heap.size≤hb∧HpAt w' (fun k=>k=hb) hb b (.slice none 0 0) []:=by
  have hCW:=clss_w h
  obtain ⟨ao,cap,rfl,h1,h2,h3⟩:=h
  unfold maxLen at h2
  obtain ⟨L,hL⟩:∃ L,l.length=L:=⟨_,rfl⟩
  have HL:Hid (l.length=L):=hL
  have HI:Hid _:=h3
  have HCW:Hid (∀ c∈l,ClsW c):=hCW
  rw [hL] at h1 ⊢
  clear hL h3 hCW
  have HN:Hid (∀ w:World,Calls Tryz.prog 25 #[] w fun e w'=>e=.returned (.pointer (some ⟨w.heap.size+1,0,none⟩))∧(∃ vp pv,HW w' w.heap.size (w.heap.size+1) w.heap.size P3 vp pv)∧Below w.heap.size w w'):=new_any
  go_enter Tryz.func9,Tryz.ntmps9
  go_wp2_with (first
    | (go_at_call 25;refine (HN.out _).mono ?_;rintro e w2 ⟨rfl,hw,hb⟩;have H2:Hid (∃ vp pv,HW w2 W.heap.size (W.heap.size+1) W.heap.size P3 vp pv):=hw;have B2:Hid (Below W.heap.size W w2):=hb;clear hb hw HN))
  go_loopw [5] (fun iv wr=>∃ (i:Nat),iv=.int .i64 i∧i≤L∧Hid (∃ vp pv,HW wr W.heap.size (W.heap.size+1) W.heap.size (wld (l.take i)) vp pv)∧Hid (Below W.heap.size W wr)) (fun iv _=>L - (intOf iv).toNat)
  case atStart=>exact ⟨0,rfl,Nat.zero_le _,H2,B2⟩
  case round =>
    clear H2 B2
    obtain ⟨i,rfl,hi,hHW,hB⟩:=hrel
    by_cases hlt:i<L
    · obtain ⟨c,hc⟩:∃ c,l[i]?=some c:=⟨_,List.getElem?_eq_getElem (by rw [HL.out];exact hlt)⟩
      obtain ⟨bk,o,rfl,hbk,hcl⟩:=HI.out (fun e=>by rw [e] at hc;simp at hc)
      obtain ⟨vi,vm,hcell,hin⟩:=hcl i c hc
      have bel:Below W.heap.size W wr:=hB.out
      have p0:wr.cell? ⟨bk,o+i * 6,none⟩=some (.string c.nm):=(bel.cell (p:=⟨bk,o+i * 6,none⟩) hbk).trans (hcell 0 _ rfl)
      have p1:wr.cell? ⟨bk,o+i * 6+1,none⟩=some (.string c.su):=(bel.cell (p:=⟨bk,o+i * 6+1,none⟩) hbk).trans (hcell 1 _ rfl)
      have p2:wr.cell? ⟨bk,o+i * 6+2,none⟩=some vi:=(bel.cell (p:=⟨bk,o+i * 6+2,none⟩) hbk).trans (hcell 2 _ rfl)
      have p3:wr.cell? ⟨bk,o+i * 6+3,none⟩=some (.int .i64 c.fl):=(bel.cell (p:=⟨bk,o+i * 6+3,none⟩) hbk).trans (hcell 3 _ rfl)
      have p4:wr.cell? ⟨bk,o+i * 6+4,none⟩=some (.int .i64 c.ld):=(bel.cell (p:=⟨bk,o+i * 6+4,none⟩) hbk).trans (hcell 4 _ rfl)
      have p5:wr.cell? ⟨bk,o+i * 6+5,none⟩=some vm:=(bel.cell (p:=⟨bk,o+i * 6+5,none⟩) hbk).trans (hcell 5 _ rfl)
      have hWI:WI (wld (l.take i)):=wld_wi _ (fun c hc=>HCW.out c (List.mem_of_mem_take hc))
      have HD:Hid (Calls Tryz.prog 26 #[.pointer (some ⟨W.heap.size+1,0,none⟩),.agg #[.string c.nm,.string c.su,vi,.int .i64 c.fl,.int .i64 c.ld,vm]] wr fun e w'=>(∃ u,e=.returned u)∧Hid (∃ vp pv,HW w' W.heap.size (W.heap.size+1) W.heap.size (wld (l.take (i+1))) vp pv)∧Hid (Below W.heap.size W w')):=by
        obtain ⟨vp,pv,hw⟩:=hHW.out
        refine (define_any W.heap.size (W.heap.size+1) W.heap.size _ vp pv c vi vm wr hw hB.out.size (hin.keep bel) hWI.nm).mono ?_
        rintro e w' ⟨rfl,hw',hb',_⟩
        rw [wld_at hc]
        exact ⟨⟨_,rfl⟩,hw',hB.out.trans hb'⟩
      clear hcl hcell hin hc bel hWI hHW hB HI
      go_wp2_with (go_at_call 26;refine HD.out.mono ?_;rintro e w3 ⟨⟨u3,rfl⟩,hw3,hb3⟩;clear HD)
      go_roundw
      case rel=>exact ⟨i+1,by go_num,by omega,hw3,hb3⟩
      case measure=>simp [intOf];omega
    · have e:i=L:=by omega
      subst e
      have HF:Hid (WAt (W.heap.size+1) (wld l) wr):=by
        obtain ⟨vp,pv,hw⟩:=hHW.out
        rw [List.take_of_length_le (by rw [HL.out];exact Nat.le_refl _)] at hw
        exact hw.wat
      clear hHW HI
      have HL2:Hid (∀ (b:Nat) (w:World),Calls Tryz.prog 27 #[.pointer (some ⟨b,0,none⟩)] w fun e w'=>e=.returned (.tuple #[.pointer (some ⟨w.heap.size+1,0,none⟩),.int .i64 0])∧w'.cell? ⟨w.heap.size+1,0,none⟩=some (.pointer (some ⟨b,0,none⟩))∧w.heap.size+2≤w'.heap.size∧Below w.heap.size w w'):=lnew_h
      go_wp2_with (first
        | (go_at_call 27;refine (HL2.out _ _).mono ?_;rintro e w5 ⟨rfl,hc,hz5,hb⟩;have B5:Hid (Below wr.heap.size wr w5):=hb;have C5:Hid _:=hc;clear hb hc HL2)
        | (go_at_call 24;refine (hnew_c _ _ _ C5.out).mono ?_;rintro e w6 ⟨rfl,hp,hb,hz6⟩;have P6:Hid _:=hp;have B6:Hid (Below w5.heap.size w5 w6):=hb;clear hp hb))
      go_ret2
      exact ⟨_,_,wr,rfl,hB.out,HF.out,bstep B5.out B6.out,by omega,P6.out⟩
theorem clss_nil (W:World):IsClss W (.slice none 0 0) []:=⟨none,0,rfl,Nat.le_refl _,Nat.zero_le _,fun h=>absurd rfl h⟩
theorem own_sz {S:Nat→Prop} {V W w:World} (h:Tch S W w) (hl:Below V.heap.size V W) (hs:∀ k,S k→V.heap.size≤k):Below V.heap.size V w:=hl.trans (h.below hl.size hs)
theorem awk_1:aryE P3 [] 0 ⟨#[]⟩ 3=0:=by decide +kernel
theorem awk_2:aryN P3 [] 0 ⟨#[]⟩ 3=1:=by rw [aryN,awk_1];rfl
theorem awk_3:aryL P3 [] 0 ⟨#[]⟩ 3=[(1,⟨#[]⟩,[0,0,0])]:=by rw [aryL,awk_1];rfl
set_option maxHeartbeats 1000000 in
theorem awake20_c (W:World):Calls Tryz.prog 8 #[] W fun e w'=>e=.returned (.bool true)∧Below W.heap.size W w':=by
  have HO:Hid (∀ w:World,Calls Tryz.prog 9 #[.slice none 0 0] w fun e w'=>∃ b hb V,e=.returned (.tuple #[.pointer (some ⟨b,0,none⟩),.pointer (some ⟨hb,0,none⟩)])∧Below w.heap.size w V∧WAt b (wld []) V∧Below V.heap.size V w'∧V.heap.size≤hb∧HpAt w' (fun k=>k=hb) hb b (.slice none 0 0) []):=fun w=>opened_c _ [] w (clss_nil w)
  go_enter Tryz.func8,Tryz.ntmps8
  go_wp2_with (first
    | (go_at_call 9;refine (HO.out _).mono ?_;rintro e w1 ⟨b,hb,V,rfl,hb1,hw1,hb2,hz1,hp1⟩;have B1:Hid (Below W.heap.size W V):=hb1;have B2:Hid (Below V.heap.size V w1):=hb2;have W1:Hid (WAt b (wld []) V):=hw1;have P1:Hid (HpAt w1 (fun k=>k=hb) hb b (.slice none 0 0) []):=hp1;clear hb1 hw1 hb2 hp1 HO)
    | (go_at_call 13;refine (array_c P1.out (W1.out.below B2.out) 0 ⟨#[]⟩ (Nat.zero_le _) 3).mono ?_;rintro e w2 ⟨rfl,new,hn,hm⟩;have N2:Hid (HpN (fun k=>k=hb) w1 w2 hb b ([]++new)):=hn;have M2:Hid (new.map Ob.p=aryL (wld []) [] 0 ⟨#[]⟩ 3):=hm;rw [show aryN (wld []) [] 0 ⟨#[]⟩ 3=1 from awk_2,show aryE (wld []) [] 0 ⟨#[]⟩ 3=0 from awk_1];clear hn hm)
    | (go_at_call 17;refine (hlen_c N2.out.1.choose_spec).mono ?_;rintro e w3 ⟨rfl,hw⟩;obtain rfl:=hw.symm;rw [show (([]++new:List Ob).length:Int)=1 by (have h1:=congrArg List.length M2.out;rw [show aryL (wld []) [] 0 ⟨#[]⟩ 3=[(1,⟨#[]⟩,[0,0,0])] from awk_3] at h1;simp at h1;simp [h1])])
    | (go_at_call 21;refine (hwds_c N2.out.1.choose_spec).mono ?_;rintro e w3 ⟨rfl,hw⟩;obtain rfl:=hw.symm;rw [show (wdL ([]++new):Int)=3 by (have h1:=congrArg wdP M2.out;rw [wdP_map,show aryL (wld []) [] 0 ⟨#[]⟩ 3=[(1,⟨#[]⟩,[0,0,0])] from awk_3] at h1;simp [wdP] at h1;simp [h1])]))
  go_ret
  exact ⟨rfl,bstep B1.out (own_sz N2.out.2 B2.out (fun k hk=>by rw [hk];exact hz1))⟩
theorem new_one {os new:List Ob} {ps:List Plc} {d n:Int} {nm:ByteArray} (h:new.map Ob.p=aryL ps os d nm n) (hE:aryE ps os d nm n=0):∃ o,new=[o]∧o.d=d+1∧o.nm=nm∧o.xs=List.replicate n.toNat 0:=by
  rw [aryL,if_pos hE] at h
  match new,h with
  | [],h=>simp at h
  | [o],h =>
    simp at h
    exact ⟨o,rfl,congrArg Prod.fst h,congrArg (fun x=>x.2.1) h,congrArg (fun x=>x.2.2) h⟩
  | _::_::_,h=>simp at h
theorem ary_ok {ps:List Plc} {os:List Ob} {d n:Int} {nm:ByteArray} (h:aryE ps os d nm n=0):arrE d nm.data.toList=0∧ldI ps d nm=0∧0≤n∧os.length+1≤1000∧wdL os+n.toNat≤20000:=by
  unfold aryE at h
  split at h
  · rename_i h1
    split at h
    · rename_i h2
      unfold filE at h
      split at h
      · cases h
      · rename_i h3
        split at h
        · rename_i h4
          simp [negB] at h3
          simp [rmB,szC,wdC] at h4
          exact ⟨h1,h2,h3,by omega,by omega⟩
        · cases h
    · rename_i h2;exact absurd h h2
  · rename_i h1;exact absurd h h1
theorem ar_one {o1:Ob} {r:List Ob} (h:¬ o1.d=0):arO (o1::r) 1=some o1:=by
  have:obI (o1::r) 1=some o1:=by rw [obI,if_pos (by omega)];rfl
  rw [arO,this];simp [h]
theorem ob_two {o1 o2:Ob} {r:List Ob}:obI (o1::o2::r) 2=some o2:=by rw [obI,if_pos (by omega)];rfl
theorem rf_arr {d:Int} {nm:ByteArray} (h:¬ (d=0∧nm.toList=[])):rfB (d+1) nm=true:=by
  unfold rfB
  by_cases h1:d=0
  · have:¬ nm.toList=[]:=fun e=>h ⟨h1,e⟩
    simp [this]
  · have:¬ d+1=1:=by omega
    simp [this]
theorem clss_kh {w w':World} {v:Value} {l:List Cls} (h:IsClss w v l) (hb:Below w.heap.size w w'):IsClss w' v l:=by
  obtain ⟨ao,cap,rfl,h1,h2,h3⟩:=h
  refine ⟨ao,cap,rfl,h1,h2,fun hne=>?_⟩
  obtain ⟨bk,o,e,hlt,hc⟩:=h3 hne
  refine ⟨bk,o,e,Nat.lt_of_lt_of_le hlt hb.size,fun k c hk=>?_⟩
  obtain ⟨vi,vm,h4,h5⟩:=hc k c hk
  exact ⟨vi,vm,fun j u hj=>(hb.cell hlt).trans (h4 j u hj),h5.keep hb⟩
theorem plc_at {ps:List Plc} {x:Int} {q:Plc} (h:plcI ps x=some q):∃ k:Nat,ps[k]?=some q:=by
  rcases plcI_cases ps x with ⟨h1,_⟩|⟨k,q',_,h2,h1⟩
  · rw [h1] at h;cases h
  · rw [h1] at h;cases h;exact ⟨k,h2⟩
theorem obn_ok {ps:List Plc} {os:List Ob} {x:Int} (h:obnE ps os x=0):∃ q,plcI ps x=some q∧obnL ps os x=os++[⟨0,q.c.nm,none,[]⟩]∧obnN ps os x=(os.length:Int)+1:=by
  cases hq:plcI ps x with
  | none=>rw [obnE,hq] at h;cases h
  | some q=>exact ⟨q,rfl,by rw [obnL,hq];simp [h],by rw [obnN,if_pos h]⟩
theorem ar_two {o1 o2:Ob} {r:List Ob} (h:¬ o2.d=0):arO (o1::o2::r) 2=some o2:=by rw [arO,ob_two];simp [h]
theorem st_on {ps:List Plc} {o1:Ob} {r:List Ob} {at' N:Int} {Rf:Bool} (h0:¬ o1.d=0) (h:stE ps (o1::r) 1 at' Rf N=0):rfB o1.d o1.nm=Rf∧0≤at'∧at'<(o1.xs.length:Int):=by
  rw [stE,ar_one h0] at h
  simp only at h
  split at h
  · rename_i h1
    split at h
    · cases h
    · split at h
      · rename_i h2;exact ⟨h1,h2.1,h2.2⟩
      · cases h
  · cases h
theorem st_L {ps:List Plc} {o1:Ob} {r:List Ob} {at' N:Int} {Rf:Bool} (h0:¬ o1.d=0):stL ps (o1::r) 1 at' Rf N=if stE ps (o1::r) 1 at' Rf N=0 then { o1 with xs:=o1.xs.set at'.toNat N }::r else o1::r:=by
  rw [stL,ar_one h0]
  simp only
  split <;> simp
structure HoF (ps:List Plc) (o1 o2 o3:Ob) (d at' ot N:Int) (nm:ByteArray) (Rf:Bool):Prop where
  ge:geE (stL ps [o1,o2,o3] 1 at' Rf N) 1 ot=geE [o1,o2,o3] 1 ot
  no:¬ stE ps [o1,o2,o3] 1 at' Rf N=0→stL ps [o1,o2,o3] 1 at' Rf N=[o1,o2,o3]
  ne:¬ at'=ot→geR (stL ps [o1,o2,o3] 1 at' Rf N) 1 ot=geR [o1,o2,o3] 1 ot∧geN (stL ps [o1,o2,o3] 1 at' Rf N) 1 ot=geN [o1,o2,o3] 1 ot
  on:stE ps [o1,o2,o3] 1 at' Rf N=0→geE (stL ps [o1,o2,o3] 1 at' Rf N) 1 at'=0∧geR (stL ps [o1,o2,o3] 1 at' Rf N) 1 at'=Rf∧geN (stL ps [o1,o2,o3] 1 at' Rf N) 1 at'=N
  far:geE (stL ps [o1,o2,o3] 1 at' Rf N) 2 ot=0→geN (stL ps [o1,o2,o3] 1 at' Rf N) 2 ot=0∧geR (stL ps [o1,o2,o3] 1 at' Rf N) 2 ot=rfB (d+1) nm
  len:(stL ps [o1,o2,o3] 1 at' Rf N).length=3
theorem hol_facts {ps:List Plc} {o1 o2 o3:Ob} {d at' ot N:Int} {n:Nat} {nm:ByteArray} {Rf:Bool} (h1:¬ o1.d=0) (h2:o2.d=d+1) (hd:0≤d) (h3:o2.nm=nm) (h4:o2.xs=List.replicate n 0):HoF ps o1 o2 o3 d at' ot N nm Rf:=by
  have h20:¬ o2.d=0:=by omega
  have hfar:∀ p:Ob,geE [p,o2,o3] 2 ot=0→geN [p,o2,o3] 2 ot=0∧geR [p,o2,o3] 2 ot=rfB (d+1) nm:=fun p he=>by
    rw [geE,ar_two h20] at he
    rw [geN,geR,ar_two h20]
    simp only at he ⊢
    split at he
    · rename_i hi
      rw [if_pos hi,if_pos hi,h2,h3,h4]
      refine ⟨?_,rfl⟩
      cases e:(List.replicate n (0:Int))[ot.toNat]? with
      | none=>rfl
      | some x =>
        rw [List.getElem?_replicate] at e
        split at e
        · cases e;rfl
        · cases e
    · cases he
  by_cases hI:stE ps [o1,o2,o3] 1 at' Rf N=0
  · have eL:stL ps [o1,o2,o3] 1 at' Rf N=[{ o1 with xs:=o1.xs.set at'.toNat N },o2,o3]:=by rw [st_L h1,if_pos hI]
    obtain ⟨a1,a2,a3⟩:=st_on h1 hI
    have a0:arO [{ o1 with xs:=o1.xs.set at'.toNat N },o2,o3] 1=some { o1 with xs:=o1.xs.set at'.toNat N }:=ar_one h1
    refine ⟨?_,fun h=>absurd hI h,fun hne=>?_,fun _=>?_,?_,?_⟩
    · rw [eL,geE,geE,a0,ar_one h1];simp
    · rw [eL,geR,geR,geN,geN,a0,ar_one h1]
      simp only [List.length_set]
      refine ⟨trivial,?_⟩
      by_cases hi:0≤ot∧ot<(o1.xs.length:Int)
      · rw [if_pos hi,if_pos hi,List.getElem?_set_ne (by omega)]
      · rw [if_neg hi,if_neg hi]
    · rw [eL,geE,geR,geN,a0]
      simp only [List.length_set]
      rw [if_pos ⟨a2,a3⟩,if_pos ⟨a2,a3⟩,if_pos ⟨a2,a3⟩,List.getElem?_set_self (by omega)]
      exact ⟨rfl,a1,rfl⟩
    · rw [eL];exact hfar _
    · rw [eL];rfl
  · have eL:stL ps [o1,o2,o3] 1 at' Rf N=[o1,o2,o3]:=by rw [st_L h1,if_neg hI]
    exact ⟨by rw [eL],fun _=>eL,fun _=>by rw [eL];exact ⟨rfl,rfl⟩,fun h=>absurd h hI,by rw [eL];exact hfar _,by rw [eL];rfl⟩
theorem wld_obj (l:List Cls) (hl:∀ c∈l,ClsW c):(wld l)[0]?=P3[0]?:=by
  refine wld_ind (P:=fun ps=>ps[0]?=P3[0]?) rfl (fun ps c h _=>?_) l hl
  cases hd:defN ps c with
  | error e=>exact h
  | ok p =>
    show (ps++[p])[0]?=_
    have:0<ps.length:=by
      cases ps with
      | nil=>cases h
      | cons x r=>simp
    rw [List.getElem?_append_left this];exact h
theorem obn_0 (l:List Cls) (hl:∀ c∈l,ClsW c) (os:List Ob) (hn:os.length=2):obnE (wld l) os 0=0:=by
  have h:=wld_obj l hl
  have e:plcI (wld l) 0=P3[0]?:=by rw [plcI,if_pos (by omega)];exact h
  rw [obnE,e]
  have:P3[0]?=some ⟨objH,0,[]⟩:=rfl
  rw [this]
  simp only
  rw [if_neg (by decide),if_neg (by omega)]
theorem ary_2 {ps:List Plc} {os:List Ob} {d n:Int} {nm:ByteArray} (h:aryE ps [] d nm n=0) (h2:¬ aryE ps os d nm n=0):aryE ps os d nm n=32:=by
  obtain ⟨a1,a2,a3,_⟩:=ary_ok h
  rw [aryE,if_pos a1,if_pos a2] at h2 ⊢
  unfold filE at h2 ⊢
  have:negB [n]=false:=by simp [negB];omega
  rw [this] at h2 ⊢
  simp only [Bool.false_eq_true,if_false] at h2 ⊢
  split at h2
  · exact absurd rfl h2
  · rename_i h3;rw [if_neg h3]
theorem rf_cases {d:Int} (nm:ByteArray) (hd:0≤d):(0<d∧rfB (d+1) nm=true)∨(d=0∧nm.toList.isEmpty=true∧rfB (d+1) nm=false)∨(d=0∧nm.toList.isEmpty=false∧rfB (d+1) nm=true):=by
  by_cases h:0<d
  · exact .inl ⟨h,rf_arr (fun x=>by omega)⟩
  · have h0:d=0:=by omega
    subst h0
    cases e:nm.toList.isEmpty with
    | true=>exact .inr (.inl ⟨rfl,rfl,by simp [rfB,(by simpa using e:nm.toList=[])]⟩)
    | false=>exact .inr (.inr ⟨rfl,rfl,rf_arr (fun x=>by rw [x.2] at e;cases e)⟩)
end Go.Proofs.YtfnmmpkhopochaaGreat
