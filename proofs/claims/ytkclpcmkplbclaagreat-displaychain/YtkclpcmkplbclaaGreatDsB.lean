import Derived.Test.YtkclpcmkplbclaaGreatWdB
import Derived.Test.YtkclpcmkplbclaaGreatHrY
import Derived.Test.YtkclpcmkplbclaaGreatHrX
import Derived.Test.YtkclpcmkplbclaaGreatRfX
import Derived.Test.YtkclpcmkplbclaaGreatSoA
import Derived.BigQuiet
import Derived.Lib.SliceRun
import Derived.Shelf.RegionOpen
import Derived.Deep.DeepCutAuto
import Derived.Deep.RegionLaw
set_option maxRecDepth 100000
namespace Go.Proofs.YtkclpcmkplbclaaGreat
open Go.RowKit Go.Maps
def wld (l:List Cls):List Plc:=l.foldl (fun ps c=>dfP ps (defN ps c)) P3
theorem wld_snoc (l:List Cls) (c:Cls):wld (l++[c])=dfP (wld l) (defN (wld l) c):=by
  rw [wld,List.foldl_append];rfl
theorem wld_at {l:List Cls} {i:Nat} {c:Cls} (h:l[i]?=some c):wld (l.take (i+1))=dfP (wld (l.take i)) (defN (wld (l.take i)) c):=by
  rw [List.take_add_one,h];exact wld_snoc _ _
theorem wld_ind {P:List Plc→Prop} (h3:P P3) (hd:∀ ps c,P ps→ClsW c→P (dfP ps (defN ps c))):∀ l:List Cls,(∀ c∈l,ClsW c)→P (wld l):=by
  have key:∀ (l:List Cls) (ps:List Plc),(∀ c∈l,ClsW c)→P ps→P (l.foldl (fun ps c=>dfP ps (defN ps c)) ps):=by
    intro l
    induction l with
    | nil=>exact fun ps _ h=>h
    | cons c l ih=>exact fun ps hl h=>ih _ (fun x hx=>hl x (List.mem_cons_of_mem _ hx)) (hd ps c h (hl c (by simp)))
  exact fun l hl=>key l P3 hl h3
theorem wld_wi (l:List Cls) (hl:∀ c∈l,ClsW c):WI (wld l):=wld_ind wi3 (fun _ c h hc=>h.define c hc) l hl
theorem clss_w {w:World} {v:Value} {l:List Cls} (h:IsClss w v l):∀ c∈l,ClsW c:=by
  obtain ⟨ao,cap,e,h1,h2,h3⟩:=h
  intro c hc
  obtain ⟨bk,o,_,_,h4⟩:=h3 (fun e=>by rw [e] at hc;simp at hc)
  obtain ⟨i,hi⟩:=List.mem_iff_getElem?.1 hc
  obtain ⟨vi,vm,_,hin⟩:=h4 i c hi
  exact hin.ok
def extI (ps:List Plc) (a b:Int):Bool:=(plcI ps a).isSome&&(plcI ps b).isSome&&extB (ps.map nd) a.toNat b.toNat
def ifcI (ps:List Plc) (i:Int):Bool:=match plcI ps i with
  | some q=>ifB q.c.fl
  | none=>false
theorem isIface_c {b:Nat} {ps:List Plc} {W:World} (h:WAt b ps W) (x:Int):Calls Tryz.prog 21 #[.pointer (some ⟨b,0,none⟩),.int .i64 x] W fun e w'=>e=.returned (.bool (ifcI ps x))∧Below W.heap.size W w':=by
  obtain ⟨N,mb,vp,pv,h⟩:=h
  rcases plcI_cases ps x with ⟨h1,h2⟩|⟨k,p,rfl,h2,h1⟩
  · have e:ifcI ps x=false:=by rw [ifcI,h1]
    rw [e];exact isIfaceW_no N b mb ps vp pv x W h h2
  · have e:ifcI ps k=ifB p.c.fl:=by rw [ifcI,h1]
    rw [e];exact isIfaceW_yes N b mb ps vp pv k p W h h2
theorem len_c {b:Nat} {ps:List Plc} {W:World} (h:WAt b ps W):Calls Tryz.prog 58 #[.pointer (some ⟨b,0,none⟩)] W fun e w'=>e=.returned (.int .i64 (ps.length:Int))∧w'=W:=by
  obtain ⟨N,mb,vp,pv,h⟩:=h
  exact len_any N b mb ps vp pv W h
def dpI (ps:List Plc) (x:Int):Int×Int:=match plcI ps x with
  | some _=>(((chL (ps.map nd) x.toNat).length:Int) - 1,0)
  | none=>(0,3)
def chR (ps:List Plc) (x:Int):List Nat×Int:=match plcI ps x with
  | some _=>(chL (ps.map nd) x.toNat,0)
  | none=>([],3)
def NumsA (r:List Nat×Int) (e:Ending) (w':World):Prop:=∃ a c,e=.returned (.tuple #[.slice a r.1.length c,.int .i64 r.2])∧Rds w' (.slice a r.1.length c) r.1.length 1 (r.1.map numV)
theorem NumsA.of {N:Nat} {l:List Nat} {E:Int} {v:Value} {w':World} (h:w'.ownsRow N 3 1 v l.length (l.map numV)):NumsA (l,E) (.returned (.tuple #[v,.int .i64 E])) w':=by
  obtain ⟨a,c,rfl⟩:=ownv h
  exact ⟨a,c,rfl,own_rds h⟩
theorem NumsA.nil (E:Int) (w':World):NumsA ([],E) (.returned (.tuple #[.slice none 0 0,.int .i64 E])) w':=NumsA.of (N:=0) (World.ownsRow_nil w' 0 _ _)
theorem chain_no6 {b:Nat} {ps:List Plc} {W:World} (h:WAt b ps W) (x:Int) (hx:plcI ps x=none):Calls Tryz.prog 25 #[.pointer (some ⟨b,0,none⟩),.int .i64 x] W fun e w'=>e=.returned (.tuple #[.slice none 0 0,.int .i64 3])∧Below W.heap.size W w':=by
  have HH:Hid (∀ w,Below W.heap.size W w→Calls Tryz.prog 74 #[.pointer (some ⟨b,0,none⟩),.int .i64 x] w fun e w'=>e=.returned (.bool false)∧w'=w):=fun w hb=>by
    have:=has_c (h.below hb) x
    rw [hx] at this
    exact this
  clear h hx
  go_enter Tryz.func25,Tryz.ntmps25
  go_wp2_with (go_at_call 74;refine (HH.out _ (by repeat (first|exact Below.refl _ _|refine Below.setCell ?_ (by simp;try omega) _|refine Below.alloc ?_ (by simp;try omega) _|refine Below.drew ?_))).mono ?_;rintro e w9 ⟨rfl,hw9⟩;rw [hw9];clear hw9 w9)
  exact bodyPost_ret (v:=.tuple #[.slice none 0 0,.int .i64 3]) (by simp [results,Tryz.results25,go_sem, *]) rfl ⟨rfl,(by repeat (first|exact Below.refl _ _|refine Below.setCell ?_ (by simp;try omega) _|refine Below.alloc ?_ (by simp;try omega) _|refine Below.drew ?_))⟩
theorem chain_r {b:Nat} {ps:List Plc} {W:World} (h:WAt b ps W) (hW:WI ps) (x:Int):Calls Tryz.prog 25 #[.pointer (some ⟨b,0,none⟩),.int .i64 x] W fun e w'=>NumsA (chR ps x) e w'∧Below W.heap.size W w':=by
  rcases plcI_cases ps x with ⟨hn,_⟩|⟨k,q,rfl,hk,hq⟩
  · refine (chain_no6 h x hn).mono fun e w' zz=>⟨?_,zz.2⟩
    rw [zz.1,chR,hn]
    exact NumsA.nil 3 w'
  · obtain ⟨N,mb,vp,pv,hw⟩:=h
    refine (chain_yes N b mb ps vp pv k (List.getElem?_eq_some_iff.1 hk).1 hW.wo hW.hi W hw).mono ?_
    rintro e w' ⟨v,rfl,ho,hb⟩
    rw [chR,hq]
    exact ⟨NumsA.of ho,hb⟩
theorem depth_r {b:Nat} {ps:List Plc} {W:World} (h:WAt b ps W) (hW:WI ps) (x:Int):Calls Tryz.prog 26 #[.pointer (some ⟨b,0,none⟩),.int .i64 x] W fun e w'=>e=.returned (.tuple #[.int .i64 (dpI ps x).1,.int .i64 (dpI ps x).2])∧Below W.heap.size W w':=by
  rcases plcI_cases ps x with ⟨hn,_⟩|⟨k,q,rfl,hk,hq⟩
  · have HH:Hid (∀ w,Below W.heap.size W w→Calls Tryz.prog 74 #[.pointer (some ⟨b,0,none⟩),.int .i64 x] w fun e w'=>e=.returned (.bool false)∧w'=w):=fun w hb=>by
      have:=has_c (h.below hb) x
      rw [hn] at this
      exact this
    have e0:dpI ps x=(0,3):=by rw [dpI,hn]
    rw [e0]
    clear h hn e0 hW
    go_enter Tryz.func26,Tryz.ntmps26
    go_wp2_with (go_at_call 74;refine (HH.out _ (by repeat (first|exact Below.refl _ _|refine Below.setCell ?_ (by simp;try omega) _|refine Below.alloc ?_ (by simp;try omega) _|refine Below.drew ?_))).mono ?_;rintro e w9 ⟨rfl,hw9⟩;rw [hw9];clear hw9 w9)
    exact bodyPost_ret (v:=.tuple #[.int .i64 0,.int .i64 3]) (by simp [results,Tryz.results26,go_sem, *]) rfl ⟨rfl,(by repeat (first|exact Below.refl _ _|refine Below.setCell ?_ (by simp;try omega) _|refine Below.alloc ?_ (by simp;try omega) _|refine Below.drew ?_))⟩
  · obtain ⟨N,mb,vp,pv,hw⟩:=h
    rw [dpI,hq]
    exact depth_yes N b mb ps vp pv k (List.getElem?_eq_some_iff.1 hk).1 hW.wo hW.hi W hw
def dnL (ps:List Plc) (k:Nat):List Nat:=(chL (ps.map nd) k).reverse
def ckI (ps:List Plc) (x:Int):Int:=match plcI ps x with
  | some _=>0
  | none=>3
def lookN:List Nat→Nat→Nat
  | [],_=>0
  | x::r,t=>if x=t then 1 else lookN r t+1
def atB (D:List Nat) (n t:Nat):Bool:=match D[n]? with
  | some x=>x == t
  | none=>false
def rdN (ps:List Plc) (s t:Nat):Nat:=if ifcI ps (t:Int) then (if s=t then 1 else lookN (clO (ps.map nd) s) t+1) else 1
theorem lookN_at {l:List Nat} {t i x:Nat} (h:l[i]?=some x):lookN (l.drop i) t=if x=t then 1 else lookN (l.drop (i+1)) t+1:=by
  obtain ⟨h1,h2⟩:=List.getElem?_eq_some_iff.1 h
  rw [List.drop_eq_getElem_cons h1,h2,lookN]
theorem hasN_at {l:List Nat} {t i x:Nat} (h:l[i]?=some x):(l.drop i).contains t=if x=t then true else (l.drop (i+1)).contains t:=by
  obtain ⟨h1,h2⟩:=List.getElem?_eq_some_iff.1 h
  rw [List.drop_eq_getElem_cons h1,h2,List.contains_cons]
  by_cases e:x=t
  · subst e;simp
  · have:(t == x)=false:=by simpa using fun e2=>e e2.symm
    rw [if_neg e,this,Bool.false_or]
theorem ch_suffix {ns:List Nd} (h:WO ns) (a:Nat) (ha:a<ns.length):∀ b∈chL ns a,∃ pre,chL ns a=pre++chL ns b:=by
  refine ch_ind h (P:=fun a=>∀ b∈chL ns a,∃ pre,chL ns a=pre++chL ns b) ?_ ?_ a ha
  · intro b hb
    rw [chL_zero,List.mem_singleton] at hb
    subst hb
    exact ⟨[],rfl⟩
  · intro k hk h0 _ ih b hb
    rw [chL_cons h hk h0,List.mem_cons] at hb
    rcases hb with rfl|hb
    · exact ⟨[],rfl⟩
    · obtain ⟨pre,e⟩:=ih b hb
      exact ⟨k::pre,by rw [chL_cons h hk h0,e];rfl⟩
theorem dn_own (ns:List Nd) (k:Nat):(chL ns k).reverse[(chL ns k).length - 1]?=some k:=by
  have hp:=ch_pos (ns:=ns) k
  rw [List.getElem?_reverse (by omega),show (chL ns k).length - 1 - ((chL ns k).length - 1)=0 by omega]
  exact ch_head k
theorem dn_at {ns:List Nd} (h:WO ns) {a b:Nat} (ha:a<ns.length) (hb:b∈chL ns a):(chL ns a).reverse[(chL ns b).length - 1]?=some b:=by
  obtain ⟨pre,e⟩:=ch_suffix h a ha b hb
  have hp:=ch_pos (ns:=ns) b
  rw [e,List.reverse_append,List.getElem?_append_left (by rw [List.length_reverse];omega)]
  exact dn_own ns b
theorem dn_depth {ns:List Nd} (h:WO ns) {a b i:Nat} (ha:a<ns.length) (hb:(chL ns a).reverse[i]?=some b):(chL ns b).length=i+1:=by
  have hm:b∈chL ns a:=List.mem_reverse.1 (List.mem_of_getElem? hb)
  have h2:=dn_at h ha hm
  have hn:(chL ns a).reverse.Nodup:=by
    have:=ch_nodup h a ha
    rw [List.Nodup,List.pairwise_reverse]
    exact this.imp fun e e2=>e e2.symm
  have h3:=(List.getElem?_eq_some_iff.1 hb).1
  have:=(List.getElem?_inj h3 hn).1 (hb.trans h2.symm)
  have hp:=ch_pos (ns:=ns) b
  omega
theorem atB_mem {ns:List Nd} (h:WO ns) {a b:Nat} (ha:a<ns.length):atB (chL ns a).reverse ((chL ns b).length - 1) b=(chL ns a).contains b:=by
  rw [Bool.eq_iff_iff,List.contains_iff_mem]
  constructor
  · intro e
    rw [atB] at e
    split at e
    · rename_i x hx
      rw [beq_iff_eq] at e
      subst e
      exact List.mem_reverse.1 (List.mem_of_getElem? hx)
    · cases e
  · intro e
    rw [atB,dn_at h ha e]
    exact beq_self_eq_true b
theorem ifc_at {ps:List Plc} {k:Nat} {q:Plc} (h:ps[k]?=some q):(ps.map nd)[k]?=some (nd q)∧(nd q).i=ifcI ps (k:Int):=by
  refine ⟨nd_at' h,?_⟩
  rw [ifcI,plcI_nat,h]
  rfl
theorem ext_class {ps:List Plc} (hW:WI ps) {s t:Nat} {q r:Plc} (hs:ps[s]?=some q) (ht:ps[t]?=some r) (hf:ifcI ps (t:Int)=false):extI ps (s:Int) (t:Int)=atB (dnL ps s) ((chL (ps.map nd) t).length - 1) t:=by
  have hsl:s<(ps.map nd).length:=by rw [List.length_map];exact (List.getElem?_eq_some_iff.1 hs).1
  rw [extI,plcI_nat,plcI_nat,hs,ht,dnL,atB_mem hW.wo hsl,Int.toNat_natCast,Int.toNat_natCast,extB]
  have hc:(clO (ps.map nd) s).contains t=false:=by
    rw [← Bool.not_eq_true,List.contains_iff_mem]
    intro hm
    obtain ⟨_,_,p,hp,hi,_⟩:=cl_facts hW.wo hm
    obtain ⟨e1,e2⟩:=ifc_at ht
    rw [e1] at hp
    cases hp
    rw [e2,hf] at hi
    cases hi
  rw [hc,Bool.or_false]
  rfl
theorem ext_iface {ps:List Plc} (hW:WI ps) {s t:Nat} {q r:Plc} (hs:ps[s]?=some q) (ht:ps[t]?=some r) (hf:ifcI ps (t:Int)=true) (hn:s≠t):extI ps (s:Int) (t:Int)=q.cl.contains t:=by
  have hsl:s<(ps.map nd).length:=by rw [List.length_map];exact (List.getElem?_eq_some_iff.1 hs).1
  rw [extI,plcI_nat,plcI_nat,hs,ht,Int.toNat_natCast,Int.toNat_natCast,extB]
  have hc:(chL (ps.map nd) s).contains t=false:=by
    rw [← Bool.not_eq_true,List.contains_iff_mem]
    intro hm
    obtain ⟨e1,e2⟩:=ifc_at ht
    have:=ch_plain hW.wo s hsl t hm hn.symm _ e1
    rw [e2,hf] at this
    cases this
  rw [hc,Bool.false_or,clO,nd_at' hs]
  rfl
theorem ext_own {ps:List Plc} {s:Nat} {q:Plc} (hs:ps[s]?=some q):extI ps (s:Int) (s:Int)=true:=by
  rw [extI,plcI_nat,hs,Int.toNat_natCast,ext_self];rfl
theorem cl_at {ps:List Plc} {s:Nat} {q:Plc} (hs:ps[s]?=some q):clO (ps.map nd) s=q.cl:=by
  rw [clO,nd_at' hs];rfl
theorem cl_len {ps:List Plc} (hW:WI ps) {s:Nat} {q:Plc} (hs:ps[s]?=some q):q.cl.length≤300:=by
  have hcl:=hW.wo.cl s (nd q) (nd_at' hs)
  have:=List.Nodup.length_le_of_subset hcl.1 (l₂:=List.range ps.length) (fun i hi=>List.mem_range.2 (by
    have:=(hcl.2 i hi).1
    have:=(List.getElem?_eq_some_iff.1 hs).1
    omega))
  rw [List.length_range] at this
  have h2:=hW.hi
  have h3:q.cl.length≤ps.length:=this
  omega
theorem dn_len (ps:List Plc) (k:Nat):(dnL ps k).length=(chL (ps.map nd) k).length:=List.length_reverse
theorem dn_le {ps:List Plc} (hW:WI ps) {k:Nat} (hk:k<ps.length):(dnL ps k).length≤300:=by
  have hkl:k<(ps.map nd).length:=by rw [List.length_map];exact hk
  have:=List.Nodup.length_le_of_subset (ch_nodup hW.wo k hkl) (l₂:=List.range ps.length) (fun i hi=>List.mem_range.2 (by
    have:=ch_le hW.wo k hkl i hi
    omega))
  rw [List.length_range] at this
  have h2:=hW.hi
  rw [dn_len]
  omega
theorem dck_n (W:World) (b:Nat) (x:Int) (N:Nat) (HL:Hid (∀ w,Below W.heap.size W w→Calls Tryz.prog 58 #[.pointer (some ⟨b,0,none⟩)] w fun e w'=>e=.returned (.int .i64 (N:Int))∧w'=w)) (E:Int) (hE:E=if x<0∨(N:Int)≤x then 3 else 0):Calls Tryz.prog 72 #[.pointer (some ⟨b,0,none⟩),.int .i64 x] W fun e w'=>e=.returned (.int .i64 E)∧Below W.heap.size W w':=by
  by_cases h0:x<0
  · have e1:E=3:=by rw [hE,if_pos (.inl h0)]
    subst e1
    clear hE
    go_enter Tryz.func72,Tryz.ntmps72
    go_wp2
    go_ret
    exact ⟨rfl,Below.refl _ _⟩
  · by_cases h1:(N:Int)≤x
    · have e1:E=3:=by rw [hE,if_pos (.inr h1)]
      subst e1
      clear hE
      go_enter Tryz.func72,Tryz.ntmps72
      go_wp2_with (go_at_call 58;refine (HL.out _ (Below.refl _ _)).mono ?_;rintro e w9 ⟨rfl,hw9⟩;rw [hw9];clear hw9 w9 HL)
      go_ret
      exact ⟨rfl,Below.refl _ _⟩
    · have e1:E=0:=by rw [hE,if_neg (by omega)]
      subst e1
      clear hE
      go_enter Tryz.func72,Tryz.ntmps72
      go_wp2_with (go_at_call 58;refine (HL.out _ (Below.refl _ _)).mono ?_;rintro e w9 ⟨rfl,hw9⟩;rw [hw9];clear hw9 w9 HL)
      go_ret
      exact ⟨rfl,Below.refl _ _⟩
theorem dck_c {b:Nat} {ps:List Plc} {W:World} (h:WAt b ps W) (x:Int):Calls Tryz.prog 72 #[.pointer (some ⟨b,0,none⟩),.int .i64 x] W fun e w'=>e=.returned (.int .i64 (ckI ps x))∧Below W.heap.size W w':=by
  refine dck_n W b x ps.length (fun w hb=>len_c (h.below hb)) _ ?_
  rw [ckI]
  rcases plcI_cases ps x with ⟨e,hn⟩|⟨k,q,rfl,hq,e⟩
  · rw [e,if_pos (show x<0∨(ps.length:Int)≤x by omega)]
  · have:=(List.getElem?_eq_some_iff.1 hq).1
    rw [e,if_neg (show ¬ ((k:Int)<0∨(ps.length:Int)≤(k:Int)) by omega)]
theorem ck_zero {ps:List Plc} {x:Int} (h:ckI ps x=0):∃ (k:Nat) (q:Plc),x=(k:Int)∧ps[k]?=some q:=by
  rw [ckI] at h
  rcases plcI_cases ps x with ⟨e,_⟩|⟨k,q,e1,hq,_⟩
  · rw [e] at h;cases h
  · exact ⟨k,q,e1,hq⟩
theorem ck_three {ps:List Plc} {x:Int} (h:¬ ckI ps x=0):ckI ps x=3:=by
  rw [ckI] at h ⊢
  split
  · rename_i e;rw [e] at h;exact absurd rfl h
  · rfl
theorem eqNilI2 (g o n cap:Nat) (w:World):(binOp .eql 31 (.slice (some ⟨g,o,none⟩) n cap) (.slice none 0 0)).run Tryz.prog w=.ok (.bool false) w:=by
  have h:(Op.equalIn (9999+1) 31 (.slice (some ⟨g,o,none⟩) n cap) (.slice none 0 0)).run Tryz.prog w=.ok false w:=by
    rw [Op.equalIn]
    simp [run_underlying Tryz.underlying31,go_sem]
  have h2:(Op.equal 31 (.slice (some ⟨g,o,none⟩) n cap) (.slice none 0 0)).run Tryz.prog w=.ok false w:=h
  simp [binOp,h2,go_sem]
theorem Tryz.hinfoInt:(Tryz.prog.info? 3).map (fun i=>(i.zero,i.size,i.bytes))=some (some (.int .i64 0),1,8):=by kernel_rfl
set_option maxHeartbeats 1000000 in
theorem cloI_any (l:List Nat) (g og cap:Nat) (W:World) (h:Rdw W (.slice (some ⟨g,og,none⟩) l.length cap) l.length 1 (l.map numV)) (hn:l.length≤1000000000):Calls Tryz.prog 125 #[.slice (some ⟨g,og,none⟩) l.length cap] W fun e w'=>∃ v',e=.returned v'∧w'.ownsRow W.heap.size 3 1 v' l.length (l.map numV)∧Below W.heap.size W w':=by
  obtain ⟨i0,hi0,hz0,hz1,hz2⟩:=info_parts Tryz.hinfoInt
  have HR:Hid (∀ o,Rdw (W.alloc o) (.slice (some ⟨g,og,none⟩) l.length cap) l.length 1 (l.map numV)):=fun o=>h.keep ((Below.refl _ W).alloc (Nat.le_refl _) o)
  have HO:Hid (∀ u∈l.map numV,u.oneCell'=true):=by
    intro u hu
    obtain ⟨x,_,rfl⟩:=List.mem_map.1 hu
    rfl
  obtain ⟨K,hK⟩:∃ K,l.length=K:=⟨_,rfl⟩
  rw [hK] at hn HR ⊢
  generalize l.map numV=xs at *
  clear h hK
  have G2:=eqNilI2 g og K cap
  go_enter Tryz.func125,Tryz.ntmps125
  go_wp2_with (at_builtin;refine wpList_append_rdw rfl _ _ 31 rfl W.heap.size 3 i0 (.int .i64 0) 1 8 Tryz.underlying31 hi0 hz0 hz1 hz2 rfl (by decide) (.slice (some ⟨W.heap.size,0,none⟩) 0 0) 0 [] rfl (own_empty _ _ rfl _ _ _ (Nat.le_refl _)) (.slice (some ⟨g,og,none⟩) K cap) K xs rfl (HR.out _) HO.out ?c1 ?c2 ?c3 ?_)
  case c1=>unfold maxLen;omega
  case c2=>omega
  case c3=>simp
  intro v' w2 hown hgrow
  obtain ⟨va2,vn2,rfl⟩:=ownv hown
  try simp only [Nat.zero_add] at hown
  try simp only [List.nil_append] at hown
  have B2:Hid (Below W.heap.size W w2):=by
    refine Below.grown (w:=_) ((Below.refl _ W).alloc (Nat.le_refl _) (.cells #[] 3)) hgrow (by simp) (fun x hx=>?_)
    simp [Value.ownBlock] at hx;omega
  have O2:Hid _:=hown
  clear hown hgrow
  go_wp2
  refine bodyPost_ret (results_tmp rfl _ _ _) rfl ⟨_,rfl,?_,B2.out⟩
  exact O2.out
theorem rev_snoc {l:List Nat} {i x:Nat} (hi:i<l.length) (hx:l[l.length - 1 - i]?=some x):(l.reverse.take (i+1)).map numV=(l.reverse.take i).map numV++[numV x]:=by
  rw [List.take_add_one,List.getElem?_reverse hi,hx,List.map_append]
  rfl
set_option maxHeartbeats 4000000 in
theorem cd_w (W:World) (b:Nat) (x:Int) (l:List Nat) (n:Nat) (HN:Hid (l.length=n)) (hn:n≤1000000)
    (HC:Hid (Calls Tryz.prog 25 #[.pointer (some ⟨b,0,none⟩),.int .i64 x] W fun e w'=>NumsA (l,0) e w'∧Below W.heap.size W w')) :
    Calls Tryz.prog 124 #[.pointer (some ⟨b,0,none⟩),.int .i64 x] W fun e w'=>(∃ v,e=.returned v∧w'.ownsRow W.heap.size 3 1 v n (l.reverse.map numV))∧Below W.heap.size W w':=by
  obtain ⟨i0,hi0,hz0,hz1,hz2⟩:=info_parts Tryz.hinfoInt
  go_enter Tryz.func124,Tryz.ntmps124
  go_wp2_with (go_at_call 25;refine HC.out.mono ?_;rintro e w1 ⟨⟨ca,cc,rfl,hr⟩,hb⟩;simp only [HN.out] at hr ⊢;have R1:Hid (Rds w1 (.slice ca n cc) n 1 (l.map numV)):=hr;have B1:Hid (Below W.heap.size W w1):=hb;clear hr hb HC)
  go_loopw [7,17] (fun sv kv wr=>∃ (i:Nat),kv=.int .i64 i∧i≤n∧Hid (wr.ownsRow w1.heap.size 3 1 sv i ((l.reverse.take i).map numV))∧Hid (Below w1.heap.size w1 wr)) (fun _ kv _=>n - (intOf kv).toNat)
  case atStart=>exact ⟨0,rfl,Nat.zero_le _,World.ownsRow_nil _ _ _ _,Below.refl _ _⟩
  case round =>
    obtain ⟨i,rfl,hi,hO,hB⟩:=hrel
    by_cases hlt:i<n
    · have hiI:(i:Int)<(n:Int):=by omega
      have hj:n - 1 - i<l.length:=by rw [HN.out];omega
      obtain ⟨y,hy⟩:∃ y,l[n - 1 - i]?=some y:=⟨_,List.getElem?_eq_getElem hj⟩
      have HS:Hid ((l.reverse.take (i+1)).map numV=(l.reverse.take i).map numV++[numV y]):=rev_snoc (by rw [HN.out];exact hlt) (by rw [HN.out];exact hy)
      rcases R1.out.val with ⟨_,e⟩|⟨g,o,cap,e,_,_,hg,hcs⟩
      · exact absurd e (by omega)
      injection e with e1 _ e2
      subst e1 e2
      have hcell:=hcs (n - 1 - i) (.int .i64 (y:Int)) (by rw [List.getElem?_map,hy];rfl)
      have hcr:wr.cell? ⟨g,o+(n - 1 - i),none⟩=some (.int .i64 (y:Int)):=(hB.out.cell (p:=⟨g,o+(n - 1 - i),none⟩) hg).trans hcell
      obtain ⟨va,vn,rfl⟩:=ownv hO.out
      obtain ⟨j,hj2⟩:∃ j:Nat,n - 1 - i=j:=⟨_,rfl⟩
      rw [hj2] at hcr
      have hjI:(n:Int) - 1 - (i:Int)=(j:Int):=by omega
      have hjn:(j:Int)<(n:Int):=by omega
      generalize (l.reverse.take i).map numV=xs at *
      clear hcs hcell hy hj hj2
      go_wp2_with (at_builtin;refine wpList_append_own _ rfl _ _ 31 rfl w1.heap.size 3 i0 (.int .i64 0) 1 8 Tryz.underlying31 hi0 hz0 hz1 hz2 rfl (by decide) (.slice va i vn) i xs rfl (hO.out.alloc _) ⟨wr.heap.size,0,none⟩ 1 1 [.int .i64 (y:Int)] rfl rfl ?c1 ?c2 ?c3 ?c4 ?c5 ?_)
      case c2=>rfl
      case c3=>unfold maxLen;omega
      case c4=>omega
      case c5=>have:=hB.out.size;simp;omega
      intro v' w4 hown hgrow _
      obtain ⟨va2,vn2,rfl⟩:=ownv hown
      have B4:Hid (Below w1.heap.size w1 w4):=by
        have hb1:Below w1.heap.size w1 (wr.alloc (.cells #[.int .i64 (y:Int)] 3)):=hB.out.alloc hB.out.size _
        refine hb1.grown hgrow hb1.size (fun x hx=>?_)
        have:=(hO.out.lt x hx).1
        omega
      have O4:Hid (w4.ownsRow w1.heap.size 3 1 (.slice va2 (i+1) vn2) (i+1) (xs++[numV y])):=hown
      clear hown hgrow
      go_wp2
      refine ⟨⟨i+1,by simp,by omega,?_,B4⟩,by simp [intOf];omega⟩
      rw [HS.out];exact O4
    · have e:i=n:=by omega
      subst e
      have HE:Hid (l.reverse.take i=l.reverse):=List.take_of_length_le (by rw [List.length_reverse,HN.out];exact Nat.le_refl _)
      rw [HE.out] at hO
      obtain ⟨va,vn,rfl⟩:=ownv hO.out
      go_wp2
      exact bodyPost_ret (results_tmp rfl _ _ _) rfl ⟨⟨_,rfl,Go.Joins.ownsRow_le hO.out B1.out.size⟩,B1.out.trans (hB.out.mono B1.out.size)⟩
theorem cd_c {b:Nat} {ps:List Plc} {W:World} (h:WAt b ps W) (hW:WI ps) (k:Nat) (q:Plc) (hq:ps[k]?=some q):Calls Tryz.prog 124 #[.pointer (some ⟨b,0,none⟩),.int .i64 (k:Int)] W fun e w'=>(∃ v,e=.returned v∧w'.ownsRow W.heap.size 3 1 v (dnL ps k).length ((dnL ps k).map numV))∧Below W.heap.size W w':=by
  have hc:=chain_r h hW (k:Int)
  rw [chR,plcI_nat,hq] at hc
  rw [dn_len]
  have:=dn_le hW (List.getElem?_eq_some_iff.1 hq).1
  rw [dn_len] at this
  exact cd_w W b k _ _ rfl (by omega) hc
theorem halloc2 (w:World) {n:Nat} (o:Obj) (hn:w.heap.size=n):(w.alloc o).heap[n]?=some o:=by subst hn;exact halloc1 w o
theorem hkeep {w:World} {n:Nat} {x o:Obj} (h:w.heap[n]?=some x):(w.alloc o).heap[n]?=some x:=by
  have hb:Below w.heap.size w (w.alloc o):=(Below.refl _ w).alloc (Nat.le_refl _) _
  exact (hb.block n (Array.getElem?_eq_some_iff.1 h).1).trans h
theorem rw2 {w:World} {n:Nat} {t:TypeId} {a0 a1:Value} (h:w.heap[n]?=some (.cells #[a0,a1] t (0,0))):w.cell? ⟨n,0,none⟩=some a0∧w.cell? ⟨n,1,none⟩=some a1∧(∀ k,w.frozen? ⟨n,k,none⟩=false)∧n<w.heap.size :=
  ⟨(cell_of_row w n 0 _ _ _ h).trans rfl,(cell_of_row w n 1 _ _ _ h).trans rfl,fun k=>frozen_of_row w n k _ _ h,(Array.getElem?_eq_some_iff.1 h).1⟩
theorem kp2 {V w:World} {N n:Nat} {t:TypeId} {a0 a1:Value} (hb:Below N V w) (hn:n<N:=by first|omega|(simp;try omega)) (h:V.heap[n]?=some (.cells #[a0,a1] t (0,0)):=by first|exact Hid.out (by assumption)|exact hkeep (Hid.out (by assumption))|exact hkeep (hkeep (Hid.out (by assumption)))|exact halloc2 _ _ rfl|exact hkeep (halloc2 _ _ rfl)|exact hkeep (hkeep (halloc2 _ _ rfl))|exact halloc2 _ _ (by simp;done)):Hid (w.heap[n]?=some (.cells #[a0,a1] t (0,0)))∧w.cell? ⟨n,0,none⟩=some a0∧w.cell? ⟨n,1,none⟩=some a1∧(∀ k,w.frozen? ⟨n,k,none⟩=false)∧n<w.heap.size∧¬ n=w.heap.size:=by
  have h2:=(hb.block n hn).trans h
  obtain ⟨c0,c1,f,l⟩:=rw2 h2
  exact ⟨h2,c0,c1,f,l,by omega⟩
theorem stp2 {P:Program} {ops:Array Oper} {o:Oper} {a:Act} {w:World} {K:Act→World→Prop} {Q:Exit→Act→World→Prop} {E:Prop} (hg:o.guard=none) (f:Nat) (hf:∀ (vs:Array Value) (w:World),(callFunc f vs).run P w=.ok (.enter f vs) w) (x y:Operand) (t1 t2:TypeId)
    (hop:o.op=Op.call { callee:=Callee.value (Operand.func f),args:=#[x,y],argTypes:=#[t1,t2] }) {R:Ending→World→Prop} (v1 v2:Value) (hv1:a.eval x=v1) (hv2:a.eval y=v2) (h:Calls P f #[v1,v2] w R) (hR:∀ e w',R e w'→∃ u,e=.returned u∧K (a.put o.dst u) w') :
    if Region.wanted o (yielded ops a.tmps)=true then Oper.wp P o a w K Q else E:=by
  have hw:Region.wanted o (yielded ops a.tmps)=true:=by simp [Region.wanted,hg]
  rw [if_pos hw]
  unfold Oper.wp
  have e:(execOp a.eval o).run P w=.ok (.enter f #[v1,v2]) w:=by
    simp [execOp,hop,resolve,invoke,hv1,hv2]
    simp [go_sem,hf]
  rw [e,Oper.upon_enter]
  exact h.mono (fun e w' hr=>by obtain ⟨u,rfl,hk⟩:=hR e w' hr;exact hk)
theorem stp4 {P:Program} {ops:Array Oper} {o:Oper} {a:Act} {w:World} {K:Act→World→Prop} {Q:Exit→Act→World→Prop} {E:Prop} (hg:o.guard=none) (f:Nat) (hf:∀ (vs:Array Value) (w:World),(callFunc f vs).run P w=.ok (.enter f vs) w) (x y z u0:Operand) (t1 t2 t3 t4:TypeId)
    (hop:o.op=Op.call { callee:=Callee.value (Operand.func f),args:=#[x,y,z,u0],argTypes:=#[t1,t2,t3,t4] }) {R:Ending→World→Prop} (v1 v2 v3 v4:Value) (hv1:a.eval x=v1) (hv2:a.eval y=v2) (hv3:a.eval z=v3) (hv4:a.eval u0=v4) (h:Calls P f #[v1,v2,v3,v4] w R) (hR:∀ e w',R e w'→∃ u,e=.returned u∧K (a.put o.dst u) w') :
    if Region.wanted o (yielded ops a.tmps)=true then Oper.wp P o a w K Q else E:=by
  have hw:Region.wanted o (yielded ops a.tmps)=true:=by simp [Region.wanted,hg]
  rw [if_pos hw]
  unfold Oper.wp
  have e:(execOp a.eval o).run P w=.ok (.enter f #[v1,v2,v3,v4]) w:=by
    simp [execOp,hop,resolve,invoke,hv1,hv2,hv3,hv4]
    simp [go_sem,hf]
  rw [e,Oper.upon_enter]
  exact h.mono (fun e w' hr=>by obtain ⟨u,rfl,hk⟩:=hR e w' hr;exact hk)
theorem callClone (vs:Array Value) (w:World):(callFunc 125 vs).run Tryz.prog w=.ok (.enter 125 vs) w:=by simp [go_sem]
theorem own_form {w:World} {N T n s:Nat} {v:Value} {xs:List Value} (h:w.ownsRow N T s v n xs) (hn:0<n):∃ g cap,v=.slice (some ⟨g,0,none⟩) n cap∧n≤cap:=by
  rcases h.2 with ⟨_,e⟩|⟨g,cap,cur,e1,_,_,e4,_⟩
  · omega
  · exact ⟨g,cap,e1,e4⟩
theorem rw3 {w:World} {n:Nat} {t:TypeId} {a0 a1 a2:Value} (h:w.heap[n]?=some (.cells #[a0,a1,a2] t (0,0))):w.cell? ⟨n,0,none⟩=some a0∧w.cell? ⟨n,1,none⟩=some a1∧w.cell? ⟨n,2,none⟩=some a2∧(∀ k,w.frozen? ⟨n,k,none⟩=false)∧n<w.heap.size :=
  ⟨(cell_of_row w n 0 _ _ _ h).trans rfl,(cell_of_row w n 1 _ _ _ h).trans rfl,(cell_of_row w n 2 _ _ _ h).trans rfl,fun k=>frozen_of_row w n k _ _ h,(Array.getElem?_eq_some_iff.1 h).1⟩
theorem kp3 {V w:World} {N n:Nat} {t:TypeId} {a0 a1 a2:Value} (hb:Below N V w) (hn:n<N) (h:V.heap[n]?=some (.cells #[a0,a1,a2] t (0,0))):Hid (w.heap[n]?=some (.cells #[a0,a1,a2] t (0,0)))∧w.cell? ⟨n,0,none⟩=some a0∧w.cell? ⟨n,1,none⟩=some a1∧w.cell? ⟨n,2,none⟩=some a2∧(∀ k,w.frozen? ⟨n,k,none⟩=false)∧n<w.heap.size∧¬ n=w.heap.size:=by
  have hd:=(hb.block n hn).trans h
  obtain ⟨c0,c1,c2,f,l⟩:=rw3 hd
  exact ⟨hd,c0,c1,c2,f,l,by omega⟩
def DspA (N:Nat) (P Q C:List Nat) (v1 v2 v3:Value) (w:World):Prop:=∃ a b,N≤a∧a≤b∧w.ownsRow N 3 1 v3 C.length (C.map numV)∧(∀ x,v3.ownBlock=some x→x<a)∧w.ownsRow a 3 1 v1 P.length (P.map numV)∧(∀ x,v1.ownBlock=some x→x<b)∧w.ownsRow b 3 1 v2 Q.length (Q.map numV)
theorem DspA.rows {N:Nat} {P Q C:List Nat} {v1 v2 v3:Value} {w:World} (h:DspA N P Q C v1 v2 v3 w):w.ownsRow N 3 1 v1 P.length (P.map numV)∧w.ownsRow N 3 1 v2 Q.length (Q.map numV)∧w.ownsRow N 3 1 v3 C.length (C.map numV):=by
  obtain ⟨a,b,h1,h2,h3,h4,h5,h6,h7⟩:=h
  exact ⟨Go.Joins.ownsRow_le h5 h1,Go.Joins.ownsRow_le h7 (Nat.le_trans h1 h2),h3⟩
theorem DspA.low2 {M N:Nat} {P Q C:List Nat} {v1 v2 v3:Value} {w:World} (h:DspA N P Q C v1 v2 v3 w) (hM:M≤N):DspA M P Q C v1 v2 v3 w:=by
  obtain ⟨a,b,h1,h2,h3,h4,h5,h6,h7⟩:=h
  exact ⟨a,b,Nat.le_trans hM h1,h2,Go.Joins.ownsRow_le h3 hM,h4,h5,h6,h7⟩
theorem DspA.low {M N:Nat} {P Q C:List Nat} {v1 v2 v3:Value} {w:World} (h:DspA N P Q C v1 v2 v3 w) (hM:M<N):DspA (M+1) P Q C v1 v2 v3 w:=h.low2 hM
theorem DspA.set {M N i:Nat} {P Q C:List Nat} {v1 v2 v3:Value} {w:World} (h:DspA (N+1) P Q C v1 v2 v3 w) (hM:M≤N) (x:Value):DspA (N+1) P Q C v1 v2 v3 (w.setCell ⟨M,i,none⟩ x):=by
  obtain ⟨a,b,h1,h2,h3,h4,h5,h6,h7⟩:=h
  exact ⟨a,b,h1,h2,ownsRow_setCell_below h3 (show M<N+1 by omega) _,h4,ownsRow_setCell_below h5 (show M<a by omega) _,h6,ownsRow_setCell_below h7 (show M<b by omega) _⟩
theorem DspA.set3 {M N:Nat} {P Q C:List Nat} {v1 v2 v3:Value} {w:World} (h:DspA (N+1) P Q C v1 v2 v3 w) (hM:M≤N) (x y z:Value):DspA (N+1) P Q C v1 v2 v3 (((w.setCell ⟨M,0,none⟩ x).setCell ⟨M,1,none⟩ y).setCell ⟨M,2,none⟩ z):=((h.set hM x).set hM y).set hM z
theorem cut_rds {w:World} {N g cap n c:Nat} {D:List Nat} (h:w.ownsRow N 3 1 (.slice (some ⟨g,0,none⟩) n cap) n (D.map numV)) (hc:c≤n):Rdw w (.slice (some ⟨g,0,none⟩) c cap) c 1 ((D.take c).map numV):=by
  have hl:D.length=n:=by have:=h.1;rw [List.length_map] at this;omega
  have hr:=own_rds h
  refine .inl ⟨by rw [List.length_map,List.length_take];omega,.inr ?_⟩
  rcases hr.val with ⟨e,_⟩|⟨g2,o2,cap2,e,h1,h2,h3,h4⟩
  · cases e
  · refine ⟨g,0,cap,rfl,?_,?_,?_,?_⟩
    all_goals injection e with e1 _ e2
    all_goals injection e1 with e1
    all_goals injection e1 with e3 e4 _
    all_goals subst e2 e3 e4
    · omega
    · exact h2
    · exact h3
    · intro j u hj
      rw [List.getElem?_map] at hj
      by_cases hjc:j<c
      · rw [List.getElem?_take_of_lt hjc,← List.getElem?_map] at hj
        exact h4 j u hj
      · rw [List.getElem?_eq_none (by rw [List.length_take];omega)] at hj
        cases hj
theorem rest_rds {w:World} {N g cap n c:Nat} {D:List Nat} (h:w.ownsRow N 3 1 (.slice (some ⟨g,0,none⟩) n cap) n (D.map numV)) (hc:c≤n):Rdw w (.slice (some ⟨g,c,none⟩) (n - c) (cap - c)) (n - c) 1 ((D.drop c).map numV):=by
  have hl:D.length=n:=by have:=h.1;rw [List.length_map] at this;omega
  have hr:=own_rds h
  refine .inl ⟨by rw [List.length_map,List.length_drop];omega,.inr ?_⟩
  rcases hr.val with ⟨e,_⟩|⟨g2,o2,cap2,e,h1,h2,h3,h4⟩
  · cases e
  · refine ⟨g,c,cap - c,rfl,?_,?_,?_,?_⟩
    all_goals injection e with e1 _ e2
    all_goals injection e1 with e1
    all_goals injection e1 with e3 e4 _
    all_goals subst e2 e3 e4
    · omega
    · omega
    · exact h3
    · intro j u hj
      rw [List.getElem?_map,List.getElem?_drop,← List.getElem?_map] at hj
      have:=h4 (c+j) u hj
      rwa [Nat.zero_add] at this
theorem dsp_fin {W w1 w2 w3 w4:World} {D C:List Nat} {n c k:Nat} {v1 v2 v3:Value} (C2:w2.ownsRow w1.heap.size 3 1 v3 C.length (C.map numV)) (P3:w3.ownsRow w2.heap.size 3 1 v1 c ((D.take c).map numV)) (P4:w4.ownsRow w3.heap.size 3 1 v2 k ((D.drop c).map numV)) (hn:D.length=n) (hc:(c=8∧8≤n∧k=n - 8)∨(c=n∧n≤8∧k=0)) (B3:Below w2.heap.size w2 w3) (B4:Below w3.heap.size w3 w4) (h1:W.heap.size<w1.heap.size) (h2:w1.heap.size≤w2.heap.size) (x y z:Value):DspA W.heap.size (D.take 8) (D.drop 8) C v1 v2 v3 (((w4.setCell ⟨W.heap.size,0,none⟩ x).setCell ⟨W.heap.size,1,none⟩ y).setCell ⟨W.heap.size,2,none⟩ z):=by
  have e1:D.take 8=D.take c∧(D.take c).length=c:=by
    rcases hc with ⟨rfl,h,_⟩|⟨rfl,h,_⟩
    · exact ⟨rfl,by rw [List.length_take];omega⟩
    · exact ⟨by rw [List.take_of_length_le (by omega),List.take_of_length_le (by omega)],by rw [List.length_take];omega⟩
  have e2:D.drop 8=D.drop c∧(D.drop c).length=k:=by
    rcases hc with ⟨rfl,h,hk⟩|⟨rfl,h,hk⟩
    · exact ⟨rfl,by rw [List.length_drop];omega⟩
    · exact ⟨by rw [List.drop_of_length_le (by omega),List.drop_of_length_le (by omega)],by rw [List.length_drop];omega⟩
  have h3:=B3.size
  have h4:=B4.size
  refine ⟨w2.heap.size,w3.heap.size,by omega,h3,?_,fun x hx=>(C2.lt x hx).2,?_,fun x hx=>(P3.lt x hx).2,?_⟩
  · refine Go.Joins.ownsRow_le (base:=w1.heap.size) ?_ (by omega)
    repeat (refine ownsRow_setCell_below ?_ h1 _)
    exact rowBelow (rowBelow C2 B3) B4
  · rw [e1.1,e1.2]
    repeat (refine ownsRow_setCell_below ?_ (show W.heap.size<w2.heap.size by omega) _)
    exact rowBelow P3 B4
  · rw [e2.1,e2.2]
    repeat (refine ownsRow_setCell_below ?_ (show W.heap.size<w3.heap.size by omega) _)
    exact P4
set_option maxHeartbeats 4000000 in
theorem dof_a (W:World) (b:Nat) (x:Int) (D C:List Nat) (n:Nat) (HN:Hid (D.length=n)) (h0:0<n) (hn:n≤300) (hc:n<9)
    (HCD:Hid (∀ w,Below W.heap.size W w→Calls Tryz.prog 124 #[.pointer (some ⟨b,0,none⟩),.int .i64 x] w fun e w'=>(∃ v,e=.returned v∧w'.ownsRow w.heap.size 3 1 v n (D.map numV))∧Below w.heap.size w w'))
    (HCL:Hid (∀ w,Below W.heap.size W w→Calls Tryz.prog 18 #[.pointer (some ⟨b,0,none⟩),.int .i64 x] w fun e w'=>(∃ v,e=.returned (.tuple #[v,.int .i64 0])∧w'.ownsRow w.heap.size 3 1 v C.length (C.map numV))∧Below w.heap.size w w')) :
    Calls Tryz.prog 82 #[.pointer (some ⟨b,0,none⟩),.int .i64 x] W fun e w'=>(∃ v1 v2 v3,e=.returned (.agg #[v1,v2,v3])∧DspA W.heap.size (D.take 8) (D.drop 8) C v1 v2 v3 w')∧Below W.heap.size W w':=by
  have hmin:min (8:Int) (n:Int)=(n:Int):=by omega
  go_enter Tryz.func82,Tryz.ntmps82
  go_upto_region 4 with (first
    | (go_at_call 124;refine (HCD.out _ ((Below.refl _ _).alloc (Nat.le_refl _) _)).mono ?_;rintro e w1 ⟨⟨v,rfl,ho⟩,hb⟩;obtain ⟨g,cap,rfl,hcap⟩:=own_form ho h0;have O1:Hid (w1.ownsRow (W.heap.size+1) 3 1 (.slice (some ⟨g,0,none⟩) n cap) n (D.map numV)):=Go.Joins.ownsRow_le ho (by simp);have B1:Hid (Below W.heap.size W w1):=bstep ((Below.refl _ _).alloc (Nat.le_refl _) _) hb;have rrd:=kp3 (n:=W.heap.size) hb (by simp) (halloc1 _ _);obtain ⟨rrB,rr0,rr1,rr2,rrf,rrL,rrN⟩:=rrd;have S1:Hid (W.heap.size<w1.heap.size):=rrL;clear hb ho HCD)
    | (go_at_call 18;refine (HCL.out _ B1.out).mono ?_;rintro e w2 ⟨⟨v3,rfl,ho⟩,hb⟩;obtain ⟨ca,cc,rfl⟩:=ownv ho;have B2:Hid (Below W.heap.size W w2):=bstep B1.out hb;have O2:Hid (w2.ownsRow (W.heap.size+1) 3 1 (.slice (some ⟨g,0,none⟩) n cap) n (D.map numV)):=rowBelow O1.out hb;have C2:Hid (w2.ownsRow w1.heap.size 3 1 (.slice ca C.length cc) C.length (C.map numV)):=ho;have S2:Hid (w1.heap.size≤w2.heap.size):=hb.size;have rrd:=kp3 (n:=W.heap.size) hb (by first|omega|(simp;try omega)) rrB.out;(try clear rrB rr0 rr1 rr2 rrf rrL rrN);obtain ⟨rrB,rr0,rr1,rr2,rrf,rrL,rrN⟩:=rrd;clear hb ho HCL))
  by_cases hcn:n=cap
  · subst hcn
    have HC1:Hid (∀ w,Below w2.heap.size w2 w→Calls Tryz.prog 125 #[.slice (some ⟨g,0,none⟩) n n] w fun e w'=>∃ v',e=.returned v'∧w'.ownsRow w2.heap.size 3 1 v' n ((D.take n).map numV)∧Below w2.heap.size w w'):=fun w hb=>by
      have hl:(D.take n).length=n:=by rw [List.length_take,HN.out];omega
      have h1:=cloI_any (D.take n) g 0 n w (by rw [hl];exact (cut_rds O2.out (by omega)).keep hb) (by omega)
      rw [hl] at h1
      exact h1.mono fun e w' zz=>by
        obtain ⟨v,e1,e2,e3⟩:=zz
        exact ⟨v,e1,Go.Joins.ownsRow_le e2 hb.size,e3.mono hb.size⟩
    have HC2:Hid (∀ w,Below w2.heap.size w2 w→Calls Tryz.prog 125 #[.slice (some ⟨g,0,none⟩) 0 (0)] w fun e w'=>∃ v',e=.returned v'∧w'.ownsRow w.heap.size 3 1 v' 0 ((D.drop n).map numV)∧Below w.heap.size w w'):=fun w hb=>by
      have hl:(D.drop n).length=0:=by rw [List.length_drop,HN.out];omega
      have h1:=cloI_any (D.drop n) g 0 (0) w (by rw [hl];exact Rdw.keep (.inr ⟨rfl,by rw [List.drop_of_length_le (by rw [HN.out];omega)];rfl,_,_,rfl⟩) hb) (by omega)
      rw [hl] at h1
      exact h1
    clear O2
    go_region_law (first
      | (refine step_call1 rfl 125 callClone (.tmp 23) 31 rfl (.slice (some ⟨g,0,none⟩) n n) (by simp [Act.eval,Act.put]) (HC1.out _ (by first|exact (Below.refl _ _).drew|exact Below.refl _ _)) ?_;rintro e w3 ⟨v1,rfl,ho,hb⟩;refine ⟨_,rfl,?_⟩;obtain ⟨p1,q1,rfl⟩:=ownv ho;have P3:Hid (w3.ownsRow w2.heap.size 3 1 (.slice p1 n q1) n ((D.take n).map numV)):=ho;have B3:Hid (Below w2.heap.size w2 w3):=(by first|exact (Below.refl _ _).drew.trans hb|exact hb);have rrd:=kp3 (n:=W.heap.size) B3.out (by omega) rrB.out;(try clear rrB rr0 rr1 rr2 rrf rrL rrN);obtain ⟨rrB,rr0,rr1,rr2,rrf,rrL,rrN⟩:=rrd;clear hb ho)
      | (refine step_call1 rfl 125 callClone (.tmp 27) 31 rfl (.slice (some ⟨g,0,none⟩) 0 (0)) (by simp [Act.eval]) (HC2.out _ B3.out) ?_;rintro e w4 ⟨v2,rfl,ho,hb⟩;refine ⟨_,rfl,?_⟩;obtain ⟨p2,q2,rfl⟩:=ownv ho;have P4:Hid (w4.ownsRow w3.heap.size 3 1 (.slice p2 0 q2) 0 ((D.drop n).map numV)):=ho;have B4:Hid (Below w3.heap.size w3 w4):=hb;have rrd:=kp3 (n:=W.heap.size) B4.out (by omega) rrB.out;(try clear rrB rr0 rr1 rr2 rrf rrL rrN);obtain ⟨rrB,rr0,rr1,rr2,rrf,rrL,rrN⟩:=rrd;clear hb ho))
    all_goals go_wp2
    all_goals exact bodyPost_ret (v:=.agg #[.slice p1 n q1,.slice p2 0 q2,.slice ca C.length cc]) (by simp [results,Tryz.results82,go_sem, *]) rfl ⟨⟨_,_,_,rfl,dsp_fin C2.out P3.out P4.out HN.out (by omega) B3.out B4.out S1.out S2.out _ _ _⟩,(((B2.out.trans (B3.out.mono B2.out.size)).trans (B4.out.mono (by have:=B2.out.size;have:=B3.out.size;omega))).setCell (Nat.le_refl _) _).setCell (Nat.le_refl _) _ |>.setCell (Nat.le_refl _) _⟩
  · have hcn2:¬ cap=n:=fun e=>hcn e.symm
    have HC1:Hid (∀ w,Below w2.heap.size w2 w→Calls Tryz.prog 125 #[.slice (some ⟨g,0,none⟩) n cap] w fun e w'=>∃ v',e=.returned v'∧w'.ownsRow w2.heap.size 3 1 v' n ((D.take n).map numV)∧Below w2.heap.size w w'):=fun w hb=>by
      have hl:(D.take n).length=n:=by rw [List.length_take,HN.out];omega
      have h1:=cloI_any (D.take n) g 0 cap w (by rw [hl];exact (cut_rds O2.out (by omega)).keep hb) (by omega)
      rw [hl] at h1
      exact h1.mono fun e w' zz=>by
        obtain ⟨v,e1,e2,e3⟩:=zz
        exact ⟨v,e1,Go.Joins.ownsRow_le e2 hb.size,e3.mono hb.size⟩
    have HC2:Hid (∀ w,Below w2.heap.size w2 w→Calls Tryz.prog 125 #[.slice (some ⟨g,n,none⟩) 0 (cap - n)] w fun e w'=>∃ v',e=.returned v'∧w'.ownsRow w.heap.size 3 1 v' 0 ((D.drop n).map numV)∧Below w.heap.size w w'):=fun w hb=>by
      have hl:(D.drop n).length=0:=by rw [List.length_drop,HN.out];omega
      have h1:=cloI_any (D.drop n) g n (cap - n) w (by rw [hl];exact Rdw.keep (.inr ⟨rfl,by rw [List.drop_of_length_le (by rw [HN.out];omega)];rfl,_,_,rfl⟩) hb) (by omega)
      rw [hl] at h1
      exact h1
    clear O2
    go_region_law (first
      | (refine step_call1 rfl 125 callClone (.tmp 23) 31 rfl (.slice (some ⟨g,0,none⟩) n cap) (by simp [Act.eval,Act.put]) (HC1.out _ (by first|exact (Below.refl _ _).drew|exact Below.refl _ _)) ?_;rintro e w3 ⟨v1,rfl,ho,hb⟩;refine ⟨_,rfl,?_⟩;obtain ⟨p1,q1,rfl⟩:=ownv ho;have P3:Hid (w3.ownsRow w2.heap.size 3 1 (.slice p1 n q1) n ((D.take n).map numV)):=ho;have B3:Hid (Below w2.heap.size w2 w3):=(by first|exact (Below.refl _ _).drew.trans hb|exact hb);have rrd:=kp3 (n:=W.heap.size) B3.out (by omega) rrB.out;(try clear rrB rr0 rr1 rr2 rrf rrL rrN);obtain ⟨rrB,rr0,rr1,rr2,rrf,rrL,rrN⟩:=rrd;clear hb ho)
      | (refine step_call1 rfl 125 callClone (.tmp 27) 31 rfl (.slice (some ⟨g,n,none⟩) 0 (cap - n)) (by simp [Act.eval]) (HC2.out _ B3.out) ?_;rintro e w4 ⟨v2,rfl,ho,hb⟩;refine ⟨_,rfl,?_⟩;obtain ⟨p2,q2,rfl⟩:=ownv ho;have P4:Hid (w4.ownsRow w3.heap.size 3 1 (.slice p2 0 q2) 0 ((D.drop n).map numV)):=ho;have B4:Hid (Below w3.heap.size w3 w4):=hb;have rrd:=kp3 (n:=W.heap.size) B4.out (by omega) rrB.out;(try clear rrB rr0 rr1 rr2 rrf rrL rrN);obtain ⟨rrB,rr0,rr1,rr2,rrf,rrL,rrN⟩:=rrd;clear hb ho))
    all_goals go_wp2
    all_goals exact bodyPost_ret (v:=.agg #[.slice p1 n q1,.slice p2 0 q2,.slice ca C.length cc]) (by simp [results,Tryz.results82,go_sem, *]) rfl ⟨⟨_,_,_,rfl,dsp_fin C2.out P3.out P4.out HN.out (by omega) B3.out B4.out S1.out S2.out _ _ _⟩,(((B2.out.trans (B3.out.mono B2.out.size)).trans (B4.out.mono (by have:=B2.out.size;have:=B3.out.size;omega))).setCell (Nat.le_refl _) _).setCell (Nat.le_refl _) _ |>.setCell (Nat.le_refl _) _⟩
set_option maxHeartbeats 4000000 in
theorem dof_b (W:World) (b:Nat) (x:Int) (D C:List Nat) (n:Nat) (HN:Hid (D.length=n)) (h0:0<n) (hn:n≤300) (hc:¬ n<9)
    (HCD:Hid (∀ w,Below W.heap.size W w→Calls Tryz.prog 124 #[.pointer (some ⟨b,0,none⟩),.int .i64 x] w fun e w'=>(∃ v,e=.returned v∧w'.ownsRow w.heap.size 3 1 v n (D.map numV))∧Below w.heap.size w w'))
    (HCL:Hid (∀ w,Below W.heap.size W w→Calls Tryz.prog 18 #[.pointer (some ⟨b,0,none⟩),.int .i64 x] w fun e w'=>(∃ v,e=.returned (.tuple #[v,.int .i64 0])∧w'.ownsRow w.heap.size 3 1 v C.length (C.map numV))∧Below w.heap.size w w')) :
    Calls Tryz.prog 82 #[.pointer (some ⟨b,0,none⟩),.int .i64 x] W fun e w'=>(∃ v1 v2 v3,e=.returned (.agg #[v1,v2,v3])∧DspA W.heap.size (D.take 8) (D.drop 8) C v1 v2 v3 w')∧Below W.heap.size W w':=by
  have hmin:min (8:Int) (n:Int)=8:=by omega
  go_enter Tryz.func82,Tryz.ntmps82
  go_upto_region 4 with (first
    | (go_at_call 124;refine (HCD.out _ ((Below.refl _ _).alloc (Nat.le_refl _) _)).mono ?_;rintro e w1 ⟨⟨v,rfl,ho⟩,hb⟩;obtain ⟨g,cap,rfl,hcap⟩:=own_form ho h0;have O1:Hid (w1.ownsRow (W.heap.size+1) 3 1 (.slice (some ⟨g,0,none⟩) n cap) n (D.map numV)):=Go.Joins.ownsRow_le ho (by simp);have B1:Hid (Below W.heap.size W w1):=bstep ((Below.refl _ _).alloc (Nat.le_refl _) _) hb;have rrd:=kp3 (n:=W.heap.size) hb (by simp) (halloc1 _ _);obtain ⟨rrB,rr0,rr1,rr2,rrf,rrL,rrN⟩:=rrd;have S1:Hid (W.heap.size<w1.heap.size):=rrL;clear hb ho HCD)
    | (go_at_call 18;refine (HCL.out _ B1.out).mono ?_;rintro e w2 ⟨⟨v3,rfl,ho⟩,hb⟩;obtain ⟨ca,cc,rfl⟩:=ownv ho;have B2:Hid (Below W.heap.size W w2):=bstep B1.out hb;have O2:Hid (w2.ownsRow (W.heap.size+1) 3 1 (.slice (some ⟨g,0,none⟩) n cap) n (D.map numV)):=rowBelow O1.out hb;have C2:Hid (w2.ownsRow w1.heap.size 3 1 (.slice ca C.length cc) C.length (C.map numV)):=ho;have S2:Hid (w1.heap.size≤w2.heap.size):=hb.size;have rrd:=kp3 (n:=W.heap.size) hb (by first|omega|(simp;try omega)) rrB.out;(try clear rrB rr0 rr1 rr2 rrf rrL rrN);obtain ⟨rrB,rr0,rr1,rr2,rrf,rrL,rrN⟩:=rrd;clear hb ho HCL))
  have hcn2:¬ cap=8:=by omega
  have hcn3:(8:Int)≤(cap:Int):=by omega
  have hcn4:(8:Int)≤(n:Int):=by omega
  have HC1:Hid (∀ w,Below w2.heap.size w2 w→Calls Tryz.prog 125 #[.slice (some ⟨g,0,none⟩) 8 cap] w fun e w'=>∃ v',e=.returned v'∧w'.ownsRow w2.heap.size 3 1 v' 8 ((D.take 8).map numV)∧Below w2.heap.size w w'):=fun w hb=>by
    have hl:(D.take 8).length=8:=by rw [List.length_take,HN.out];omega
    have h1:=cloI_any (D.take 8) g 0 cap w (by rw [hl];exact (cut_rds O2.out (by omega)).keep hb) (by omega)
    rw [hl] at h1
    exact h1.mono fun e w' zz=>by
      obtain ⟨v,e1,e2,e3⟩:=zz
      exact ⟨v,e1,Go.Joins.ownsRow_le e2 hb.size,e3.mono hb.size⟩
  have HC2:Hid (∀ w,Below w2.heap.size w2 w→Calls Tryz.prog 125 #[.slice (some ⟨g,8,none⟩) (n - 8) (cap - 8)] w fun e w'=>∃ v',e=.returned v'∧w'.ownsRow w.heap.size 3 1 v' (n - 8) ((D.drop 8).map numV)∧Below w.heap.size w w'):=fun w hb=>by
    have hl:(D.drop 8).length=(n - 8):=by rw [List.length_drop,HN.out]
    have h1:=cloI_any (D.drop 8) g 8 (cap - 8) w (by rw [hl];exact Rdw.keep (rest_rds O2.out (by omega)) hb) (by omega)
    rw [hl] at h1
    exact h1
  clear O2
  go_region_law (first
    | (refine step_call1 rfl 125 callClone (.tmp 23) 31 rfl (.slice (some ⟨g,0,none⟩) 8 cap) (by simp [Act.eval,Act.put]) (HC1.out _ (by first|exact (Below.refl _ _).drew|exact Below.refl _ _)) ?_;rintro e w3 ⟨v1,rfl,ho,hb⟩;refine ⟨_,rfl,?_⟩;obtain ⟨p1,q1,rfl⟩:=ownv ho;have P3:Hid (w3.ownsRow w2.heap.size 3 1 (.slice p1 8 q1) 8 ((D.take 8).map numV)):=ho;have B3:Hid (Below w2.heap.size w2 w3):=(by first|exact (Below.refl _ _).drew.trans hb|exact hb);have rrd:=kp3 (n:=W.heap.size) B3.out (by omega) rrB.out;(try clear rrB rr0 rr1 rr2 rrf rrL rrN);obtain ⟨rrB,rr0,rr1,rr2,rrf,rrL,rrN⟩:=rrd;clear hb ho)
    | (refine step_call1 rfl 125 callClone (.tmp 27) 31 rfl (.slice (some ⟨g,8,none⟩) (n - 8) (cap - 8)) (by simp [Act.eval]) (HC2.out _ B3.out) ?_;rintro e w4 ⟨v2,rfl,ho,hb⟩;refine ⟨_,rfl,?_⟩;obtain ⟨p2,q2,rfl⟩:=ownv ho;have P4:Hid (w4.ownsRow w3.heap.size 3 1 (.slice p2 (n - 8) q2) (n - 8) ((D.drop 8).map numV)):=ho;have B4:Hid (Below w3.heap.size w3 w4):=hb;have rrd:=kp3 (n:=W.heap.size) B4.out (by omega) rrB.out;(try clear rrB rr0 rr1 rr2 rrf rrL rrN);obtain ⟨rrB,rr0,rr1,rr2,rrf,rrL,rrN⟩:=rrd;clear hb ho))
  all_goals go_wp2
  all_goals exact bodyPost_ret (v:=.agg #[.slice p1 8 q1,.slice p2 (n - 8) q2,.slice ca C.length cc]) (by simp [results,Tryz.results82,go_sem, *]) rfl ⟨⟨_,_,_,rfl,dsp_fin C2.out P3.out P4.out HN.out (by omega) B3.out B4.out S1.out S2.out _ _ _⟩,(((B2.out.trans (B3.out.mono B2.out.size)).trans (B4.out.mono (by have:=B2.out.size;have:=B3.out.size;omega))).setCell (Nat.le_refl _) _).setCell (Nat.le_refl _) _ |>.setCell (Nat.le_refl _) _⟩
theorem dof_c {b:Nat} {ps:List Plc} {W:World} (h:WAt b ps W) (hW:WI ps) (k:Nat) (q:Plc) (hq:ps[k]?=some q):Calls Tryz.prog 82 #[.pointer (some ⟨b,0,none⟩),.int .i64 (k:Int)] W fun e w'=>(∃ v1 v2 v3,e=.returned (.agg #[v1,v2,v3])∧DspA W.heap.size ((dnL ps k).take 8) ((dnL ps k).drop 8) q.cl v1 v2 v3 w')∧Below W.heap.size W w':=by
  have hk:=(List.getElem?_eq_some_iff.1 hq).1
  have h1:=dn_le hW hk
  have h0:0<(dnL ps k).length:=by rw [dn_len];exact ch_pos k
  have HCD:∀ w,Below W.heap.size W w→Calls Tryz.prog 124 #[.pointer (some ⟨b,0,none⟩),.int .i64 (k:Int)] w fun e w'=>(∃ v,e=.returned v∧w'.ownsRow w.heap.size 3 1 v (dnL ps k).length ((dnL ps k).map numV))∧Below w.heap.size w w':=fun w hb=>cd_c (h.below hb) hW k q hq
  have HCL:∀ w,Below W.heap.size W w→Calls Tryz.prog 18 #[.pointer (some ⟨b,0,none⟩),.int .i64 (k:Int)] w fun e w'=>(∃ v,e=.returned (.tuple #[v,.int .i64 0])∧w'.ownsRow w.heap.size 3 1 v q.cl.length (q.cl.map numV))∧Below w.heap.size w w':=fun w hb=>by
    obtain ⟨N,mb,vp,pv,h⟩:=h.below hb
    refine (closure_yes N b mb ps vp pv k q w h hq hW.hi).mono ?_
    rintro e w' ⟨v,rfl,ho,hb⟩
    exact ⟨⟨v,rfl,ho⟩,hb⟩
  by_cases hc:(dnL ps k).length<9
  · exact dof_a W b k (dnL ps k) q.cl _ rfl h0 h1 hc HCD HCL
  · exact dof_b W b k (dnL ps k) q.cl _ rfl h0 h1 hc HCD HCL
theorem dbl_no (W:World) (b:Nat) (x E:Int) (hE:¬ E=0) (HC:Hid (∀ w,Below W.heap.size W w→Calls Tryz.prog 72 #[.pointer (some ⟨b,0,none⟩),.int .i64 x] w fun e w'=>e=.returned (.int .i64 E)∧Below w.heap.size w w')):Calls Tryz.prog 24 #[.pointer (some ⟨b,0,none⟩),.int .i64 x] W fun e w'=>e=.returned (.tuple #[.agg #[.slice none 0 0,.slice none 0 0,.slice none 0 0],.int .i64 E])∧Below W.heap.size W w':=by
  have hE2:(E == 0)=false:=by simp [hE]
  go_enter Tryz.func24,Tryz.ntmps24
  go_wp2_with (go_at_call 72;refine (HC.out _ (by repeat (first|exact Below.refl _ _|refine Below.setCell ?_ (by simp;try omega) _|refine Below.alloc ?_ (by simp;try omega) _|refine Below.drew ?_))).mono ?_;rintro e w1 ⟨rfl,hb⟩;have rrd:=kp3 (n:=W.heap.size) hb (by simp) (halloc1 _ _);obtain ⟨rrB,rr0,rr1,rr2,rrf,rrL,rrN⟩:=rrd;have B1:Hid (Below W.heap.size W w1):=bstep (by repeat (first|exact Below.refl _ _|refine Below.setCell ?_ (by simp;try omega) _|refine Below.alloc ?_ (by simp;try omega) _|refine Below.drew ?_)) hb;clear hb HC)
  exact bodyPost_ret (v:=.tuple #[.agg #[.slice none 0 0,.slice none 0 0,.slice none 0 0],.int .i64 E]) (by simp [results,Tryz.results24,go_sem, *]) rfl ⟨rfl,((B1.out.setCell (Nat.le_refl _) _).setCell (Nat.le_refl _) _).setCell (Nat.le_refl _) _⟩
theorem dbl_yes (W:World) (b:Nat) (x:Int) (P Q C:List Nat) (HC:Hid (∀ w,Below W.heap.size W w→Calls Tryz.prog 72 #[.pointer (some ⟨b,0,none⟩),.int .i64 x] w fun e w'=>e=.returned (.int .i64 0)∧Below w.heap.size w w')) (HT:Hid (∀ w,Below W.heap.size W w→Calls Tryz.prog 82 #[.pointer (some ⟨b,0,none⟩),.int .i64 x] w fun e w'=>(∃ v1 v2 v3,e=.returned (.agg #[v1,v2,v3])∧DspA w.heap.size P Q C v1 v2 v3 w')∧Below w.heap.size w w')):Calls Tryz.prog 24 #[.pointer (some ⟨b,0,none⟩),.int .i64 x] W fun e w'=>(∃ v1 v2 v3,e=.returned (.tuple #[.agg #[v1,v2,v3],.int .i64 0])∧DspA (W.heap.size+1) P Q C v1 v2 v3 w')∧Below W.heap.size W w':=by
  go_enter Tryz.func24,Tryz.ntmps24
  go_wp2_with (first
    | (go_at_call 72;refine (HC.out _ (by repeat (first|exact Below.refl _ _|refine Below.setCell ?_ (by simp;try omega) _|refine Below.alloc ?_ (by simp;try omega) _|refine Below.drew ?_))).mono ?_;rintro e w1 ⟨rfl,hb⟩;have rrd:=kp3 (n:=W.heap.size) hb (by simp) (halloc1 _ _);obtain ⟨rrB,rr0,rr1,rr2,rrf,rrL,rrN⟩:=rrd;have B1:Hid (Below W.heap.size W w1):=bstep (by repeat (first|exact Below.refl _ _|refine Below.setCell ?_ (by simp;try omega) _|refine Below.alloc ?_ (by simp;try omega) _|refine Below.drew ?_)) hb;clear hb HC)
    | (go_at_call 82;refine (HT.out _ B1.out).mono ?_;rintro e w2 ⟨⟨v1,v2,v3,rfl,ho⟩,hb⟩;obtain ⟨a1,c1,rfl⟩:=ownv ho.rows.1;obtain ⟨a2,c2,rfl⟩:=ownv ho.rows.2.1;obtain ⟨a3,c3,rfl⟩:=ownv ho.rows.2.2;have O2:Hid (DspA w1.heap.size P Q C (.slice a1 P.length c1) (.slice a2 Q.length c2) (.slice a3 C.length c3) w2):=ho;have S1:Hid (W.heap.size<w1.heap.size):=rrL;have rrd:=kp3 (n:=W.heap.size) hb (by first|omega|(simp;try omega)) rrB.out;(try clear rrB rr0 rr1 rr2 rrf rrL rrN);obtain ⟨rrB,rr0,rr1,rr2,rrf,rrL,rrN⟩:=rrd;have B2:Hid (Below W.heap.size W w2):=bstep B1.out hb;clear hb ho HT))
  exact bodyPost_ret (v:=.tuple #[.agg #[.slice a1 P.length c1,.slice a2 Q.length c2,.slice a3 C.length c3],.int .i64 0]) (by simp [results,Tryz.results24,go_sem, *]) rfl ⟨⟨_,_,_,rfl,(O2.out.low S1.out).set3 (Nat.le_refl _) _ _ _⟩,((B2.out.setCell (Nat.le_refl _) _).setCell (Nat.le_refl _) _).setCell (Nat.le_refl _) _⟩
def dspR (ps:List Plc) (x:Int):(List Nat×List Nat×List Nat)×Int:=match plcI ps x with
  | some q=>(((dnL ps x.toNat).take 8,(dnL ps x.toNat).drop 8,q.cl),0)
  | none=>(([],[],[]),3)
theorem dspA_nil (N:Nat) (w:World):DspA N [] [] [] (.slice none 0 0) (.slice none 0 0) (.slice none 0 0) w :=
  ⟨N,N,Nat.le_refl _,Nat.le_refl _,World.ownsRow_nil _ _ _ _,fun x hx=>by simp [Value.ownBlock] at hx,World.ownsRow_nil _ _ _ _,fun x hx=>by simp [Value.ownBlock] at hx,World.ownsRow_nil _ _ _ _⟩
theorem dbl_c {b:Nat} {ps:List Plc} {W:World} (h:WAt b ps W) (hW:WI ps) (x:Int):Calls Tryz.prog 24 #[.pointer (some ⟨b,0,none⟩),.int .i64 x] W fun e w'=>(∃ v1 v2 v3,e=.returned (.tuple #[.agg #[v1,v2,v3],.int .i64 (dspR ps x).2])∧DspA W.heap.size (dspR ps x).1.1 (dspR ps x).1.2.1 (dspR ps x).1.2.2 v1 v2 v3 w')∧Below W.heap.size W w':=by
  by_cases hz:ckI ps x=0
  · obtain ⟨k,q,rfl,hq⟩:=ck_zero hz
    have e0:dspR ps (k:Int)=(((dnL ps k).take 8,(dnL ps k).drop 8,q.cl),0):=by rw [dspR,plcI_nat,hq];rfl
    rw [e0]
    refine (dbl_yes W b (k:Int) _ _ _ (fun w hb=>?_) (fun w hb=>dof_c (h.below hb) hW k q hq)).mono ?_
    · rw [← hz];exact dck_c (h.below hb) _
    · rintro e w' ⟨⟨v1,v2,v3,rfl,ho⟩,hb⟩
      exact ⟨⟨v1,v2,v3,rfl,ho.low2 (Nat.le_succ _)⟩,hb⟩
  · have e1:=ck_three hz
    have e0:dspR ps x=(([],[],[]),3):=by
      rw [dspR]
      rw [ckI] at e1
      split
      · rename_i e;rw [e] at e1;cases e1
      · rfl
    rw [e0]
    refine (dbl_no W b x 3 (by decide) (fun w hb=>?_)).mono ?_
    · rw [← e1];exact dck_c (h.below hb) _
    · rintro e w' ⟨rfl,hb⟩
      exact ⟨⟨_,_,_,rfl,dspA_nil _ _⟩,hb⟩
end Go.Proofs.YtkclpcmkplbclaaGreat
