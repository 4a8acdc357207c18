import Derived.Test.YtfjekhmnjfcbeaaGreatHrK
import Derived.Test.YtfjekhmnjfcbeaaGreatCurC
import Derived.BigQuiet
import Derived.Deep.QuietTactic
import Derived.Deep.LoopGhost
import Derived.WalkMore
set_option maxRecDepth 100000
namespace Go.Proofs.YtfjekhmnjfcbeaaGreat
open Go.RowKit
structure Nd where
  i:Bool
  sp:Nat
  cl:List Nat
structure WO (ns:List Nd):Prop where
  top:∃ n,ns[0]?=some n∧n.sp=0∧n.cl=[]∧n.i=false
  sp:∀ (k:Nat) (n:Nd),0<k→ns[k]?=some n→n.sp<k∧(∀ p,ns[n.sp]?=some p→p.i=false∧∀ i∈p.cl,i∈n.cl)∧(n.i=true→n.sp=0)
  cl:∀ (k:Nat) (n:Nd),ns[k]?=some n→n.cl.Nodup∧∀ i∈n.cl,i<k∧∃ p,ns[i]?=some p∧p.i=true∧∀ j∈p.cl,j∈n.cl
def spO (ns:List Nd) (k:Nat):Nat:=match ns[k]? with
  | some n=>n.sp
  | none=>0
def clO (ns:List Nd) (k:Nat):List Nat:=match ns[k]? with
  | some n=>n.cl
  | none=>[]
def upF (ns:List Nd):Nat→Nat→List Nat
  | 0,k=>[k]
  | f+1,k=>k::(if k=0 then [] else upF ns f (spO ns k))
def chL (ns:List Nd) (k:Nat):List Nat:=upF ns k k
def extB (ns:List Nd) (a b:Nat):Bool:=(chL ns a).contains b||(clO ns a).contains b
theorem WO.spLt {ns:List Nd} (h:WO ns) {k:Nat} (hk:k<ns.length) (h0:0<k):spO ns k<k:=by
  have e:ns[k]?=some ns[k]:=List.getElem?_eq_getElem hk
  have:=(h.sp k _ h0 e).1
  rw [spO,e];exact this
theorem upF_eq {ns:List Nd} (h:WO ns):∀ (f g k:Nat),k≤f→k≤g→k<ns.length→upF ns f k=upF ns g k
  | 0,0,_,_,_,_=>rfl
  | 0,g+1,k,hf,_,_=>by
    obtain rfl:k=0:=by omega
    rfl
  | f+1,0,k,_,hg,_=>by
    obtain rfl:k=0:=by omega
    rfl
  | f+1,g+1,k,hf,hg,hk=>by
    rw [upF,upF]
    by_cases h0:k=0
    · rw [if_pos h0,if_pos h0]
    · rw [if_neg h0,if_neg h0]
      have:=h.spLt hk (by omega)
      rw [upF_eq h f g (spO ns k) (by omega) (by omega) (by omega)]
theorem chL_zero (ns:List Nd):chL ns 0=[0]:=rfl
theorem chL_cons {ns:List Nd} (h:WO ns) {k:Nat} (hk:k<ns.length) (h0:0<k):chL ns k=k::chL ns (spO ns k):=by
  have hs:=h.spLt hk h0
  obtain ⟨j,rfl⟩:∃ j,k=j+1:=⟨k - 1,by omega⟩
  rw [chL,upF,if_neg (by omega),chL,upF_eq h j (spO ns (j+1)) (spO ns (j+1)) (by omega) (Nat.le_refl _) (by omega)]
theorem chL_self (ns:List Nd) (k:Nat):k∈chL ns k:=by
  cases k with
  | zero=>simp [chL_zero]
  | succ k=>simp [chL,upF]
theorem ch_ind {ns:List Nd} (h:WO ns) {P:Nat→Prop} (h0:P 0) (hs:∀ k,k<ns.length→0<k→spO ns k<k→P (spO ns k)→P k):∀ k,k<ns.length→P k:=by
  intro k
  induction k using Nat.strongRecOn with
  | _ k ih =>
    intro hk
    by_cases hz:k=0
    · rw [hz];exact h0
    · have:=h.spLt hk (by omega)
      exact hs k hk (by omega) this (ih _ this (by omega))
theorem ch_le {ns:List Nd} (h:WO ns) (a:Nat) (ha:a<ns.length):∀ b∈chL ns a,b≤a:=by
  refine ch_ind h (P:=fun a=>∀ b∈chL ns a,b≤a) (by simp [chL_zero]) ?_ a ha
  intro k hk h0 hl ih b hb
  rw [chL_cons h hk h0] at hb
  rcases List.mem_cons.1 hb with rfl|hb
  · exact Nat.le_refl _
  · have:=ih b hb;omega
theorem ch_nodup {ns:List Nd} (h:WO ns) (a:Nat) (ha:a<ns.length):(chL ns a).Nodup:=by
  refine ch_ind h (P:=fun a=>(chL ns a).Nodup) (by simp [chL_zero]) ?_ a ha
  intro k hk h0 hl ih
  rw [chL_cons h hk h0]
  refine List.nodup_cons.2 ⟨fun hm=>?_,ih⟩
  have:=ch_le h _ (by omega) k hm
  omega
theorem ch_pos {ns:List Nd} (a:Nat):0<(chL ns a).length:=by
  have:=chL_self ns a
  exact List.length_pos_of_mem this
theorem ch_head {ns:List Nd} (a:Nat):(chL ns a)[0]?=some a:=by
  cases a with
  | zero=>rfl
  | succ k=>rfl
theorem ch_plain {ns:List Nd} (h:WO ns) (a:Nat) (ha:a<ns.length):∀ b∈chL ns a,b≠a→∀ p,ns[b]?=some p→p.i=false:=by
  refine ch_ind h (P:=fun a=>∀ b∈chL ns a,b≠a→∀ p,ns[b]?=some p→p.i=false) (by intro b hb hn;simp [chL_zero] at hb;exact absurd hb hn) ?_ a ha
  intro k hk h0 hl ih b hb hn p hp
  rw [chL_cons h hk h0] at hb
  rcases List.mem_cons.1 hb with rfl|hb
  · exact absurd rfl hn
  · by_cases hs:b=spO ns k
    · have e:ns[k]?=some ns[k]:=List.getElem?_eq_getElem hk
      have h2:=(h.sp k _ h0 e).2.1
      rw [hs,spO,e] at hp
      exact (h2 p hp).1
    · exact ih b hb hs p hp
theorem cl_facts {ns:List Nd} (h:WO ns) {a i:Nat} (hi:i∈clO ns a):i<a∧a<ns.length∧∃ p,ns[i]?=some p∧p.i=true∧∀ j∈p.cl,j∈clO ns a:=by
  cases e:ns[a]? with
  | none=>rw [clO,e] at hi;simp at hi
  | some n =>
    rw [clO,e] at hi ⊢
    obtain ⟨h1,h2⟩:=(h.cl a n e).2 i hi
    exact ⟨h1,(List.getElem?_eq_some_iff.1 e).1,h2⟩
theorem cl_nodup {ns:List Nd} (h:WO ns) (a:Nat):(clO ns a).Nodup:=by
  cases e:ns[a]? with
  | none=>rw [clO,e];simp
  | some n=>rw [clO,e];exact (h.cl a n e).1
theorem ext_iff (ns:List Nd) (a b:Nat):extB ns a b=true↔b∈chL ns a∨b∈clO ns a:=by
  simp [extB]
theorem ext_self (ns:List Nd) (a:Nat):extB ns a a=true:=(ext_iff _ _ _).2 (.inl (chL_self _ _))
theorem takeL_iff (cl a:List Nat) (i:Nat):i∈takeL cl a↔i∈cl∨i∈a:=by
  induction a generalizing cl with
  | nil=>simp [takeL]
  | cons x a ih =>
    rw [takeL,ih]
    split
    · rename_i hx
      have hx:=List.contains_iff_mem.1 hx
      simp only [List.mem_cons]
      constructor
      · rintro (h|h)
        · exact .inl h
        · exact .inr (.inr h)
      · rintro (h|rfl|h)
        · exact .inl h
        · exact .inl hx
        · exact .inr h
    · simp only [List.mem_append,List.mem_cons,List.not_mem_nil,or_false,or_assoc]
theorem gathF_iff (cls:List (List Nat)) (ifs:List Nat) (c:List Nat) (i:Nat):i∈ifs.foldl (gathF cls) c↔i∈c∨∃ x∈ifs,i=x∨i∈cls.getD x []:=by
  induction ifs generalizing c with
  | nil=>simp
  | cons x l ih =>
    rw [List.foldl_cons,ih,gathF,takeL_iff,takeL_iff]
    simp only [List.mem_cons,List.not_mem_nil,or_false,exists_eq_or_imp]
    constructor
    · rintro (((h|h)|h)|h)
      · exact .inl h
      · exact .inr (.inl (.inr h))
      · exact .inr (.inl (.inl h))
      · exact .inr (.inr h)
    · rintro (h|(h|h)|h)
      · exact .inl (.inl (.inl h))
      · exact .inl (.inr h)
      · exact .inl (.inl (.inr h))
      · exact .inr h
theorem gathL_iff (cls:List (List Nat)) (sup:Nat) (ifs:List Nat) (i:Nat):i∈gathL cls sup ifs↔i∈cls.getD sup []∨∃ x∈ifs,i=x∨i∈cls.getD x []:=by
  rw [gathL,gathF_iff,takeL_iff];simp
theorem gathL_nodup (cls:List (List Nat)) (sup:Nat) (ifs:List Nat):(gathL cls sup ifs).Nodup:=by
  have key:∀ (l:List Nat) (c:List Nat),c.Nodup→(l.foldl (gathF cls) c).Nodup:=by
    intro l
    induction l with
    | nil=>exact fun c h=>h
    | cons x l ih=>exact fun c h=>ih _ (takeL_nodup _ _ (takeL_nodup _ _ h))
  exact key _ _ (takeL_nodup _ _ (by simp))
theorem getD_cl (ns:List Nd) (k:Nat):(ns.map Nd.cl).getD k []=clO ns k:=by
  rw [List.getD_eq_getElem?_getD,List.getElem?_map,clO]
  cases ns[k]? <;> rfl
theorem WO.snoc {ns:List Nd} (h:WO ns) (ib:Bool) (s:Nat) (ifs:List Nat) (hs:∃ p,ns[s]?=some p∧p.i=false) (hi:ib=true→s=0) (hif:∀ x∈ifs,∃ p,ns[x]?=some p∧p.i=true) :
    WO (ns++[⟨ib,s,gathL (ns.map Nd.cl) s ifs⟩]):=by
  obtain ⟨ps,hps,hpi⟩:=hs
  have hsl:=(List.getElem?_eq_some_iff.1 hps).1
  have old:∀ (k:Nat) (n:Nd),(ns++[(⟨ib,s,gathL (ns.map Nd.cl) s ifs⟩:Nd)])[k]?=some n→(k<ns.length∧ns[k]?=some n)∨(k=ns.length∧n=⟨ib,s,gathL (ns.map Nd.cl) s ifs⟩):=by
    intro k n hk
    by_cases hl:k<ns.length
    · rw [List.getElem?_append_left hl] at hk;exact .inl ⟨hl,hk⟩
    · rw [List.getElem?_append_right (by omega)] at hk
      by_cases he:k=ns.length
      · subst he;simp at hk;exact .inr ⟨rfl,hk.symm⟩
      · rw [List.getElem?_eq_none (by simp;omega)] at hk;cases hk
  have up:∀ (k:Nat) (p:Nd),ns[k]?=some p→(ns++[(⟨ib,s,gathL (ns.map Nd.cl) s ifs⟩:Nd)])[k]?=some p:=fun k p hk=>by
    rw [List.getElem?_append_left (List.getElem?_eq_some_iff.1 hk).1];exact hk
  have mem:∀ i,i∈gathL (ns.map Nd.cl) s ifs↔i∈clO ns s∨∃ x∈ifs,i=x∨i∈clO ns x:=fun i=>by rw [gathL_iff,getD_cl];simp only [getD_cl]
  refine ⟨?_,?_,?_⟩
  · obtain ⟨n,h1,h2⟩:=h.top
    exact ⟨n,up _ _ h1,h2⟩
  · intro k n h0 hk
    rcases old k n hk with ⟨hl,hk⟩|⟨rfl,rfl⟩
    · obtain ⟨h1,h2,h3⟩:=h.sp k n h0 hk
      refine ⟨h1,fun p hp=>?_,h3⟩
      rw [List.getElem?_append_left (by omega)] at hp
      exact h2 p hp
    · refine ⟨hsl,fun p hp=>?_,hi⟩
      rw [List.getElem?_append_left hsl,hps] at hp
      cases hp
      refine ⟨hpi,fun i hc=>(mem i).2 (.inl ?_)⟩
      rw [clO,hps];exact hc
  · intro k n hk
    rcases old k n hk with ⟨hl,hk⟩|⟨rfl,rfl⟩
    · obtain ⟨h1,h2⟩:=h.cl k n hk
      refine ⟨h1,fun i hc=>?_⟩
      obtain ⟨h3,p,hp,h4⟩:=h2 i hc
      exact ⟨h3,p,up _ _ hp,h4⟩
    · refine ⟨gathL_nodup _ _ _,fun i hc=>?_⟩
      rcases (mem i).1 hc with hc|⟨x,hx,rfl|hc⟩
      · obtain ⟨h1,h2,p,hp,h3,h4⟩:=cl_facts h hc
        exact ⟨by omega,p,up _ _ hp,h3,fun j hj=>(mem j).2 (.inl (h4 j hj))⟩
      · obtain ⟨p,hp,h3⟩:=hif i hx
        refine ⟨(List.getElem?_eq_some_iff.1 hp).1,p,up _ _ hp,h3,fun j hj=>(mem j).2 (.inr ⟨i,hx,.inr ?_⟩)⟩
        rw [clO,hp];exact hj
      · obtain ⟨h1,h2,p,hp,h3,h4⟩:=cl_facts h hc
        exact ⟨by omega,p,up _ _ hp,h3,fun j hj=>(mem j).2 (.inr ⟨x,hx,.inr (h4 j hj)⟩)⟩
def nd (q:Plc):Nd:=⟨ifB q.c.fl,q.sp,q.cl⟩
theorem nhas_at {l:List Nat} {p:Nat} (k:Nat) (x:Nat) (h:l[k]?=some x):(l.drop k).contains p=((p == x)||(l.drop (k+1)).contains p):=by
  obtain ⟨h1,h2⟩:=List.getElem?_eq_some_iff.1 h
  rw [List.drop_eq_getElem_cons h1,h2,List.contains_cons]
def tyC (t:Int×ByteArray):List Value:=[.int .i64 t.1,.string t.2]
def flatT (ts:List (Int×ByteArray)):List Value:=ts.flatMap tyC
def natT (t:Nat×List UInt8):Int×ByteArray:=((t.1:Int),⟨t.2.toArray⟩)
theorem flatT_at (ts:List (Int×ByteArray)) (k:Nat) (t:Int×ByteArray) (h:ts[k]?=some t):(flatT ts)[k * 2]?=some (.int .i64 t.1)∧(flatT ts)[k * 2+1]?=some (.string t.2):=by
  induction ts generalizing k with
  | nil=>simp at h
  | cons u ts ih =>
    have e:flatT (u::ts)=.int .i64 u.1::.string u.2::flatT ts:=by simp [flatT,tyC]
    rw [e]
    cases k with
    | zero=>simp at h;subst h;exact ⟨rfl,rfl⟩
    | succ k =>
      simp at h
      obtain ⟨h1,h2⟩:=ih k h
      rw [show (k+1) * 2=k * 2+1+1 by omega]
      simp only [List.getElem?_cons_succ]
      exact ⟨h1,h2⟩
def IsTys (w:World) (v:Value) (ts:List (Int×ByteArray)):Prop :=
  ∃ ao cap,v=.slice ao ts.length cap∧ts.length≤cap∧cap≤maxLen ∧
    (ts≠[]→∃ bk o,ao=some ⟨bk,o,none⟩∧bk<w.heap.size∧∀ k t,ts[k]?=some t→w.cell? ⟨bk,o+k * 2,none⟩=some (.int .i64 t.1)∧w.cell? ⟨bk,o+k * 2+1,none⟩=some (.string t.2))
theorem own_tys {w:World} {base:Nat} {v:Value} {ts:List (Int×ByteArray)} (h:w.ownsRow base 95 2 v ts.length (flatT ts)):IsTys w v ts:=by
  have h':=h
  rcases h.2 with ⟨rfl,h0⟩|⟨g,cap,cur,rfl,hb,hg,hn,hm,_,_⟩
  · have:ts=[]:=List.length_eq_zero_iff.1 h0
    subst this
    exact ⟨none,0,rfl,Nat.le_refl _,by unfold maxLen;omega,fun h=>absurd rfl h⟩
  · refine ⟨_,cap,rfl,hn,hm,fun _=>⟨g,0,rfl,(Array.getElem?_eq_some_iff.1 hg).1,fun k t hk=>?_⟩⟩
    have hlt:k<ts.length:=(List.getElem?_eq_some_iff.1 hk).1
    obtain ⟨e1,e2⟩:=flatT_at ts k t hk
    rw [Nat.zero_add]
    exact ⟨by rw [h'.cellAt (k * 2) (by omega)];exact e1,by rw [h'.cellAt (k * 2+1) (by omega)];exact e2⟩
def raf (l:List UInt8):Option (List (Nat×List UInt8)×List UInt8):=readArgs (l.length+1) l
theorem readArgs_fuel (f:Nat) (l:List UInt8) (h:l.length<f):readArgs f l=raf l:=by
  unfold raf
  generalize hn:l.length=n at *
  induction n using Nat.strongRecOn generalizing f l with
  | _ n ih =>
    cases f with
    | zero=>omega
    | succ f =>
      cases l with
      | nil=>simp [readArgs]
      | cons c l =>
        rw [readArgs,readArgs]
        split
        · rfl
        · cases e:readT (c::l) with
          | none=>rfl
          | some p =>
            obtain ⟨t,r⟩:=p
            have hr:=readT_less e
            simp only
            rw [ih r.length (by omega) f r rfl (by omega),ih r.length (by omega) n r rfl (by omega)]
theorem raf_nil:raf []=none:=rfl
theorem raf_end (l:List UInt8):raf (41::l)=some ([],l):=by simp [raf,readArgs]
theorem raf_step {c:UInt8} {l r:List UInt8} {t:Nat×List UInt8} (hc:c≠41) (h:readT (c::l)=some (t,r)):raf (c::l)=(raf r).map (fun p=>(t::p.1,p.2)):=by
  have hr:=readT_less h
  rw [raf,readArgs,if_neg hc,h]
  simp only
  rw [readArgs_fuel _ r (by simpa using hr)]
  cases raf r <;> rfl
theorem raf_bad {c:UInt8} {l:List UInt8} (hc:c≠41) (h:readT (c::l)=none):raf (c::l)=none:=by
  rw [raf,readArgs,if_neg hc,h]
theorem read_drop {l:List UInt8} {q:Nat} {t:Nat×List UInt8} {r:List UInt8} (h:readT (l.drop q)=some (t,r)):r=l.drop (l.length - r.length)∧q<l.length - r.length∧r.length≤l.length:=by
  have hw:=(write_read h).1
  have hl:=readT_less h
  rw [List.length_drop] at hl
  refine ⟨?_,by omega,by omega⟩
  have e2:l=l.take q++(writeT t++r):=by rw [← hw,List.take_append_drop]
  have e3:l.length - r.length=(l.take q++writeT t).length:=by
    have:=congrArg List.length e2
    simp only [List.length_append] at this ⊢
    omega
  rw [e3]
  have key:∀ a b r:List UInt8,(a++(b++r)).drop ((a++b).length)=r:=fun a b r=>by rw [← List.append_assoc,List.drop_left]
  have k2:=key (l.take q) (writeT t) r
  rw [← e2] at k2
  exact k2.symm
def argsOf:List UInt8→Option (List (Nat×List UInt8)×List UInt8)
  | 40::r=>raf r
  | _=>none
theorem Tryz.info95:(Tryz.prog.info? 95).map (fun i=>(i.zero,i.size,i.bytes))=some (some (.agg #[.int .i64 0,.string ⟨#[]⟩]),2,24):=by kernel_rfl
structure Ra (W:World) (b:Nat) (s:ByteArray) (q:Nat) (v:Value) (ts:List (Nat×List UInt8)) (wr:World):Prop where
  cur:Cur wr b s q
  own:wr.ownsRow W.heap.size 95 2 v ts.length (flatT (ts.map natT))
  gr:W.grownBy wr (some b)
  hb:b<W.heap.size
  le:q≤s.size
  tl:ts.length≤q
theorem Ra.step {W wr w1:World} {b:Nat} {s:ByteArray} {q q':Nat} {v:Value} {ts:List (Nat×List UInt8)} (h:Ra W b s q v ts wr) (hc:Cur w1 b s q') (hg:wr.grownBy w1 (some b)) (hq:q'≤s.size) (hqq:q≤q'):Ra W b s q' v ts w1 :=
  ⟨hc,h.own.kept hg (.inr (fun e=>by have:=(h.own.lt b e).1;have:=h.hb;omega)),grownBy_trans h.gr hg (fun _ e=>.inl e),h.hb,hq,Nat.le_trans h.tl hqq⟩
theorem Ra.app {W wr w2:World} {b:Nat} {s:ByteArray} {q:Nat} {v v':Value} {ts:List (Nat×List UInt8)} {k:Nat} {nm:List UInt8} (o1 o2:Obj) (h:Ra W b s q v ts wr) (hlt:ts.length<q)
    (ho:w2.ownsRow W.heap.size 95 2 v' (ts.length+1) (flatT (ts.map natT)++[.int .i64 k,.string ⟨nm.toArray⟩])) (hg:((wr.alloc o1).alloc o2).grownBy w2 v.ownBlock):Ra W b s q v' (ts++[(k,nm)]) w2:=by
  have hbel:Below wr.heap.size wr ((wr.alloc o1).alloc o2):=((Below.refl _ _).alloc (Nat.le_refl _) _).alloc (by simp) _
  have hbn:some b≠v.ownBlock:=fun e=>by have:=(h.own.lt b e.symm).1;have:=h.hb;omega
  refine ⟨?_,?_,?_,h.hb,h.le,by simp;omega⟩
  · have hc:=h.cur.keep hbel
    unfold Cur at *
    rw [hg.block b (Array.getElem?_eq_some_iff.1 hc).1 hbn]
    exact hc
  · have e:flatT ((ts++[(k,nm)]).map natT)=flatT (ts.map natT)++[.int .i64 k,.string ⟨nm.toArray⟩]:=by simp [flatT,tyC,natT]
    rw [e,List.length_append]
    exact ho
  · exact grownBy_trans (grownBy_trans h.gr (grownBy_below hbel (r:=some b)) (fun _ e=>.inl e)) hg (fun x e=>.inr (h.own.lt x e).1)
theorem two_new (w:World) (x y:Value) (t:TypeId):∀ j u,[x,y][j]?=some u→(w.alloc (.cells #[x,y] t)).cell? ((⟨w.heap.size,0,none⟩:Addr).add j)=some u:=by
  intro j u hj
  match j,hj with
  | 0,hj=>simp at hj;subst hj;rw [Addr.add_lit,cell_of_row _ w.heap.size 0 _ t (0,0) (heap_alloc_new w _)];rfl
  | 1,hj=>simp at hj;subst hj;rw [Addr.add_lit,cell_of_row _ w.heap.size 1 _ t (0,0) (heap_alloc_new w _)];rfl
theorem two_new2 (w:World) (o:Obj) (x y:Value) (t:TypeId):∀ j u,[x,y][j]?=some u→((w.alloc o).alloc (.cells #[x,y] t)).cell? ((⟨w.heap.size+1,0,none⟩:Addr).add j)=some u:=by
  intro j u hj
  have h:=two_new (w.alloc o) x y t j u hj
  rw [show (w.alloc o).heap.size=w.heap.size+1 by simp] at h
  exact h
def ArgPost (s:ByteArray) (pl b:Nat) (W:World) (e:Ending) (w':World):Prop:=match argsOf (s.data.toList.drop pl) with
  | some (ts,r)=>∃ v,e=.returned (.tuple #[v,.bool true])∧w'.ownsRow W.heap.size 95 2 v ts.length (flatT (ts.map natT))∧Cur w' b s (s.size - r.length)
  | none=>e=.returned (.tuple #[.slice none 0 0,.bool false])∧∃ q,q≤s.size∧Cur w' b s q
theorem apost_none {s:ByteArray} {pl b q:Nat} {W w':World} (h:argsOf (s.data.toList.drop pl)=none) (hq:q≤s.size) (hc:Cur w' b s q):ArgPost s pl b W (.returned (.tuple #[.slice none 0 0,.bool false])) w':=by
  unfold ArgPost;rw [h];exact ⟨rfl,q,hq,hc⟩
theorem apost_some {s:ByteArray} {pl b q:Nat} {W w':World} {ts:List (Nat×List UInt8)} {r:List UInt8} {v:Value} (h:argsOf (s.data.toList.drop pl)=some (ts,r)) (hp:q=s.size - r.length)
    (ho:w'.ownsRow W.heap.size 95 2 v ts.length (flatT (ts.map natT))) (hc:Cur w' b s q):ArgPost s pl b W (.returned (.tuple #[v,.bool true])) w':=by
  unfold ArgPost;rw [h];rw [hp] at hc;exact ⟨v,rfl,ho,hc⟩
theorem argsOf_open {s:ByteArray} {pl:Nat} (h:nxt s pl 40=true):argsOf (s.data.toList.drop pl)=raf (s.data.toList.drop (pl+1)):=by
  have hlt:=nxt_true h
  rw [nxt_lt s pl 40 hlt] at h
  rw [drop_cons s pl hlt]
  simp at h
  rw [h];rfl
theorem argsOf_shut {s:ByteArray} {pl:Nat} (h:nxt s pl 40=false):argsOf (s.data.toList.drop pl)=none:=by
  by_cases hlt:pl<s.size
  · rw [nxt_lt s pl 40 hlt] at h
    rw [drop_cons s pl hlt]
    simp at h
    unfold argsOf
    split
    · rename_i e;simp at e;exact absurd e.1 h
    · rfl
  · rw [drop_end s pl (by omega)];rfl
set_option maxHeartbeats 4000000 in
theorem readArgs_any (b:Nat) (s:ByteArray) (pl:Nat) (hpl:pl≤s.size) (hs:s.size≤1000000) (W:World) (hc:Cur W b s pl) :
    Calls Tryz.prog 217 #[.pointer (some ⟨b,0,none⟩)] W fun e w'=>ArgPost s pl b W e w'∧W.grownBy w' (some b):=by
  obtain ⟨i24,hi24,hz0,hz1,hz2⟩:=info_parts Tryz.info95
  have HS:Hid (∀ (m:UInt8) (q:Nat) (v:Value) (ts:List (Nat×List UInt8)) (w:World),Hid (Ra W b s q v ts w)→Calls Tryz.prog 218 #[.pointer (some ⟨b,0,none⟩),.string ⟨#[m]⟩] w fun e w'=>e=.returned (.bool (nxt s q m))∧Hid (Ra W b s (if nxt s q m then q+1 else q) v ts w')) :=
    fun m q v ts w h=>(skip_any b s q m h.out.le hs w h.out.cur).mono fun e w' ⟨he,hc,hg⟩=>⟨he,h.out.step hc hg (by
      have:=h.out.le
      split
      · rename_i e;have:=nxt_true e;omega
      · exact this) (by split <;> omega)⟩
  have HT:∀ (q:Nat) (v:Value) (ts:List (Nat×List UInt8)) (w:World),Hid (Ra W b s q v ts w)→Calls Tryz.prog 219 #[.pointer (some ⟨b,0,none⟩)] w fun e w'=>TypePost s q b e w'∧w.grownBy w' (some b) :=
    fun q v ts w h=>readType_any b s q h.out.le hs w h.out.cur
  have H0:Hid (Ra W b s pl (.slice none 0 0) [] W):=⟨hc,World.ownsRow_nil _ _ _ _,⟨rfl,rfl,rfl,Nat.le_refl _,fun _ _ _=>rfl⟩,hc.cells.2.2.2,hpl,Nat.zero_le _⟩
  have hsz:s.data.toList.length=s.size:=by simp
  have HSZ:Hid _:=hsz
  clear hsz hc
  cases h40:nxt s pl 40 with
  | false =>
    have HP:Hid _:=argsOf_shut h40
    clear HT
    go_enter Tryz.func217,Tryz.ntmps217
    go_wp2
    go_step3
    go_wp2_with (go_at_call 218;refine (HS.out _ _ _ _ _ H0).mono ?_;rintro e w1 ⟨rfl,R1⟩;rw [h40,if_neg Bool.false_ne_true] at R1)
    try rw [Exit.noGoto_ret]
    go_ret2
    exact ⟨apost_none HP.out R1.out.le R1.out.cur,R1.out.gr⟩
  | true =>
    have HO:Hid _:=argsOf_open h40
    go_enter Tryz.func217,Tryz.ntmps217
    go_wp2
    go_step3
    go_wp2_with (go_at_call 218;refine (HS.out _ _ _ _ _ H0).mono ?_;rintro e w1 ⟨rfl,R1⟩;rw [h40,if_pos rfl] at R1)
    go_step3
    go_wp2
    clear H0
    go_loopg [4] (s.size - pl) (fun g v wr=>∃ q ts,q+g=s.size+1∧Hid (Ra W b s q v ts wr)∧Hid (argsOf (s.data.toList.drop pl)=(raf (s.data.toList.drop q)).map (fun p=>(ts++p.1,p.2))))
    case atStart=>exact ⟨pl+1,[],by have:=R1.out.le;omega,R1,by rw [Hid,HO.out];cases raf (s.data.toList.drop (pl+1)) <;> rfl⟩
    case round =>
      clear R1 HO h40
      obtain ⟨q,ts,hg,hR,hA⟩:=hrel
      have hle:=hR.out.le
      have BAD:Hid (nxt s q 41=false→readT (s.data.toList.drop q)=none→argsOf (s.data.toList.drop pl)=none):=by
        intro h1 h2
        rw [hA.out]
        by_cases hlt:q<s.size
        · rw [nxt_lt s q 41 hlt] at h1
          simp at h1
          rw [drop_cons s q hlt] at h2 ⊢
          rw [raf_bad h1 h2];rfl
        · rw [drop_end s q (by omega),raf_nil];rfl
      cases h41:nxt s q 41 with
      | true =>
        have hlt:=nxt_true h41
        have HP:Hid (argsOf (s.data.toList.drop pl)=some (ts,s.data.toList.drop (q+1))):=by
          have h1:=h41
          rw [nxt_lt s q 41 hlt] at h1
          simp at h1
          rw [Hid,hA.out,drop_cons s q hlt,h1,raf_end]
          simp
        have HQ:Hid (q+1=s.size - (s.data.toList.drop (q+1)).length):=by rw [Hid,List.length_drop,HSZ.out];omega
        clear hA BAD HT
        go_wp2_with (go_at_call 218;refine (HS.out _ _ _ _ _ hR).mono ?_;rintro e w1 ⟨rfl,R1⟩;rw [h41,if_pos rfl] at R1)
        try rw [Exit.noGoto_ret]
        go_ret2
        exact ⟨apost_some HP.out HQ.out R1.out.own R1.out.cur,R1.out.gr⟩
      | false =>
        cases hr:readT (s.data.toList.drop q) with
        | none =>
          have HP:Hid _:=BAD.out h41 hr
          have HT':Hid (∀ v w,Hid (Ra W b s q v ts w)→Calls Tryz.prog 219 #[.pointer (some ⟨b,0,none⟩)] w fun e w'=>e=.returned (.tuple #[.agg #[.int .i64 0,.string ⟨#[]⟩],.bool false])∧Hid (∃ q',q'≤s.size∧Cur w' b s q'∧W.grownBy w' (some b))):=fun v w h =>
            (HT q v ts w h).mono fun e w' ⟨hp,hgr⟩=>by
              unfold TypePost at hp
              rw [hr] at hp
              obtain ⟨he,q',hq',hc'⟩:=hp
              exact ⟨he,q',hq',hc',grownBy_trans h.out.gr hgr (fun _ e=>.inl e)⟩
          clear hA BAD HT hr
          go_wp2_with (first
            | (go_at_call 218;refine (HS.out _ _ _ _ _ hR).mono ?_;rintro e w1 ⟨rfl,R1⟩;rw [h41,if_neg Bool.false_ne_true] at R1)
            | (go_at_call 219;refine (HT'.out _ _ R1).mono ?_;rintro e w2 ⟨rfl,R2⟩))
          try rw [Exit.noGoto_ret]
          go_ret2
          obtain ⟨q',hq',hc',hg'⟩:=R2.out
          exact ⟨apost_none HP.out hq' (hc'.keep ((Below.refl _ _).alloc (Nat.le_refl _) _)),grownBy_trans hg' (grownBy_below ((Below.refl _ _).alloc (Nat.le_refl _) _) (r:=some b)) (fun _ e=>.inl e)⟩
        | some p =>
          obtain ⟨⟨k,nm⟩,r⟩:=p
          obtain ⟨hrd,hrq,hrl⟩:=read_drop hr
          rw [HSZ.out] at hrd hrq hrl
          have HA:Hid (argsOf (s.data.toList.drop pl)=(raf (s.data.toList.drop (s.size - r.length))).map (fun p=>((ts++[(k,nm)])++p.1,p.2))):=by
            have hlt:q<s.size:=by omega
            have h1:=h41
            rw [nxt_lt s q 41 hlt] at h1
            simp at h1
            have h2:=hr
            rw [drop_cons s q hlt] at h2
            rw [Hid,hA.out,drop_cons s q hlt,raf_step h1 h2,← hrd]
            cases raf r <;> simp
          have HT':Hid (∀ v w,Hid (Ra W b s q v ts w)→Calls Tryz.prog 219 #[.pointer (some ⟨b,0,none⟩)] w fun e w'=>e=.returned (.tuple #[.agg #[.int .i64 k,.string ⟨nm.toArray⟩],.bool true])∧Hid (Ra W b s (s.size - r.length) v ts w')):=fun v w h =>
            (HT q v ts w h).mono fun e w' ⟨hp,hgr⟩=>by
              unfold TypePost at hp
              rw [hr] at hp
              exact ⟨hp.1,h.out.step hp.2 hgr (by omega) (by omega)⟩
          have htl:=hR.out.tl
          have hWs:=hR.out.gr.size
          obtain ⟨z,hz⟩:∃ z,s.size - r.length=z:=⟨_,rfl⟩
          rw [hz] at HA HT' hrq
          have hzs:z≤s.size:=by omega
          clear hA BAD HT hr hrd hrl hz
          go_wp2_with (first
            | (go_at_call 218;refine (HS.out _ _ _ _ _ hR).mono ?_;rintro e w1 ⟨rfl,R1⟩;rw [h41,if_neg Bool.false_ne_true] at R1)
            | (go_at_call 219;refine (HT'.out _ _ R1).mono ?_;rintro e w2 ⟨rfl,R2⟩;have hW2:=R2.out.gr.size)
            | (at_builtin;refine wpList_append_own _ rfl _ _ 198 rfl W.heap.size 95 i24 (.agg #[.int .i64 0,.string ⟨#[]⟩]) 2 24 Tryz.underlying198 hi24 hz0 hz1 hz2 rfl (by decide) _ _ _ rfl ((R2.out.own.alloc _).alloc _) ⟨w2.heap.size+1,0,none⟩ 1 1 [.int .i64 k,.string ⟨nm.toArray⟩] rfl rfl ?c1 ?c2 ?c3 ?c4 ?c5 ?_))
          case c1=>exact two_new2 w2 _ _ _ _
          case c2=>intro u hu;simp at hu;rcases hu with rfl|rfl <;> rfl
          case c3=>unfold maxLen;omega
          case c4=>omega
          case c5=>simp;omega
          · intro v' w3 hown' hgrow _
            have R3:Hid (Ra W b s z v' (ts++[(k,nm)]) w3):=Ra.app _ _ R2.out (by omega) hown' hgrow
            clear hown' hgrow R2 R1 hR
            go_wp2
            go_roundg (s.size+1 - z)
            case measure=>omega
            case rel=>exact ⟨z,ts++[(k,nm)],by omega,R3,HA⟩
theorem suffix_drop {l a r:List UInt8} (h:l=a++r):r=l.drop (l.length - r.length):=by
  have e:l.length - r.length=a.length:=by rw [h,List.length_append];omega
  rw [e,h,List.drop_left]
theorem args_drop {l:List UInt8} {q:Nat} {ts:List (Nat×List UInt8)} {r:List UInt8} (h:argsOf (l.drop q)=some (ts,r)):r=l.drop (l.length - r.length)∧r.length≤l.length:=by
  unfold argsOf at h
  split at h
  · rename_i r0 e
    have hw:=(write_args h).1
    have e2:l=(l.take q++(40::writeArgs ts++[41]))++r:=by
      conv=>lhs;rw [← List.take_append_drop q l,e,hw]
      simp
    refine ⟨suffix_drop e2,?_⟩
    have:=congrArg List.length e2
    simp only [List.length_append] at this
    omega
  · simp at h
def descOf (l:List UInt8):Option ((List (Nat×List UInt8)×Option (Nat×List UInt8))×List UInt8):=match argsOf l with
  | none=>none
  | some (ts,q)=>if q.head?=some 86 then some ((ts,none),q.drop 1) else match readT q with
    | none=>none
    | some (t,r)=>some ((ts,some t),r)
def retT (x:Option (Nat×List UInt8)):Nat×List UInt8:=x.getD (0,[])
def voidB (x:Option (Nat×List UInt8)):Bool:=x.isNone
theorem own_base {w:World} {base base':Nat} {e:TypeId} {size:Nat} {v:Value} {n:Nat} {xs:List Value} (h:w.ownsRow base e size v n xs) (hb:base'≤base):w.ownsRow base' e size v n xs:=by
  refine ⟨h.1,?_⟩
  rcases h.2 with hn|⟨g,cap,cur,rfl,hb1,rest⟩
  · exact .inl hn
  · exact .inr ⟨g,cap,cur,rfl,Nat.le_trans hb hb1,rest⟩
theorem own_slice {w:World} {base:Nat} {e:TypeId} {size:Nat} {v:Value} {n:Nat} {xs:List Value} (h:w.ownsRow base e size v n xs):∃ ao cap,v=.slice ao n cap:=by
  rcases h.2 with ⟨rfl,rfl⟩|⟨g,cap,cur,rfl,_⟩
  · exact ⟨none,0,rfl⟩
  · exact ⟨_,cap,rfl⟩
def zeroD:Array Value:=#[.slice none 0 0,.bool false,.int .i64 0,.string ⟨#[]⟩]
structure Dd (W:World) (b:Nat) (s:ByteArray) (q:Nat) (v:Value) (ts:List (Nat×List UInt8)) (wr:World):Prop where
  cur:Cur wr b s q
  own:wr.ownsRow (W.heap.size+1) 95 2 v ts.length (flatT (ts.map natT))
  r:wr.heap[W.heap.size]?=some (.cells zeroD 200 (0,0))
  gr:W.grownBy wr (some b)
  hb:b<W.heap.size
  le:q≤s.size
theorem Dd.step {W wr w1:World} {b:Nat} {s:ByteArray} {q q':Nat} {v:Value} {ts:List (Nat×List UInt8)} (h:Dd W b s q v ts wr) (hc:Cur w1 b s q') (hg:wr.grownBy w1 (some b)) (hq:q'≤s.size):Dd W b s q' v ts w1 :=
  ⟨hc,h.own.kept hg (.inr (fun e=>by have:=(h.own.lt b e).1;have:=h.hb;omega)),by rw [hg.block _ (Array.getElem?_eq_some_iff.1 h.r).1 (by have:=h.hb;simp;omega)];exact h.r,grownBy_trans h.gr hg (fun _ e=>.inl e),h.hb,hq⟩
theorem Dd.cells {W wr:World} {b:Nat} {s:ByteArray} {q:Nat} {v:Value} {ts:List (Nat×List UInt8)} (h:Dd W b s q v ts wr) :
    wr.cell? ⟨W.heap.size,0,none⟩=some (.slice none 0 0)∧wr.cell? ⟨W.heap.size,1,none⟩=some (.bool false)∧wr.cell? ⟨W.heap.size,2,none⟩=some (.int .i64 0)∧wr.cell? ⟨W.heap.size,3,none⟩=some (.string ⟨#[]⟩) ∧
    wr.frozen? ⟨W.heap.size,0,none⟩=false∧wr.frozen? ⟨W.heap.size,1,none⟩=false∧wr.frozen? ⟨W.heap.size,2,none⟩=false∧wr.frozen? ⟨W.heap.size,3,none⟩=false∧W.heap.size<wr.heap.size:=by
  refine ⟨?_,?_,?_,?_,?_,?_,?_,?_,(Array.getElem?_eq_some_iff.1 h.r).1⟩
  · rw [cell_of_row _ W.heap.size 0 _ 200 (0,0) h.r];rfl
  · rw [cell_of_row _ W.heap.size 1 _ 200 (0,0) h.r];rfl
  · rw [cell_of_row _ W.heap.size 2 _ 200 (0,0) h.r];rfl
  · rw [cell_of_row _ W.heap.size 3 _ 200 (0,0) h.r];rfl
  all_goals simp [World.frozen?,h.r]
def set4 (w:World) (n:Nat) (u0 u1 u2 u3:Value):World:=(((w.setCell ⟨n,0,none⟩ u0).setCell ⟨n,1,none⟩ u1).setCell ⟨n,2,none⟩ u2).setCell ⟨n,3,none⟩ u3
theorem grownBy_set4 (w:World) (n:Nat) (u0 u1 u2 u3:Value):w.grownBy (set4 w n u0 u1 u2 u3) (some n) :=
  grownBy_trans (grownBy_trans (grownBy_trans (grownBy_set w n 0 u0) (grownBy_set _ n 1 u1) (fun _ e=>.inl e)) (grownBy_set _ n 2 u2) (fun _ e=>.inl e)) (grownBy_set _ n 3 u3) (fun _ e=>.inl e)
theorem Dd.done {W wr:World} {b:Nat} {s:ByteArray} {q:Nat} {v:Value} {ts:List (Nat×List UInt8)} (h:Dd W b s q v ts wr) (u0 u1 u2 u3:Value) :
    Cur (set4 wr W.heap.size u0 u1 u2 u3) b s q∧(set4 wr W.heap.size u0 u1 u2 u3).ownsRow W.heap.size 95 2 v ts.length (flatT (ts.map natT))∧W.grownBy (set4 wr W.heap.size u0 u1 u2 u3) (some b):=by
  have hb:=h.hb
  have hg:=grownBy_set4 wr W.heap.size u0 u1 u2 u3
  refine ⟨?_,own_base (h.own.kept hg (.inr (fun e=>by have:=(h.own.lt _ e).1;omega))) (Nat.le_succ _),grownBy_trans h.gr hg (fun k e=>by simp at e;right;omega)⟩
  have hc:=h.cur
  unfold Cur at *
  rw [hg.block b (Array.getElem?_eq_some_iff.1 hc).1 (by simp;omega)]
  exact hc
def DescPost (s:ByteArray) (pl b:Nat) (W:World) (e:Ending) (w':World):Prop:=match descOf (s.data.toList.drop pl) with
  | some ((ts,x),r)=>∃ v,e=.returned (.tuple #[.agg #[v,.bool (voidB x),.int .i64 (retT x).1,.string ⟨(retT x).2.toArray⟩],.bool true])∧w'.ownsRow W.heap.size 95 2 v ts.length (flatT (ts.map natT))∧Cur w' b s (s.size - r.length)
  | none=>e=.returned (.tuple #[.agg #[.slice none 0 0,.bool false,.int .i64 0,.string ⟨#[]⟩],.bool false])∧∃ q,q≤s.size∧Cur w' b s q
theorem dpost_none {s:ByteArray} {pl b q:Nat} {W w':World} (h:descOf (s.data.toList.drop pl)=none) (hq:q≤s.size) (hc:Cur w' b s q):DescPost s pl b W (.returned (.tuple #[.agg #[.slice none 0 0,.bool false,.int .i64 0,.string ⟨#[]⟩],.bool false])) w':=by
  unfold DescPost;rw [h];exact ⟨rfl,q,hq,hc⟩
theorem dpost_some {s:ByteArray} {pl b q:Nat} {W w':World} {ts:List (Nat×List UInt8)} {x:Option (Nat×List UInt8)} {r:List UInt8} {v:Value} (h:descOf (s.data.toList.drop pl)=some ((ts,x),r)) (hp:q=s.size - r.length)
    (ho:w'.ownsRow W.heap.size 95 2 v ts.length (flatT (ts.map natT))) (hc:Cur w' b s q):DescPost s pl b W (.returned (.tuple #[.agg #[v,.bool (voidB x),.int .i64 (retT x).1,.string ⟨(retT x).2.toArray⟩],.bool true])) w':=by
  unfold DescPost;rw [h];rw [hp] at hc;exact ⟨v,rfl,ho,hc⟩
set_option maxHeartbeats 4000000 in
theorem readDesc_any (b:Nat) (s:ByteArray) (pl:Nat) (hpl:pl≤s.size) (hs:s.size≤1000000) (W:World) (hc:Cur W b s pl) :
    Calls Tryz.prog 202 #[.pointer (some ⟨b,0,none⟩)] W fun e w'=>DescPost s pl b W e w'∧W.grownBy w' (some b):=by
  have hsz:s.data.toList.length=s.size:=by simp
  have HS:Hid (∀ (m:UInt8) (q:Nat) (v:Value) (ts:List (Nat×List UInt8)) (w:World),Hid (Dd W b s q v ts w)→Calls Tryz.prog 218 #[.pointer (some ⟨b,0,none⟩),.string ⟨#[m]⟩] w fun e w'=>e=.returned (.bool (nxt s q m))∧Hid (Dd W b s (if nxt s q m then q+1 else q) v ts w')) :=
    fun m q v ts w h=>(skip_any b s q m h.out.le hs w h.out.cur).mono fun e w' ⟨he,hc,hg⟩=>⟨he,h.out.step hc hg (by
      have:=h.out.le
      split
      · rename_i e;have:=nxt_true e;omega
      · exact this)⟩
  have HT:∀ (q:Nat) (v:Value) (ts:List (Nat×List UInt8)) (w:World),Hid (Dd W b s q v ts w)→Calls Tryz.prog 219 #[.pointer (some ⟨b,0,none⟩)] w fun e w'=>TypePost s q b e w'∧w.grownBy w' (some b) :=
    fun q v ts w h=>readType_any b s q h.out.le hs w h.out.cur
  have H0:Dd W b s pl (.slice none 0 0) [] (W.alloc (.cells zeroD 200)):=⟨hc.keep ((Below.refl _ _).alloc (Nat.le_refl _) _),World.ownsRow_nil _ _ _ _,heap_alloc_new W _,grownBy_below ((Below.refl _ _).alloc (Nat.le_refl _) _),hc.cells.2.2.2,hpl⟩
  have HAR:=readArgs_any b s pl hpl hs _ H0.cur
  unfold ArgPost at HAR
  cases ha:argsOf (s.data.toList.drop pl) with
  | none =>
    have HP:Hid (descOf (s.data.toList.drop pl)=none):=by rw [Hid,descOf,ha]
    rw [ha] at HAR
    have HA:Hid (Calls Tryz.prog 217 #[.pointer (some ⟨b,0,none⟩)] (W.alloc (.cells #[.slice none 0 0,.bool false,.int .i64 0,.string ⟨#[]⟩] 200)) fun e w'=>e=.returned (.tuple #[.slice none 0 0,.bool false])∧∃ q,Hid (Dd W b s q (.slice none 0 0) [] w')) :=
      HAR.mono fun e w' ⟨⟨he,q,hq,hc⟩,hg⟩=>⟨he,q,H0.step hc hg hq⟩
    clear HAR HT HS ha hc H0 hsz
    go_enter Tryz.func202,Tryz.ntmps202
    go_wp2_with (go_at_call 217;refine (HA.out).mono ?_;rintro e w1 ⟨rfl,q,R1⟩;obtain ⟨c0,c1,c2,c3,f0,f1,f2,f3,hz⟩:=R1.out.cells)
    refine bodyPost_ret (v:=.tuple #[.agg #[.slice none 0 0,.bool false,.int .i64 0,.string ⟨#[]⟩],.bool false]) (by simp [results,Tryz.results202,go_sem, *]) rfl ⟨dpost_none HP.out R1.out.le (R1.out.done _ _ _ _).1,(R1.out.done _ _ _ _).2.2⟩
  | some p =>
    obtain ⟨ts,r⟩:=p
    obtain ⟨hrd,hrl⟩:=args_drop ha
    rw [hsz] at hrd hrl
    rw [ha] at HAR
    have HA:Hid (Calls Tryz.prog 217 #[.pointer (some ⟨b,0,none⟩)] (W.alloc (.cells #[.slice none 0 0,.bool false,.int .i64 0,.string ⟨#[]⟩] 200)) fun e w'=>∃ v,e=.returned (.tuple #[v,.bool true])∧Hid (Dd W b s (s.size - r.length) v ts w')) :=
      HAR.mono fun e w' ⟨⟨v,he,ho,hc⟩,hg⟩=>⟨v,he,by
        have h1:=H0.step hc hg (by omega)
        refine ⟨h1.cur,?_,h1.r,h1.gr,h1.hb,h1.le⟩
        have:=ho
        rw [show (W.alloc (.cells zeroD 200)).heap.size=W.heap.size+1 by simp] at this
        exact this⟩
    clear HAR
    obtain ⟨q,hq⟩:∃ q,s.size - r.length=q:=⟨_,rfl⟩
    rw [hq] at HA hrd
    have hqs:q≤s.size:=by omega
    have hnx:nxt s q 86=(r.head? == some 86):=by rw [nxt,← hrd]
    cases h86:nxt s q 86 with
    | true =>
      have hr86:r.head?=some 86:=by rw [h86] at hnx;simpa using hnx.symm
      have hlt:=nxt_true h86
      have HP:Hid (descOf (s.data.toList.drop pl)=some ((ts,none),r.drop 1)):=by rw [Hid,descOf,ha];simp [hr86]
      have HQ:Hid (q+1=s.size - (r.drop 1).length):=by rw [Hid,List.length_drop];omega
      clear HT ha hc H0 hsz hrd hrl hq hnx hr86
      go_enter Tryz.func202,Tryz.ntmps202
      go_wp2_with (first
        | (go_at_call 217;refine (HA.out).mono ?_;rintro e w1 ⟨v,rfl,R1⟩;obtain ⟨ao,cap,rfl⟩:=own_slice R1.out.own)
        | (go_at_call 218;refine (HS.out _ _ _ _ _ R1).mono ?_;rintro e w2 ⟨rfl,R2⟩;rw [h86,if_pos rfl] at R2;obtain ⟨c0,c1,c2,c3,f0,f1,f2,f3,hz⟩:=R2.out.cells))
      refine bodyPost_ret (v:=.tuple #[.agg #[.slice ao ts.length cap,.bool true,.int .i64 0,.string ⟨#[]⟩],.bool true]) (by simp [results,Tryz.results202,go_sem, *]) rfl ⟨dpost_some (x:=none) HP.out HQ.out (R2.out.done _ _ _ _).2.1 (R2.out.done _ _ _ _).1,(R2.out.done _ _ _ _).2.2⟩
    | false =>
      have hr86:r.head?≠some 86:=by rw [h86] at hnx;simpa using hnx.symm
      cases hr:readT r with
      | none =>
        have HP:Hid (descOf (s.data.toList.drop pl)=none):=by rw [Hid,descOf,ha];simp [hr86,hr]
        have HT':Hid (∀ v w,Hid (Dd W b s q v ts w)→Calls Tryz.prog 219 #[.pointer (some ⟨b,0,none⟩)] w fun e w'=>e=.returned (.tuple #[.agg #[.int .i64 0,.string ⟨#[]⟩],.bool false])∧∃ q',Hid (Dd W b s q' v ts w')):=fun v w h =>
          (HT q v ts w h).mono fun e w' ⟨hp,hgr⟩=>by
            unfold TypePost at hp
            rw [← hrd,hr] at hp
            obtain ⟨he,q',hq',hc'⟩:=hp
            exact ⟨he,q',h.out.step hc' hgr hq'⟩
        clear HT ha hc H0 hsz hrd hrl hq hnx hr86 hr
        go_enter Tryz.func202,Tryz.ntmps202
        go_wp2_with (first
          | (go_at_call 217;refine (HA.out).mono ?_;rintro e w1 ⟨v,rfl,R1⟩;obtain ⟨ao,cap,rfl⟩:=own_slice R1.out.own)
          | (go_at_call 218;refine (HS.out _ _ _ _ _ R1).mono ?_;rintro e w2 ⟨rfl,R2⟩;rw [h86,if_neg Bool.false_ne_true] at R2)
          | (go_at_call 219;refine (HT'.out _ _ R2).mono ?_;rintro e w3 ⟨rfl,q',R3⟩;obtain ⟨c0,c1,c2,c3,f0,f1,f2,f3,hz⟩:=R3.out.cells))
        have R5:=R3.out.done (.slice none 0 0) (.bool false) (.int .i64 0) (.string ⟨#[]⟩)
        have hal:Below (set4 w3 W.heap.size (.slice none 0 0) (.bool false) (.int .i64 0) (.string ⟨#[]⟩)).heap.size (set4 w3 W.heap.size (.slice none 0 0) (.bool false) (.int .i64 0) (.string ⟨#[]⟩)) ((set4 w3 W.heap.size (.slice none 0 0) (.bool false) (.int .i64 0) (.string ⟨#[]⟩)).alloc (.cells #[.int .i64 0,.string ⟨#[]⟩] 95)):=(Below.refl _ _).alloc (Nat.le_refl _) _
        refine bodyPost_ret (v:=.tuple #[.agg #[.slice none 0 0,.bool false,.int .i64 0,.string ⟨#[]⟩],.bool false]) (by simp [results,Tryz.results202,go_sem, *]) rfl ⟨dpost_none HP.out R3.out.le (R5.1.keep hal),grownBy_trans R5.2.2 (grownBy_below hal (r:=some b)) (fun _ e=>.inl e)⟩
      | some p =>
        obtain ⟨⟨k,nm⟩,y⟩:=p
        have hrd2:=hrd
        obtain ⟨hyd,hyq,hyl⟩:=read_drop (l:=s.data.toList) (q:=q) (by rw [← hrd2];exact hr)
        rw [hsz] at hyd hyq hyl
        have HP:Hid (descOf (s.data.toList.drop pl)=some ((ts,some (k,nm)),y)):=by rw [Hid,descOf,ha];simp [hr86,hr]
        have HT':Hid (∀ v w,Hid (Dd W b s q v ts w)→Calls Tryz.prog 219 #[.pointer (some ⟨b,0,none⟩)] w fun e w'=>e=.returned (.tuple #[.agg #[.int .i64 k,.string ⟨nm.toArray⟩],.bool true])∧Hid (Dd W b s (s.size - y.length) v ts w')):=fun v w h =>
          (HT q v ts w h).mono fun e w' ⟨hp,hgr⟩=>by
            unfold TypePost at hp
            rw [← hrd,hr] at hp
            exact ⟨hp.1,h.out.step hp.2 hgr (by omega)⟩
        clear HT ha hc H0 hsz hrd hrl hq hnx hr86 hr hrd2 hyd hyq hyl
        go_enter Tryz.func202,Tryz.ntmps202
        go_wp2_with (first
          | (go_at_call 217;refine (HA.out).mono ?_;rintro e w1 ⟨v,rfl,R1⟩;obtain ⟨ao,cap,rfl⟩:=own_slice R1.out.own)
          | (go_at_call 218;refine (HS.out _ _ _ _ _ R1).mono ?_;rintro e w2 ⟨rfl,R2⟩;rw [h86,if_neg Bool.false_ne_true] at R2)
          | (go_at_call 219;refine (HT'.out _ _ R2).mono ?_;rintro e w3 ⟨rfl,R3⟩;obtain ⟨c0,c1,c2,c3,f0,f1,f2,f3,hz⟩:=R3.out.cells))
        have R5:=R3.out.done (.slice ao ts.length cap) (.bool false) (.int .i64 k) (.string ⟨nm.toArray⟩)
        have hal:Below (set4 w3 W.heap.size (.slice ao ts.length cap) (.bool false) (.int .i64 k) (.string ⟨nm.toArray⟩)).heap.size (set4 w3 W.heap.size (.slice ao ts.length cap) (.bool false) (.int .i64 k) (.string ⟨nm.toArray⟩)) ((set4 w3 W.heap.size (.slice ao ts.length cap) (.bool false) (.int .i64 k) (.string ⟨nm.toArray⟩)).alloc (.cells #[.int .i64 k,.string ⟨nm.toArray⟩] 95)):=(Below.refl _ _).alloc (Nat.le_refl _) _
        refine bodyPost_ret (v:=.tuple #[.agg #[.slice ao ts.length cap,.bool false,.int .i64 k,.string ⟨nm.toArray⟩],.bool true]) (by simp [results,Tryz.results202,go_sem, *]) rfl ⟨dpost_some (x:=some (k,nm)) HP.out rfl (own_below R5.2.1 hal (Nat.le_refl _)) (R5.1.keep hal),grownBy_trans R5.2.2 (grownBy_below hal (r:=some b)) (fun _ e=>.inl e)⟩
end Go.Proofs.YtfjekhmnjfcbeaaGreat
