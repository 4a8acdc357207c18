import Derived.Test.YtlnojhhddinjkaaGreatHrR
import Derived.BigQuiet
import Derived.WalkSmall
set_option maxHeartbeats 1000000
set_option maxRecDepth 100000
namespace Go.Proofs.YtlnojhhddinjkaaGreat
open Go.RowKit
structure Nd where
 i:Bool
 sp:Nat
 cl:List Nat
structure WO (ns:List Nd):Prop where
 top:∃ n,ns[0]?=some n∧n.sp=0∧n.cl=[]∧n.i=false
 sp:∀ (k:Nat) (n:Nd),0<k→ns[k]?=some n→n.sp<k∧(∀ p,ns[n.sp]?=some p→p.i=false∧∀ i∈p.cl,i∈n.cl)∧(n.i=true→n.sp=0)
 cl:∀ (k:Nat) (n:Nd),ns[k]?=some n→n.cl.Nodup∧∀ i∈n.cl,i<k∧∃ p,ns[i]?=some p∧p.i=true∧∀ j∈p.cl,j∈n.cl
def spO (ns:List Nd) (k:Nat):Nat:=match ns[k]? with
 | some n=>n.sp
 | none=>0
def clO (ns:List Nd) (k:Nat):List Nat:=match ns[k]? with
 | some n=>n.cl
 | none=>[]
def upF (ns:List Nd):Nat→Nat→List Nat
 | 0,k=>[k]
 | f+1,k=>k::(if k=0 then [] else upF ns f (spO ns k))
def chL (ns:List Nd) (k:Nat):List Nat:=upF ns k k
def extB (ns:List Nd) (a b:Nat):Bool:=(chL ns a).contains b||(clO ns a).contains b
theorem WO.spLt {ns:List Nd} (h:WO ns) {k:Nat} (hk:k<ns.length) (h0:0<k):spO ns k<k:=by
 have e:ns[k]?=some ns[k]:=List.getElem?_eq_getElem hk
 have:=(h.sp k _ h0 e).1
 rw [spO,e];exact this
theorem upF_eq {ns:List Nd} (h:WO ns):∀ (f g k:Nat),k≤f→k≤g→k<ns.length→upF ns f k=upF ns g k
 | 0,0,_,_,_,_=>rfl
 | 0,g+1,k,hf,_,_=>by
   obtain rfl:k=0:=by omega
   rfl
 | f+1,0,k,_,hg,_=>by
   obtain rfl:k=0:=by omega
   rfl
 | f+1,g+1,k,hf,hg,hk=>by
   rw [upF,upF]
   by_cases h0:k=0
   ·rw [if_pos h0,if_pos h0]
   ·rw [if_neg h0,if_neg h0]
    have:=h.spLt hk (by omega)
    rw [upF_eq h f g (spO ns k) (by omega) (by omega) (by omega)]
theorem Qr (ns:List Nd):chL ns 0=[0]:=rfl
theorem Qs {ns:List Nd} (h:WO ns) {k:Nat} (hk:k<ns.length) (h0:0<k):chL ns k=k::chL ns (spO ns k):=by
 have hs:=h.spLt hk h0
 obtain ⟨j,rfl⟩:∃ j,k=j+1:=⟨k - 1,by omega⟩
 rw [chL,upF,if_neg (by omega),chL,upF_eq h j (spO ns (j+1)) (spO ns (j+1)) (by omega) (Nat.le_refl _) (by omega)]
theorem chL_self (ns:List Nd) (k:Nat):k∈chL ns k:=by
 cases k with
 | zero=>simp [Qr]
 | succ k=>simp [chL,upF]
theorem Zk4 {ns:List Nd} (h:WO ns) {P:Nat→Prop} (h0:P 0) (hs:∀ k,k<ns.length→0<k→spO ns k<k→P (spO ns k)→P k):∀ k,k<ns.length→P k:=by
 intro k
 induction k using Nat.strongRecOn with
 | _ k ih =>
   intro hk
   by_cases hz:k=0
   ·rw [hz];exact h0
   ·have:=h.spLt hk (by omega)
    exact hs k hk (by omega) this (ih _ this (by omega))
theorem ch_le {ns:List Nd} (h:WO ns) (a:Nat) (ha:a<ns.length):∀ b∈chL ns a,b≤a:=by
 refine Zk4 h (P:=fun a=>∀ b∈chL ns a,b≤a) (by simp [Qr]) ?_ a ha
 intro k hk h0 hl ih b hb
 rw [Qs h hk h0] at hb
 rcases List.mem_cons.1 hb with rfl|hb
 ·exact Nat.le_refl _
 ·have:=ih b hb;omega
theorem ch_nodup {ns:List Nd} (h:WO ns) (a:Nat) (ha:a<ns.length):(chL ns a).Nodup:=by
 refine Zk4 h (P:=fun a=>(chL ns a).Nodup) (by simp [Qr]) ?_ a ha
 intro k hk h0 hl ih
 rw [Qs h hk h0]
 refine List.nodup_cons.2 ⟨fun hm=>?_,ih⟩
 have:=ch_le h _ (by omega) k hm
 omega
theorem ch_pos {ns:List Nd} (a:Nat):0<(chL ns a).length:=by
 have:=chL_self ns a
 exact List.length_pos_of_mem this
theorem Xw {ns:List Nd} (h:WO ns) {a i:Nat} (hi:i∈clO ns a):i<a∧a<ns.length∧∃ p,ns[i]?=some p∧p.i=true∧∀ j∈p.cl,j∈clO ns a:=by
 cases e:ns[a]? with
 | none=>rw [clO,e] at hi;simp at hi
 | some n =>
   rw [clO,e] at hi ⊢
   obtain ⟨h1,h2⟩:=(h.cl a n e).2 i hi
   exact ⟨h1,(List.getElem?_eq_some_iff.1 e).1,h2⟩
theorem Zhq {ns:List Nd} (h:WO ns) (a:Nat):(clO ns a).Nodup:=by
 cases e:ns[a]? with
 | none=>rw [clO,e];simp
 | some n=>rw [clO,e];exact (h.cl a n e).1
theorem Z8 (cl a:List Nat) (i:Nat):i∈Zi cl a↔i∈cl∨i∈a:=by
 induction a generalizing cl with
 | nil=>simp [Zi]
 | cons x a ih =>
   rw [Zi,ih]
   split
   ·rename_i hx
    have hx:=List.contains_iff_mem.1 hx
    simp only [List.mem_cons]
    constructor
    ·rintro (h|h)
     ·exact .inl h
     ·exact .inr (.inr h)
    ·rintro (h|rfl|h)
     ·exact .inl h
     ·exact .inl hx
     ·exact .inr h
   ·simp only [List.mem_append,List.mem_cons,List.not_mem_nil,or_false,or_assoc]
theorem Zkj (cls:List (List Nat)) (ifs:List Nat) (c:List Nat) (i:Nat):i∈ifs.foldl (gathF cls) c↔i∈c∨∃ x∈ifs,i=x∨i∈cls.getD x []:=by
 induction ifs generalizing c with
 | nil=>simp
 | cons x l ih =>
   rw [List.foldl_cons,ih,gathF,Z8,Z8]
   simp only [List.mem_cons,List.not_mem_nil,or_false,exists_eq_or_imp]
   constructor
   ·rintro (((h|h)|h)|h)
    ·exact .inl h
    ·exact .inr (.inl (.inr h))
    ·exact .inr (.inl (.inl h))
    ·exact .inr (.inr h)
   ·rintro (h|(h|h)|h)
    ·exact .inl (.inl (.inl h))
    ·exact .inl (.inr h)
    ·exact .inl (.inl (.inr h))
    ·exact .inr h
theorem Zki (cls:List (List Nat)) (sup:Nat) (ifs:List Nat) (i:Nat):i∈Z4 cls sup ifs↔i∈cls.getD sup []∨∃ x∈ifs,i=x∨i∈cls.getD x []:=by
 rw [Z4,Zkj,Z8];simp
theorem Zgc (cls:List (List Nat)) (sup:Nat) (ifs:List Nat):(Z4 cls sup ifs).Nodup:=by
 have key:∀ (l:List Nat) (c:List Nat),c.Nodup→(l.foldl (gathF cls) c).Nodup:=by
  intro l
  induction l with
  | nil=>exact fun c h=>h
  | cons x l ih=>exact fun c h=>ih _ (Yd _ _ (Yd _ _ h))
 exact key _ _ (Yd _ _ (by simp))
theorem Zgb (ns:List Nd) (k:Nat):(ns.map Nd.cl).getD k []=clO ns k:=by
 rw [List.getD_eq_getElem?_getD,List.getElem?_map,clO]
 cases ns[k]? <;> rfl
theorem WO.snoc {ns:List Nd} (h:WO ns) (ib:Bool) (s:Nat) (ifs:List Nat) (hs:∃ p,ns[s]?=some p∧p.i=false) (hi:ib=true→s=0) (hif:∀ x∈ifs,∃ p,ns[x]?=some p∧p.i=true) :
 WO (ns++[⟨ib,s,Z4 (ns.map Nd.cl) s ifs⟩]):=by
 obtain ⟨ps,hps,hpi⟩:=hs
 have hsl:=(List.getElem?_eq_some_iff.1 hps).1
 have old:∀ (k:Nat) (n:Nd),(ns++[(⟨ib,s,Z4 (ns.map Nd.cl) s ifs⟩:Nd)])[k]?=some n→(k<ns.length∧ns[k]?=some n)∨(k=ns.length∧n=⟨ib,s,Z4 (ns.map Nd.cl) s ifs⟩):=by
  intro k n hk
  by_cases hl:k<ns.length
  ·rw [List.getElem?_append_left hl] at hk;exact .inl ⟨hl,hk⟩
  ·rw [List.getElem?_append_right (by omega)] at hk
   by_cases he:k=ns.length
   ·subst he;simp at hk;exact .inr ⟨rfl,hk.symm⟩
   ·rw [List.getElem?_eq_none (by simp;omega)] at hk;cases hk
 have up:∀ (k:Nat) (p:Nd),ns[k]?=some p→(ns++[(⟨ib,s,Z4 (ns.map Nd.cl) s ifs⟩:Nd)])[k]?=some p:=fun k p hk=>by
  rw [List.getElem?_append_left (List.getElem?_eq_some_iff.1 hk).1];exact hk
 have mem:∀ i,i∈Z4 (ns.map Nd.cl) s ifs↔i∈clO ns s∨∃ x∈ifs,i=x∨i∈clO ns x:=fun i=>by rw [Zki,Zgb];simp only [Zgb]
 refine ⟨?_,?_,?_⟩
 ·obtain ⟨n,h1,h2⟩:=h.top
  exact ⟨n,up _ _ h1,h2⟩
 ·intro k n h0 hk
  rcases old k n hk with ⟨hl,hk⟩|⟨rfl,rfl⟩
  ·obtain ⟨h1,h2,h3⟩:=h.sp k n h0 hk
   refine ⟨h1,fun p hp=>?_,h3⟩
   rw [List.getElem?_append_left (by omega)] at hp
   exact h2 p hp
  ·refine ⟨hsl,fun p hp=>?_,hi⟩
   rw [List.getElem?_append_left hsl,hps] at hp
   cases hp
   refine ⟨hpi,fun i hc=>(mem i).2 (.inl ?_)⟩
   rw [clO,hps];exact hc
 ·intro k n hk
  rcases old k n hk with ⟨hl,hk⟩|⟨rfl,rfl⟩
  ·obtain ⟨h1,h2⟩:=h.cl k n hk
   refine ⟨h1,fun i hc=>?_⟩
   obtain ⟨h3,p,hp,h4⟩:=h2 i hc
   exact ⟨h3,p,up _ _ hp,h4⟩
  ·refine ⟨Zgc _ _ _,fun i hc=>?_⟩
   rcases (mem i).1 hc with hc|⟨x,hx,rfl|hc⟩
   ·obtain ⟨h1,h2,p,hp,h3,h4⟩:=Xw h hc
    exact ⟨by omega,p,up _ _ hp,h3,fun j hj=>(mem j).2 (.inl (h4 j hj))⟩
   ·obtain ⟨p,hp,h3⟩:=hif i hx
    refine ⟨(List.getElem?_eq_some_iff.1 hp).1,p,up _ _ hp,h3,fun j hj=>(mem j).2 (.inr ⟨i,hx,.inr ?_⟩)⟩
    rw [clO,hp];exact hj
   ·obtain ⟨h1,h2,p,hp,h3,h4⟩:=Xw h hc
    exact ⟨by omega,p,up _ _ hp,h3,fun j hj=>(mem j).2 (.inr ⟨x,hx,.inr (h4 j hj)⟩)⟩
def nd (q:Plc):Nd:=⟨ifB q.c.fl,q.sp,q.cl⟩
theorem Zj8 {l:List Nat} {p:Nat} (k:Nat) (x:Nat) (h:l[k]?=some x):(l.drop k).contains p=((p == x)||(l.drop (k+1)).contains p):=by
 obtain ⟨h1,h2⟩:=List.getElem?_eq_some_iff.1 h
 rw [List.drop_eq_getElem_cons h1,h2,List.contains_cons]
theorem Zin (v:Value) (l:List Nat) (p:Nat) (W:World) (h:Rds W v l.length 1 (l.map numV)) (hl:l.length≤1000000) :
 Calls Tryz.prog 206 #[v,.int .i64 (p:Int)] W fun e w'=>(∃ i:Int,e=.returned (.int .i64 i)∧decide (0≤i)=l.contains p)∧Bw W w':=by
 obtain ⟨av,cv,rfl⟩:=h.slice
 have HV:Hid (Rds W (.slice av l.length cv) l.length 1 (l.map numV)):=h
 obtain ⟨N,hN⟩:∃ N,l.length=N:=⟨_,rfl⟩
 rw [hN] at hl ⊢
 have HN1:Hid (l.length=N):=hN
 clear hN h
 go_enter Tryz.func206,Tryz.ntmps206
 go_wp2
 go_loopw [8] (fun iv wr=>∃ i:Nat,iv=.int .i64 i∧i≤N∧Hid (Bw W wr)∧Hid ((l.drop i).contains p=l.contains p)) (fun iv _=>N - (intOf iv).toNat)
 case atStart=>exact ⟨0,rfl,Nat.zero_le _,Below.refl _ _,rfl⟩
 case round =>
  obtain ⟨i,rfl,hi,hb,hs⟩:=hrel
  by_cases hlt:i<N
  ·obtain ⟨x,hx⟩:∃ x,l[i]?=some x:=⟨_,List.getElem?_eq_getElem (by rw [HN1.out];exact hlt)⟩
   obtain ⟨bk,o,rfl,hbk,hcell⟩:∃ bk o,av=some ⟨bk,o,none⟩∧bk<W.heap.size∧W.cell? ⟨bk,o+i,none⟩=some (.int .i64 (x:Int)):=by
    rcases HV.out.val with ⟨_,e2⟩|⟨bk,o,c,e,_,_,h3,h4⟩
    ·rw [HN1.out] at e2;omega
    ·simp only [Value.slice.injEq] at e
     exact ⟨bk,o,e.1,h3,h4 i _ (by rw [List.getElem?_map,hx];rfl)⟩
   have hst:=Zj8 (p:=p) i x hx
   rw [hs.out] at hst
   have p0:=(hb.out.cell hbk).trans hcell
   clear hs hx hcell
   by_cases hq:p=x
   ·subst hq
    have HZ:Hid (l.contains p=true):=by rw [Hid,hst];simp
    clear hst
    go_wp2
    all_goals (try go_quiet (fail))
    all_goals (try go_wp2)
    go_ret
    exact ⟨⟨i,rfl,by rw [HZ.out];simp⟩,by first|exact hb.out|exact below_drewN hb.out _⟩
   ·have HZ:Hid ((l.drop (i+1)).contains p=l.contains p):=by rw [Hid,hst];simp [hq]
    have hq2:¬ (p:Int)=(x:Int):=by omega
    clear hst
    go_wp2
    all_goals (try go_quiet (fail))
    all_goals (try go_wp2)
    go_roundw
    case rel=>exact ⟨i+1,by go_num,by omega,by first|exact hb|exact below_drewN hb.out _,HZ⟩
    case measure=>simp [intOf];omega
  ·have e:i=N:=by omega
   subst e
   have HZ:Hid (l.contains p=false):=by rw [Hid,← hs.out,List.drop_of_length_le (by rw [HN1.out];exact Nat.le_refl _)];rfl
   clear hs
   go_wp2
   go_ret
   exact ⟨⟨-1,rfl,by rw [HZ.out];rfl⟩,hb.out⟩
theorem Zc6 (v:Value) (l:List Nat) (p:Nat) (W:World) (h:Rds W v l.length 1 (l.map numV)) (hl:l.length≤1000000) :
 Calls Tryz.prog 194 #[v,.int .i64 (p:Int)] W fun e w'=>e=.returned (.bool (l.contains p))∧Bw W w':=by
 have HI:Hid (Calls Tryz.prog 206 #[v,.int .i64 (p:Int)] W fun e w'=>(∃ i:Int,e=.returned (.int .i64 i)∧Hid (decide (0≤i)=l.contains p))∧Bw W w'):=Zin v l p W h hl
 clear h hl
 generalize l.contains p=z at *
 go_enter Tryz.func194,Tryz.ntmps194
 go_wp2_with (go_at_call 206;refine HI.out.mono ?_;rintro e w1 ⟨⟨i,rfl,hi⟩,hb⟩;have B1:Hid _:=hb;clear hb HI)
 go_ret
 exact ⟨by rw [← hi.out];rfl,B1.out⟩
theorem rds_num {w:World} {av:Option Addr} {n c:Nat} {l:List Nat} {i x:Nat} (h:Rds w (.slice av n c) n 1 (l.map numV)) (hx:l[i]?=some x):∃ bk o,av=some ⟨bk,o,none⟩∧bk<w.heap.size∧w.cell? ⟨bk,o+i,none⟩=some (.int .i64 (x:Int)):=by
 have hl:=h.len
 rw [List.length_map] at hl
 have:=(List.getElem?_eq_some_iff.1 hx).1
 rcases h.val with ⟨_,e2⟩|⟨bk,o,c,e,_,_,h3,h4⟩
 ·omega
 ·simp only [Value.slice.injEq] at e
  exact ⟨bk,o,e.1,h3,h4 i _ (by rw [List.getElem?_map,hx];rfl)⟩
theorem Zc2 (v:Value) (l:List Nat) (p:Nat) (W:World) (h:Rds W v l.length 1 (l.map numV)) (hl:l.length≤1000000) :
 Calls Tryz.prog 111 #[v,.int .i64 (p:Int)] W fun e w'=>e=.returned (.bool (l.contains p))∧Bw W w':=by
 obtain ⟨av,cv,rfl⟩:=h.slice
 have HV:Hid (Rds W (.slice av l.length cv) l.length 1 (l.map numV)):=h
 obtain ⟨N,hN⟩:∃ N,l.length=N:=⟨_,rfl⟩
 rw [hN] at hl ⊢
 have HN1:Hid (l.length=N):=hN
 obtain ⟨z,hz⟩:∃ z,z=l.contains p:=⟨_,rfl⟩
 rw [← hz]
 have HZ:Hid (z=l.contains p):=hz
 clear hN h hz
 go_enter Tryz.func111,Tryz.ntmps111
 go_wp2
 go_loopw [5] (fun iv wr=>∃ i:Nat,iv=.int .i64 i∧i≤N∧Hid (Bw W wr)∧Hid ((l.drop i).contains p=l.contains p)) (fun iv _=>N - (intOf iv).toNat)
 case atStart=>exact ⟨0,rfl,Nat.zero_le _,Below.refl _ _,rfl⟩
 case round =>
  obtain ⟨i,rfl,hi,hb,hs⟩:=hrel
  by_cases hlt:i<N
  ·obtain ⟨x,hx⟩:∃ x,l[i]?=some x:=⟨_,List.getElem?_eq_getElem (by rw [HN1.out];exact hlt)⟩
   obtain ⟨bk,o,rfl,hbk,hcell⟩:=rds_num HV.out hx
   have hst:=Zj8 (p:=p) i x hx
   rw [hs.out] at hst
   have p0:=(hb.out.cell (p:=⟨bk,o+i,none⟩) hbk).trans hcell
   have hltI:(i:Int)<(N:Int):=by omega
   clear hs hx hcell
   by_cases hq:p=x
   ·subst hq
    have hzt:z=true:=by rw [HZ.out,hst];simp
    subst hzt
    clear hst
    go_wp2
    all_goals (try go_quiet (fail))
    all_goals (try go_wp2)
    go_ret
    exact ⟨rfl,by first|exact hb.out|exact below_drewN hb.out _⟩
   ·have HZ2:Hid ((l.drop (i+1)).contains p=l.contains p):=by rw [Hid,hst];simp [hq]
    have hq2:¬ (x:Int)=(p:Int):=by omega
    clear hst
    go_wp2
    all_goals (try go_quiet (fail))
    all_goals (try go_wp2)
    go_roundw
    case rel=>exact ⟨i+1,by go_num,by omega,by first|exact hb|exact below_drewN hb.out _,HZ2⟩
    case measure=>simp [intOf];omega
  ·have e:i=N:=by omega
   subst e
   have hzf:z=false:=by rw [HZ.out,← hs.out,List.drop_of_length_le (by rw [HN1.out];exact Nat.le_refl _)];rfl
   subst hzf
   clear hs
   go_wp2
   go_ret
   exact ⟨rfl,hb.out⟩
end Go.Proofs.YtlnojhhddinjkaaGreat
