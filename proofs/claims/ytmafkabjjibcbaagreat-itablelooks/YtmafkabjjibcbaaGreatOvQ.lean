import Derived.Lib.Join
import Derived.Laws.AppendOwn
namespace Go.Proofs.YtmafkabjjibcbaaGreat
open Go
def hasI (f x:Int):Bool:=bits .and .i64 f x != 0
def Yb (f:Int):List Int→Int
 | []=>0
 | x::l=>(if hasI f x then x else 0)+Yb f l
def Qd (f:Int):List (Int×List UInt8)→List (List UInt8)
 | []=>[]
 | p::l=>if hasI f p.1 then p.2::Qd f l else Qd f l
def Zj1:List UInt8:=[112,117,98,108,105,99]
def wPrivate:List UInt8:=[112,114,105,118,97,116,101]
def Zit:List UInt8:=[112,114,111,116,101,99,116,101,100]
def wStatic:List UInt8:=[115,116,97,116,105,99]
def wFinal:List UInt8:=[102,105,110,97,108]
def wSuper:List UInt8:=[115,117,112,101,114]
def Ziu:List UInt8:=[105,110,116,101,114,102,97,99,101]
def Ze2:List UInt8:=[97,98,115,116,114,97,99,116]
def clsP:List (Int×List UInt8):=[(1,Zj1),(16,wFinal),(32,wSuper),(512,Ziu),(1024,Ze2)]
def mthP:List (Int×List UInt8):=[(1,Zj1),(2,wPrivate),(4,Zit),(8,wStatic),(16,wFinal),(1024,Ze2)]
def flagsOf (ps:List (Int×List UInt8)):List Int:=ps.map (·.1)
def Xx (f:Int) (ps:List (Int×List UInt8)):Bool:=decide (Yb f (flagsOf ps)=f)
def subW:List (Int×List UInt8)→List (List UInt8)→Option Int
 | _,[]=>some 0
 | [],_::_=>none
 | p::ps,t::ts=>if p.2=t then (subW ps ts).map (p.1 + ·) else subW ps (t::ts)
theorem Zbq {P:Program} (w:World) (base:Nat) (t ty e:TypeId) (i:TypeInfo) (size:Nat) (ht:P.underlying t=some (.slice e)) (hi:P.info? e=some i) (hsize:i.size=size)
 (g k K cap:Nat) (xs:List Value) (hown:w.ownsRow base e size (.slice (some ⟨g,0,none⟩) K cap) K xs)
 (a:Addr) (m c:Nat) (news:List Value) (hl:news.length=m * size) (hnews:∀ j u,news[j]?=some u→w.cell? (a.add j)=some u) (h1:∀ u∈news,u.oneCell'=true) (hroom:k+m≤K) :
 ∃ w',(Builtin.append_ #[t,t] ty #[.slice (some ⟨g,0,none⟩) k cap,.slice (some a) m c]).run P w=.ok (.slice (some ⟨g,0,none⟩) (k+m) cap) w' ∧
   w'.ownsRow base e size (.slice (some ⟨g,0,none⟩) K cap) K (xs.take (k * size)++news++xs.drop ((k+m) * size))∧w.grownBy w' (some g):=by
 subst hsize
 rcases hown.2 with ⟨h0,_⟩|⟨g',cap',cur,hv,hbg,hg,hnc,hcm,hcs,htake⟩
 ·cases h0
 ·cases hv
  have hKm:(k+m) * i.size≤K * i.size:=Nat.mul_le_mul_right _ hroom
  have hKc:K * i.size≤cap * i.size:=Nat.mul_le_mul_right _ hnc
  have hadd:(k+m) * i.size=k * i.size+m * i.size:=Nat.add_mul _ _ _
  have hfit:k * i.size+news.length≤cur.size:=by rw [hl,hcs];omega
  have hr:=run_append_room (P:=P) w t ty e i ht hi g k cap cur hg a m c news hl hnews h1 (by omega) hfit
  have hxl:=hown.1
  have hcl:cur.toList.length=cap * i.size:=by rw [Array.length_toList,hcs]
  refine ⟨_,hr,⟨?_,.inr ⟨g,cap,_,rfl,hbg,setRow_heap w g cur _ e _ hg,hnc,hcm,?_,?_⟩⟩,⟨rfl,rfl,rfl,by simp,fun j _ hj=>setRow_other w g j _ (fun e=>hj (by simp [e]))⟩⟩
  ·rw [List.length_append,List.length_append,List.length_take,List.length_drop,hxl,hl];omega
  ·rw [List.size_toArray,List.length_append,List.length_append,List.length_take,List.length_drop,hcl,hl];omega
  ·rw [← htake,List.take_take,Nat.min_eq_left (by omega),List.drop_take]
   show ((cur.toList.take (k * i.size)++news)++cur.toList.drop (k * i.size+news.length)).take (K * i.size)=_
   have hAl:(cur.toList.take (k * i.size)++news).length=(k+m) * i.size:=by rw [List.length_append,List.length_take,hcl,hl];omega
   rw [List.take_append,hAl,List.take_of_length_le (by rw [hAl];exact hKm),hl,hadd]
theorem Yu {P:Program} (w:World) {ops:Array Oper} {rest:List Oper} {o:Oper} {a:Act} {Q:Exit→Act→World→Prop} (hgd:o.guard=none) (s x:Operand) (t:TypeId)
 (ho:o.op=.call { callee:=.builtin .append,args:=#[s,x],argTypes:=#[t,t] })
 (base:Nat) (e:TypeId) (i:TypeInfo) (size:Nat) (ht:P.underlying t=some (.slice e)) (hi:P.info? e=some i) (hsize:i.size=size)
 (g k K cap:Nat) (xs:List Value) (hs:a.eval s=.slice (some ⟨g,0,none⟩) k cap) (hown:w.ownsRow base e size (.slice (some ⟨g,0,none⟩) K cap) K xs)
 (ad:Addr) (m c:Nat) (news:List Value) (hx:a.eval x=.slice (some ad) m c) (hl:news.length=m * size) (hnews:∀ j u,news[j]?=some u→w.cell? (ad.add j)=some u) (h1:∀ u∈news,u.oneCell'=true) (hroom:k+m≤K)
 (h:∀ w',w'.ownsRow base e size (.slice (some ⟨g,0,none⟩) K cap) K (xs.take (k * size)++news++xs.drop ((k+m) * size))→w.grownBy w' (some g)→wpList P ops Q rest (a.put o.dst (.slice (some ⟨g,0,none⟩) (k+m) cap)) w'):wpList P ops Q (o::rest) a w:=by
 refine wpList_plain hgd fun K' hK=>?_
 obtain ⟨w',hr,h2,h3⟩:=Zbq (P:=P) w base t o.type e i size ht hi hsize g k K cap xs hown ad m c news hl hnews h1 hroom
 unfold Oper.wp execOp
 simp only [ho,resolve,invoke,builtin,Sem.run_bind,Sem.run_pure,Result.andThen_ok,List.map_toArray,List.map_cons,List.map_nil,hs,hx,hr]
 exact hK _ _ (h w' h2 h3)
def RevR (l R:List Nat) (i:Nat):Prop:=R.length=l.length∧∀ k,k<l.length→R[k]?=if k<i∨l.length≤k+i then l[l.length - 1 - k]? else l[k]?
theorem RevR.start (l:List Nat):RevR l l 0:=⟨rfl,fun k hk=>by rw [if_neg (by omega)]⟩
theorem RevR.swap {l R:List Nat} {i j:Nat} (h:RevR l R i) (hij:i<j) (hj:i+j+1=l.length) {x y:Nat} (hx:R[i]?=some x) (hy:R[j]?=some y):RevR l ((R.set i y).set j x) (i+1):=by
 obtain ⟨h1,h2⟩:=h
 refine ⟨by simp [h1],fun k hk=>?_⟩
 have ei:=h2 i (by omega)
 have ej:=h2 j (by omega)
 rw [if_neg (by omega)] at ei ej
 by_cases kj:k=j
 ·subst kj
  rw [List.getElem?_set_self (by simp;omega),if_pos (by omega),show l.length - 1 - k=i by omega,← ei,hx]
 ·rw [List.getElem?_set_ne (by omega)]
  by_cases ki:k=i
  ·subst ki
   rw [List.getElem?_set_self (by omega),if_pos (by omega),show l.length - 1 - k=j by omega,← ej,hy]
  ·rw [List.getElem?_set_ne (by omega),h2 k hk]
   by_cases hc:k<i∨l.length≤k+i
   ·rw [if_pos hc,if_pos (by omega)]
   ·rw [if_neg hc,if_neg (by omega)]
theorem RevR.done {l R:List Nat} {i:Nat} (h:RevR l R i) (hi:l.length≤2 * i+1):R=l.reverse:=by
 obtain ⟨h1,h2⟩:=h
 refine List.ext_getElem? fun k=>?_
 by_cases hk:k<l.length
 ·rw [h2 k hk,List.getElem?_reverse hk]
  split
  ·rfl
  ·congr 1;omega
 ·rw [List.getElem?_eq_none (by omega),List.getElem?_eq_none (by simp;omega)]
end Go.Proofs.YtmafkabjjibcbaaGreat
