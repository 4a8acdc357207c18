import Derived.Test.YtfjekhmnjfcbeaaGreatHrR
import Derived.Test.YtfjekhmnjfcbeaaGreatHrX
import Derived.Test.YtfjekhmnjfcbeaaGreatHrOi
import Derived.Test.YtfjekhmnjfcbeaaGreatCurC
import Derived.BigQuiet
namespace Go.Proofs.YtfjekhmnjfcbeaaGreat
open Go.RowKit Go.Maps
def WAt (b:Nat) (ps:List Plc) (w:World):Prop:=∃ N mb vp pv,HW w N b mb ps vp pv
theorem HW.wat {w:World} {N b mb:Nat} {ps:List Plc} {vp:Value} {pv:List PV} (h:HW w N b mb ps vp pv):WAt b ps w:=⟨N,mb,vp,pv,h⟩
theorem WAt.below {b:Nat} {ps:List Plc} {w w':World} (h:WAt b ps w) (hb:Below w.heap.size w w'):WAt b ps w':=by
  obtain ⟨N,mb,vp,pv,h⟩:=h
  exact ⟨N,mb,vp,pv,h.below hb⟩
def plcI (ps:List Plc) (i:Int):Option Plc:=if 0≤i then ps[i.toNat]? else none
theorem plcI_nat (ps:List Plc) (k:Nat):plcI ps (k:Int)=ps[k]?:=by
  rw [plcI,if_pos (Int.natCast_nonneg k)];rfl
theorem plcI_cases (ps:List Plc) (i:Int):(plcI ps i=none∧¬ (0≤i∧i<(ps.length:Int)))∨∃ (k:Nat) (q:Plc),i=(k:Int)∧ps[k]?=some q∧plcI ps i=some q:=by
  by_cases h:0≤i∧i<(ps.length:Int)
  · obtain ⟨k,rfl⟩:∃ k:Nat,i=(k:Int):=⟨i.toNat,by omega⟩
    have hk:k<ps.length:=by omega
    exact .inr ⟨k,_,rfl,List.getElem?_eq_getElem hk,by rw [plcI_nat];exact List.getElem?_eq_getElem hk⟩
  · refine .inl ⟨?_,h⟩
    unfold plcI
    by_cases h0:0≤i
    · rw [if_pos h0];exact List.getElem?_eq_none (by omega)
    · rw [if_neg h0]
theorem has_c {b:Nat} {ps:List Plc} {W:World} (h:WAt b ps W) (i:Int):Calls Tryz.prog 60 #[.pointer (some ⟨b,0,none⟩),.int .i64 i] W fun e w'=>e=.returned (.bool (plcI ps i).isSome)∧w'=W:=by
  obtain ⟨N,mb,vp,pv,h⟩:=h
  rcases plcI_cases ps i with ⟨h1,h2⟩|⟨k,q,rfl,h2,h1⟩
  · rw [h1];exact has_no h i h2
  · rw [h1];exact has_yes h k (List.getElem?_eq_some_iff.1 h2).1
theorem class_of' (C:World→Prop) (h:∃ w,C w):∃ (σ:Type) (V:σ→World),Nonempty σ∧Hid (∀ s,C (V s))∧Hid (∀ w,C w→∃ s,w=V s) :=
  ⟨{w // C w},Subtype.val,h.elim fun w hw=>⟨⟨w,hw⟩⟩,fun s=>s.2,fun w hw=>⟨⟨w,hw⟩,rfl⟩⟩
end Go.Proofs.YtfjekhmnjfcbeaaGreat
