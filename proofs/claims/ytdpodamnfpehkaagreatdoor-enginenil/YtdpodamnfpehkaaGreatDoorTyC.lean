import Derived.Test.YtdpodamnfpehkaaGreatDoorHrV
import Derived.Test.YtdpodamnfpehkaaGreatDoorTypesParse
import Derived.Test.YtdpodamnfpehkaaGreatDoorCurB
import Derived.Laws.IdiomStrings
set_option maxRecDepth 100000
namespace Go.Proofs.YtdpodamnfpehkaaGreatDoor
open Go.RowKit
set_option maxHeartbeats 1000000 in
theorem parseRef_any (s:ByteArray) (hs:s.size≤maxLen) (w:World) :
    Calls Tryz.prog 43 #[.string s] w fun e w'=>e=.returned (.tuple #[.agg #[.int .i64 (prfT s.data.toList).1,.string ⟨(prfT s.data.toList).2.toArray⟩],.int .i64 (prfE s.data.toList)])∧Below w.heap.size w w':=by
  have hlen:s.data.toList.length=s.size:=by simp
  have HP:Hid (∀ w,_):=parse_any s hs
  have HV:Hid (∀ w,_):=valid_any s hs
  have HH:Hid (∀ w,_):=hasPrefix_any s 91
  have hE:prfE s.data.toList=if s.data.toList.head?=some 91 then parE s.data.toList else if 2000<s.data.toList.length then 5 else if validL s.data.toList then 0 else 4:=by
    unfold prfE
    by_cases h1:s.data.toList.head?=some 91
    · by_cases h2:2000<s.data.toList.length
      · rw [if_pos h2,if_pos h1,parE,if_pos h2]
      · rw [if_neg h2,if_pos h1,if_pos h1]
    · rw [if_neg h1,if_neg h1]
  have hT:prfT s.data.toList=if s.data.toList.head?=some 91 then parT s.data.toList else if 2000<s.data.toList.length then (0,[]) else if validL s.data.toList then (0,s.data.toList) else (0,[]):=by
    unfold prfT
    by_cases h1:s.data.toList.head?=some 91
    · by_cases h2:2000<s.data.toList.length
      · rw [if_pos h2,if_pos h1,parT,parE,if_pos h2];rfl
      · rw [if_neg h2,if_pos h1,if_pos h1]
    · rw [if_neg h1,if_neg h1]
  unfold maxLen at hs
  by_cases hh:s.data.toList.head?=some 91
  · have h0:hd s 91=true:=by simp [hd,hh]
    rw [h0] at HH
    have HE:Hid (prfE s.data.toList=parE s.data.toList):=by rw [Hid,hE,if_pos hh]
    have HT:Hid (prfT s.data.toList=parT s.data.toList):=by rw [Hid,hT,if_pos hh]
    clear hlen HV hh hE hT h0
    generalize prfE s.data.toList=x at *
    generalize prfT s.data.toList=t at *
    generalize parE s.data.toList=pe at *
    generalize parT s.data.toList=pt at *
    go_enter Tryz.func43,Tryz.ntmps43
    go_wp2_with (first
      | (go_at_call 73;refine ((HH.out) _).mono ?_;rintro e w0 ⟨rfl,rfl⟩)
      | (go_at_call 74;refine ((HP.out) _).mono ?_;rintro e w1 ⟨rfl,hb1⟩;have hr0:=hb1.cell (p:=⟨w.heap.size,0,none⟩) (by simp);have hr1:=hb1.cell (p:=⟨w.heap.size,1,none⟩) (by simp);have hf0:=hb1.frozen (p:=⟨w.heap.size,0,none⟩) (by simp);have hf1:=hb1.frozen (p:=⟨w.heap.size,1,none⟩) (by simp)))
    refine bodyPost_ret (v:=.tuple #[.agg #[.int .i64 pt.1,.string ⟨pt.2.toArray⟩],.int .i64 pe]) (by simp [results,Tryz.results43,go_sem, *]) rfl ⟨?_,?_⟩
    · rw [HT.out,HE.out]
    · have hb9:Below w.heap.size w w1:=Below.step ((Below.refl _ _).alloc (Nat.le_refl _) _) hb1
      exact (hb9.setCell (Nat.le_refl _) _).setCell (Nat.le_refl _) _
  · have h0:hd s 91=false:=by simp [hd,hh]
    rw [h0] at HH
    by_cases hbig:2000<s.size
    · have HE:Hid (prfE s.data.toList=5):=by rw [Hid,hE,if_neg hh,if_pos (by rw [hlen];exact hbig)]
      have HT:Hid (prfT s.data.toList=(0,[])):=by rw [Hid,hT,if_neg hh,if_pos (by rw [hlen];exact hbig)]
      clear hlen HV hh hE hT h0 HP
      generalize prfE s.data.toList=x at *
      generalize prfT s.data.toList=t at *
      go_enter Tryz.func43,Tryz.ntmps43
      go_wp2_with (go_at_call 73;refine ((HH.out) _).mono ?_;rintro e w0 ⟨rfl,rfl⟩)
      refine bodyPost_ret (v:=.tuple #[.agg #[.int .i64 0,.string ⟨#[]⟩],.int .i64 5]) (by simp [results,Tryz.results43,go_sem, *]) rfl ⟨?_,?_⟩
      · rw [HT.out,HE.out];rfl
      · exact (Below.refl _ _).alloc (Nat.le_refl _) _
    · have hng:¬ 2000<s.data.toList.length:=by rw [hlen];exact hbig
      cases hv:validL s.data.toList with
      | true =>
        have HE:Hid (prfE s.data.toList=0):=by rw [Hid,hE,if_neg hh,if_neg hng,hv];rfl
        have HT:Hid (prfT s.data.toList=(0,s.data.toList)):=by rw [Hid,hT,if_neg hh,if_neg hng,hv];rfl
        rw [hv] at HV
        clear hlen HP hh hng hv hE hT h0
        generalize prfE s.data.toList=x at *
        generalize prfT s.data.toList=t at *
        go_enter Tryz.func43,Tryz.ntmps43
        go_wp2_with (first
          | (go_at_call 73;refine ((HH.out) _).mono ?_;rintro e w0 ⟨rfl,rfl⟩)
          | (go_at_call 75;refine ((HV.out) _).mono ?_;rintro e w1 ⟨rfl,hb1⟩;have hr0:=hb1.cell (p:=⟨w.heap.size,0,none⟩) (by simp);have hr1:=hb1.cell (p:=⟨w.heap.size,1,none⟩) (by simp);have hf0:=hb1.frozen (p:=⟨w.heap.size,0,none⟩) (by simp);have hf1:=hb1.frozen (p:=⟨w.heap.size,1,none⟩) (by simp)))
        refine bodyPost_ret (v:=.tuple #[.agg #[.int .i64 0,.string s],.int .i64 0]) (by simp [results,Tryz.results43,go_sem, *]) rfl ⟨?_,?_⟩
        · rw [HT.out,HE.out];rfl
        · have hb9:Below w.heap.size w w1:=Below.step ((Below.refl _ _).alloc (Nat.le_refl _) _) hb1
          exact (hb9.setCell (Nat.le_refl _) _).setCell (Nat.le_refl _) _
      | false =>
        have HE:Hid (prfE s.data.toList=4):=by rw [Hid,hE,if_neg hh,if_neg hng,hv];rfl
        have HT:Hid (prfT s.data.toList=(0,[])):=by rw [Hid,hT,if_neg hh,if_neg hng,hv];rfl
        rw [hv] at HV
        clear hlen HP hh hng hv hE hT h0
        generalize prfE s.data.toList=x at *
        generalize prfT s.data.toList=t at *
        go_enter Tryz.func43,Tryz.ntmps43
        go_wp2_with (first
          | (go_at_call 73;refine ((HH.out) _).mono ?_;rintro e w0 ⟨rfl,rfl⟩)
          | (go_at_call 75;refine ((HV.out) _).mono ?_;rintro e w1 ⟨rfl,hb1⟩;have hr0:=hb1.cell (p:=⟨w.heap.size,0,none⟩) (by simp);have hr1:=hb1.cell (p:=⟨w.heap.size,1,none⟩) (by simp);have hf0:=hb1.frozen (p:=⟨w.heap.size,0,none⟩) (by simp);have hf1:=hb1.frozen (p:=⟨w.heap.size,1,none⟩) (by simp)))
        refine bodyPost_ret (v:=.tuple #[.agg #[.int .i64 0,.string ⟨#[]⟩],.int .i64 4]) (by simp [results,Tryz.results43,go_sem, *]) rfl ⟨?_,?_⟩
        · rw [HT.out,HE.out];rfl
        · have hb9:Below w.heap.size w w1:=Below.step ((Below.refl _ _).alloc (Nat.le_refl _) _) hb1
          exact (hb9.setCell (Nat.le_refl _) _).setCell (Nat.le_refl _) _
set_option maxHeartbeats 400000 in
theorem tyCheck_any (d:Int) (s:ByteArray) (hs:s.size≤maxLen) (w:World) :
    Calls Tryz.prog 214 #[.agg #[.int .i64 d,.string s]] w fun e w'=>e=.returned (.int .i64 (chkI (sndB d s.data.toList)))∧Below w.heap.size w w':=by
  have HV:Hid (∀ w,_):=valid_any s hs
  have HD:Hid (∀ w,_):=isDeep_any d s
  have HB:Hid (sndB d s.data.toList=(decide (0≤d)&&decide (d≤255)&&(s.toList.isEmpty||validL s.data.toList))):=by rw [Hid,Lib.toList_data];rfl
  generalize validL s.data.toList=b at *
  generalize sndB d s.data.toList=r at *
  by_cases h1:0≤d
  · have h1':¬ d<0:=by omega
    by_cases h2:d≤255
    · have h3:decide (255<d)=false:=by simp;omega
      rw [h3] at HD
      clear h3
      cases he:s.toList.isEmpty with
      | true =>
        have HR:Hid (r=true):=by rw [Hid,HB.out,he];simp [h1,h2]
        go_enter Tryz.func214,Tryz.ntmps214
        go_wp2_with (go_at_call 48;refine ((HD.out) _).mono ?_;rintro e w0 ⟨rfl,hb0⟩;have hc0:=hb0.cell (p:=⟨w.heap.size,0,none⟩) (by simp);have hc1:=hb0.cell (p:=⟨w.heap.size,1,none⟩) (by simp))
        go_ret
        exact ⟨ret_int (by rw [HR.out];rfl),Below.step ((Below.refl _ _).alloc (Nat.le_refl _) _) (by assumption)⟩
      | false =>
        have HR:Hid (r=b):=by rw [Hid,HB.out,he];simp [h1,h2]
        cases b
        all_goals
          go_enter Tryz.func214,Tryz.ntmps214
          go_wp2_with (first
            | (go_at_call 48;refine ((HD.out) _).mono ?_;rintro e w0 ⟨rfl,hb0⟩;have hc0:=hb0.cell (p:=⟨w.heap.size,0,none⟩) (by simp);have hc1:=hb0.cell (p:=⟨w.heap.size,1,none⟩) (by simp))
            | (go_at_call 75;refine ((HV.out) _).mono ?_;rintro e w1 ⟨rfl,hb1⟩))
          go_ret
          exact ⟨ret_int (by rw [HR.out];rfl),Below.step (Below.step ((Below.refl _ _).alloc (Nat.le_refl _) _) hb0) hb1⟩
    · have HR:Hid (r=false):=by rw [Hid,HB.out];simp [h2]
      have h3:decide (255<d)=true:=by simp;omega
      rw [h3] at HD
      clear h3
      go_enter Tryz.func214,Tryz.ntmps214
      go_wp2_with (go_at_call 48;refine ((HD.out) _).mono ?_;rintro e w0 ⟨rfl,hb0⟩;have hc0:=hb0.cell (p:=⟨w.heap.size,0,none⟩) (by simp);have hc1:=hb0.cell (p:=⟨w.heap.size,1,none⟩) (by simp))
      go_ret
      exact ⟨ret_int (by rw [HR.out];rfl),Below.step ((Below.refl _ _).alloc (Nat.le_refl _) _) (by assumption)⟩
  · have HR:Hid (r=false):=by rw [Hid,HB.out];simp [h1]
    have h1':d<0:=by omega
    go_enter Tryz.func214,Tryz.ntmps214
    go_wp2
    go_ret
    exact ⟨ret_int (by rw [HR.out];rfl),(Below.refl _ _).alloc (Nat.le_refl _) _⟩
end Go.Proofs.YtdpodamnfpehkaaGreatDoor
