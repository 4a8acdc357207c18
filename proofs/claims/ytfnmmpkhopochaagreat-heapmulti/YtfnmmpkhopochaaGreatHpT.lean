import Derived.Test.YtfnmmpkhopochaaGreatDescA
import Derived.Test.YtfnmmpkhopochaaGreatCurD
import Derived.Test.YtfnmmpkhopochaaGreatCurA
import Derived.Laws.IdiomStrings
set_option maxRecDepth 100000
namespace Go.Proofs.YtfnmmpkhopochaaGreat
open Go.RowKit
set_option maxHeartbeats 1000000 in
theorem parseRef_any (s:ByteArray) (hs:s.size≤maxLen) (w:World) :
    Calls Tryz.prog 195 #[.string s] w fun e w'=>e=.returned (.tuple #[.agg #[.int .i64 (prfT s.data.toList).1,.string ⟨(prfT s.data.toList).2.toArray⟩],.int .i64 (prfE s.data.toList)])∧Below w.heap.size w w':=by
  have hlen:s.data.toList.length=s.size:=by simp
  have HP:Hid (∀ w,_):=parse_any s hs
  have HV:Hid (∀ w,_):=valid_any s hs
  have HH:Hid (∀ w,_):=hasPrefix_any s 91
  have hE:prfE s.data.toList=if s.data.toList.head?=some 91 then parE s.data.toList else if 2000<s.data.toList.length then 5 else if validL s.data.toList then 0 else 4:=by
    unfold prfE
    by_cases h1:s.data.toList.head?=some 91
    · by_cases h2:2000<s.data.toList.length
      · rw [if_pos h2,if_pos h1,parE,if_pos h2]
      · rw [if_neg h2,if_pos h1,if_pos h1]
    · rw [if_neg h1,if_neg h1]
  have hT:prfT s.data.toList=if s.data.toList.head?=some 91 then parT s.data.toList else if 2000<s.data.toList.length then (0,[]) else if validL s.data.toList then (0,s.data.toList) else (0,[]):=by
    unfold prfT
    by_cases h1:s.data.toList.head?=some 91
    · by_cases h2:2000<s.data.toList.length
      · rw [if_pos h2,if_pos h1,parT,parE,if_pos h2];rfl
      · rw [if_neg h2,if_pos h1,if_pos h1]
    · rw [if_neg h1,if_neg h1]
  unfold maxLen at hs
  by_cases hh:s.data.toList.head?=some 91
  · have h0:hd s 91=true:=by simp [hd,hh]
    rw [h0] at HH
    have HE:Hid (prfE s.data.toList=parE s.data.toList):=by rw [Hid,hE,if_pos hh]
    have HT:Hid (prfT s.data.toList=parT s.data.toList):=by rw [Hid,hT,if_pos hh]
    clear hlen HV hh hE hT h0
    generalize prfE s.data.toList=x at *
    generalize prfT s.data.toList=t at *
    generalize parE s.data.toList=pe at *
    generalize parT s.data.toList=pt at *
    go_enter Tryz.func195,Tryz.ntmps195
    go_wp2_with (first
      | (go_at_call 179;refine ((HH.out) _).mono ?_;rintro e w0 ⟨rfl,rfl⟩)
      | (go_at_call 196;refine ((HP.out) _).mono ?_;rintro e w1 ⟨rfl,hb1⟩;have hr0:=hb1.cell (p:=⟨w.heap.size,0,none⟩) (by simp);have hr1:=hb1.cell (p:=⟨w.heap.size,1,none⟩) (by simp);have hf0:=hb1.frozen (p:=⟨w.heap.size,0,none⟩) (by simp);have hf1:=hb1.frozen (p:=⟨w.heap.size,1,none⟩) (by simp)))
    refine bodyPost_ret (v:=.tuple #[.agg #[.int .i64 pt.1,.string ⟨pt.2.toArray⟩],.int .i64 pe]) (by simp [results,Tryz.results195,go_sem, *]) rfl ⟨?_,?_⟩
    · rw [HT.out,HE.out]
    · have hb9:Below w.heap.size w w1:=Below.step ((Below.refl _ _).alloc (Nat.le_refl _) _) hb1
      exact (hb9.setCell (Nat.le_refl _) _).setCell (Nat.le_refl _) _
  · have h0:hd s 91=false:=by simp [hd,hh]
    rw [h0] at HH
    by_cases hbig:2000<s.size
    · have HE:Hid (prfE s.data.toList=5):=by rw [Hid,hE,if_neg hh,if_pos (by rw [hlen];exact hbig)]
      have HT:Hid (prfT s.data.toList=(0,[])):=by rw [Hid,hT,if_neg hh,if_pos (by rw [hlen];exact hbig)]
      clear hlen HV hh hE hT h0 HP
      generalize prfE s.data.toList=x at *
      generalize prfT s.data.toList=t at *
      go_enter Tryz.func195,Tryz.ntmps195
      go_wp2_with (go_at_call 179;refine ((HH.out) _).mono ?_;rintro e w0 ⟨rfl,rfl⟩)
      refine bodyPost_ret (v:=.tuple #[.agg #[.int .i64 0,.string ⟨#[]⟩],.int .i64 5]) (by simp [results,Tryz.results195,go_sem, *]) rfl ⟨?_,?_⟩
      · rw [HT.out,HE.out];rfl
      · exact (Below.refl _ _).alloc (Nat.le_refl _) _
    · have hng:¬ 2000<s.data.toList.length:=by rw [hlen];exact hbig
      cases hv:validL s.data.toList with
      | true =>
        have HE:Hid (prfE s.data.toList=0):=by rw [Hid,hE,if_neg hh,if_neg hng,hv];rfl
        have HT:Hid (prfT s.data.toList=(0,s.data.toList)):=by rw [Hid,hT,if_neg hh,if_neg hng,hv];rfl
        rw [hv] at HV
        clear hlen HP hh hng hv hE hT h0
        generalize prfE s.data.toList=x at *
        generalize prfT s.data.toList=t at *
        go_enter Tryz.func195,Tryz.ntmps195
        go_wp2_with (first
          | (go_at_call 179;refine ((HH.out) _).mono ?_;rintro e w0 ⟨rfl,rfl⟩)
          | (go_at_call 102;refine ((HV.out) _).mono ?_;rintro e w1 ⟨rfl,hb1⟩;have hr0:=hb1.cell (p:=⟨w.heap.size,0,none⟩) (by simp);have hr1:=hb1.cell (p:=⟨w.heap.size,1,none⟩) (by simp);have hf0:=hb1.frozen (p:=⟨w.heap.size,0,none⟩) (by simp);have hf1:=hb1.frozen (p:=⟨w.heap.size,1,none⟩) (by simp)))
        refine bodyPost_ret (v:=.tuple #[.agg #[.int .i64 0,.string s],.int .i64 0]) (by simp [results,Tryz.results195,go_sem, *]) rfl ⟨?_,?_⟩
        · rw [HT.out,HE.out];rfl
        · have hb9:Below w.heap.size w w1:=Below.step ((Below.refl _ _).alloc (Nat.le_refl _) _) hb1
          exact (hb9.setCell (Nat.le_refl _) _).setCell (Nat.le_refl _) _
      | false =>
        have HE:Hid (prfE s.data.toList=4):=by rw [Hid,hE,if_neg hh,if_neg hng,hv];rfl
        have HT:Hid (prfT s.data.toList=(0,[])):=by rw [Hid,hT,if_neg hh,if_neg hng,hv];rfl
        rw [hv] at HV
        clear hlen HP hh hng hv hE hT h0
        generalize prfE s.data.toList=x at *
        generalize prfT s.data.toList=t at *
        go_enter Tryz.func195,Tryz.ntmps195
        go_wp2_with (first
          | (go_at_call 179;refine ((HH.out) _).mono ?_;rintro e w0 ⟨rfl,rfl⟩)
          | (go_at_call 102;refine ((HV.out) _).mono ?_;rintro e w1 ⟨rfl,hb1⟩;have hr0:=hb1.cell (p:=⟨w.heap.size,0,none⟩) (by simp);have hr1:=hb1.cell (p:=⟨w.heap.size,1,none⟩) (by simp);have hf0:=hb1.frozen (p:=⟨w.heap.size,0,none⟩) (by simp);have hf1:=hb1.frozen (p:=⟨w.heap.size,1,none⟩) (by simp)))
        refine bodyPost_ret (v:=.tuple #[.agg #[.int .i64 0,.string ⟨#[]⟩],.int .i64 4]) (by simp [results,Tryz.results195,go_sem, *]) rfl ⟨?_,?_⟩
        · rw [HT.out,HE.out];rfl
        · have hb9:Below w.heap.size w w1:=Below.step ((Below.refl _ _).alloc (Nat.le_refl _) _) hb1
          exact (hb9.setCell (Nat.le_refl _) _).setCell (Nat.le_refl _) _
set_option maxHeartbeats 400000 in
theorem tySame_any (d1 d2:Int) (s1 s2:ByteArray) (w:World) :
    Calls Tryz.prog 23 #[.agg #[.int .i64 d1,.string s1],.agg #[.int .i64 d2,.string s2]] w fun e w'=>e=.returned (.bool (decide (d1=d2)&&decide (s1=s2)))∧Below w.heap.size w w':=by
  have hb:(s1.toList == s2.toList)=decide (s1=s2):=by
    rw [Bool.eq_iff_iff]
    simp only [beq_iff_eq,decide_eq_true_eq]
    exact ⟨fun h=>bytes_ext (by rw [← Lib.toList_data,← Lib.toList_data,h]),fun h=>by rw [h]⟩
  have hd:(d1 == d2)=decide (d1=d2):=by rw [Bool.eq_iff_iff];simp
  have HB:Hid _:=hb
  have HD:Hid _:=hd
  clear hb hd
  cases he:(d1 == d2) with
  | false =>
    go_enter Tryz.func23,Tryz.ntmps23
    go_wp2
    go_ret
    exact ⟨ret_bool (by rw [← HD.out,he];simp),((Below.refl _ _).alloc (Nat.le_refl _) _).alloc (by simp) _⟩
  | true =>
    have he':d1=d2:=by simpa using he
    subst he'
    clear he
    go_enter Tryz.func23,Tryz.ntmps23
    go_wp2
    go_ret
    exact ⟨ret_bool (by rw [← HB.out]),((Below.refl _ _).alloc (Nat.le_refl _) _).alloc (by simp) _⟩
set_option maxHeartbeats 400000 in
theorem tyCheck_any (d:Int) (s:ByteArray) (hs:s.size≤maxLen) (w:World) :
    Calls Tryz.prog 70 #[.agg #[.int .i64 d,.string s]] w fun e w'=>e=.returned (.int .i64 (chkI (sndB d s.data.toList)))∧Below w.heap.size w w':=by
  have HV:Hid (∀ w,_):=valid_any s hs
  have HD:Hid (∀ w,_):=isDeep_any d s
  have HB:Hid (sndB d s.data.toList=(decide (0≤d)&&decide (d≤255)&&(s.toList.isEmpty||validL s.data.toList))):=by rw [Hid,Lib.toList_data];rfl
  generalize validL s.data.toList=b at *
  generalize sndB d s.data.toList=r at *
  by_cases h1:0≤d
  · have h1':¬ d<0:=by omega
    by_cases h2:d≤255
    · have h3:decide (255<d)=false:=by simp;omega
      rw [h3] at HD
      clear h3
      cases he:s.toList.isEmpty with
      | true =>
        have HR:Hid (r=true):=by rw [Hid,HB.out,he];simp [h1,h2]
        go_enter Tryz.func70,Tryz.ntmps70
        go_wp2_with (go_at_call 101;refine ((HD.out) _).mono ?_;rintro e w0 ⟨rfl,hb0⟩;have hc0:=hb0.cell (p:=⟨w.heap.size,0,none⟩) (by simp);have hc1:=hb0.cell (p:=⟨w.heap.size,1,none⟩) (by simp))
        go_ret
        exact ⟨ret_int (by rw [HR.out];rfl),Below.step ((Below.refl _ _).alloc (Nat.le_refl _) _) (by assumption)⟩
      | false =>
        have HR:Hid (r=b):=by rw [Hid,HB.out,he];simp [h1,h2]
        cases b
        all_goals
          go_enter Tryz.func70,Tryz.ntmps70
          go_wp2_with (first
            | (go_at_call 101;refine ((HD.out) _).mono ?_;rintro e w0 ⟨rfl,hb0⟩;have hc0:=hb0.cell (p:=⟨w.heap.size,0,none⟩) (by simp);have hc1:=hb0.cell (p:=⟨w.heap.size,1,none⟩) (by simp))
            | (go_at_call 102;refine ((HV.out) _).mono ?_;rintro e w1 ⟨rfl,hb1⟩))
          go_ret
          exact ⟨ret_int (by rw [HR.out];rfl),Below.step (Below.step ((Below.refl _ _).alloc (Nat.le_refl _) _) hb0) hb1⟩
    · have HR:Hid (r=false):=by rw [Hid,HB.out];simp [h2]
      have h3:decide (255<d)=true:=by simp;omega
      rw [h3] at HD
      clear h3
      go_enter Tryz.func70,Tryz.ntmps70
      go_wp2_with (go_at_call 101;refine ((HD.out) _).mono ?_;rintro e w0 ⟨rfl,hb0⟩;have hc0:=hb0.cell (p:=⟨w.heap.size,0,none⟩) (by simp);have hc1:=hb0.cell (p:=⟨w.heap.size,1,none⟩) (by simp))
      go_ret
      exact ⟨ret_int (by rw [HR.out];rfl),Below.step ((Below.refl _ _).alloc (Nat.le_refl _) _) (by assumption)⟩
  · have HR:Hid (r=false):=by rw [Hid,HB.out];simp [h1]
    have h1':d<0:=by omega
    go_enter Tryz.func70,Tryz.ntmps70
    go_wp2
    go_ret
    exact ⟨ret_int (by rw [HR.out];rfl),(Below.refl _ _).alloc (Nat.le_refl _) _⟩
theorem arrayOf_any (d:Int) (s:ByteArray) (hs:s.size≤maxLen) (w:World) :
    Calls Tryz.prog 38 #[.agg #[.int .i64 d,.string s]] w fun e w'=>e=.returned (.tuple #[.agg #[.int .i64 (outD (arrE d s.data.toList) (d+1)),.string (outS (arrE d s.data.toList) s)],.int .i64 (arrE d s.data.toList)])∧Below w.heap.size w w':=by
  have HC:Hid (∀ w,_):=tyCheck_any d s hs
  have HQ:Hid (arrE d s.data.toList=if sndB d s.data.toList then (if d=255 then 5 else 0) else 1):=rfl
  generalize arrE d s.data.toList=x at *
  cases hv:sndB d s.data.toList with
  | false =>
    rw [hv] at HC HQ
    have h1:chkI false=1:=rfl
    rw [h1] at HC
    have HR:Hid (x=1):=HQ
    clear hv h1 HQ
    go_enter Tryz.func38,Tryz.ntmps38
    go_wp2_with (first
      | (go_at_call 70;refine ((HC.out) _).mono ?_;rintro e w1 ⟨rfl,hb1⟩;have hc0:=hb1.cell (p:=⟨w.heap.size,0,none⟩) (by first|(simp;done)|(simp;omega));have hc1:=hb1.cell (p:=⟨w.heap.size,1,none⟩) (by first|(simp;done)|(simp;omega));have hr0:=hb1.cell (p:=⟨w.heap.size+1,0,none⟩) (by first|(simp;done)|(simp;omega));have hr1:=hb1.cell (p:=⟨w.heap.size+1,1,none⟩) (by first|(simp;done)|(simp;omega));have hf0:=hb1.frozen (p:=⟨w.heap.size+1,0,none⟩) (by first|(simp;done)|(simp;omega));have hf1:=hb1.frozen (p:=⟨w.heap.size+1,1,none⟩) (by first|(simp;done)|(simp;omega));have hz1:=hb1.size))
    refine bodyPost_ret (v:=.tuple #[.agg #[.int .i64 0,.string ⟨#[]⟩],.int .i64 1]) (by simp [results,Tryz.results38,go_sem, *]) rfl ⟨?_,?_⟩
    · rw [HR.out];rfl
    · have hb9:Below w.heap.size w w1:=Below.step (((Below.refl _ _).alloc (Nat.le_refl _) _).alloc (by simp) _) hb1
      exact (hb9.setCell (by show w.heap.size≤w.heap.size+1;omega) _).setCell (by show w.heap.size≤w.heap.size+1;omega) _
  | true =>
    obtain ⟨k,rfl,hk⟩:=snd_nat hv
    rw [hv] at HC HQ
    have h1:chkI true=0:=rfl
    rw [h1] at HC
    clear hv h1
    by_cases h2:(k:Int)=255
    · have HR:Hid (x=5):=by rw [Hid,HQ.out,if_pos rfl,if_pos h2]
      have h3:((k:Int) == 255)=true:=by simpa using h2
      clear HQ h2
      go_enter Tryz.func38,Tryz.ntmps38
      go_wp2_with (first
        | (go_at_call 70;refine ((HC.out) _).mono ?_;rintro e w1 ⟨rfl,hb1⟩;have hc0:=hb1.cell (p:=⟨w.heap.size,0,none⟩) (by first|(simp;done)|(simp;omega));have hc1:=hb1.cell (p:=⟨w.heap.size,1,none⟩) (by first|(simp;done)|(simp;omega));have hr0:=hb1.cell (p:=⟨w.heap.size+1,0,none⟩) (by first|(simp;done)|(simp;omega));have hr1:=hb1.cell (p:=⟨w.heap.size+1,1,none⟩) (by first|(simp;done)|(simp;omega));have hf0:=hb1.frozen (p:=⟨w.heap.size+1,0,none⟩) (by first|(simp;done)|(simp;omega));have hf1:=hb1.frozen (p:=⟨w.heap.size+1,1,none⟩) (by first|(simp;done)|(simp;omega));have hz1:=hb1.size))
      refine bodyPost_ret (v:=.tuple #[.agg #[.int .i64 0,.string ⟨#[]⟩],.int .i64 5]) (by simp [results,Tryz.results38,go_sem, *]) rfl ⟨?_,?_⟩
      · rw [HR.out];rfl
      · have hb9:Below w.heap.size w w1:=Below.step (((Below.refl _ _).alloc (Nat.le_refl _) _).alloc (by simp) _) hb1
        exact (hb9.setCell (by show w.heap.size≤w.heap.size+1;omega) _).setCell (by show w.heap.size≤w.heap.size+1;omega) _
    · have HR:Hid (x=0):=by rw [Hid,HQ.out,if_pos rfl,if_neg h2]
      have h3:((k:Int) == 255)=false:=by simpa using h2
      have h4:(k:Int)≠255:=h2
      clear HQ h2
      go_enter Tryz.func38,Tryz.ntmps38
      go_wp2_with (first
        | (go_at_call 70;refine ((HC.out) _).mono ?_;rintro e w1 ⟨rfl,hb1⟩;have hc0:=hb1.cell (p:=⟨w.heap.size,0,none⟩) (by first|(simp;done)|(simp;omega));have hc1:=hb1.cell (p:=⟨w.heap.size,1,none⟩) (by first|(simp;done)|(simp;omega));have hr0:=hb1.cell (p:=⟨w.heap.size+1,0,none⟩) (by first|(simp;done)|(simp;omega));have hr1:=hb1.cell (p:=⟨w.heap.size+1,1,none⟩) (by first|(simp;done)|(simp;omega));have hf0:=hb1.frozen (p:=⟨w.heap.size+1,0,none⟩) (by first|(simp;done)|(simp;omega));have hf1:=hb1.frozen (p:=⟨w.heap.size+1,1,none⟩) (by first|(simp;done)|(simp;omega));have hz1:=hb1.size))
      refine bodyPost_ret (v:=.tuple #[.agg #[.int .i64 ((k:Int)+1),.string s],.int .i64 0]) (by simp [results,Tryz.results38,go_sem, *]) rfl ⟨?_,?_⟩
      · rw [HR.out];rfl
      · have hb9:Below w.heap.size w w1:=Below.step (((Below.refl _ _).alloc (Nat.le_refl _) _).alloc (by simp) _) hb1
        exact (hb9.setCell (by show w.heap.size≤w.heap.size+1;omega) _).setCell (by show w.heap.size≤w.heap.size+1;omega) _
theorem component_any (d:Int) (s:ByteArray) (hs:s.size≤maxLen) (w:World) :
    Calls Tryz.prog 75 #[.agg #[.int .i64 d,.string s]] w fun e w'=>e=.returned (.tuple #[.agg #[.int .i64 (outD (cmpE d s.data.toList) (d - 1)),.string (outS (cmpE d s.data.toList) s)],.int .i64 (cmpE d s.data.toList)])∧Below w.heap.size w w':=by
  have HC:Hid (∀ w,_):=tyCheck_any d s hs
  have HQ:Hid (cmpE d s.data.toList=if sndB d s.data.toList then (if d=0 then 6 else 0) else 1):=rfl
  generalize cmpE d s.data.toList=x at *
  cases hv:sndB d s.data.toList with
  | false =>
    rw [hv] at HC HQ
    have h1:chkI false=1:=rfl
    rw [h1] at HC
    have HR:Hid (x=1):=HQ
    clear hv h1 HQ
    go_enter Tryz.func75,Tryz.ntmps75
    go_wp2_with (first
      | (go_at_call 70;refine ((HC.out) _).mono ?_;rintro e w1 ⟨rfl,hb1⟩;have hc0:=hb1.cell (p:=⟨w.heap.size,0,none⟩) (by first|(simp;done)|(simp;omega));have hc1:=hb1.cell (p:=⟨w.heap.size,1,none⟩) (by first|(simp;done)|(simp;omega));have hr0:=hb1.cell (p:=⟨w.heap.size+1,0,none⟩) (by first|(simp;done)|(simp;omega));have hr1:=hb1.cell (p:=⟨w.heap.size+1,1,none⟩) (by first|(simp;done)|(simp;omega));have hf0:=hb1.frozen (p:=⟨w.heap.size+1,0,none⟩) (by first|(simp;done)|(simp;omega));have hf1:=hb1.frozen (p:=⟨w.heap.size+1,1,none⟩) (by first|(simp;done)|(simp;omega));have hz1:=hb1.size))
    refine bodyPost_ret (v:=.tuple #[.agg #[.int .i64 0,.string ⟨#[]⟩],.int .i64 1]) (by simp [results,Tryz.results75,go_sem, *]) rfl ⟨?_,?_⟩
    · rw [HR.out];rfl
    · have hb9:Below w.heap.size w w1:=Below.step (((Below.refl _ _).alloc (Nat.le_refl _) _).alloc (by simp) _) hb1
      exact (hb9.setCell (by show w.heap.size≤w.heap.size+1;omega) _).setCell (by show w.heap.size≤w.heap.size+1;omega) _
  | true =>
    obtain ⟨k,rfl,hk⟩:=snd_nat hv
    rw [hv] at HC HQ
    have h1:chkI true=0:=rfl
    rw [h1] at HC
    clear hv h1
    by_cases h2:(k:Int)=0
    · have HR:Hid (x=6):=by rw [Hid,HQ.out,if_pos rfl,if_pos h2]
      have h3:((k:Int) == 0)=true:=by simpa using h2
      clear HQ h2
      go_enter Tryz.func75,Tryz.ntmps75
      go_wp2_with (first
        | (go_at_call 70;refine ((HC.out) _).mono ?_;rintro e w1 ⟨rfl,hb1⟩;have hc0:=hb1.cell (p:=⟨w.heap.size,0,none⟩) (by first|(simp;done)|(simp;omega));have hc1:=hb1.cell (p:=⟨w.heap.size,1,none⟩) (by first|(simp;done)|(simp;omega));have hr0:=hb1.cell (p:=⟨w.heap.size+1,0,none⟩) (by first|(simp;done)|(simp;omega));have hr1:=hb1.cell (p:=⟨w.heap.size+1,1,none⟩) (by first|(simp;done)|(simp;omega));have hf0:=hb1.frozen (p:=⟨w.heap.size+1,0,none⟩) (by first|(simp;done)|(simp;omega));have hf1:=hb1.frozen (p:=⟨w.heap.size+1,1,none⟩) (by first|(simp;done)|(simp;omega));have hz1:=hb1.size))
      refine bodyPost_ret (v:=.tuple #[.agg #[.int .i64 0,.string ⟨#[]⟩],.int .i64 6]) (by simp [results,Tryz.results75,go_sem, *]) rfl ⟨?_,?_⟩
      · rw [HR.out];rfl
      · have hb9:Below w.heap.size w w1:=Below.step (((Below.refl _ _).alloc (Nat.le_refl _) _).alloc (by simp) _) hb1
        exact (hb9.setCell (by show w.heap.size≤w.heap.size+1;omega) _).setCell (by show w.heap.size≤w.heap.size+1;omega) _
    · have HR:Hid (x=0):=by rw [Hid,HQ.out,if_pos rfl,if_neg h2]
      have h3:((k:Int) == 0)=false:=by simpa using h2
      have h4:(k:Int)≠0:=h2
      clear HQ h2
      go_enter Tryz.func75,Tryz.ntmps75
      go_wp2_with (first
        | (go_at_call 70;refine ((HC.out) _).mono ?_;rintro e w1 ⟨rfl,hb1⟩;have hc0:=hb1.cell (p:=⟨w.heap.size,0,none⟩) (by first|(simp;done)|(simp;omega));have hc1:=hb1.cell (p:=⟨w.heap.size,1,none⟩) (by first|(simp;done)|(simp;omega));have hr0:=hb1.cell (p:=⟨w.heap.size+1,0,none⟩) (by first|(simp;done)|(simp;omega));have hr1:=hb1.cell (p:=⟨w.heap.size+1,1,none⟩) (by first|(simp;done)|(simp;omega));have hf0:=hb1.frozen (p:=⟨w.heap.size+1,0,none⟩) (by first|(simp;done)|(simp;omega));have hf1:=hb1.frozen (p:=⟨w.heap.size+1,1,none⟩) (by first|(simp;done)|(simp;omega));have hz1:=hb1.size))
      refine bodyPost_ret (v:=.tuple #[.agg #[.int .i64 ((k:Int) - 1),.string s],.int .i64 0]) (by simp [results,Tryz.results75,go_sem, *]) rfl ⟨?_,?_⟩
      · rw [HR.out];rfl
      · have hb9:Below w.heap.size w w1:=Below.step (((Below.refl _ _).alloc (Nat.le_refl _) _).alloc (by simp) _) hb1
        exact (hb9.setCell (by show w.heap.size≤w.heap.size+1;omega) _).setCell (by show w.heap.size≤w.heap.size+1;omega) _
end Go.Proofs.YtfnmmpkhopochaaGreat
