import Derived.Test.YtfnmmpkhopochaaGreatTyC
namespace Go.Proofs.YtfnmmpkhopochaaGreat
open Go.RowKit
theorem arrayOf_any (d:Int) (s:ByteArray) (hs:s.size≤maxLen) (w:World) :
    Calls Tryz.prog 38 #[.agg #[.int .i64 d,.string s]] w fun e w'=>e=.returned (.tuple #[.agg #[.int .i64 (outD (arrE d s.data.toList) (d+1)),.string (outS (arrE d s.data.toList) s)],.int .i64 (arrE d s.data.toList)])∧Below w.heap.size w w':=by
  have HC:Hid (∀ w,_):=tyCheck_any d s hs
  have HQ:Hid (arrE d s.data.toList=if sndB d s.data.toList then (if d=255 then 5 else 0) else 1):=rfl
  generalize arrE d s.data.toList=x at *
  cases hv:sndB d s.data.toList with
  | false =>
    rw [hv] at HC HQ
    have h1:chkI false=1:=rfl
    rw [h1] at HC
    have HR:Hid (x=1):=HQ
    clear hv h1 HQ
    go_enter Tryz.func38,Tryz.ntmps38
    go_wp2_with (first
      | (go_at_call 70;refine ((HC.out) _).mono ?_;rintro e w1 ⟨rfl,hb1⟩;have hc0:=hb1.cell (p:=⟨w.heap.size,0,none⟩) (by first|(simp;done)|(simp;omega));have hc1:=hb1.cell (p:=⟨w.heap.size,1,none⟩) (by first|(simp;done)|(simp;omega));have hr0:=hb1.cell (p:=⟨w.heap.size+1,0,none⟩) (by first|(simp;done)|(simp;omega));have hr1:=hb1.cell (p:=⟨w.heap.size+1,1,none⟩) (by first|(simp;done)|(simp;omega));have hf0:=hb1.frozen (p:=⟨w.heap.size+1,0,none⟩) (by first|(simp;done)|(simp;omega));have hf1:=hb1.frozen (p:=⟨w.heap.size+1,1,none⟩) (by first|(simp;done)|(simp;omega));have hz1:=hb1.size))
    refine bodyPost_ret (v:=.tuple #[.agg #[.int .i64 0,.string ⟨#[]⟩],.int .i64 1]) (by simp [results,Tryz.results38,go_sem, *]) rfl ⟨?_,?_⟩
    · rw [HR.out];rfl
    · have hb9:Below w.heap.size w w1:=Below.step (((Below.refl _ _).alloc (Nat.le_refl _) _).alloc (by simp) _) hb1
      exact (hb9.setCell (by show w.heap.size≤w.heap.size+1;omega) _).setCell (by show w.heap.size≤w.heap.size+1;omega) _
  | true =>
    obtain ⟨k,rfl,hk⟩:=snd_nat hv
    rw [hv] at HC HQ
    have h1:chkI true=0:=rfl
    rw [h1] at HC
    clear hv h1
    by_cases h2:(k:Int)=255
    · have HR:Hid (x=5):=by rw [Hid,HQ.out,if_pos rfl,if_pos h2]
      have h3:((k:Int) == 255)=true:=by simpa using h2
      clear HQ h2
      go_enter Tryz.func38,Tryz.ntmps38
      go_wp2_with (first
        | (go_at_call 70;refine ((HC.out) _).mono ?_;rintro e w1 ⟨rfl,hb1⟩;have hc0:=hb1.cell (p:=⟨w.heap.size,0,none⟩) (by first|(simp;done)|(simp;omega));have hc1:=hb1.cell (p:=⟨w.heap.size,1,none⟩) (by first|(simp;done)|(simp;omega));have hr0:=hb1.cell (p:=⟨w.heap.size+1,0,none⟩) (by first|(simp;done)|(simp;omega));have hr1:=hb1.cell (p:=⟨w.heap.size+1,1,none⟩) (by first|(simp;done)|(simp;omega));have hf0:=hb1.frozen (p:=⟨w.heap.size+1,0,none⟩) (by first|(simp;done)|(simp;omega));have hf1:=hb1.frozen (p:=⟨w.heap.size+1,1,none⟩) (by first|(simp;done)|(simp;omega));have hz1:=hb1.size))
      refine bodyPost_ret (v:=.tuple #[.agg #[.int .i64 0,.string ⟨#[]⟩],.int .i64 5]) (by simp [results,Tryz.results38,go_sem, *]) rfl ⟨?_,?_⟩
      · rw [HR.out];rfl
      · have hb9:Below w.heap.size w w1:=Below.step (((Below.refl _ _).alloc (Nat.le_refl _) _).alloc (by simp) _) hb1
        exact (hb9.setCell (by show w.heap.size≤w.heap.size+1;omega) _).setCell (by show w.heap.size≤w.heap.size+1;omega) _
    · have HR:Hid (x=0):=by rw [Hid,HQ.out,if_pos rfl,if_neg h2]
      have h3:((k:Int) == 255)=false:=by simpa using h2
      have h4:(k:Int)≠255:=h2
      clear HQ h2
      go_enter Tryz.func38,Tryz.ntmps38
      go_wp2_with (first
        | (go_at_call 70;refine ((HC.out) _).mono ?_;rintro e w1 ⟨rfl,hb1⟩;have hc0:=hb1.cell (p:=⟨w.heap.size,0,none⟩) (by first|(simp;done)|(simp;omega));have hc1:=hb1.cell (p:=⟨w.heap.size,1,none⟩) (by first|(simp;done)|(simp;omega));have hr0:=hb1.cell (p:=⟨w.heap.size+1,0,none⟩) (by first|(simp;done)|(simp;omega));have hr1:=hb1.cell (p:=⟨w.heap.size+1,1,none⟩) (by first|(simp;done)|(simp;omega));have hf0:=hb1.frozen (p:=⟨w.heap.size+1,0,none⟩) (by first|(simp;done)|(simp;omega));have hf1:=hb1.frozen (p:=⟨w.heap.size+1,1,none⟩) (by first|(simp;done)|(simp;omega));have hz1:=hb1.size))
      refine bodyPost_ret (v:=.tuple #[.agg #[.int .i64 ((k:Int)+1),.string s],.int .i64 0]) (by simp [results,Tryz.results38,go_sem, *]) rfl ⟨?_,?_⟩
      · rw [HR.out];rfl
      · have hb9:Below w.heap.size w w1:=Below.step (((Below.refl _ _).alloc (Nat.le_refl _) _).alloc (by simp) _) hb1
        exact (hb9.setCell (by show w.heap.size≤w.heap.size+1;omega) _).setCell (by show w.heap.size≤w.heap.size+1;omega) _
theorem component_any (d:Int) (s:ByteArray) (hs:s.size≤maxLen) (w:World) :
    Calls Tryz.prog 75 #[.agg #[.int .i64 d,.string s]] w fun e w'=>e=.returned (.tuple #[.agg #[.int .i64 (outD (cmpE d s.data.toList) (d - 1)),.string (outS (cmpE d s.data.toList) s)],.int .i64 (cmpE d s.data.toList)])∧Below w.heap.size w w':=by
  have HC:Hid (∀ w,_):=tyCheck_any d s hs
  have HQ:Hid (cmpE d s.data.toList=if sndB d s.data.toList then (if d=0 then 6 else 0) else 1):=rfl
  generalize cmpE d s.data.toList=x at *
  cases hv:sndB d s.data.toList with
  | false =>
    rw [hv] at HC HQ
    have h1:chkI false=1:=rfl
    rw [h1] at HC
    have HR:Hid (x=1):=HQ
    clear hv h1 HQ
    go_enter Tryz.func75,Tryz.ntmps75
    go_wp2_with (first
      | (go_at_call 70;refine ((HC.out) _).mono ?_;rintro e w1 ⟨rfl,hb1⟩;have hc0:=hb1.cell (p:=⟨w.heap.size,0,none⟩) (by first|(simp;done)|(simp;omega));have hc1:=hb1.cell (p:=⟨w.heap.size,1,none⟩) (by first|(simp;done)|(simp;omega));have hr0:=hb1.cell (p:=⟨w.heap.size+1,0,none⟩) (by first|(simp;done)|(simp;omega));have hr1:=hb1.cell (p:=⟨w.heap.size+1,1,none⟩) (by first|(simp;done)|(simp;omega));have hf0:=hb1.frozen (p:=⟨w.heap.size+1,0,none⟩) (by first|(simp;done)|(simp;omega));have hf1:=hb1.frozen (p:=⟨w.heap.size+1,1,none⟩) (by first|(simp;done)|(simp;omega));have hz1:=hb1.size))
    refine bodyPost_ret (v:=.tuple #[.agg #[.int .i64 0,.string ⟨#[]⟩],.int .i64 1]) (by simp [results,Tryz.results75,go_sem, *]) rfl ⟨?_,?_⟩
    · rw [HR.out];rfl
    · have hb9:Below w.heap.size w w1:=Below.step (((Below.refl _ _).alloc (Nat.le_refl _) _).alloc (by simp) _) hb1
      exact (hb9.setCell (by show w.heap.size≤w.heap.size+1;omega) _).setCell (by show w.heap.size≤w.heap.size+1;omega) _
  | true =>
    obtain ⟨k,rfl,hk⟩:=snd_nat hv
    rw [hv] at HC HQ
    have h1:chkI true=0:=rfl
    rw [h1] at HC
    clear hv h1
    by_cases h2:(k:Int)=0
    · have HR:Hid (x=6):=by rw [Hid,HQ.out,if_pos rfl,if_pos h2]
      have h3:((k:Int) == 0)=true:=by simpa using h2
      clear HQ h2
      go_enter Tryz.func75,Tryz.ntmps75
      go_wp2_with (first
        | (go_at_call 70;refine ((HC.out) _).mono ?_;rintro e w1 ⟨rfl,hb1⟩;have hc0:=hb1.cell (p:=⟨w.heap.size,0,none⟩) (by first|(simp;done)|(simp;omega));have hc1:=hb1.cell (p:=⟨w.heap.size,1,none⟩) (by first|(simp;done)|(simp;omega));have hr0:=hb1.cell (p:=⟨w.heap.size+1,0,none⟩) (by first|(simp;done)|(simp;omega));have hr1:=hb1.cell (p:=⟨w.heap.size+1,1,none⟩) (by first|(simp;done)|(simp;omega));have hf0:=hb1.frozen (p:=⟨w.heap.size+1,0,none⟩) (by first|(simp;done)|(simp;omega));have hf1:=hb1.frozen (p:=⟨w.heap.size+1,1,none⟩) (by first|(simp;done)|(simp;omega));have hz1:=hb1.size))
      refine bodyPost_ret (v:=.tuple #[.agg #[.int .i64 0,.string ⟨#[]⟩],.int .i64 6]) (by simp [results,Tryz.results75,go_sem, *]) rfl ⟨?_,?_⟩
      · rw [HR.out];rfl
      · have hb9:Below w.heap.size w w1:=Below.step (((Below.refl _ _).alloc (Nat.le_refl _) _).alloc (by simp) _) hb1
        exact (hb9.setCell (by show w.heap.size≤w.heap.size+1;omega) _).setCell (by show w.heap.size≤w.heap.size+1;omega) _
    · have HR:Hid (x=0):=by rw [Hid,HQ.out,if_pos rfl,if_neg h2]
      have h3:((k:Int) == 0)=false:=by simpa using h2
      have h4:(k:Int)≠0:=h2
      clear HQ h2
      go_enter Tryz.func75,Tryz.ntmps75
      go_wp2_with (first
        | (go_at_call 70;refine ((HC.out) _).mono ?_;rintro e w1 ⟨rfl,hb1⟩;have hc0:=hb1.cell (p:=⟨w.heap.size,0,none⟩) (by first|(simp;done)|(simp;omega));have hc1:=hb1.cell (p:=⟨w.heap.size,1,none⟩) (by first|(simp;done)|(simp;omega));have hr0:=hb1.cell (p:=⟨w.heap.size+1,0,none⟩) (by first|(simp;done)|(simp;omega));have hr1:=hb1.cell (p:=⟨w.heap.size+1,1,none⟩) (by first|(simp;done)|(simp;omega));have hf0:=hb1.frozen (p:=⟨w.heap.size+1,0,none⟩) (by first|(simp;done)|(simp;omega));have hf1:=hb1.frozen (p:=⟨w.heap.size+1,1,none⟩) (by first|(simp;done)|(simp;omega));have hz1:=hb1.size))
      refine bodyPost_ret (v:=.tuple #[.agg #[.int .i64 ((k:Int) - 1),.string s],.int .i64 0]) (by simp [results,Tryz.results75,go_sem, *]) rfl ⟨?_,?_⟩
      · rw [HR.out];rfl
      · have hb9:Below w.heap.size w w1:=Below.step (((Below.refl _ _).alloc (Nat.le_refl _) _).alloc (by simp) _) hb1
        exact (hb9.setCell (by show w.heap.size≤w.heap.size+1;omega) _).setCell (by show w.heap.size≤w.heap.size+1;omega) _
end Go.Proofs.YtfnmmpkhopochaaGreat
