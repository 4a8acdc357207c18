import Derived.Test.YtjlfnelihbdhjaaGreatTypesParse
import Derived.Laws.IdiomStrings
namespace Go.Proofs.YtjlfnelihbdhjaaGreat
open Go.RowKit
set_option maxHeartbeats 400000 in
theorem tyRCheck_any (d:Int) (s:ByteArray) (hs:s.size≤maxLen) (w:World) :
    Calls Tryz.prog 238 #[.agg #[.int .i64 d,.string s]] w fun e w'=>e=.returned (.int .i64 (chkI (sndB d s.data.toList)))∧Below w.heap.size w w':=by
  have HV:Hid (∀ w,_):=rValid_any s hs
  have HB:Hid (sndB d s.data.toList=(decide (0≤d)&&decide (d≤255)&&(s.toList.isEmpty||validL s.data.toList))):=by rw [Hid,Lib.toList_data];rfl
  generalize validL s.data.toList=b at *
  generalize sndB d s.data.toList=r at *
  by_cases h1:0≤d
  · by_cases h2:d≤255
    · cases he:s.toList.isEmpty with
      | true =>
        have HR:Hid (r=true):=by rw [Hid,HB.out,he];simp [h1,h2]
        go_enter Tryz.func238,Tryz.ntmps238
        go_wp2
        go_ret
        exact ⟨ret_int (by rw [HR.out];rfl),(Below.refl _ _).alloc (Nat.le_refl _) _⟩
      | false =>
        have HR:Hid (r=b):=by rw [Hid,HB.out,he];simp [h1,h2]
        cases b
        all_goals
          go_enter Tryz.func238,Tryz.ntmps238
          go_wp2_with (go_at_call 184;refine ((HV.out) _).mono ?_;rintro e w1 ⟨rfl,hb1⟩)
          go_ret
          exact ⟨ret_int (by rw [HR.out];rfl),Below.step ((Below.refl _ _).alloc (Nat.le_refl _) _) (by assumption)⟩
    · have HR:Hid (r=false):=by rw [Hid,HB.out];simp [h2]
      go_enter Tryz.func238,Tryz.ntmps238
      go_wp2
      go_ret
      exact ⟨ret_int (by rw [HR.out];rfl),(Below.refl _ _).alloc (Nat.le_refl _) _⟩
  · have HR:Hid (r=false):=by rw [Hid,HB.out];simp [h1]
    have h1':d<0:=by omega
    go_enter Tryz.func238,Tryz.ntmps238
    go_wp2
    go_ret
    exact ⟨ret_int (by rw [HR.out];rfl),(Below.refl _ _).alloc (Nat.le_refl _) _⟩
set_option maxHeartbeats 400000 in
theorem tyCheck_any (d:Int) (s:ByteArray) (hs:s.size≤maxLen) (w:World) :
    Calls Tryz.prog 227 #[.agg #[.int .i64 d,.string s]] w fun e w'=>e=.returned (.int .i64 (chkI (sndB d s.data.toList)))∧Below w.heap.size w w':=by
  have HV:Hid (∀ w,_):=valid_any s hs
  have HD:Hid (∀ w,_):=isDeep_any d s
  have HB:Hid (sndB d s.data.toList=(decide (0≤d)&&decide (d≤255)&&(s.toList.isEmpty||validL s.data.toList))):=by rw [Hid,Lib.toList_data];rfl
  generalize validL s.data.toList=b at *
  generalize sndB d s.data.toList=r at *
  by_cases h1:0≤d
  · have h1':¬ d<0:=by omega
    by_cases h2:d≤255
    · have h3:decide (255<d)=false:=by simp;omega
      rw [h3] at HD
      clear h3
      cases he:s.toList.isEmpty with
      | true =>
        have HR:Hid (r=true):=by rw [Hid,HB.out,he];simp [h1,h2]
        go_enter Tryz.func227,Tryz.ntmps227
        go_wp2_with (go_at_call 223;refine ((HD.out) _).mono ?_;rintro e w0 ⟨rfl,hb0⟩;have hc0:=hb0.cell (p:=⟨w.heap.size,0,none⟩) (by simp);have hc1:=hb0.cell (p:=⟨w.heap.size,1,none⟩) (by simp))
        go_ret
        exact ⟨ret_int (by rw [HR.out];rfl),Below.step ((Below.refl _ _).alloc (Nat.le_refl _) _) (by assumption)⟩
      | false =>
        have HR:Hid (r=b):=by rw [Hid,HB.out,he];simp [h1,h2]
        cases b
        all_goals
          go_enter Tryz.func227,Tryz.ntmps227
          go_wp2_with (first
            | (go_at_call 223;refine ((HD.out) _).mono ?_;rintro e w0 ⟨rfl,hb0⟩;have hc0:=hb0.cell (p:=⟨w.heap.size,0,none⟩) (by simp);have hc1:=hb0.cell (p:=⟨w.heap.size,1,none⟩) (by simp))
            | (go_at_call 210;refine ((HV.out) _).mono ?_;rintro e w1 ⟨rfl,hb1⟩))
          go_ret
          exact ⟨ret_int (by rw [HR.out];rfl),Below.step (Below.step ((Below.refl _ _).alloc (Nat.le_refl _) _) hb0) hb1⟩
    · have HR:Hid (r=false):=by rw [Hid,HB.out];simp [h2]
      have h3:decide (255<d)=true:=by simp;omega
      rw [h3] at HD
      clear h3
      go_enter Tryz.func227,Tryz.ntmps227
      go_wp2_with (go_at_call 223;refine ((HD.out) _).mono ?_;rintro e w0 ⟨rfl,hb0⟩;have hc0:=hb0.cell (p:=⟨w.heap.size,0,none⟩) (by simp);have hc1:=hb0.cell (p:=⟨w.heap.size,1,none⟩) (by simp))
      go_ret
      exact ⟨ret_int (by rw [HR.out];rfl),Below.step ((Below.refl _ _).alloc (Nat.le_refl _) _) (by assumption)⟩
  · have HR:Hid (r=false):=by rw [Hid,HB.out];simp [h1]
    have h1':d<0:=by omega
    go_enter Tryz.func227,Tryz.ntmps227
    go_wp2
    go_ret
    exact ⟨ret_int (by rw [HR.out];rfl),(Below.refl _ _).alloc (Nat.le_refl _) _⟩
end Go.Proofs.YtjlfnelihbdhjaaGreat
