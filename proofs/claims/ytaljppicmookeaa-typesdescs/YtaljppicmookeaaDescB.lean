/- Walks of package types' isSoundDesc and writeDesc: soundness of a descriptor, and the text of a sound one; what was there before stays. -/
import Derived.Test.YtaljppicmookeaaDescA
import Derived.Test.YtaljppicmookeaaShelfB
namespace Go.Proofs.Ytaljppicmookeaa
open Go.RowKit

def natOf (t : Int × ByteArray) : Nat × List UInt8 := (t.1.toNat, t.2.data.toList)
def sndT (t : Int × ByteArray) : Bool := sndB t.1 t.2.data.toList
/-- a sound descriptor -/
def sndD (ts : List (Int × ByteArray)) (vb : Bool) (rd : Int) (rn : ByteArray) : Bool := ts.all sndT && (if vb then decide (rd = 0) && rn.toList.isEmpty else sndB rd rn.data.toList)
/-- the text behind the closing bracket, and the whole -/
def retS (vb : Bool) (rd : Int) (rn : ByteArray) : List UInt8 := if vb then [86] else writeT (rd.toNat, rn.data.toList)
def textD (ts : List (Int × ByteArray)) (vb : Bool) (rd : Int) (rn : ByteArray) : List UInt8 := 40 :: (writeArgs (ts.map natOf) ++ 41 :: retS vb rd rn)

theorem write_int (d : Int) (s : ByteArray) (h : sndB d s.data.toList = true) (w : World) :
    Calls Try.prog 44 #[.agg #[.int .i64 d, .string s]] w fun e w' => e = .returned (.string ⟨(writeT (d.toNat, s.data.toList)).toArray⟩) ∧ Below w.heap.size w w' := by
  obtain ⟨k, rfl, hk⟩ := snd_nat h
  have hl := snd_len h
  have hz : s.data.toList.length = s.size := by simp
  exact write_any k hk s (by omega) w

theorem writeT_small {d : Int} {l : List UInt8} (h : sndB d l = true) : (writeT (d.toNat, l)).length ≤ 400 := by
  obtain ⟨k, rfl, hk⟩ := snd_nat h
  have hl := snd_len h
  rw [writeT_length]
  simp only [Int.toNat_natCast]
  split <;> omega

theorem writeArgs_small (ts : List (Int × ByteArray)) (h : ∀ t ∈ ts, sndT t = true) : (writeArgs (ts.map natOf)).length ≤ 400 * ts.length := by
  induction ts with
  | nil => simp [writeArgs]
  | cons t ts ih =>
    have h1 := writeT_small (h t (List.mem_cons_self ..))
    have h2 := ih (fun x hx => h x (List.mem_cons_of_mem _ hx))
    have e : writeArgs ((t :: ts).map natOf) = writeT (natOf t) ++ writeArgs (ts.map natOf) := by simp [writeArgs]
    rw [e, List.length_append, List.length_cons]
    unfold natOf at *
    omega

theorem writeArgs_step (ts : List (Int × ByteArray)) (i : Nat) (t : Int × ByteArray) (h : ts[i]? = some t) : writeArgs ((ts.take (i + 1)).map natOf) = writeArgs ((ts.take i).map natOf) ++ writeT (natOf t) := by
  have hlt : i < ts.length := (List.getElem?_eq_some_iff.1 h).1
  rw [List.take_succ_eq_append_getElem hlt]
  rw [List.getElem?_eq_getElem hlt] at h
  rw [Option.some.inj h]
  simp [writeArgs]

/-- the cells of a descriptor that was handed in, in a block of its own -/
def boxD (v : Value) (vb : Bool) (rd : Int) (rn : ByteArray) : Obj := .cells #[v, .bool vb, .int .i64 rd, .string rn] 31

set_option maxHeartbeats 1000000 in
theorem isSoundDesc_any (v : Value) (ts : List (Int × ByteArray)) (vb : Bool) (rd : Int) (rn : ByteArray) (W : World) (h : IsTys W v ts) (hsz : ∀ t ∈ ts, t.2.size ≤ maxLen) (hrn : rn.size ≤ maxLen) :
    Calls Try.prog 46 #[.agg #[v, .bool vb, .int .i64 rd, .string rn]] W fun e w' => e = .returned (.bool (sndD ts vb rd rn)) ∧ Below W.heap.size W w' := by
  obtain ⟨ao, cap, rfl, hl1, hm1, hc1⟩ := h
  unfold maxLen at hm1
  have HC : Hid _ := hc1
  have HSZ : Hid _ := hsz
  have HR : Hid (∀ w, _) := check_any rd rn hrn
  clear hc1 hsz hrn
  go_enter Try.func46, Try.ntmps46
  go_wp2
  go_loopw [8] (fun iv wr => ∃ i : Nat, iv = .int .i64 i ∧ i ≤ ts.length ∧ Hid (Below (W.heap.size + 1) (W.alloc (.cells #[.slice ao ts.length cap, .bool vb, .int .i64 rd, .string rn] 31)) wr) ∧ Hid ((ts.take i).all sndT = true)) (fun iv _ => ts.length - (intOf iv).toNat)
  case atStart => exact ⟨0, rfl, Nat.zero_le _, Below.refl _ _, by simp [Hid]⟩
  case round =>
    obtain ⟨i, rfl, hi, hb, hall⟩ := hrel
    have hbW : Hid (Below W.heap.size W wr) := ((Below.refl _ _).alloc (Nat.le_refl _) _).trans (hb.out.mono (Nat.le_succ _))
    obtain ⟨b0, b1, b2, b3⟩ := four_keep (four_new W (.slice ao ts.length cap) (.bool vb) (.int .i64 rd) (.string rn) 31) (by simp) (by simpa using hb.out)
    have hws : W.heap.size < wr.heap.size := by have := hb.out.size; simp at this; omega
    by_cases hlt : i < ts.length
    · have hne : ts ≠ [] := by intro e; rw [e] at hlt; simp at hlt
      obtain ⟨bk, o, rfl, hbk, c1⟩ := HC.out hne
      obtain ⟨⟨d, n⟩, ht⟩ : ∃ t, ts[i]? = some t := ⟨_, List.getElem?_eq_getElem hlt⟩
      obtain ⟨x0, x1⟩ := c1 i _ ht
      have k0 : wr.cell? ⟨bk, o + i * 2, none⟩ = some (.int .i64 d) := (hbW.out.cell (p := ⟨bk, o + i * 2, none⟩) hbk).trans x0
      have k1 : wr.cell? ⟨bk, o + i * 2 + 1, none⟩ = some (.string n) := (hbW.out.cell (p := ⟨bk, o + i * 2 + 1, none⟩) hbk).trans x1
      have HK : Hid (∀ w, _) := check_any d n (HSZ.out (d, n) (List.mem_of_getElem? ht))
      cases hs : sndB d n.data.toList with
      | true =>
        have HA : Hid ((ts.take (i + 1)).all sndT = true) := by
          rw [Hid, List.take_succ_eq_append_getElem hlt, List.all_append, hall.out]
          rw [List.getElem?_eq_getElem hlt] at ht
          rw [Option.some.inj ht]
          simp [sndT, hs]
        rw [hs] at HK
        have h1 : chkI true = 0 := rfl
        rw [h1] at HK
        clear h1 hs ht c1 x0 x1 HC HR hall hne
        go_wp2_with (go_at_call 21; refine (HK.out _).mono ?_; rintro e w1 ⟨rfl, hb1⟩; have hb2 : Hid (Below (W.heap.size + 1) (W.alloc (.cells #[.slice (some ⟨bk, o, none⟩) ts.length cap, .bool vb, .int .i64 rd, .string rn] 31)) w1) := (hb.out.alloc hws _).trans (hb1.mono (by simp; omega)); clear hb1)
        go_roundw
        case rel => exact ⟨i + 1, by go_num, by omega, hb2, HA⟩
        case measure => simp [intOf]; omega
      | false =>
        have HA : Hid (sndD ts vb rd rn = false) := by
          have : ts.all sndT = false := by
            rw [List.all_eq_false]
            exact ⟨(d, n), List.mem_of_getElem? ht, by simp [sndT, hs]⟩
          rw [Hid, sndD, this]; rfl
        rw [hs] at HK
        have h1 : chkI false = 1 := rfl
        rw [h1] at HK
        clear h1 hs ht c1 x0 x1 HC HR hall hne
        go_wp2_with (go_at_call 21; refine (HK.out _).mono ?_; rintro e w1 ⟨rfl, hb1⟩)
        go_ret
        exact ⟨ret_bool HA.out.symm, Below.step (hbW.out.alloc hbW.out.size _) hb1⟩
    · have HA : Hid (ts.all sndT = true) := by have := hall.out; rw [List.take_of_length_le (by omega)] at this; exact this
      cases vb with
      | true =>
        have HD : Hid (sndD ts true rd rn = (decide (rd = 0) && rn.toList.isEmpty)) := by rw [Hid, sndD, HA.out]; simp
        clear HC HR HA hall HSZ
        by_cases h0 : rd = 0
        · subst h0
          cases he : rn.toList.isEmpty
          all_goals
            go_wp2
            go_ret
            exact ⟨ret_bool (by rw [HD.out, he]; rfl), hbW.out⟩
        · have h0' : (rd == 0) = false := by simpa using h0
          go_wp2
          go_ret
          exact ⟨ret_bool (by rw [HD.out]; simp [h0]), hbW.out⟩
      | false =>
        have HD : Hid (sndD ts false rd rn = sndB rd rn.data.toList) := by rw [Hid, sndD, HA.out]; simp
        clear HC HA hall HSZ
        cases hq : sndB rd rn.data.toList
        all_goals
          rw [hq] at HR
          go_wp2_with (go_at_call 21; refine (HR.out _).mono ?_; rintro e w1 ⟨rfl, hb1⟩)
          go_ret
          exact ⟨ret_bool (by rw [HD.out, hq]; rfl), Below.step hbW.out hb1⟩

end Go.Proofs.Ytaljppicmookeaa
