/- Walks of package types' writeDesc and DescText: the text of a descriptor, or the error; what was there before stays. -/
import Derived.Test.YtaljppicmookeaaDescB
namespace Go.Proofs.Ytaljppicmookeaa
open Go.RowKit

/-- while a descriptor is written: its own block, the Builder with what was written, what was there before -/
structure Wd (w : World) (o : Obj) (l : List UInt8) (wr : World) : Prop where
  bld : Lib.IsBuilder 73 5 (w.heap.size + 1) (w.heap.size + 1) (Lib.byteCells l) wr
  bel : Below (w.heap.size + 1) (w.alloc o) wr

theorem builder_keep {T e : TypeId} {B b : Nat} {bs : List Value} {w w' : World} (h : Lib.IsBuilder T e B b bs w) (hb : Below w.heap.size w w') : Lib.IsBuilder T e B b bs w' := by
  rcases h with ⟨h1, v, h2, h3, h4⟩ | ⟨h1, v, h2, h3, h4⟩
  · exact .inl ⟨h1, v, by rw [hb.block b (Array.getElem?_eq_some_iff.1 h2).1]; exact h2, own_below h3 hb (Nat.le_refl _), h4⟩
  · exact .inr ⟨h1, v, by rw [hb.block b (Array.getElem?_eq_some_iff.1 h2).1]; exact h2, own_below h3 hb (Nat.le_refl _), h4⟩

theorem Wd.size {w wr : World} {o : Obj} {l : List UInt8} (h : Wd w o l wr) : w.heap.size + 1 < wr.heap.size := by
  rcases h.bld with ⟨_, v, h2, _⟩ | ⟨_, v, h2, _⟩ <;> exact (Array.getElem?_eq_some_iff.1 h2).1

theorem Wd.keep {w wr w1 : World} {o : Obj} {l : List UInt8} (h : Wd w o l wr) (hb : Below wr.heap.size wr w1) : Wd w o l w1 :=
  ⟨builder_keep h.bld hb, h.bel.trans (hb.mono (Nat.le_of_lt h.size))⟩

theorem Wd.old {w wr : World} {o : Obj} {l : List UInt8} (h : Wd w o l wr) : Below w.heap.size w wr :=
  ((Below.refl _ _).alloc (Nat.le_refl _) _).trans (h.bel.mono (Nat.le_succ _))

theorem Wd.first (w : World) (o : Obj) : Wd w o [] ((w.alloc o).alloc (.cells #[.pointer none, .slice none 0 0] 73)) := by
  have h := Lib.fresh_isBuilder 73 5 (w.alloc o)
  rw [show (w.alloc o).heap.size = w.heap.size + 1 by simp] at h
  exact ⟨h, (Below.refl _ _).alloc (by simp) _⟩

theorem writeString_any {w wr : World} {o : Obj} {l : List UInt8} (s : ByteArray) (h : Wd w o l wr) (hl : l.length + s.size ≤ 1000000) :
    Calls Try.prog 58 #[.pointer (some ⟨w.heap.size + 1, 0, none⟩), .string s] wr fun e w' => e = .returned (.tuple #[.int .i64 s.size, .nilIface]) ∧ Wd w o (l ++ s.data.toList) w' := by
  refine (Try.Builder_WriteString _ _ _ s wr h.bld (by rw [Lib.byteCells_length]; omega) (Nat.le_of_lt h.size)).mono fun e w' ⟨he, hb, hbel⟩ => ⟨he, ?_, h.bel.trans hbel⟩
  have e1 : Lib.byteCells (l ++ s.data.toList) = Lib.byteCells l ++ Lib.strCells s := by simp [Lib.byteCells, Lib.strCells]
  rw [e1]
  exact .inr hb

set_option maxHeartbeats 2000000 in
theorem writeDesc_any (v : Value) (ts : List (Int × ByteArray)) (vb : Bool) (rd : Int) (rn : ByteArray) (W : World) (h : IsTys W v ts) (hn : ts.length ≤ 1000) (hs : sndD ts vb rd rn = true) :
    Calls Try.prog 47 #[.agg #[v, .bool vb, .int .i64 rd, .string rn]] W fun e w' => e = .returned (.string ⟨(textD ts vb rd rn).toArray⟩) ∧ Below W.heap.size W w' := by
  obtain ⟨ao, cap, rfl, hl1, hm1, hc1⟩ := h
  unfold maxLen at hm1
  have HC : Hid _ := hc1
  have hall : ∀ t ∈ ts, sndT t = true := by
    have : ts.all sndT = true := by rw [sndD] at hs; simp only [Bool.and_eq_true] at hs; exact hs.1
    exact List.all_eq_true.1 this
  have HALL : Hid _ := hall
  have HRET : Hid (vb = false → sndB rd rn.data.toList = true) := fun e => by rw [sndD, e] at hs; simp only [Bool.and_eq_true] at hs; simpa using hs.2
  have HLA : Hid (∀ i, (40 :: writeArgs ((ts.take i).map natOf)).length ≤ 400001) := fun i => by
    have h1 := writeArgs_small (ts.take i) (fun t ht => hall t (List.mem_of_mem_take ht))
    have h2 : (ts.take i).length ≤ 1000 := by rw [List.length_take]; omega
    rw [List.length_cons]; omega
  clear hc1 hall hs
  obtain ⟨o, ho⟩ : ∃ o : Obj, o = .cells #[.slice ao ts.length cap, .bool vb, .int .i64 rd, .string rn] 31 := ⟨_, rfl⟩
  have H58 : Hid (∀ (l : List UInt8) (s : ByteArray) (wr : World), Hid (Wd W o l wr) → l.length + s.size ≤ 1000000 → Calls Try.prog 58 #[.pointer (some ⟨W.heap.size + 1, 0, none⟩), .string s] wr fun e w' => e = .returned (.tuple #[.int .i64 s.size, .nilIface]) ∧ Hid (Wd W o (l ++ s.data.toList) w')) :=
    fun l s wr h hl => writeString_any s h.out hl
  have H59 : Hid (∀ (l : List UInt8) (wr : World), Hid (Wd W o l wr) → Calls Try.prog 59 #[.pointer (some ⟨W.heap.size + 1, 0, none⟩)] wr fun e w' => e = .returned (.string ⟨l.toArray⟩) ∧ Hid (Below W.heap.size W w')) :=
    fun l wr h => (Try.Builder_String_any _ _ l wr h.out.bld (Nat.le_of_lt h.out.size)).mono fun e w' ⟨he, hb⟩ => ⟨he, h.out.old.trans (hb.mono (Nat.le_succ _))⟩
  have HBX : Hid (∀ (l : List UInt8) (wr : World), Hid (Wd W o l wr) → wr.cell? ⟨W.heap.size, 0, none⟩ = some (.slice ao ts.length cap) ∧ wr.cell? ⟨W.heap.size, 1, none⟩ = some (.bool vb) ∧ wr.cell? ⟨W.heap.size, 2, none⟩ = some (.int .i64 rd) ∧ wr.cell? ⟨W.heap.size, 3, none⟩ = some (.string rn)) := fun l wr h => by
    have hb := h.out.bel
    rw [ho] at hb
    exact four_keep (four_new W _ _ _ _ 31) (by simp) (by simpa using hb)
  have H0 : Hid (Wd W o [] ((W.alloc (.cells #[.slice ao ts.length cap, .bool vb, .int .i64 rd, .string rn] 31)).alloc (.cells #[.pointer none, .slice none 0 0] 73))) := by
    have := Wd.first W o
    rw [ho] at this ⊢
    exact this
  clear ho
  go_enter Try.func47, Try.ntmps47
  go_wp2_with (go_at_call 58; refine (H58.out _ _ _ H0 (by decide)).mono ?_; rintro e w1 ⟨rfl, R1⟩; obtain ⟨b0, b1, b2, b3⟩ := HBX.out _ _ R1)
  clear H0
  go_loopw [10] (fun iv wr => ∃ i : Nat, iv = .int .i64 i ∧ i ≤ ts.length ∧ Hid (Wd W o (40 :: writeArgs ((ts.take i).map natOf)) wr)) (fun iv _ => ts.length - (intOf iv).toNat)
  case atStart => exact ⟨0, rfl, Nat.zero_le _, by simpa [writeArgs] using R1⟩
  case round =>
    clear R1 b0 b1 b2 b3
    obtain ⟨i, rfl, hi, hR⟩ := hrel
    obtain ⟨b0, b1, b2, b3⟩ := HBX.out _ _ hR
    have hsz := hR.out.size
    by_cases hlt : i < ts.length
    · have hne : ts ≠ [] := by intro e; rw [e] at hlt; simp at hlt
      obtain ⟨bk, oo, rfl, hbk, c1⟩ := HC.out hne
      obtain ⟨⟨d, n⟩, ht⟩ : ∃ t, ts[i]? = some t := ⟨_, List.getElem?_eq_getElem hlt⟩
      obtain ⟨x0, x1⟩ := c1 i _ ht
      have k0 : wr.cell? ⟨bk, oo + i * 2, none⟩ = some (.int .i64 d) := (hR.out.old.cell (p := ⟨bk, oo + i * 2, none⟩) hbk).trans x0
      have k1 : wr.cell? ⟨bk, oo + i * 2 + 1, none⟩ = some (.string n) := (hR.out.old.cell (p := ⟨bk, oo + i * 2 + 1, none⟩) hbk).trans x1
      have hsn : sndB d n.data.toList = true := HALL.out (d, n) (List.mem_of_getElem? ht)
      have HW : Hid (∀ w, _) := write_int d n hsn
      have HL : Hid ((40 :: writeArgs ((ts.take i).map natOf)).length + (⟨(writeT (d.toNat, n.data.toList)).toArray⟩ : ByteArray).size ≤ 1000000) := by
        have := HLA.out i
        have := writeT_small hsn
        rw [Hid, mk_size]; omega
      have HST : Hid (40 :: writeArgs ((ts.take (i + 1)).map natOf) = (40 :: writeArgs ((ts.take i).map natOf)) ++ (⟨(writeT (d.toNat, n.data.toList)).toArray⟩ : ByteArray).data.toList) := by
        rw [Hid, writeArgs_step ts i (d, n) ht]
        simp [natOf]
      generalize (⟨(writeT (d.toNat, n.data.toList)).toArray⟩ : ByteArray) = tx at *
      clear hne c1 ht x0 x1 hsn HC HALL HRET HLA H59
      go_wp2_with (first
        | (go_at_call 44; refine (HW.out _).mono ?_; rintro e w1 ⟨rfl, hb1⟩; have R1 : Hid (Wd W o (40 :: writeArgs ((ts.take i).map natOf)) w1) := (hR.out.keep ((Below.refl _ _).alloc (Nat.le_refl _) _)).keep hb1; clear hb1)
        | (go_at_call 58; refine (H58.out _ _ _ R1 HL.out).mono ?_; rintro e w2 ⟨rfl, R2⟩; rw [← HST.out] at R2))
      go_roundw
      case rel => exact ⟨i + 1, by go_num, by omega, R2⟩
      case measure => simp [intOf]; omega
    · have htk : ts.take i = ts := List.take_of_length_le (by omega)
      have hla := HLA.out i
      rw [htk] at hR hla
      have L1 : Hid ((40 :: writeArgs (ts.map natOf)).length + (⟨#[41]⟩ : ByteArray).size ≤ 1000000) := by show _ + 1 ≤ _; omega
      have e41 : (⟨#[41]⟩ : ByteArray).data.toList = [41] := rfl
      cases vb with
      | true =>
        have L2 : Hid (((40 :: writeArgs (ts.map natOf)) ++ [41]).length + (⟨#[86]⟩ : ByteArray).size ≤ 1000000) := by rw [Hid, List.length_append]; show _ + 1 + 1 ≤ _; omega
        have HF : Hid (((40 :: writeArgs (ts.map natOf)) ++ [41]) ++ (⟨#[86]⟩ : ByteArray).data.toList = textD ts true rd rn) := by simp [Hid, textD, retS]
        clear htk hla HC HALL HRET HLA
        go_wp2_with (first
          | (go_at_call 58; refine (H58.out _ _ _ hR L1.out).mono ?_; clear hR; rintro e w1 ⟨rfl, R1⟩; rw [e41] at R1; obtain ⟨b0, b1, b2, b3⟩ := HBX.out _ _ R1)
          | (go_at_call 58; refine (H58.out _ _ _ R1 L2.out).mono ?_; rintro e w2 ⟨rfl, R2⟩; rw [HF.out] at R2)
          | (go_at_call 59; refine (H59.out _ _ R2).mono ?_; rintro e w3 ⟨rfl, R3⟩))
        go_ret
        exact ⟨rfl, R3.out⟩
      | false =>
        have hsn := HRET.out rfl
        have HW : Hid (∀ w, _) := write_int rd rn hsn
        have L2 : Hid (((40 :: writeArgs (ts.map natOf)) ++ [41]).length + (⟨(writeT (rd.toNat, rn.data.toList)).toArray⟩ : ByteArray).size ≤ 1000000) := by
          have := writeT_small hsn
          rw [Hid, mk_size, List.length_append]; show _ + 1 + _ ≤ _; omega
        have HF : Hid (((40 :: writeArgs (ts.map natOf)) ++ [41]) ++ (⟨(writeT (rd.toNat, rn.data.toList)).toArray⟩ : ByteArray).data.toList = textD ts false rd rn) := by simp [Hid, textD, retS]
        generalize (⟨(writeT (rd.toNat, rn.data.toList)).toArray⟩ : ByteArray) = tx at *
        clear htk hla HC HALL HRET HLA hsn
        go_wp2_with (first
          | (go_at_call 58; refine (H58.out _ _ _ hR L1.out).mono ?_; clear hR; rintro e w1 ⟨rfl, R1⟩; rw [e41] at R1; obtain ⟨b0, b1, b2, b3⟩ := HBX.out _ _ R1)
          | (go_at_call 44; refine (HW.out _).mono ?_; rintro e w2 ⟨rfl, hb2⟩; have R2 : Hid (Wd W o ((40 :: writeArgs (ts.map natOf)) ++ [41]) w2) := R1.out.keep hb2; clear hb2)
          | (go_at_call 58; refine (H58.out _ _ _ R2 L2.out).mono ?_; rintro e w3 ⟨rfl, R3⟩; rw [HF.out] at R3)
          | (go_at_call 59; refine (H59.out _ _ R3).mono ?_; rintro e w4 ⟨rfl, R4⟩))
        go_ret
        exact ⟨rfl, R4.out⟩

/-- the error of DescText, and the text beside it -/
def dtE (ts : List (Int × ByteArray)) (vb : Bool) (rd : Int) (rn : ByteArray) : Int := if sndD ts vb rd rn then (if 20 < ts.length then 5 else if 2000 < (textD ts vb rd rn).length then 5 else 0) else 1
def dtS (ts : List (Int × ByteArray)) (vb : Bool) (rd : Int) (rn : ByteArray) : List UInt8 := if dtE ts vb rd rn = 0 then textD ts vb rd rn else []

set_option maxHeartbeats 1000000 in
theorem descText_any (v : Value) (ts : List (Int × ByteArray)) (vb : Bool) (rd : Int) (rn : ByteArray) (W : World) (h : IsTys W v ts) (hsz : ∀ t ∈ ts, t.2.size ≤ maxLen) (hrn : rn.size ≤ maxLen) :
    Calls Try.prog 31 #[.agg #[v, .bool vb, .int .i64 rd, .string rn]] W fun e w' => e = .returned (.tuple #[.string ⟨(dtS ts vb rd rn).toArray⟩, .int .i64 (dtE ts vb rd rn)]) ∧ Below W.heap.size W w' := by
  have HI : Hid (∀ w, Below W.heap.size W w → Calls Try.prog 46 #[.agg #[v, .bool vb, .int .i64 rd, .string rn]] w fun e w' => e = .returned (.bool (sndD ts vb rd rn)) ∧ Below w.heap.size w w') := fun w hb => isSoundDesc_any v ts vb rd rn w (h.keep hb) hsz hrn
  have HW : sndD ts vb rd rn = true → ts.length ≤ 20 → ∀ w, Below W.heap.size W w → Calls Try.prog 47 #[.agg #[v, .bool vb, .int .i64 rd, .string rn]] w fun e w' => e = .returned (.string ⟨(textD ts vb rd rn).toArray⟩) ∧ Below w.heap.size w w' := fun hs hl w hb => writeDesc_any v ts vb rd rn w (h.keep hb) (by omega) hs
  obtain ⟨ao, cap, rfl, hl1, hm1, hc1⟩ := h
  unfold maxLen at hm1
  clear hc1 hsz hrn
  have hb0 : Below W.heap.size W (W.alloc (.cells #[.slice ao ts.length cap, .bool vb, .int .i64 rd, .string rn] 31)) := (Below.refl _ _).alloc (Nat.le_refl _) _
  have HB0 : Hid _ := hb0
  clear hb0
  cases hs : sndD ts vb rd rn with
  | false =>
    have HE : Hid (dtE ts vb rd rn = 1) := by rw [Hid, dtE, hs]; rfl
    have HT : Hid (dtS ts vb rd rn = []) := by rw [Hid, dtS, HE.out]; rfl
    rw [hs] at HI
    clear HW hs
    go_enter Try.func31, Try.ntmps31
    go_wp2_with (go_at_call 46; refine (HI.out _ HB0.out).mono ?_; rintro e w1 ⟨rfl, hb1⟩)
    go_ret2
    exact ⟨by rw [HT.out, HE.out]; rfl, Below.step HB0.out hb1⟩
  | true =>
    rw [hs] at HI
    by_cases h20 : 20 < ts.length
    · have HE : Hid (dtE ts vb rd rn = 5) := by rw [Hid, dtE, hs, if_pos rfl, if_pos h20]
      have HT : Hid (dtS ts vb rd rn = []) := by rw [Hid, dtS, HE.out]; rfl
      have h20' : (20 : Int) < (ts.length : Int) := by omega
      clear HW hs
      go_enter Try.func31, Try.ntmps31
      go_wp2_with (go_at_call 46; refine (HI.out _ HB0.out).mono ?_; rintro e w1 ⟨rfl, hb1⟩; obtain ⟨b0, b1, b2, b3⟩ := four_keep (four_new W (.slice ao ts.length cap) (.bool vb) (.int .i64 rd) (.string rn) 31) (by simp) hb1)
      go_ret2
      exact ⟨by rw [HT.out, HE.out]; rfl, Below.step HB0.out hb1⟩
    · have h20' : ¬ (20 : Int) < (ts.length : Int) := by omega
      have HW' : Hid (∀ w, Below W.heap.size W w → Calls Try.prog 47 #[.agg #[.slice ao ts.length cap, .bool vb, .int .i64 rd, .string rn]] w fun e w' => e = .returned (.string ⟨(textD ts vb rd rn).toArray⟩) ∧ Below w.heap.size w w') := HW hs (by omega)
      have hmk : (⟨(textD ts vb rd rn).toArray⟩ : ByteArray).size = (textD ts vb rd rn).length := mk_size _
      by_cases hbig : 2000 < (textD ts vb rd rn).length
      · have HE : Hid (dtE ts vb rd rn = 5) := by rw [Hid, dtE, hs, if_pos rfl, if_neg h20, if_pos hbig]
        have HT : Hid (dtS ts vb rd rn = []) := by rw [Hid, dtS, HE.out]; rfl
        have hb' : (2000 : Int) < ((⟨(textD ts vb rd rn).toArray⟩ : ByteArray).size : Int) := by rw [hmk]; omega
        clear HW hs hmk hbig
        generalize (⟨(textD ts vb rd rn).toArray⟩ : ByteArray) = tx at *
        go_enter Try.func31, Try.ntmps31
        go_wp2_with (first
          | (go_at_call 46; refine (HI.out _ HB0.out).mono ?_; rintro e w1 ⟨rfl, hb1⟩; obtain ⟨b0, b1, b2, b3⟩ := four_keep (four_new W (.slice ao ts.length cap) (.bool vb) (.int .i64 rd) (.string rn) 31) (by simp) hb1; have HB1 : Hid _ := Below.step HB0.out hb1; clear hb1)
          | (go_at_call 47; refine (HW'.out _ HB1.out).mono ?_; rintro e w2 ⟨rfl, hb2⟩))
        go_ret2
        exact ⟨by rw [HT.out, HE.out]; rfl, Below.step HB1.out hb2⟩
      · have HE : Hid (dtE ts vb rd rn = 0) := by rw [Hid, dtE, hs, if_pos rfl, if_neg h20, if_neg hbig]
        have HT : Hid (dtS ts vb rd rn = textD ts vb rd rn) := by rw [Hid, dtS, HE.out]; rfl
        have hb' : ¬ (2000 : Int) < ((⟨(textD ts vb rd rn).toArray⟩ : ByteArray).size : Int) := by rw [hmk]; omega
        have HTX : Hid (dtS ts vb rd rn = (⟨(textD ts vb rd rn).toArray⟩ : ByteArray).data.toList) := by rw [Hid, HT.out]
        clear HW hs hmk hbig HT
        generalize (⟨(textD ts vb rd rn).toArray⟩ : ByteArray) = tx at *
        go_enter Try.func31, Try.ntmps31
        go_wp2_with (first
          | (go_at_call 46; refine (HI.out _ HB0.out).mono ?_; rintro e w1 ⟨rfl, hb1⟩; obtain ⟨b0, b1, b2, b3⟩ := four_keep (four_new W (.slice ao ts.length cap) (.bool vb) (.int .i64 rd) (.string rn) 31) (by simp) hb1; have HB1 : Hid _ := Below.step HB0.out hb1; clear hb1)
          | (go_at_call 47; refine (HW'.out _ HB1.out).mono ?_; rintro e w2 ⟨rfl, hb2⟩))
        go_ret2
        exact ⟨by rw [HTX.out, HE.out]; rfl, Below.step HB1.out hb2⟩

end Go.Proofs.Ytaljppicmookeaa
