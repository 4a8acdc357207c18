/- The walk of arbiterref02's DescText: the text of a descriptor, or the error; what was there before stays. -/
import Derived.Test.YtaljppicmookeaaDescC
namespace Go.Proofs.Ytaljppicmookeaa
open Go.RowKit

theorem written_int (d : Int) (s : ByteArray) (h : sndB d s.data.toList = true) (w : World) :
    Calls Try.prog 45 #[.agg #[.int .i64 d, .string s]] w fun e w' => e = .returned (.string ⟨(writeT (d.toNat, s.data.toList)).toArray⟩) ∧ Below w.heap.size w w' := by
  obtain ⟨k, rfl, hk⟩ := snd_nat h
  have hl := snd_len h
  have hz : s.data.toList.length = s.size := by simp
  exact written_any k hk s (by omega) w

/-- soundness as the document's DescText asks it: the answered type is asked for always -/
theorem sndD_ref (ts : List (Int × ByteArray)) (vb : Bool) (rd : Int) (rn : ByteArray) : sndD ts vb rd rn = (ts.all sndT && sndB rd rn.data.toList && !(vb && (!decide (rd = 0) || !rn.toList.isEmpty))) := by
  unfold sndD
  cases vb with
  | false => simp
  | true =>
    by_cases h0 : rd = 0
    · subst h0
      cases he : rn.toList.isEmpty with
      | true =>
        have hn : rn.data.toList = [] := by rw [← Lib.toList_data]; exact List.isEmpty_iff.1 he
        have : sndB 0 rn.data.toList = true := by rw [hn]; rfl
        simp [this]
      | false => simp
    · simp [h0]

set_option maxRecDepth 10000 in
set_option maxHeartbeats 4000000 in
theorem rDescText_any (v : Value) (ts : List (Int × ByteArray)) (vb : Bool) (rd : Int) (rn : ByteArray) (W : World) (h : IsTys W v ts) (hsz : ∀ t ∈ ts, t.2.size ≤ maxLen) (hrn : rn.size ≤ maxLen) :
    Calls Try.prog 32 #[.agg #[v, .bool vb, .int .i64 rd, .string rn]] W fun e w' => e = .returned (.tuple #[.string ⟨(dtS ts vb rd rn).toArray⟩, .int .i64 (dtE ts vb rd rn)]) ∧ Below W.heap.size W w' := by
  obtain ⟨ao, cap, rfl, hl1, hm1, hc1⟩ := h
  unfold maxLen at hm1
  have HC : Hid _ := hc1
  have HSZ : Hid _ := hsz
  have HR : Hid (∀ w, _) := rCheck_any rd rn hrn
  have HSR : Hid _ := sndD_ref ts vb rd rn
  have H1 : Hid (sndD ts vb rd rn = false → dtE ts vb rd rn = 1 ∧ dtS ts vb rd rn = []) := fun hs => by
    have e : dtE ts vb rd rn = 1 := by rw [dtE, hs]; rfl
    exact ⟨e, by rw [dtS, e]; rfl⟩
  have HBX : Hid (∀ wr : World, Below (W.heap.size + 1) (W.alloc (.cells #[.slice ao ts.length cap, .bool vb, .int .i64 rd, .string rn] 31)) wr → wr.cell? ⟨W.heap.size, 0, none⟩ = some (.slice ao ts.length cap) ∧ wr.cell? ⟨W.heap.size, 1, none⟩ = some (.bool vb) ∧ wr.cell? ⟨W.heap.size, 2, none⟩ = some (.int .i64 rd) ∧ wr.cell? ⟨W.heap.size, 3, none⟩ = some (.string rn)) :=
    fun wr hb => four_keep (four_new W _ _ _ _ 31) (by simp) (by simpa using hb)
  have HOLD : Hid (∀ wr : World, Below (W.heap.size + 1) (W.alloc (.cells #[.slice ao ts.length cap, .bool vb, .int .i64 rd, .string rn] 31)) wr → Below W.heap.size W wr) := fun wr hb => ((Below.refl _ _).alloc (Nat.le_refl _) _).trans (hb.mono (Nat.le_succ _))
  clear hc1 hsz hrn
  go_enter Try.func32, Try.ntmps32
  go_wp2
  go_loopw [4] (fun iv wr => ∃ i : Nat, iv = .int .i64 i ∧ i ≤ ts.length ∧ Hid (Below (W.heap.size + 1) (W.alloc (.cells #[.slice ao ts.length cap, .bool vb, .int .i64 rd, .string rn] 31)) wr) ∧ Hid ((ts.take i).all sndT = true)) (fun iv _ => ts.length - (intOf iv).toNat)
  case atStart => exact ⟨0, rfl, Nat.zero_le _, Below.refl _ _, by simp [Hid]⟩
  case round =>
    obtain ⟨i, rfl, hi, hb, hall⟩ := hrel
    have hbW : Hid (Below W.heap.size W wr) := HOLD.out _ hb.out
    obtain ⟨b0, b1, b2, b3⟩ := HBX.out _ hb.out
    have hws : W.heap.size < wr.heap.size := by have := hb.out.size; simp at this; omega
    by_cases hlt : i < ts.length
    · have hne : ts ≠ [] := by intro e; rw [e] at hlt; simp at hlt
      obtain ⟨bk, o, rfl, hbk, c1⟩ := HC.out hne
      obtain ⟨⟨d, n⟩, ht⟩ : ∃ t, ts[i]? = some t := ⟨_, List.getElem?_eq_getElem hlt⟩
      obtain ⟨x0, x1⟩ := c1 i _ ht
      have k0 : wr.cell? ⟨bk, o + i * 2, none⟩ = some (.int .i64 d) := (hbW.out.cell (p := ⟨bk, o + i * 2, none⟩) hbk).trans x0
      have k1 : wr.cell? ⟨bk, o + i * 2 + 1, none⟩ = some (.string n) := (hbW.out.cell (p := ⟨bk, o + i * 2 + 1, none⟩) hbk).trans x1
      have HK : Hid (∀ w, _) := rCheck_any d n (HSZ.out (d, n) (List.mem_of_getElem? ht))
      cases hs : sndB d n.data.toList with
      | true =>
        have HA : Hid ((ts.take (i + 1)).all sndT = true) := by
          rw [Hid, List.take_succ_eq_append_getElem hlt, List.all_append, hall.out]
          rw [List.getElem?_eq_getElem hlt] at ht
          rw [Option.some.inj ht]
          simp [sndT, hs]
        rw [hs] at HK
        have h1 : chkI true = 0 := rfl
        rw [h1] at HK
        clear h1 hs ht c1 x0 x1 HC HR hall hne H1 HSR HBX HOLD
        go_wp2_with (go_at_call 22; refine (HK.out _).mono ?_; rintro e w1 ⟨rfl, hb1⟩; have hb2 : Hid (Below (W.heap.size + 1) (W.alloc (.cells #[.slice (some ⟨bk, o, none⟩) ts.length cap, .bool vb, .int .i64 rd, .string rn] 31)) w1) := hb.out.trans (hb1.mono hws); clear hb1)
        go_roundw
        case rel => exact ⟨i + 1, by go_num, by omega, hb2, HA⟩
        case measure => simp [intOf]; omega
      | false =>
        have HA : Hid (sndD ts vb rd rn = false) := by
          have : ts.all sndT = false := by
            rw [List.all_eq_false]
            exact ⟨(d, n), List.mem_of_getElem? ht, by simp [sndT, hs]⟩
          rw [Hid, sndD, this]; rfl
        rw [hs] at HK
        have h1 : chkI false = 1 := rfl
        rw [h1] at HK
        clear h1 hs ht c1 x0 x1 HC HR hall hne HSR HBX HOLD
        go_wp2_with (go_at_call 22; refine (HK.out _).mono ?_; rintro e w1 ⟨rfl, hb1⟩)
        go_ret2
        exact ⟨by rw [(H1.out HA.out).1, (H1.out HA.out).2]; rfl, Below.step hbW.out hb1⟩
    · have HA : Hid (ts.all sndT = true) := by have := hall.out; rw [List.take_of_length_le (by omega)] at this; exact this
      cases hq : sndB rd rn.data.toList with
      | false =>
        have HD : Hid (sndD ts vb rd rn = false) := by rw [Hid, HSR.out, hq]; simp
        rw [hq] at HR
        have h1 : chkI false = 1 := rfl
        rw [h1] at HR
        clear h1 hq HC HA hall HSZ HSR HBX HOLD
        go_wp2_with (go_at_call 22; refine (HR.out _).mono ?_; rintro e w1 ⟨rfl, hb1⟩)
        go_ret2
        exact ⟨by rw [(H1.out HD.out).1, (H1.out HD.out).2]; rfl, Below.step hbW.out hb1⟩
      | true =>
        rw [hq] at HR
        have h1 : chkI true = 0 := rfl
        rw [h1] at HR
        clear h1
        have HW0 : Hid (∀ w, _) := written_int rd rn hq
        have HWS : Hid _ := writeT_small hq
        by_cases hbad : vb = true ∧ (rd ≠ 0 ∨ rn.toList.isEmpty = false)
        · obtain ⟨rfl, hbad⟩ := hbad
          have HD : Hid (sndD ts true rd rn = false) := by
            rw [Hid, HSR.out]
            rcases hbad with h | h <;> simp [h]
          by_cases h0 : rd = 0
          · have he : rn.toList.isEmpty = false := by
              rcases hbad with h | h
              · exact absurd h0 h
              · exact h
            have h0' : (rd != 0) = false := by simpa using h0
            clear hq HC HA hall HSZ HSR HOLD hbad h0 HW0 HWS
            go_wp2_with (go_at_call 22; refine (HR.out _).mono ?_; rintro e w1 ⟨rfl, hb1⟩; obtain ⟨y0, y1, y2, y3⟩ := HBX.out _ (hb.out.trans (hb1.mono hws)))
            go_ret2
            exact ⟨by rw [(H1.out HD.out).1, (H1.out HD.out).2]; rfl, Below.step hbW.out hb1⟩
          · have h0' : (rd != 0) = true := by simpa using h0
            clear hq HC HA hall HSZ HSR HOLD hbad h0 HW0 HWS
            go_wp2_with (go_at_call 22; refine (HR.out _).mono ?_; rintro e w1 ⟨rfl, hb1⟩; obtain ⟨y0, y1, y2, y3⟩ := HBX.out _ (hb.out.trans (hb1.mono hws)))
            go_ret2
            exact ⟨by rw [(H1.out HD.out).1, (H1.out HD.out).2]; rfl, Below.step hbW.out hb1⟩
        · have HD : Hid (sndD ts vb rd rn = true) := by
            rw [Hid, HSR.out, HA.out, hq]
            cases vb with
            | false => rfl
            | true =>
              have h1 : rd = 0 := by
                by_cases h : rd = 0
                · exact h
                · exact absurd ⟨rfl, .inl h⟩ hbad
              have h2 : rn.toList.isEmpty = true := by
                cases h : rn.toList.isEmpty with
                | true => rfl
                | false => exact absurd ⟨rfl, .inr h⟩ hbad
              simp [h1, h2]
          have g1 : vb = true → (rd != 0) = false ∧ rn.toList.isEmpty = true := fun hv => by
            constructor
            · by_cases h : rd = 0
              · simp [h]
              · exact absurd ⟨hv, .inl h⟩ hbad
            · cases h : rn.toList.isEmpty with
              | true => rfl
              | false => exact absurd ⟨hv, .inr h⟩ hbad
          cases vb with
          | true =>
            obtain ⟨h0', he⟩ := g1 rfl
            clear g1
            have HE5 : Hid (20 < ts.length → dtE ts true rd rn = 5 ∧ dtS ts true rd rn = []) := fun h => by
              have e : dtE ts true rd rn = 5 := by rw [dtE, HD.out, if_pos rfl, if_pos h]
              exact ⟨e, by rw [dtS, e]; rfl⟩
            by_cases h20 : 20 < ts.length
            · have h20' : (20 : Int) < (ts.length : Int) := by omega
              clear hq HC HA hall HSZ HSR HOLD hbad HW0 HWS H1
              go_wp2_with (go_at_call 22; refine (HR.out _).mono ?_; rintro e w1 ⟨rfl, hb1⟩; have hb2 : Hid (Below (W.heap.size + 1) (W.alloc (.cells #[.slice ao ts.length cap, .bool true, .int .i64 rd, .string rn] 31)) w1) := hb.out.trans (hb1.mono hws); obtain ⟨y0, y1, y2, y3⟩ := HBX.out _ hb2.out; clear hb1)
              go_ret2
              exact ⟨by rw [(HE5.out h20).1, (HE5.out h20).2]; rfl, ((Below.refl _ _).alloc (Nat.le_refl _) _).trans (hb2.out.mono (Nat.le_succ _))⟩
            · have h20' : ¬ (20 : Int) < (ts.length : Int) := by omega
              have HALL : Hid (∀ t ∈ ts, sndT t = true) := List.all_eq_true.1 HA.out
              have HLA : Hid (∀ i, (40 :: writeArgs ((ts.take i).map natOf)).length ≤ 8001) := fun i => by
                have h1 := writeArgs_small (ts.take i) (fun t ht => HALL.out t (List.mem_of_mem_take ht))
                have h2 : (ts.take i).length ≤ 20 := by rw [List.length_take]; omega
                rw [List.length_cons]; omega
              have HFIN : Hid (∀ tx : ByteArray, tx.data.toList = textD ts true rd rn → (2000 < tx.size → dtE ts true rd rn = 5 ∧ dtS ts true rd rn = []) ∧ (¬ 2000 < tx.size → dtE ts true rd rn = 0 ∧ (⟨(dtS ts true rd rn).toArray⟩ : ByteArray) = tx)) := fun tx htx => by
                have hl : (textD ts true rd rn).length = tx.size := by rw [← htx]; simp
                constructor
                · intro h
                  have e : dtE ts true rd rn = 5 := by rw [dtE, HD.out, if_pos rfl, if_neg h20, hl, if_pos h]
                  exact ⟨e, by rw [dtS, e]; rfl⟩
                · intro h
                  have e : dtE ts true rd rn = 0 := by rw [dtE, HD.out, if_pos rfl, if_neg h20, hl, if_neg h]
                  exact ⟨e, by rw [dtS, e, if_pos rfl, ← htx]⟩
              clear hq HA hall HSZ HSR hbad H1 HE5
              go_wp2_with (go_at_call 22; refine (HR.out _).mono ?_; rintro e w1 ⟨rfl, hb1⟩; have hb2 : Hid (Below (W.heap.size + 1) (W.alloc (.cells #[.slice ao ts.length cap, .bool true, .int .i64 rd, .string rn] 31)) w1) := hb.out.trans (hb1.mono hws); obtain ⟨y0, y1, y2, y3⟩ := HBX.out _ hb2.out; clear hb1)
              clear hb hbW b0 b1 b2 b3
              go_loopw [5, 6] (fun sv jv wx => ∃ (j : Nat) (acc : ByteArray), sv = .string acc ∧ jv = .int .i64 j ∧ j ≤ ts.length ∧ acc.size ≤ 8001 ∧ Hid (acc.data.toList = 40 :: writeArgs ((ts.take j).map natOf)) ∧ Hid (Below (W.heap.size + 1) (W.alloc (.cells #[.slice ao ts.length cap, .bool true, .int .i64 rd, .string rn] 31)) wx)) (fun _ jv _ => ts.length - (intOf jv).toNat)
              case atStart => exact ⟨0, _, rfl, rfl, Nat.zero_le _, by decide, by simp [Hid, writeArgs], hb2⟩
              case round =>
                clear hb2 y0 y1 y2 y3
                obtain ⟨j, acc, rfl, rfl, hj, hacc, hal, hB⟩ := hrel
                obtain ⟨b0, b1, b2, b3⟩ := HBX.out _ hB.out
                have hBW : Hid (Below W.heap.size W wr) := HOLD.out _ hB.out
                have hws2 : W.heap.size < wr.heap.size := by have := hB.out.size; simp at this; omega
                by_cases hlt2 : j < ts.length
                · have hne : ts ≠ [] := by intro e; rw [e] at hlt2; simp at hlt2
                  obtain ⟨bk, o, rfl, hbk, c1⟩ := HC.out hne
                  obtain ⟨⟨d, n⟩, ht⟩ : ∃ t, ts[j]? = some t := ⟨_, List.getElem?_eq_getElem hlt2⟩
                  obtain ⟨x0, x1⟩ := c1 j _ ht
                  have k0 : wr.cell? ⟨bk, o + j * 2, none⟩ = some (.int .i64 d) := (hBW.out.cell (p := ⟨bk, o + j * 2, none⟩) hbk).trans x0
                  have k1 : wr.cell? ⟨bk, o + j * 2 + 1, none⟩ = some (.string n) := (hBW.out.cell (p := ⟨bk, o + j * 2 + 1, none⟩) hbk).trans x1
                  have hsn : sndB d n.data.toList = true := HALL.out (d, n) (List.mem_of_getElem? ht)
                  have HW : Hid (∀ w, _) := written_int d n hsn
                  have hts : (⟨(writeT (d.toNat, n.data.toList)).toArray⟩ : ByteArray).size ≤ 400 := by rw [mk_size]; exact writeT_small hsn
                  have HST : Hid (acc.data.toList ++ (⟨(writeT (d.toNat, n.data.toList)).toArray⟩ : ByteArray).data.toList = 40 :: writeArgs ((ts.take (j + 1)).map natOf)) := by
                    rw [Hid, writeArgs_step ts j (d, n) ht, hal.out]
                    simp [natOf]
                  generalize (⟨(writeT (d.toNat, n.data.toList)).toArray⟩ : ByteArray) = tx at *
                  have HAC : Hid ((acc ++ tx).size ≤ 8001) := by
                    have h1 := HLA.out (j + 1)
                    rw [← HST.out, List.length_append] at h1
                    rw [Hid, ByteArray.size_append]
                    simpa using h1
                  clear hne c1 ht x0 x1 hsn HC HALL HLA HFIN HW0 HWS hal
                  go_wp2_with (go_at_call 45; refine (HW.out _).mono ?_; rintro e w2 ⟨rfl, hb3⟩; have hB2 : Hid (Below (W.heap.size + 1) (W.alloc (.cells #[.slice (some ⟨bk, o, none⟩) ts.length cap, .bool true, .int .i64 rd, .string rn] 31)) w2) := hB.out.trans (hb3.mono hws2); clear hb3)
                  go_roundw
                  case rel => exact ⟨j + 1, acc ++ tx, rfl, by go_num, by omega, HAC.out, by rw [Hid, ← HST.out]; simp [ByteArray.data_append], hB2⟩
                  case measure => simp [intOf]; omega
                · have htk : ts.take j = ts := List.take_of_length_le (by omega)
                  have hal2 := hal.out
                  rw [htk] at hal2
                  have HTX := HFIN.out (acc ++ ⟨#[41]⟩ ++ ⟨#[86]⟩) (by simp [ByteArray.data_append, hal2, textD, retS])
                  have hsx : (acc ++ ⟨#[41]⟩ ++ ⟨#[86]⟩ : ByteArray).size = acc.size + 1 + 1 := by rw [ByteArray.size_append, ByteArray.size_append]; rfl
                  have HTX' : Hid _ := HTX
                  clear htk hal hal2 HC HALL HLA HFIN HW0 HWS HTX
                  by_cases hbig : 2000 < (acc ++ ⟨#[41]⟩ ++ ⟨#[86]⟩ : ByteArray).size
                  · have hbi : (2000 : Int) < ((acc ++ ⟨#[41]⟩ ++ ⟨#[86]⟩ : ByteArray).size : Int) := by omega
                    have HR5 : Hid _ := HTX'.out.1 hbig
                    clear HTX' hbig
                    rw [hsx] at hbi
                    go_wp2
                    go_ret2
                    exact ⟨by rw [HR5.out.1, HR5.out.2]; rfl, hBW.out⟩
                  · have hbi : ¬ (2000 : Int) < ((acc ++ ⟨#[41]⟩ ++ ⟨#[86]⟩ : ByteArray).size : Int) := by omega
                    have HR0 : Hid _ := HTX'.out.2 hbig
                    clear HTX' hbig
                    rw [hsx] at hbi
                    go_wp2
                    go_ret2
                    exact ⟨by rw [HR0.out.1, HR0.out.2]; rfl, hBW.out⟩
          | false =>
            clear g1
            have HE5 : Hid (20 < ts.length → dtE ts false rd rn = 5 ∧ dtS ts false rd rn = []) := fun h => by
              have e : dtE ts false rd rn = 5 := by rw [dtE, HD.out, if_pos rfl, if_pos h]
              exact ⟨e, by rw [dtS, e]; rfl⟩
            by_cases h20 : 20 < ts.length
            · have h20' : (20 : Int) < (ts.length : Int) := by omega
              clear hq HC HA hall HSZ HSR HOLD hbad HW0 HWS H1
              go_wp2_with (go_at_call 22; refine (HR.out _).mono ?_; rintro e w1 ⟨rfl, hb1⟩; have hb2 : Hid (Below (W.heap.size + 1) (W.alloc (.cells #[.slice ao ts.length cap, .bool false, .int .i64 rd, .string rn] 31)) w1) := hb.out.trans (hb1.mono hws); obtain ⟨y0, y1, y2, y3⟩ := HBX.out _ hb2.out; clear hb1)
              go_ret2
              exact ⟨by rw [(HE5.out h20).1, (HE5.out h20).2]; rfl, ((Below.refl _ _).alloc (Nat.le_refl _) _).trans (hb2.out.mono (Nat.le_succ _))⟩
            · have h20' : ¬ (20 : Int) < (ts.length : Int) := by omega
              have HALL : Hid (∀ t ∈ ts, sndT t = true) := List.all_eq_true.1 HA.out
              have HLA : Hid (∀ i, (40 :: writeArgs ((ts.take i).map natOf)).length ≤ 8001) := fun i => by
                have h1 := writeArgs_small (ts.take i) (fun t ht => HALL.out t (List.mem_of_mem_take ht))
                have h2 : (ts.take i).length ≤ 20 := by rw [List.length_take]; omega
                rw [List.length_cons]; omega
              have HFIN : Hid (∀ tx : ByteArray, tx.data.toList = textD ts false rd rn → (2000 < tx.size → dtE ts false rd rn = 5 ∧ dtS ts false rd rn = []) ∧ (¬ 2000 < tx.size → dtE ts false rd rn = 0 ∧ (⟨(dtS ts false rd rn).toArray⟩ : ByteArray) = tx)) := fun tx htx => by
                have hl : (textD ts false rd rn).length = tx.size := by rw [← htx]; simp
                constructor
                · intro h
                  have e : dtE ts false rd rn = 5 := by rw [dtE, HD.out, if_pos rfl, if_neg h20, hl, if_pos h]
                  exact ⟨e, by rw [dtS, e]; rfl⟩
                · intro h
                  have e : dtE ts false rd rn = 0 := by rw [dtE, HD.out, if_pos rfl, if_neg h20, hl, if_neg h]
                  exact ⟨e, by rw [dtS, e, if_pos rfl, ← htx]⟩
              clear hq HA hall HSZ HSR hbad H1 HE5
              go_wp2_with (go_at_call 22; refine (HR.out _).mono ?_; rintro e w1 ⟨rfl, hb1⟩; have hb2 : Hid (Below (W.heap.size + 1) (W.alloc (.cells #[.slice ao ts.length cap, .bool false, .int .i64 rd, .string rn] 31)) w1) := hb.out.trans (hb1.mono hws); obtain ⟨y0, y1, y2, y3⟩ := HBX.out _ hb2.out; clear hb1)
              clear hb hbW b0 b1 b2 b3
              go_loopw [5, 6] (fun sv jv wx => ∃ (j : Nat) (acc : ByteArray), sv = .string acc ∧ jv = .int .i64 j ∧ j ≤ ts.length ∧ acc.size ≤ 8001 ∧ Hid (acc.data.toList = 40 :: writeArgs ((ts.take j).map natOf)) ∧ Hid (Below (W.heap.size + 1) (W.alloc (.cells #[.slice ao ts.length cap, .bool false, .int .i64 rd, .string rn] 31)) wx)) (fun _ jv _ => ts.length - (intOf jv).toNat)
              case atStart => exact ⟨0, _, rfl, rfl, Nat.zero_le _, by decide, by simp [Hid, writeArgs], hb2⟩
              case round =>
                clear hb2 y0 y1 y2 y3
                obtain ⟨j, acc, rfl, rfl, hj, hacc, hal, hB⟩ := hrel
                obtain ⟨b0, b1, b2, b3⟩ := HBX.out _ hB.out
                have hBW : Hid (Below W.heap.size W wr) := HOLD.out _ hB.out
                have hws2 : W.heap.size < wr.heap.size := by have := hB.out.size; simp at this; omega
                by_cases hlt2 : j < ts.length
                · have hne : ts ≠ [] := by intro e; rw [e] at hlt2; simp at hlt2
                  obtain ⟨bk, o, rfl, hbk, c1⟩ := HC.out hne
                  obtain ⟨⟨d, n⟩, ht⟩ : ∃ t, ts[j]? = some t := ⟨_, List.getElem?_eq_getElem hlt2⟩
                  obtain ⟨x0, x1⟩ := c1 j _ ht
                  have k0 : wr.cell? ⟨bk, o + j * 2, none⟩ = some (.int .i64 d) := (hBW.out.cell (p := ⟨bk, o + j * 2, none⟩) hbk).trans x0
                  have k1 : wr.cell? ⟨bk, o + j * 2 + 1, none⟩ = some (.string n) := (hBW.out.cell (p := ⟨bk, o + j * 2 + 1, none⟩) hbk).trans x1
                  have hsn : sndB d n.data.toList = true := HALL.out (d, n) (List.mem_of_getElem? ht)
                  have HW : Hid (∀ w, _) := written_int d n hsn
                  have hts : (⟨(writeT (d.toNat, n.data.toList)).toArray⟩ : ByteArray).size ≤ 400 := by rw [mk_size]; exact writeT_small hsn
                  have HST : Hid (acc.data.toList ++ (⟨(writeT (d.toNat, n.data.toList)).toArray⟩ : ByteArray).data.toList = 40 :: writeArgs ((ts.take (j + 1)).map natOf)) := by
                    rw [Hid, writeArgs_step ts j (d, n) ht, hal.out]
                    simp [natOf]
                  generalize (⟨(writeT (d.toNat, n.data.toList)).toArray⟩ : ByteArray) = tx at *
                  have HAC : Hid ((acc ++ tx).size ≤ 8001) := by
                    have h1 := HLA.out (j + 1)
                    rw [← HST.out, List.length_append] at h1
                    rw [Hid, ByteArray.size_append]
                    simpa using h1
                  clear hne c1 ht x0 x1 hsn HC HALL HLA HFIN HW0 HWS hal
                  go_wp2_with (go_at_call 45; refine (HW.out _).mono ?_; rintro e w2 ⟨rfl, hb3⟩; have hB2 : Hid (Below (W.heap.size + 1) (W.alloc (.cells #[.slice (some ⟨bk, o, none⟩) ts.length cap, .bool false, .int .i64 rd, .string rn] 31)) w2) := hB.out.trans (hb3.mono hws2); clear hb3)
                  go_roundw
                  case rel => exact ⟨j + 1, acc ++ tx, rfl, by go_num, by omega, HAC.out, by rw [Hid, ← HST.out]; simp [ByteArray.data_append], hB2⟩
                  case measure => simp [intOf]; omega
                · have htk : ts.take j = ts := List.take_of_length_le (by omega)
                  have hal2 := hal.out
                  rw [htk] at hal2
                  have HTX := HFIN.out (acc ++ ⟨#[41]⟩ ++ ⟨(writeT (rd.toNat, rn.data.toList)).toArray⟩) (by simp [ByteArray.data_append, hal2, textD, retS])
                  have hts : (⟨(writeT (rd.toNat, rn.data.toList)).toArray⟩ : ByteArray).size ≤ 400 := by rw [mk_size]; exact HWS.out
                  generalize (⟨(writeT (rd.toNat, rn.data.toList)).toArray⟩ : ByteArray) = tx at *
                  have hsx : (acc ++ ⟨#[41]⟩ ++ tx : ByteArray).size = acc.size + 1 + tx.size := by rw [ByteArray.size_append, ByteArray.size_append]; rfl
                  have HTX' : Hid _ := HTX
                  clear htk hal hal2 HC HALL HLA HFIN HWS HTX
                  by_cases hbig : 2000 < (acc ++ ⟨#[41]⟩ ++ tx : ByteArray).size
                  · have hbi : (2000 : Int) < ((acc ++ ⟨#[41]⟩ ++ tx : ByteArray).size : Int) := by omega
                    have HR5 : Hid _ := HTX'.out.1 hbig
                    clear HTX' hbig
                    rw [hsx] at hbi
                    go_wp2_with (go_at_call 45; refine (HW0.out _).mono ?_; rintro e w2 ⟨rfl, hb3⟩)
                    go_ret2
                    exact ⟨by rw [HR5.out.1, HR5.out.2]; rfl, Below.step hBW.out hb3⟩
                  · have hbi : ¬ (2000 : Int) < ((acc ++ ⟨#[41]⟩ ++ tx : ByteArray).size : Int) := by omega
                    have HR0 : Hid _ := HTX'.out.2 hbig
                    clear HTX' hbig
                    rw [hsx] at hbi
                    go_wp2_with (go_at_call 45; refine (HW0.out _).mono ?_; rintro e w2 ⟨rfl, hb3⟩)
                    go_ret2
                    exact ⟨by rw [HR0.out.1, HR0.out.2]; rfl, Below.step hBW.out hb3⟩

end Go.Proofs.Ytaljppicmookeaa
