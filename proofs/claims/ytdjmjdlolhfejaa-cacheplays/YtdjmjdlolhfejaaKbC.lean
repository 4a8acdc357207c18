/- The document's cache: room, Get. -/
import Derived.Test.YtdjmjdlolhfejaaKbB
namespace Go.Proofs.Ytdjmjdlolhfejaa
open Go.RowKit Go.Maps

theorem plI_cases (key : Int) : ∀ (L : List (Int × Int)) (k : Nat), (plI key L k = -1 ∧ ∀ x ∈ L, x.1 ≠ key) ∨ ∃ (i : Nat) (y : Int), L[i]? = some (key, y) ∧ plI key L k = ((k + i : Nat) : Int) ∧ ∀ x ∈ L.take i, x.1 ≠ key
  | [], _ => .inl ⟨rfl, by simp⟩
  | (a, b) :: r, k => by
    by_cases e : a = key
    · subst e
      exact .inr ⟨0, b, rfl, by simp [plI], by simp⟩
    · rcases plI_cases key r (k + 1) with ⟨h1, h2⟩ | ⟨i, y, h1, h2, h3⟩
      · refine .inl ⟨by rw [plI, if_neg e]; exact h1, ?_⟩
        intro x hx
        rcases List.mem_cons.1 hx with rfl | hx
        · exact e
        · exact h2 x hx
      · refine .inr ⟨i + 1, y, by simpa using h1, by rw [plI, if_neg e, h2]; congr 1; omega, ?_⟩
        intro x hx
        rw [List.take_succ_cons] at hx
        rcases List.mem_cons.1 hx with rfl | hx
        · exact e
        · exact h3 x hx
/-- the room of a set -/
def rrmV (cap s : Nat) : Nat := if cap % 2 = 1 ∧ s + 1 = (cap + 1) / 2 then 1 else 2
set_option maxRecDepth 100000 in
set_option maxHeartbeats 1000000 in
theorem rroom_c {W : World} {r cap : Nat} {kv vv : Value} {L : List (Int × Int)} {h m : Int} (H : RcAt W r cap kv vv L h m) (h64 : cap ≤ 64) (s : Nat) (hs : s < 64) :
    Calls Try.prog 35 #[.pointer (some ⟨r, 0, none⟩), .int .i64 (s : Int)] W fun e w' => e = .returned (.int .i64 (rrmV cap s : Nat)) ∧ w' = W := by
  have HS : Hid (Calls Try.prog 36 #[.pointer (some ⟨r, 0, none⟩)] W fun e w' => e = .returned (.int .i64 ((cap + 1) / 2 : Nat)) ∧ w' = W) := rsets_c H h64
  have c0 := H.cells.1
  have HR : Hid (rrmV cap s = if cap % 2 = 1 ∧ s + 1 = (cap + 1) / 2 then 1 else 2) := rfl
  obtain ⟨n, hn⟩ : ∃ n, (cap + 1) / 2 = n := ⟨_, rfl⟩
  have hk2 : n ≤ 32 := by omega
  rw [hn] at HS HR
  generalize rrmV cap s = Z at *
  clear H hn
  by_cases p : cap % 2 = 1
  · have p1 : Int.tmod (cap : Int) 2 = 1 := by rw [Int.tmod_eq_emod_of_nonneg (by omega)]; omega
    by_cases q : s + 1 = n
    · have q1 : (s : Int) = wrap64 ((n : Int) - 1) := by unfold wrap64; omega
      obtain rfl : Z = 1 := by rw [HR.out, if_pos ⟨p, q⟩]
      clear HR
      go_enter Try.func35, Try.ntmps35
      go_wp2_with (go_at_call 36; refine HS.out.mono ?_; rintro e w' ⟨rfl, hwq⟩; obtain rfl := hwq.symm)
      go_ret
      exact ⟨rfl, rfl⟩
    · have q1 : ¬ (s : Int) = wrap64 ((n : Int) - 1) := by unfold wrap64; omega
      obtain rfl : Z = 2 := by rw [HR.out, if_neg (fun x => q x.2)]
      clear HR
      go_enter Try.func35, Try.ntmps35
      go_wp2_with (go_at_call 36; refine HS.out.mono ?_; rintro e w' ⟨rfl, hwq⟩; obtain rfl := hwq.symm)
      go_ret
      exact ⟨rfl, rfl⟩
  · have p1 : ¬ Int.tmod (cap : Int) 2 = 1 := by rw [Int.tmod_eq_emod_of_nonneg (by omega)]; omega
    obtain rfl : Z = 2 := by rw [HR.out, if_neg (fun x => p x.1)]
    clear HR
    go_enter Try.func35, Try.ntmps35
    go_wp2
    go_ret
    exact ⟨rfl, rfl⟩
theorem plI_none {key : Int} {L : List (Int × Int)} (h : ∀ x ∈ L, x.1 ≠ key) : plI key L 0 = -1 := by
  rcases plI_cases key L 0 with ⟨h1, _⟩ | ⟨i, y, h1, _⟩
  · exact h1
  · exact absurd rfl (h _ (List.mem_of_getElem? h1))
set_option maxRecDepth 100000 in
set_option maxHeartbeats 2000000 in
/-- Get where the key is not there -/
theorem rget_no {W : World} {r cap : Nat} {kv vv : Value} {L : List (Int × Int)} {h m : Int} (H : RcAt W r cap kv vv L h m) (hL : L.length ≤ 100) (key : Int) (hk : ∀ x ∈ L, x.1 ≠ key) :
    Calls Try.prog 18 #[.pointer (some ⟨r, 0, none⟩), .int .i64 key] W fun e w' => e = .returned (.tuple #[.int .i64 0, .bool false]) ∧ RcAt w' r cap kv vv L h (wrap64 (m + 1)) ∧ Tch (fun k => k = r) W w' := by
  have HP : Hid (Calls Try.prog 32 #[.pointer (some ⟨r, 0, none⟩), .int .i64 key] W fun e w' => e = .returned (.int .i64 (-1)) ∧ w' = W) := by have q := rplace_c H (by omega) key; rw [plI_none hk] at q; exact q
  obtain ⟨c0, c1, c2, c3, c4, cf, hl⟩ := H.cells
  have f4 := cf 4
  have HH : Hid (RcAt W r cap kv vv L h m) := H
  clear H c0 c1 c2 c3 cf hk
  go_enter Try.func18, Try.ntmps18
  go_wp2_with (go_at_call 32; refine HP.out.mono ?_; rintro e w' ⟨rfl, hwq⟩; obtain rfl := hwq.symm)
  go_ret2
  exact ⟨rfl, HH.out.setn 4 _ rfl, Tch.set (S := fun k => k = r) (Tch.refl _ _) (.inl rfl) _⟩
set_option maxRecDepth 100000 in
set_option maxHeartbeats 2000000 in
/-- Get where the key is there -/
theorem rget_yes {W : World} {r cap : Nat} {kv vv : Value} {L : List (Int × Int)} {h m : Int} (H : RcAt W r cap kv vv L h m) (hL : L.length ≤ 100) (key : Int) {i : Nat} {y : Int} (hy : L[i]? = some (key, y)) (hp : plI key L 0 = (i : Int)) :
    Calls Try.prog 18 #[.pointer (some ⟨r, 0, none⟩), .int .i64 key] W fun e w' => e = .returned (.tuple #[.int .i64 y, .bool true]) ∧ (∃ kv' vv', RcAt w' r cap kv' vv' ((key, y) :: rmA i L 0) (wrap64 (h + 1)) m) ∧ Tch (fun k => k = r) W w' := by
  have hi := (List.getElem?_eq_some_iff.1 hy).1
  have HP : Hid (Calls Try.prog 32 #[.pointer (some ⟨r, 0, none⟩), .int .i64 key] W fun e w' => e = .returned (.int .i64 (i : Int)) ∧ w' = W) := by have q := rplace_c H (by omega) key; rw [hp] at q; exact q
  obtain ⟨c0, c1, c2, c3, c4, cf, hl⟩ := H.cells
  have f3 := cf 3
  have HT : Hid (Tch (fun k => k = r) W (W.setCell ⟨r, 3, none⟩ (.int .i64 (wrap64 (h + 1))))) := Tch.set (S := fun k => k = r) (Tch.refl _ _) (.inl rfl) _
  have H2 : RcAt (W.setCell ⟨r, 3, none⟩ (.int .i64 (wrap64 (h + 1)))) r cap kv vv L (wrap64 (h + 1)) m := H.setn 3 _ rfl
  have HC : Hid (Calls Try.prog 33 #[.pointer (some ⟨r, 0, none⟩), .int .i64 (i : Int), .int .i64 key, .int .i64 y] (W.setCell ⟨r, 3, none⟩ (.int .i64 (wrap64 (h + 1)))) fun e w' => e = .returned (.tuple #[]) ∧ (∃ kv' vv', RcAt w' r cap kv' vv' ((key, y) :: rmA i L 0) (wrap64 (h + 1)) m) ∧ Tch (fun k => k = r) (W.setCell ⟨r, 3, none⟩ (.int .i64 (wrap64 (h + 1)))) w') := rtake_c H2 hL i key y
  obtain ⟨n, hn⟩ : ∃ n, L.length = n := ⟨_, rfl⟩
  have hvs := H2.vs
  rw [hn] at hvs
  obtain ⟨wa, wc, rfl⟩ := ownv hvs
  obtain ⟨g, rfl⟩ : ∃ g, wa = some ⟨g, 0, none⟩ := by
    rcases hvs.2 with ⟨_, e⟩ | ⟨g, c, cur, e, _⟩
    · omega
    · cases e; exact ⟨g, rfl⟩
  have y9 : (W.setCell ⟨r, 3, none⟩ (.int .i64 (wrap64 (h + 1)))).cell? ⟨g, i, none⟩ = some (.int .i64 y) := (hvs.cellAt i (by omega)).trans (by simp [intC, hy])
  have y2 := H2.cells.2.2.1
  have hin : i < n := by omega
  clear H H2 hvs hy hp c0 c1 c4 cf hn
  go_enter Try.func18, Try.ntmps18
  go_wp2_with (first
    | (go_at_call 32; refine HP.out.mono ?_; rintro e w' ⟨rfl, hwq⟩; obtain rfl := hwq.symm)
    | (go_at_call 33; refine HC.out.mono ?_; rintro e w' ⟨rfl, hk2, ht2⟩))
  go_ret2
  exact ⟨rfl, hk2, HT.out.trans ht2 (fun _ _ x => x)⟩
end Go.Proofs.Ytdjmjdlolhfejaa
