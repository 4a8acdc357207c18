/- The document's cache: Put where nothing is turned out for want of a look. -/
import Derived.Test.YtdjmjdlolhfejaaKbC
namespace Go.Proofs.Ytdjmjdlolhfejaa
open Go.RowKit Go.Maps

set_option maxRecDepth 100000 in
set_option maxHeartbeats 2000000 in
/-- Put at a cache of no room -/
theorem rput_0 {W : World} {r : Nat} {kv vv : Value} {L : List (Int × Int)} {h m : Int} (H : RcAt W r 0 kv vv L h m) (key value : Int) :
    Calls Try.prog 19 #[.pointer (some ⟨r, 0, none⟩), .int .i64 key, .int .i64 value] W fun e w' => e = .returned (.tuple #[.int .i64 0, .int .i64 0, .bool false]) ∧ w' = W := by
  have c0 : W.cell? ⟨r, 0, none⟩ = some (.int .i64 0) := H.cells.1
  clear H
  go_enter Try.func19, Try.ntmps19
  go_wp2
  go_ret3
  exact ⟨rfl, rfl⟩
set_option maxRecDepth 100000 in
set_option maxHeartbeats 2000000 in
/-- Put where the key is there -/
theorem rput_yes {W : World} {r cap : Nat} {kv vv : Value} {L : List (Int × Int)} {h m : Int} (H : RcAt W r cap kv vv L h m) (h1 : 1 ≤ cap) (hL : L.length ≤ 100) (key value : Int) {i : Nat} (hp : plI key L 0 = (i : Int)) :
    Calls Try.prog 19 #[.pointer (some ⟨r, 0, none⟩), .int .i64 key, .int .i64 value] W fun e w' => e = .returned (.tuple #[.int .i64 0, .int .i64 0, .bool false]) ∧ (∃ kv' vv', RcAt w' r cap kv' vv' ((key, value) :: rmA i L 0) h m) ∧ Tch (fun k => k = r) W w' := by
  have c0 := H.cells.1
  have hz : ¬ ((cap : Int) = 0) := by omega
  have HP : Hid (Calls Try.prog 32 #[.pointer (some ⟨r, 0, none⟩), .int .i64 key] W fun e w' => e = .returned (.int .i64 (i : Int)) ∧ w' = W) := by have q := rplace_c H (by omega) key; rw [hp] at q; exact q
  have HC : Hid (Calls Try.prog 33 #[.pointer (some ⟨r, 0, none⟩), .int .i64 (i : Int), .int .i64 key, .int .i64 value] W fun e w' => e = .returned (.tuple #[]) ∧ (∃ kv' vv', RcAt w' r cap kv' vv' ((key, value) :: rmA i L 0) h m) ∧ Tch (fun k => k = r) W w') := rtake_c H hL i key value
  clear H hp
  go_enter Try.func19, Try.ntmps19
  go_wp2_with (first
    | (go_at_call 32; refine HP.out.mono ?_; rintro e w' ⟨rfl, hwq⟩; obtain rfl := hwq.symm)
    | (go_at_call 33; refine HC.out.mono ?_; rintro e w' ⟨rfl, hk2, ht2⟩))
  go_ret3
  exact ⟨rfl, hk2, ht2⟩
end Go.Proofs.Ytdjmjdlolhfejaa
