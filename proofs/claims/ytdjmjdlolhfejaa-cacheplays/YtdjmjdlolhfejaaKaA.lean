/- Atomic pointers, called by one goroutine: LoadPointer, SwapPointer, StorePointer; atomic.Pointer's three methods at the cache's entry; atomic.Int64's Add and Load. -/
import Derived.Test.YtdjmjdlolhfejaaLocks
import Derived.Conc.RwLoneW
import Derived.WalkKit
import Derived.OwnWalk
import Derived.Laws.LoneSync
import Derived.Deep.OwnRows
import Derived.IntWalk
import Derived.Lib.SmallJoins
import Derived.Defers
namespace Go.Proofs.Ytdjmjdlolhfejaa
open Go.RowKit

section
variable {P : Program} {f : FuncId} {fn : Func}
theorem run_call_loadP (hf : P.funcs[f]? = some fn) (hname : (fn.name == "runtime.NumGoroutine") = false) (hb : fn.body.isNone = true) (hn : Extern.findNext fn = none)
    (he : Extern.find fn = some (Extern.Atomic.loadT .ptr)) {a : Addr} {x : Option Addr} {w : World} (hc : w.cell? a = some (.pointer x)) :
    (callFunc f #[.pointer (some a)]).run P w = .ok (.value (.pointer x)) w := by
  rw [run_callFunc_extern hf hname hb hn he]
  change (Sem.run P (do Extern.Atomic.read .ptr (← asAddr (.pointer (some a)))) w).andThen _ = _
  simp [Extern.Atomic.read, asAddr, hc, Result.andThen]
theorem run_call_storeP (hf : P.funcs[f]? = some fn) (hname : (fn.name == "runtime.NumGoroutine") = false) (hb : fn.body.isNone = true) (hn : Extern.findNext fn = none)
    (he : Extern.find fn = some Extern.Atomic.storeT) {a : Addr} {y : Option Addr} {u : Value} {w : World} (hc : w.cell? a = some u) (hz : w.frozen? a = false) :
    (callFunc f #[.pointer (some a), .pointer y]).run P w = .ok (.value (.tuple #[])) (w.setCell a (.pointer y)) := by
  rw [run_callFunc_extern hf hname hb hn he]
  change (Sem.run P (do
    store (← asAddr (.pointer (some a))) (.pointer y) .atomic
    pure Extern.Atomic.none_) w).andThen _ = _
  simp [asAddr, hc, hz, run_store P w a (.pointer y) .atomic rfl, Result.andThen, Extern.Atomic.none_]
theorem run_call_swapP (hf : P.funcs[f]? = some fn) (hname : (fn.name == "runtime.NumGoroutine") = false) (hb : fn.body.isNone = true) (hn : Extern.findNext fn = none)
    (he : Extern.find fn = some (Extern.Atomic.swapT .ptr)) {a : Addr} {x y : Option Addr} {w : World} (hc : w.cell? a = some (.pointer x)) (hz : w.frozen? a = false) :
    (callFunc f #[.pointer (some a), .pointer y]).run P w = .ok (.value (.pointer x)) (w.setCell a (.pointer y)) := by
  rw [run_callFunc_extern hf hname hb hn he]
  change (Sem.run P (do
    let a' ← asAddr (.pointer (some a))
    let old ← Extern.Atomic.read .ptr a'
    store a' (.pointer y) .atomic
    pure old) w).andThen _ = _
  simp [Extern.Atomic.read, asAddr, hc, hz, run_store P w a (.pointer y) .atomic rfl, Result.andThen]
end

/-- a bare pointer to an entry's block, as a pointer to an entry again -/
theorem conv_up (b : Nat) (c : Array Value) (hs : c.size = 2) (w : World) (h : w.heap[b]? = some (.cells c 75 (0, 0))) :
    (convert 84 82 (.pointer (some ⟨b, 0, none⟩))).run Try.prog w = .ok (.pointer (some ⟨b, 0, none⟩)) w := by
  have h1 : w.shape? b = some (75, 2) := by simp [World.shape?, h, hs]
  have h2 : liesAt Try.prog Try.prog.depth 75 (2 / Try.prog.cellsOf 75) 0 75 1 = true := by kernel_rfl
  have h3 := Try.sizeOf75 w
  simp [convert, Conv.unsafePointer, Conv.seenAt, viewAt, variablesAt, run_underlying Try.underlying84, run_underlying Try.underlying82, h1, h2, h3, Result.andThen]
theorem conv_up0 (w : World) : (convert 84 82 (.pointer none)).run Try.prog w = .ok (.pointer none) w := by
  simp [convert, Conv.unsafePointer, run_underlying Try.underlying84, run_underlying Try.underlying82, Result.andThen]
theorem conv_to0 (w : World) : (convert 82 84 (.pointer none)).run Try.prog w = .ok (.pointer none) w := by
  simp [convert, Conv.unsafePointer, run_underlying Try.underlying84, run_underlying Try.underlying82, Result.andThen]
theorem conv_to (b : Nat) (v : Value) (w : World) (h : w.cell? ⟨b, 0, none⟩ = some v) : (convert 82 84 (.pointer (some ⟨b, 0, none⟩))).run Try.prog w = .ok (.pointer (some ⟨b, 0, none⟩)) w :=
  run_convert_to_unsafe Try.underlying82 Try.underlying84 (by kernel_rfl) h
/-- what an atomic pointer may hold: nothing, or an entry's block -/
def PtrE (w : World) (x : Option Addr) (l : List (Int × Int)) : Prop :=
  (x = none ∧ l = []) ∨ ∃ b k v, x = some ⟨b, 0, none⟩ ∧ l = [(k, v)] ∧ w.heap[b]? = some (.cells #[.int .i64 k, .int .i64 v] 75 (0, 0))
set_option maxRecDepth 100000 in
theorem pload_c (q : Nat) (x : Option Addr) (l : List (Int × Int)) (W : World) (h0 : W.cell? ⟨q, 0, none⟩ = some (.pointer x)) (hp : PtrE W x l) :
    Calls Try.prog 90 #[.pointer (some ⟨q, 0, none⟩)] W fun e w' => e = .returned (.pointer x) ∧ w' = W := by
  have ha := run_call_loadP (P := Try.prog) Try.func93 (by kernel_rfl) (by kernel_rfl) (by kernel_rfl) (by kernel_rfl) h0
  rcases hp with ⟨rfl, _⟩ | ⟨b, k, v, rfl, _, hb⟩
  · have hc := conv_up0 W
    go_enter Try.func90, Try.ntmps90
    go_wp2
    go_ret
    exact ⟨rfl, rfl⟩
  · have hc := conv_up b _ rfl W hb
    clear hb
    go_enter Try.func90, Try.ntmps90
    go_wp2
    go_ret
    exact ⟨rfl, rfl⟩
set_option maxRecDepth 100000 in
theorem pstore0_c (q : Nat) (u : Value) (W : World) (h0 : W.cell? ⟨q, 0, none⟩ = some u) (f0 : W.frozen? ⟨q, 0, none⟩ = false) :
    Calls Try.prog 89 #[.pointer (some ⟨q, 0, none⟩), .pointer none] W fun e w' => e = .returned (.tuple #[]) ∧ w' = W.setCell ⟨q, 0, none⟩ (.pointer none) := by
  have ha := run_call_storeP (P := Try.prog) Try.func92 (by kernel_rfl) (by kernel_rfl) (by kernel_rfl) (by kernel_rfl) (y := none) h0 f0
  have hc := conv_to0 W
  go_enter Try.func89, Try.ntmps89
  go_wp2
  exact bodyPost_end (results_none rfl _ _ _) rfl ⟨rfl, rfl⟩
set_option maxRecDepth 100000 in
theorem pswap_c (q : Nat) (x : Option Addr) (l : List (Int × Int)) (W : World) (h0 : W.cell? ⟨q, 0, none⟩ = some (.pointer x)) (f0 : W.frozen? ⟨q, 0, none⟩ = false) (hp : PtrE W x l) (hq : ∀ b, x = some ⟨b, 0, none⟩ → b ≠ q)
    (e : Nat) (u : Value) (he : W.cell? ⟨e, 0, none⟩ = some u) :
    Calls Try.prog 91 #[.pointer (some ⟨q, 0, none⟩), .pointer (some ⟨e, 0, none⟩)] W fun r w' => r = .returned (.pointer x) ∧ w' = W.setCell ⟨q, 0, none⟩ (.pointer (some ⟨e, 0, none⟩)) := by
  have ha := run_call_swapP (P := Try.prog) Try.func94 (by kernel_rfl) (by kernel_rfl) (by kernel_rfl) (by kernel_rfl) (y := some ⟨e, 0, none⟩) h0 f0
  have hc := conv_to e u W he
  rcases hp with ⟨rfl, _⟩ | ⟨b, k, v, rfl, _, hb⟩
  · have hc := conv_up0 (W.setCell ⟨q, 0, none⟩ (.pointer (some ⟨e, 0, none⟩)))
    go_enter Try.func91, Try.ntmps91
    go_wp2
    go_ret
    exact ⟨rfl, rfl⟩
  · have hc := conv_up b _ rfl (W.setCell ⟨q, 0, none⟩ (.pointer (some ⟨e, 0, none⟩))) ((Below.heap_setCell _ _ _ _ (hq b rfl)).trans hb)
    clear hb
    go_enter Try.func91, Try.ntmps91
    go_wp2
    go_ret
    exact ⟨rfl, rfl⟩
/-- what a sum of two ints of 64 bits is -/
theorem add64 (x y : Int) (w : World) : (Op.intArith .add .i64 x y).run Try.prog w = .ok (.int .i64 (wrap64 (x + y))) w := by simp [go_sem, wrap64, IntKind.wrap_i64]
set_option maxRecDepth 100000 in
theorem iadd_c (q k : Nat) (x y : Int) (W : World) (h0 : W.cell? ⟨q, k, none⟩ = some (.int .i64 x)) (f0 : W.frozen? ⟨q, k, none⟩ = false) :
    Calls Try.prog 27 #[.pointer (some ⟨q, k, none⟩), .int .i64 y] W fun e w' => e = .returned (.int .i64 (wrap64 (x + y))) ∧ w' = W.setCell ⟨q, k, none⟩ (.int .i64 (wrap64 (x + y))) := by
  have ha := run_call_add (P := Try.prog) Try.func45 (by kernel_rfl) (by kernel_rfl) (by kernel_rfl) .i64 (by kernel_rfl) h0 f0 (add64 x y W)
  go_enter Try.func27, Try.ntmps27
  go_wp2
  go_ret
  exact ⟨rfl, rfl⟩
set_option maxRecDepth 100000 in
theorem iload_c (q k : Nat) (x : Int) (W : World) (h0 : W.cell? ⟨q, k, none⟩ = some (.int .i64 x)) :
    Calls Try.prog 30 #[.pointer (some ⟨q, k, none⟩)] W fun e w' => e = .returned (.int .i64 x) ∧ w' = W := by
  have ha := run_call_load (P := Try.prog) Try.func52 (by kernel_rfl) (by kernel_rfl) (by kernel_rfl) .i64 (by kernel_rfl) h0
  go_enter Try.func30, Try.ntmps30
  go_wp2
  go_ret
  exact ⟨rfl, rfl⟩
end Go.Proofs.Ytdjmjdlolhfejaa
