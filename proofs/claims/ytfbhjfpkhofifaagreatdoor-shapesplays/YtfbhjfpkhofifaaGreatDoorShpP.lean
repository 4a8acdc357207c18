/- The walk of the document's Print (arbiterref05); what was there before stays. -/
import Derived.Test.YtfbhjfpkhofifaaGreatDoorSoG
import Derived.Test.YtfbhjfpkhofifaaGreatDoorCodeJ
namespace Go.Proofs.YtfbhjfpkhofifaaGreatDoor
open Go.RowKit

/-- the pieces of a class's text, as the document's Print lays them -/
def tHead (nm su : List UInt8) : List UInt8 := [99, 108, 97, 115, 115, 32] ++ nm ++ [10, 115, 117, 112, 101, 114, 32] ++ su ++ [10]
def tIf (p : List UInt8) : List UInt8 := [105, 102, 97, 99, 101, 32] ++ p ++ [10]
def tOpt (l : List UInt8) : List UInt8 := if l = [] then [] else 32 :: l
def tFl (t d : List UInt8) : List UInt8 := [102, 108, 97, 103, 115] ++ tOpt t ++ [10, 108, 111, 97, 100, 101, 114, 32] ++ d ++ [10]
def tMh (nm ds t lo st : List UInt8) : List UInt8 := [109, 101, 116, 104, 111, 100, 32] ++ nm ++ [32] ++ ds ++ tOpt t ++ [10, 108, 111, 99, 97, 108, 115, 32] ++ lo ++ [10, 115, 116, 97, 99, 107, 32] ++ st ++ [10]
def tMt (m : Mth) : List UInt8 := tMh m.nm.data.toList m.ds.data.toList (textF m.fl mthP) (Lib.itoa m.lo) (Lib.itoa m.st) ++ m.code.flatMap fun i => prtI i ++ [10]
def tCls (c : Cls) : List UInt8 := tHead c.nm.data.toList c.su.data.toList ++ c.ifs.flatMap tIf ++ tFl (textF c.fl clsP) (Lib.itoa c.ld) ++ c.ms.flatMap tMt ++ [101, 110, 100, 10]

theorem itoa_ne {n : Int} (h : 0 ≤ n ∧ n ≤ 40) : Lib.itoa n ≠ [] := by
  obtain ⟨h1, h2⟩ := h
  have : ∀ k : Fin 41, Lib.itoa (k.val : Int) ≠ [] := by decide +kernel
  have h3 := this ⟨n.toNat, by omega⟩
  rwa [show (((⟨n.toNat, by omega⟩ : Fin 41).val : Nat) : Int) = n by simp; omega] at h3
theorem member_ne {l : List UInt8} (h : memberL l = true) : l ≠ [] := by
  rintro rfl
  exact absurd h (by decide +kernel)
theorem pd_ne {l : List UInt8} (h : pdE l = 0) : l ≠ [] := by
  rintro rfl
  exact absurd h (by decide +kernel)
theorem line_1 (w p : List UInt8) : lineL w [p] = w ++ tOpt p := by
  simp only [lineL, tOpt]; split <;> simp
theorem mth_text {m : Mth} (h : MthS m) : (mthLs m).flatMap (· ++ [10]) = tMt m := by
  have h1 := member_ne h.mem
  have h2 := pd_ne h.desc
  have h3 := itoa_ne h.lo
  have h4 := itoa_ne h.st
  rw [mthLs, List.flatMap_cons, List.flatMap_cons, List.flatMap_cons, line_1, line_1, List.flatMap_map]
  simp only [lineL, tMt, tMh, tOpt, if_neg h1, if_neg h2, if_neg h3, if_neg h4, wMethod, wLocals, wStack]
  split <;> simp
theorem flat_congr {α β : Type} {l : List α} {f g : α → List β} (h : ∀ a ∈ l, f a = g a) : l.flatMap f = l.flatMap g := by
  induction l with
  | nil => rfl
  | cons x r ih => rw [List.flatMap_cons, List.flatMap_cons, h x (List.mem_cons_self ..), ih fun a ha => h a (List.mem_cons_of_mem _ ha)]
theorem cls_text {c : Cls} (h : ClsS c) : clsT c = tCls c := by
  have h1 := (val_ne h.nm).1
  have h2 := (val_ne h.su).1
  have h3 : Lib.itoa c.ld ≠ [] := itoa_ne (by have := h.ld; omega)
  have e1 : (c.ms.flatMap mthLs).flatMap (· ++ [10]) = c.ms.flatMap tMt := by
    rw [List.flatMap_assoc]
    exact flat_congr fun m hm => mth_text (h.ms m hm)
  have e2 : (c.ifs.map (fun p => lineL wIface [p])).flatMap (· ++ [10]) = c.ifs.flatMap tIf := by
    rw [List.flatMap_map]
    refine flat_congr fun p hp => ?_
    have := (val_ne (h.ifs p hp)).1
    simp [lineL, tIf, wIface, this]
  rw [clsT, clsLs, List.flatMap_append, List.flatMap_append, List.flatMap_append, List.flatMap_append, e1, e2]
  simp only [List.flatMap_cons, List.flatMap_nil, line_1, tOpt, if_neg h1, if_neg h2, if_neg h3, tCls, tHead, tFl, wClass, wSup, wFlags, wLoader, wEnd]
  split <;> simp

theorem rcheckW_any (c : Cls) (vi vm : Value) (w : World) (hi : IsStrs w vi c.ifs) (hm : IsMths w vm c.ms) (hw : ClsW c) :
    Calls Tryz.prog 9 #[clsV c vi vm] w fun e w' => e = .returned (.int .i64 (clsE c)) ∧ Below w.heap.size w w' :=
  rCheckC_any c vi vm w hi hm hw.1 hw.2.1 hw.2.2.1 hw.ok

set_option maxRecDepth 100000 in
set_option maxHeartbeats 1000000 in
theorem rprint_bad (c : Cls) (vi vm : Value) (W : World) (hi : IsStrs W vi c.ifs) (hm : IsMths W vm c.ms) (hw : ClsW c) (hb : clsB c = false) :
    Calls Tryz.prog 15 #[clsV c vi vm] W fun e w' => e = .returned (.tuple #[.string ⟨#[]⟩, .int .i64 1]) ∧ Below W.heap.size W w' := by
  have HC : Hid (∀ w', Below W.heap.size W w' → Calls Tryz.prog 9 #[clsV c vi vm] w' fun e w'' => e = .returned (.int .i64 1) ∧ Below w'.heap.size w' w'') := fun w' h => by
    have := rcheckW_any c vi vm w' (hi.keep h) (hm.keep h) hw
    rw [clsE, hb] at this
    exact this
  obtain ⟨ai, capi, rfl, _, _, _⟩ := hi
  obtain ⟨am, capm, rfl, _, _, _⟩ := hm
  clear hb hw
  obtain ⟨nm, su, ifs, fl, ld, ms⟩ := c
  simp only [clsV] at *
  generalize ifs.length = K at *
  generalize ms.length = M at *
  go_enter Tryz.func15, Tryz.ntmps15
  go_wp2_with (go_at_call 9; refine (HC.out _ ((Below.refl _ _).alloc (Nat.le_refl _) _)).mono ?_; rintro e w1 ⟨rfl, hb1⟩)
  go_ret2
  exact ⟨rfl, Below.step ((Below.refl _ _).alloc (Nat.le_refl _) _) hb1⟩

/-- a text and another behind it: neither is too long -/
theorem cat_ok {a b : Nat} (h : a + b ≤ 1000000000) : ¬ 9223372036854775807 < a + b := by omega
theorem toArr_self (x : ByteArray) : (⟨x.data.toList.toArray⟩ : ByteArray) = x := by cases x; simp
theorem sz6 : (⟨#[99, 108, 97, 115, 115, 32]⟩ : ByteArray).size = 6 := rfl
theorem sz7 : (⟨#[10, 115, 117, 112, 101, 114, 32]⟩ : ByteArray).size = 7 := rfl
theorem sz10 : (⟨#[10]⟩ : ByteArray).size = 1 := rfl
theorem sz6' : (⟨#[105, 102, 97, 99, 101, 32]⟩ : ByteArray).size = 6 := rfl
theorem sz5 : (⟨#[102, 108, 97, 103, 115]⟩ : ByteArray).size = 5 := rfl
theorem sz1 : (⟨#[32]⟩ : ByteArray).size = 1 := rfl
theorem sz8 : (⟨#[10, 108, 111, 97, 100, 101, 114, 32]⟩ : ByteArray).size = 8 := rfl
theorem szm : (⟨#[109, 101, 116, 104, 111, 100, 32]⟩ : ByteArray).size = 7 := rfl
theorem szl : (⟨#[10, 108, 111, 99, 97, 108, 115, 32]⟩ : ByteArray).size = 8 := rfl
theorem szs : (⟨#[10, 115, 116, 97, 99, 107, 32]⟩ : ByteArray).size = 7 := rfl
theorem sze : (⟨#[101, 110, 100, 10]⟩ : ByteArray).size = 4 := rfl

end Go.Proofs.YtfbhjfpkhofifaaGreatDoor
