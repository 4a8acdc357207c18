import Derived.Below
import Derived.WalkKit
namespace Go.Proofs.YtkoogmegdfpopaaGreat
open Go.RowKit
theorem sqR {B:Nat} {w u:World} (h:Below B w u:=by repeat (first|exact Below.refl _ _|refine Below.setCell ?_ (by simp;try omega) _|refine Below.alloc ?_ (by simp;try omega) _|refine Below.drew ?_)):Below B w u:=h
theorem sqE {B:Nat} {V w u:World} (h0:Hid (Below B V w)) (h:Below B V w→Below B V u:=by intro hB;repeat (first|refine Below.setCell ?_ (by simp;try omega) _|refine Below.alloc ?_ (by have:=hB.size;simp;try omega) _|refine Below.drew ?_|exact hB)):Below B V u:=h h0.out
theorem sqA {B:Nat} {V w:World} (hb:Below B V w) (b o:Nat) (x:Value) (h1:b<B:=by simp) (h2:V.cell? ⟨b,o,none⟩=some x:=by simp [go_sem, *]):w.cell? ⟨b,o,none⟩=some x:=(hb.cell (p:=⟨b,o,none⟩) h1).trans h2
theorem sqB {B:Nat} {V w:World} (hb:Below B V w) (b o:Nat) (x:Value) (h1:b<B) (h2:V.cell? ⟨b,o,none⟩=some x:=by simp [go_sem, *]):w.cell? ⟨b,o,none⟩=some x:=(hb.cell (p:=⟨b,o,none⟩) h1).trans h2
theorem sqX {B:Nat} {V w:World} (hb:Below B V w) (b:Nat) (x0 x1 x2 x3 x4 x5:Value) (h1:b<B:=by simp) (h2:V.cell? ⟨b,0,none⟩=some x0∧V.cell? ⟨b,1,none⟩=some x1∧V.cell? ⟨b,2,none⟩=some x2∧V.cell? ⟨b,3,none⟩=some x3∧V.cell? ⟨b,4,none⟩=some x4∧V.cell? ⟨b,5,none⟩=some x5:=by refine ⟨?_,?_,?_,?_,?_,?_⟩<;>simp [go_sem, *]):w.cell? ⟨b,0,none⟩=some x0∧w.cell? ⟨b,1,none⟩=some x1∧w.cell? ⟨b,2,none⟩=some x2∧w.cell? ⟨b,3,none⟩=some x3∧w.cell? ⟨b,4,none⟩=some x4∧w.cell? ⟨b,5,none⟩=some x5:=⟨(hb.cell (p:=⟨b,0,none⟩) h1).trans h2.1,(hb.cell (p:=⟨b,1,none⟩) h1).trans h2.2.1,(hb.cell (p:=⟨b,2,none⟩) h1).trans h2.2.2.1,(hb.cell (p:=⟨b,3,none⟩) h1).trans h2.2.2.2.1,(hb.cell (p:=⟨b,4,none⟩) h1).trans h2.2.2.2.2.1,(hb.cell (p:=⟨b,5,none⟩) h1).trans h2.2.2.2.2.2⟩
theorem sqS {n B:Nat} {V w:World} (hb:Below B V w) (h:n<V.heap.size:=by first|(simp;done)|(simp;omega)|omega):n<w.heap.size:=Nat.lt_of_lt_of_le h hb.size
theorem sqT {w u:World} {o:Obj} (h:Below (w.alloc o).heap.size (w.alloc o) u):Below w.heap.size w u:=Below.trans ((Below.refl _ w).alloc (Nat.le_refl _) o) (h.mono (by simp))
abbrev Bw (w u:World):Prop:=Below w.heap.size w u
end Go.Proofs.YtkoogmegdfpopaaGreat
