import Derived.Below
import Derived.WalkKit
namespace Go.Proofs.YtjbmmmcjegjelaaGreat
open Go.RowKit
theorem sqR {B:Nat} {w u:World} (h:Below B w u:=by repeat (first|exact Below.refl _ _|refine Below.setCell ?_ (by simp;try omega) _|refine Below.alloc ?_ (by simp;try omega) _|refine Below.drew ?_)):Below B w u:=h
theorem sqE {B:Nat} {V w u:World} (h0:Hid (Below B V w)) (h:Below B V w→Below B V u:=by intro hB;repeat (first|refine Below.setCell ?_ (by simp;try omega) _|refine Below.alloc ?_ (by have:=hB.size;simp;try omega) _|refine Below.drew ?_|exact hB)):Below B V u:=h h0.out
theorem sqA {B:Nat} {V w:World} (hb:Below B V w) (b o:Nat) (x:Value) (h1:b<B:=by simp) (h2:V.cell? ⟨b,o,none⟩=some x:=by simp [go_sem, *]):w.cell? ⟨b,o,none⟩=some x:=(hb.cell (p:=⟨b,o,none⟩) h1).trans h2
theorem sqB {B:Nat} {V w:World} (hb:Below B V w) (b o:Nat) (x:Value) (h1:b<B) (h2:V.cell? ⟨b,o,none⟩=some x:=by simp [go_sem, *]):w.cell? ⟨b,o,none⟩=some x:=(hb.cell (p:=⟨b,o,none⟩) h1).trans h2
end Go.Proofs.YtjbmmmcjegjelaaGreat
