import Derived.Test.YtfbhjfpkhofifaaGreatDoorOwnX
set_option maxHeartbeats 1000000
set_option maxRecDepth 100000
namespace Go.Proofs.YtfbhjfpkhofifaaGreatDoor
open Go.RowKit
def hpB (s p:ByteArray):Bool:=decide (p.size≤s.size)&&((s.extract 0 p.size).toList == p.toList)
theorem Zc6 (s p:ByteArray) (w:World):Calls Tryz.prog 165 #[.string s,.string p] w fun e w'=>e=.returned (.bool (hpB s p))∧w'=w:=by
 by_cases h:p.size≤s.size
 ·have HR:Hid (hpB s p=((s.extract 0 p.size).toList == p.toList)):=by rw [Hid,hpB,decide_eq_true h];rfl
  have h1:(p.size:Int)≤s.size:=by omega
  go_enter Tryz.func165,Tryz.ntmps165;go_wp2;go_ret
  exact ⟨Zb HR.out.symm,rfl⟩
 ·have HR:Hid (hpB s p=false):=by rw [Hid,hpB,decide_eq_false h];rfl
  have h1:¬ (p.size:Int)≤s.size:=by omega
  go_enter Tryz.func165,Tryz.ntmps165;go_wp2;go_ret
  exact ⟨Zb HR.out.symm,rfl⟩
theorem Zmm (s p:ByteArray) (w:World):Calls Tryz.prog 141 #[.string s,.string p] w fun e w'=>e=.returned (.bool (hpB s p))∧w'=w:=by
 have H:Hid (∀ w:World,_):=Zc6 s p;go_enter Tryz.func141,Tryz.ntmps141;go_wp2_with (go_at_call 165;refine (H.out _).mono ?_;rintro e w1 ⟨rfl,rfl⟩)
 go_ret
 exact ⟨rfl,rfl⟩
theorem hp_le {s p:ByteArray} (h:hpB s p=true):p.size≤s.size:=by
 rw [hpB,Bool.and_eq_true,decide_eq_true_eq] at h;exact h.1
theorem slCutP (s p:ByteArray) (w:World):Calls Tryz.prog 195 #[.string s,.string p] w fun e w'=>e=.returned (.tuple #[.string (if hpB s p then s.extract p.size s.size else s),.bool (hpB s p)])∧∃ n,w'=w.drewN n:=by
 have H:Hid (∀ w:World,_):=Zc6 s p;have hl:hpB s p=true→p.size≤s.size:=hp_le;generalize hpB s p=q at *
 cases q with
 | false =>
   go_enter Tryz.func195,Tryz.ntmps195;go_wp2_with (go_at_call 165;refine (H.out _).mono ?_;rintro e w1 ⟨rfl,rfl⟩)
   go_ret2
   exact ⟨rfl,0,rfl⟩
 | true =>
   have h1:=hl rfl;have h2:(p.size:Int)≤s.size:=by omega
   clear hl;go_enter Tryz.func195,Tryz.ntmps195;go_wp2_with (go_at_call 165;refine (H.out _).mono ?_;rintro e w1 ⟨rfl,rfl⟩)
   all_goals (try go_region)
   all_goals (try go_wp2)
   all_goals go_ret2
   all_goals first
    | exact ⟨rfl,0,rfl⟩
    | exact ⟨rfl,1,rfl⟩
theorem slTrimP (s p:ByteArray) (w:World):Calls Tryz.prog 196 #[.string s,.string p] w fun e w'=>e=.returned (.string (if hpB s p then s.extract p.size s.size else s))∧w'=w:=by
 have H:Hid (∀ w:World,_):=Zc6 s p;have hl:hpB s p=true→p.size≤s.size:=hp_le;generalize hpB s p=q at *
 cases q with
 | false =>
   go_enter Tryz.func196,Tryz.ntmps196;go_wp2_with (go_at_call 165;refine (H.out _).mono ?_;rintro e w1 ⟨rfl,rfl⟩)
   go_ret
   exact ⟨rfl,rfl⟩
 | true =>
   have h1:=hl rfl;have h2:(p.size:Int)≤s.size:=by omega
   clear hl;go_enter Tryz.func196,Tryz.ntmps196;go_wp2_with (go_at_call 165;refine (H.out _).mono ?_;rintro e w1 ⟨rfl,rfl⟩)
   go_ret
   exact ⟨rfl,rfl⟩
theorem Zms (s p:ByteArray) (w:World):Calls Tryz.prog 179 #[.string s,.string p] w fun e w'=>e=.returned (.tuple #[.string (if hpB s p then s.extract p.size s.size else s),.bool (hpB s p)])∧∃ n,w'=w.drewN n:=by
 have H:Hid (∀ w:World,_):=slCutP s p;generalize (if hpB s p then s.extract p.size s.size else s)=R at *;generalize hpB s p=q at *;go_enter Tryz.func179,Tryz.ntmps179;go_wp2_with (go_at_call 195;refine (H.out _).mono ?_;rintro e w1 ⟨rfl,n,rfl⟩)
 exact bodyPost_ret (v:=.tuple #[.string R,.bool q]) (by simp [results,Tryz.results179,go_sem, *]) rfl ⟨rfl,n,rfl⟩
theorem Zap (s p:ByteArray) (w:World):Calls Tryz.prog 180 #[.string s,.string p] w fun e w'=>e=.returned (.string (if hpB s p then s.extract p.size s.size else s))∧w'=w:=by
 have H:Hid (∀ w:World,_):=slTrimP s p;generalize (if hpB s p then s.extract p.size s.size else s)=R at *;go_enter Tryz.func180,Tryz.ntmps180;go_wp2_with (go_at_call 196;refine (H.out _).mono ?_;rintro e w1 ⟨rfl,rfl⟩)
 go_ret
 exact ⟨rfl,rfl⟩
def OrdIn (w:World):Prop:=3<w.heap.size∧∃ tp a,w.cell? ⟨3,0,none⟩=some (.iface tp (.pointer a))
def cwOK (s p:ByteArray):Bool:=hpB s p&&((s.extract p.size s.size).toList.isEmpty||hpB (s.extract p.size s.size) ⟨#[32]⟩)
theorem Zkf (s p:ByteArray) (w:World) (hO:OrdIn w):Calls Tryz.prog 155 #[.string s,.string p] w fun e w'=>(∃ er,e=.returned (.tuple #[.string (if cwOK s p then s.extract p.size s.size else ⟨#[]⟩),er])∧if cwOK s p then er=.nilIface else ∃ tp a,er=.iface tp (.pointer a))∧Bw w w':=by
 obtain ⟨h3,tp,a,hc⟩:=hO;have H:Hid (∀ w:World,_):=Zms s p;have H2:Hid (∀ w:World,_):=Zmm (s.extract p.size s.size) ⟨#[32]⟩;have HR:Hid (cwOK s p=(hpB s p&&((s.extract p.size s.size).toList.isEmpty||hpB (s.extract p.size s.size) ⟨#[32]⟩))):=rfl;generalize cwOK s p=z at *;generalize hpB (s.extract p.size s.size) ⟨#[32]⟩=q2 at *;generalize hq:hpB s p=q1 at *;generalize he:(s.extract p.size s.size).toList.isEmpty=q3 at *;generalize s.extract p.size s.size=R at *;clear hq;have hB:Hid (∀ n,Bw w (w.drewN n)):=fun n=>⟨rfl,rfl,rfl,Nat.le_refl _,fun _ _=>rfl⟩
 cases q1 with
 | false =>
   obtain rfl:z=false:=by rw [HR.out];rfl
   go_enter Tryz.func155,Tryz.ntmps155;go_wp2_with (go_at_call 179;refine (H.out _).mono ?_;rintro e w1 ⟨rfl,n,rfl⟩)
   all_goals (try go_region)
   all_goals (try go_wp2)
   all_goals go_ret2
   all_goals first
    | exact ⟨⟨_,rfl,tp,a,rfl⟩,hB.out _⟩
    | exact ⟨⟨_,rfl,tp,a,rfl⟩,(hB.out n).drew⟩
 | true =>
   cases q3 with
   | true =>
     obtain rfl:z=true:=by rw [HR.out];rfl
     go_enter Tryz.func155,Tryz.ntmps155;go_wp2_with (go_at_call 179;refine (H.out _).mono ?_;rintro e w1 ⟨rfl,n,rfl⟩)
     go_ret2
     first|exact ⟨⟨_,rfl,rfl⟩,hB.out n⟩|exact ⟨rfl,hB.out n⟩
   | false =>
     cases q2 with
     | true =>
       obtain rfl:z=true:=by rw [HR.out];rfl
       go_enter Tryz.func155,Tryz.ntmps155;go_wp2_with (first|(go_at_call 179;refine (H.out _).mono ?_;rintro e w1 ⟨rfl,n,rfl⟩)|(go_at_call 141;refine (H2.out _).mono ?_;rintro e w2 ⟨rfl,hw2⟩;rw [hw2]))
       go_ret2
       first|exact ⟨⟨_,rfl,rfl⟩,hB.out n⟩|exact ⟨rfl,hB.out n⟩
     | false =>
       obtain rfl:z=false:=by rw [HR.out];rfl
       go_enter Tryz.func155,Tryz.ntmps155;go_wp2_with (first|(go_at_call 179;refine (H.out _).mono ?_;rintro e w1 ⟨rfl,n,rfl⟩)|(go_at_call 141;refine (H2.out _).mono ?_;rintro e w2 ⟨rfl,hw2⟩;rw [hw2]))
       all_goals (try go_region)
       all_goals (try go_wp2)
       all_goals go_ret2
       all_goals first
        | exact ⟨⟨_,rfl,tp,a,rfl⟩,hB.out _⟩
        | exact ⟨⟨_,rfl,tp,a,rfl⟩,(hB.out n).drew⟩
theorem same_all (v1 v2:Value) (ps qs:List (List UInt8)) (w:World) (h1:IsStrs w v1 ps) (h2:IsStrs w v2 qs) :
 Calls Tryz.prog 50 #[v1,v2] w fun e w'=>e=.returned (.bool (decide (ps=qs)))∧Bw w w':=by
 by_cases n1:ps=[]
 ·by_cases n2:qs=[]
  ·subst n1 n2;obtain ⟨a1,c1,rfl,_,_,_⟩:=h1;obtain ⟨a2,c2,rfl,_,_,_⟩:=h2;simp only [List.length_nil];go_enter Tryz.func50,Tryz.ntmps50;go_wp2;go_loopw [5] (fun iv wr=>iv=.int .i64 0∧wr=w) (fun _ _=>0)
   case atStart=>exact ⟨rfl,rfl⟩
   case round =>
    obtain ⟨rfl,rfl⟩:=hrel;go_wp2;go_ret
    exact ⟨Zb (by simp),Below.refl _ _⟩
  ·subst n1;obtain ⟨a1,c1,rfl,_,_,_⟩:=h1;obtain ⟨a2,c2,rfl,_,_,_⟩:=h2;simp only [List.length_nil];have hl:0<qs.length:=List.length_pos_iff.2 n2;have hne:(((0:Nat):Int) != (qs.length:Int))=true:=by rw [bne_iff_ne];omega
   have hd:decide (([]:List (List UInt8))=qs)=false:=by rw [decide_eq_false_iff_not];exact fun e=>n2 e.symm
   rw [hd];generalize qs.length=K at *;go_enter Tryz.func50,Tryz.ntmps50;go_wp2;go_ret
   exact ⟨rfl,Below.refl _ _⟩
 ·by_cases n2:qs=[]
  ·subst n2;obtain ⟨a1,c1,rfl,_,_,_⟩:=h1;obtain ⟨a2,c2,rfl,_,_,_⟩:=h2;simp only [List.length_nil];have hl:0<ps.length:=List.length_pos_iff.2 n1;have hne:((ps.length:Int) != ((0:Nat):Int))=true:=by rw [bne_iff_ne];omega
   have hd:decide (ps=([]:List (List UInt8)))=false:=by rw [decide_eq_false_iff_not];exact n1
   rw [hd];generalize ps.length=K at *;go_enter Tryz.func50,Tryz.ntmps50;go_wp2;go_ret
   exact ⟨rfl,Below.refl _ _⟩
  ·exact (same_any v1 v2 ps qs w h1 h2 n1 n2).mono fun e w' ⟨he,n,hw⟩=>⟨he,by rw [hw];exact below_drewN (Below.refl _ _) n⟩
end Go.Proofs.YtfbhjfpkhofifaaGreatDoor
