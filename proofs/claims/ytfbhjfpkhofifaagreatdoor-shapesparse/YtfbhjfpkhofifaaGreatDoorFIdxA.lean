import Derived.Test.YtfbhjfpkhofifaaGreatDoorFLaid
import Derived.Test.YtfbhjfpkhofifaaGreatDoorFShelf
set_option maxHeartbeats 1000000
set_option maxRecDepth 100000
namespace Go.Proofs.YtfbhjfpkhofifaaGreatDoor.Fl
open Go.RowKit
theorem Tryz.info9:(Tryz.prog.info? 9).map (fun i=>(i.zero,i.size,i.bytes))=some (some (.string ⟨#[]⟩),1,16):=by kernel_rfl
theorem said_rel {w wr w1:World} {B:Nat} {v v':Value} {done:List (List UInt8)} {t:List UInt8} {o:Obj}
 (hB:B≤wr.heap.size) (hown:wr.ownsRow B 9 1 v done.length (done.map txtV)) (hbel:Below B w wr)
 (hown':w1.ownsRow B 9 1 v' (done.length+1) (done.map txtV++[txtV t])) (hg:(wr.alloc o).grownBy w1 v.ownBlock) :
 w1.ownsRow B 9 1 v' (done++[t]).length ((done++[t]).map txtV)∧Below B w w1:=by
 constructor
 ·simpa using hown'
 ·refine (hbel.alloc hB o).grown hg (by simp;omega) ?_;intro k hk;exact (hown.lt k hk).1
theorem join_own {w:World} {B:Nat} {v:Value} {L:List (List UInt8)} (h:w.ownsRow B 9 1 v L.length (L.map txtV)) (hl:(Lib.join L [32]).length≤140737488355328) (hL:L.length≤1000) :
 Calls Tryz.prog 38 #[v,.string ⟨#[32]⟩] w fun e w'=>e=.returned (.string ⟨(Lib.join L [32]).toArray⟩)∧Bw w w':=by
 rcases h.2 with ⟨rfl,hn⟩|⟨g,cap,cur,rfl,_,hg,hc1,hc2,_⟩
 ·obtain rfl:L=[]:=List.eq_nil_of_length_eq_zero hn;refine (Tryz.strings_Join_none none 0 ⟨#[32]⟩ w).mono ?_;rintro e w' ⟨rfl,rfl⟩;exact ⟨rfl,Below.refl _ _⟩
 ·have hlt:g<w.heap.size:=(Array.getElem?_eq_some_iff.1 hg).1;have hcell:∀ j t,L[j]?=some t→w.cell? ⟨g,0+j,none⟩=some (txtV t):=by
   intro j t ht;have hj:j<L.length:=(List.getElem?_eq_some_iff.1 ht).1;rw [Nat.zero_add,h.cellAt j (by simpa using hj),List.getElem?_map,ht];rfl
  have:=Tryz.strings_Join g 0 cap (L.map fun p=>⟨p.toArray⟩) ⟨#[32]⟩ w (fun j x hj=>by
   rw [List.getElem?_map] at hj
   cases e:L[j]? with
   | none=>rw [e] at hj;simp at hj
   | some p=>rw [e] at hj;simp at hj;subst hj;exact hcell j p e) hlt (by simp;omega) (by simpa using hc1)
  simp only [List.map_map,List.length_map] at this;have e2:L.map ((fun x:ByteArray=>x.data.toList) ∘ fun p=>⟨p.toArray⟩)=L:=by
   conv=>rhs;rw [← List.map_id L]
   apply List.map_congr_left;intro a _;simp
  rw [e2] at this;exact this hl
def wplP:List (Int×List UInt8):=[(1,wPublic),(2,wPrivate),(4,wProtected),(8,wStatic),(16,wFinal),(32,wSuper),(64,[]),(128,[]),(256,[]),(512,wInterface),(1024,wAbstract)]
theorem wpl_word (i:Nat) (p:Int×List UInt8) (h:wplP[i]?=some p):wd11[i]?=some p.2:=by
 have e:wd11=wplP.map (·.2):=rfl;rw [e,List.getElem?_map,h];rfl
theorem wpl_flag (i:Nat) (p:Int×List UInt8) (h:wplP[i]?=some p):wrap64 (2 ^ i)=p.1:=by
 have hi:i<11:=(List.getElem?_eq_some_iff.1 h).1;have:∀ i:Fin 11,wplP[i.val]?.map (·.1)=some (wrap64 (2 ^ i.val)):=by decide +kernel
 have:=this ⟨i,hi⟩;rw [show (⟨i,hi⟩:Fin 11).val=i from rfl,h] at this;exact (Option.some.inj this).symm
theorem Zm3:∀ p∈wplP,p.2.length≤20:=by decide
theorem wpl_cls:∀ q∈sums clsP,Zo q.1 wplP=q.2:=by decide
theorem wpl_mth:∀ q∈sums mthP,Zo q.1 wplP=q.2:=by decide
theorem Zmv (f:Int) (ps:List (Int×List UInt8)):(Zo f ps).length≤ps.length:=by
 induction ps with
 | nil=>simp [Zo]
 | cons p ps ih=>unfold Zo;split <;> simp <;> omega
theorem Zgq (f k:Int) (ps:List (Int×List UInt8)) (hm:(bits .andNot .i64 f k != 0)=!Y4 f ps) (hch:Y4 f ps=true→Zo f wplP=Zo f ps) (w:World) (h:WordsIn w) :
 Calls Tryz.prog 71 #[.int .i64 f,.int .i64 k] w fun e w'=>e=.returned (.tuple #[.string ⟨(Qv f ps).toArray⟩,.int .i64 (Zbt f ps)])∧Bw w w':=by
 cases ho:Y4 f ps with
 | false =>
   have e1:Qv f ps=[]:=by unfold Qv;rw [ho];rfl
   have e2:Zbt f ps=1:=by unfold Zbt;rw [ho];rfl
   rw [e1,e2];rw [ho] at hm;clear hch;go_enter Tryz.func71,Tryz.ntmps71;go_wp2
   go_ret2
   exact ⟨rfl,Below.refl _ _⟩
 | true =>
   have e1:Qv f ps=Lib.join (Zo f wplP) [32]:=by unfold Qv;rw [ho,hch ho];rfl
   have e2:Zbt f ps=0:=by unfold Zbt;rw [ho];rfl
   have hjl:(Lib.join (Zo f wplP) [32]).length≤140737488355328:=Nat.le_trans (Zev f wplP Zm3) (by decide);have hcl:(Zo f wplP).length≤1000:=Nat.le_trans (Zmv f wplP) (by decide);rw [e1,e2];rw [ho] at hm;clear e1 e2 ho hch;have h0:=h.2 0 _ rfl;have h1:=h.2 1 _ rfl;have h2:=h.2 2 _ rfl;have h3:=h.2 3 _ rfl;have h4:=h.2 4 _ rfl;have h5:=h.2 5 _ rfl;have h6:=h.2 6 _ rfl;have h7:=h.2 7 _ rfl;have h8:=h.2 8 _ rfl;have h9:=h.2 9 _ rfl;have h10:=h.2 10 _ rfl;clear h;have HI:Hid (∀ (i:Nat) (t:List UInt8) (w:World),_→_):=fun i t w=>Za5 w i t;have HH:Hid (∀ (x:Int) (w:World),_):=Jb f;have HJ:Hid (∀ {w:World} {B:Nat} {v:Value},w.ownsRow B 9 1 v (Zo f wplP).length ((Zo f wplP).map txtV)→_):=fun h=>join_own h hjl hcl;simp only [wv] at HI;obtain ⟨i0,hi9,hz0,hz1,hz2⟩:=info_parts Tryz.info9;clear hjl hcl;go_enter Tryz.func71,Tryz.ntmps71;go_wp2;go_loopw [6,14] (fun sv iv wr=>∃ (i:Nat) (done:List (List UInt8)),iv=.int .i64 i∧i≤11∧done.length≤i∧Hid (done=Zo f (wplP.take i))∧wr.ownsRow w.heap.size 9 1 sv done.length (done.map txtV)∧Bw w wr) (fun _ iv _=>11 - (intOf iv).toNat)
   case atStart=>exact ⟨0,[],rfl,Nat.zero_le _,Nat.zero_le _,rfl,World.ownsRow_nil _ _ _ _,Below.refl _ _⟩
   case round =>
    obtain ⟨i,done,rfl,hi,hdl,hD,hown,hbel⟩:=hrel;clear h0 h1 h2 h3 h4 h5 h6 h7 h8 h9 h10;have hbs:=hbel.size;by_cases hlt:i<11
    ·obtain ⟨p,hp⟩:∃ p,wplP[i]?=some p:=⟨_,List.getElem?_eq_getElem hlt⟩;have hix:∀ w,_:=fun w=>HI.out i p.2 w (wpl_word i p hp);have HX:Hid (∀ w,Calls Tryz.prog 102 #[.int .i64 f,.int .i64 (wrap64 (2 ^ i))] w fun e w'=>e=.returned (.bool (hasI f p.1))∧w'=w):=fun w=>by rw [wpl_flag i p hp];exact HH.out p.1 w
     have hst:=Zkh f wplP i p hp;rw [← hD.out] at hst
     cases hh:hasI f p.1 with
     | true =>
       rw [hh] at HX hst;have HN:Hid (done++[p.2]=Zo f (wplP.take (i+1))):=by rw [Hid,hst];rfl
       clear hh hst HI HH HJ hD;obtain ⟨x,t⟩:=p
       dsimp only at *
       go_wp2_with (first
        | (go_at_call 102;refine (HX.out _).mono ?_;rintro e w' ⟨rfl,he⟩;subst w')
        | (at_builtin;refine wpList_append_own _ rfl _ _ 22 rfl w.heap.size 9 i0 (.string ⟨#[]⟩) 1 16 Tryz.underlying22 hi9 hz0 hz1 hz2 rfl (by decide) _ _ _ rfl (hown.alloc _) ⟨wr.heap.size,0,none⟩ 1 1 [.string ⟨t.toArray⟩] rfl rfl ?c1 ?c2 ?c3 ?c4 ?c5 ?_))
       case c1=>exact cell_one_new _ _ _
       case c2=>intro u hu;simp at hu;subst hu;rfl
       case c3=>unfold maxLen;omega
       case c4=>omega
       case c5=>simp;omega
       ·intro v' w1 hown' hgrow _;have R:=said_rel hbs hown hbel hown' hgrow;clear hown' hgrow hown;go_wp2;go_roundw
        case rel=>exact ⟨i+1,done++[t],by go_num,by omega,by simp;omega,HN,R.1,R.2⟩
        case measure=>simp [intOf];omega
     | false =>
       rw [hh] at HX hst;have HN:Hid (done=Zo f (wplP.take (i+1))):=by rw [Hid,hst];simp
       clear hh hst HI HH HJ hD;go_wp2_with (go_at_call 102;refine (HX.out _).mono ?_;rintro e w' ⟨rfl,he⟩;subst w')
       go_roundw
       case rel=>exact ⟨i+1,done,by go_num,by omega,by omega,HN,hown,hbel⟩
       case measure=>simp [intOf];omega
    ·have hd:done=Zo f wplP:=by rw [hD.out,List.take_of_length_le (by simp [wplP];omega)]
     rw [hd] at hown;have HC:Hid (Calls Tryz.prog 38 _ wr _):=HJ.out hown;clear hD HI HH HJ hown;go_wp2_with (go_at_call 38;refine HC.out.mono ?_;rintro e w' ⟨rfl,hb1⟩)
     go_ret2
     exact ⟨rfl,hbel.trans (hb1.mono hbs)⟩
theorem ClassText_any (f:Int) (hf:-9223372036854775808≤f∧f≤9223372036854775807) (w:World) (h:WordsIn w) :
 Calls Tryz.prog 35 #[.int .i64 f] w fun e w'=>e=.returned (.tuple #[.string ⟨(Qv f clsP).toArray⟩,.int .i64 (Zbt f clsP)])∧Bw w w':=by
 have HW:Hid (Calls Tryz.prog 71 _ w _):=Zgq f 1585 clsP (Zk1 f hf) (fun ho=>wpl_cls (f,Zo f clsP) (Ja ho)) w h;generalize Qv f clsP=a at *;generalize Zbt f clsP=b at *;go_enter Tryz.func35,Tryz.ntmps35;go_wp2_with (go_at_call 71;refine HW.out.mono ?_;rintro e w' ⟨rfl,hb⟩)
 go_ret2
 exact ⟨rfl,hb⟩
theorem MethodText_any (f:Int) (hf:-9223372036854775808≤f∧f≤9223372036854775807) (w:World) (h:WordsIn w) :
 Calls Tryz.prog 73 #[.int .i64 f] w fun e w'=>e=.returned (.tuple #[.string ⟨(Qv f mthP).toArray⟩,.int .i64 (Zbt f mthP)])∧Bw w w':=by
 have HW:Hid (Calls Tryz.prog 71 _ w _):=Zgq f 1055 mthP (Zk0 f hf) (fun ho=>wpl_mth (f,Zo f mthP) (Ja ho)) w h;generalize Qv f mthP=a at *;generalize Zbt f mthP=b at *;go_enter Tryz.func73,Tryz.ntmps73;go_wp2_with (go_at_call 71;refine HW.out.mono ?_;rintro e w' ⟨rfl,hb⟩)
 go_ret2
 exact ⟨rfl,hb⟩
theorem Zil (s:ByteArray) (w:World):Calls Tryz.prog 154 #[.string s,.string ⟨#[32]⟩] w fun e w'=>e=.returned (.int .i64 (Lib.indexByte s.data.toList 32))∧w'=w:=by
 have HB:Hid (∀ w:World,Calls Tryz.prog 175 #[.string s,.int .u8 32] w fun e w'=>e=.returned (.int .i64 (Lib.indexByte s.data.toList 32))∧w'=w):=fun w=>Tryz.stringslite_IndexByte s 32 w;have HR:Hid (([32] == s.toList)=true→Lib.indexByte s.data.toList 32=0):=fun h=>by
  have e:s.data.toList=[32]:=by rw [← Lib.toList_data];exact (eq_of_beq h).symm
  rw [e];rfl
 generalize Lib.indexByte s.data.toList 32=r at *;go_enter Tryz.func154,Tryz.ntmps154;go_wp2_with (go_at_call 175;refine (HB.out _).mono ?_;rintro e w1 ⟨rfl,rfl⟩)
 ·rename_i hc
  go_ret
  exact ⟨Ze (HR.out hc).symm,rfl⟩
 ·go_ret
  exact ⟨rfl,rfl⟩
theorem index_any (s:ByteArray) (w:World):Calls Tryz.prog 181 #[.string s,.string ⟨#[32]⟩] w fun e w'=>e=.returned (.int .i64 (Lib.indexByte s.data.toList 32))∧w'=w:=by
 have HB:Hid (∀ w:World,_):=Zil s;generalize Lib.indexByte s.data.toList 32=r at *;go_enter Tryz.func181,Tryz.ntmps181;go_wp2_with (go_at_call 154;refine (HB.out _).mono ?_;rintro e w1 ⟨rfl,rfl⟩)
 go_ret
 exact ⟨rfl,rfl⟩
end Go.Proofs.YtfbhjfpkhofifaaGreatDoor.Fl
