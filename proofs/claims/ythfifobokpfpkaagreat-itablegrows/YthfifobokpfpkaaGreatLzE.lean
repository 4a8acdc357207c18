import Derived.Test.YthfifobokpfpkaaGreatItD
import Derived.Test.YthfifobokpfpkaaGreatAcE
import Derived.Test.YthfifobokpfpkaaGreatHrQ
import Derived.Test.YthfifobokpfpkaaGreatOvP
import Derived.Test.YthfifobokpfpkaaGreatTypesParse
import Derived.Test.YthfifobokpfpkaaGreatCurB
import Derived.Test.YthfifobokpfpkaaGreatSoD
import Derived.Test.YthfifobokpfpkaaGreatOwnRefs
import Derived.Test.YthfifobokpfpkaaGreatOwnL
import Derived.Test.YthfifobokpfpkaaGreatGrB
import Derived.Laws.IdiomStrings
import Derived.Deep.LoopGhost
set_option maxRecDepth 100000
namespace Go.Proofs.YthfifobokpfpkaaGreat
open Go.RowKit Go.Maps
theorem Tryz.hinfoE:(Tryz.prog.info? 103).map (fun i=>(i.zero,i.size,i.bytes))=some (some (.agg #[.int .i64 0,.int .i64 0,.int .i64 0,.int .i64 0,.int .i64 0,.int .i64 0,.int .i64 0,.int .i64 0]),8,64):=by kernel_rfl
theorem own_at8 {w:World} {N T n s:Nat} {v:Value} {xs:List Value} (h:w.ownsRow N T s v n xs) (hn:0<n):∃ g cap,v=.slice (some ⟨g,0,none⟩) n cap∧N≤g∧g<w.heap.size∧∀ (j:Nat) (u:Value),xs[j]?=some u→w.cell? ⟨g,j,none⟩=some u:=by
  have hr:=own_rds h
  rcases h.2 with ⟨_,e⟩|⟨g,cap,cur,e1,e2,e3,e4⟩
  · omega
  · subst e1
    refine ⟨g,cap,rfl,e2,(Array.getElem?_eq_some_iff.1 e3).1,fun j u hj=>?_⟩
    rcases hr.val with ⟨e,_⟩|⟨bk,o,cap',e,_,_,_,h4⟩
    · cases e
    · injection e with ea _ _
      injection ea with ea
      injection ea with e5 e6 _
      subst e5 e6
      have:=h4 j u hj
      rwa [Nat.zero_add] at this
set_option maxHeartbeats 8000000 in
theorem build_w (W:World) (b:Nat) (x:Int) (R:List (Int×Int)) (n:Nat) (HR:Hid (R.length=n)) (hn:n≤301000000) (E:Int×Int→Ent)
    (HRT:Hid (Calls Tryz.prog 65 #[.pointer (some ⟨b,0,none⟩),.int .i64 x] W fun e w'=>(∃ v,e=.returned (.tuple #[v,.int .i64 0])∧w'.ownsRow W.heap.size 24 2 v n (flatD R))∧Below W.heap.size W w'))
    (HE:Hid (∀ (c i:Int) w,Below W.heap.size W w→Calls Tryz.prog 129 #[.pointer (some ⟨b,0,none⟩),.int .i64 x,.agg #[.int .i64 c,.int .i64 i]] w fun e w'=>e=.returned (E (c,i)).agg∧Below w.heap.size w w')) :
    Calls Tryz.prog 68 #[.pointer (some ⟨b,0,none⟩),.int .i64 x] W fun e w'=>(∃ v,e=.returned (.tuple #[v,.int .i64 0])∧w'.ownsRow W.heap.size 103 8 v (R.map E).length (flat8 (R.map E)))∧Below W.heap.size W w':=by
  obtain ⟨i0,hi0,hz0,hz1,hz2⟩:=info_parts Tryz.hinfoE
  go_enter Tryz.func68,Tryz.ntmps68
  go_wp2_with (first
    | (go_at_call 65;refine HRT.out.mono ?_;rintro e w1 ⟨⟨v,rfl,ho⟩,hb⟩;obtain ⟨ra,rc,rfl⟩:=ownv ho;have O1:Hid (w1.ownsRow W.heap.size 24 2 (.slice ra n rc) n (flatD R)):=ho;have B1:Hid (Below W.heap.size W w1):=hb;clear ho hb HRT))
  go_loopw [8,22] (fun sv kv wr=>∃ (i:Nat),kv=.int .i64 i∧i≤n∧Hid (wr.ownsRow w1.heap.size 103 8 sv ((R.take i).map E).length (flat8 ((R.take i).map E)))∧Hid (Below w1.heap.size w1 wr)) (fun _ kv _=>n - (intOf kv).toNat)
  case atStart=>exact ⟨0,rfl,Nat.zero_le _,World.ownsRow_nil _ _ _ _,Below.refl _ _⟩
  case round =>
    obtain ⟨i,rfl,hi,hO,hB⟩:=hrel
    by_cases hlt:i<n
    · have hiI:(i:Int)<(n:Int):=by omega
      obtain ⟨y,hy⟩:∃ y,R[i]?=some y:=⟨_,List.getElem?_eq_getElem (by rw [HR.out];exact hlt)⟩
      obtain ⟨g,c2,hform,_,hgl,hcs⟩:=own_at8 O1.out (by omega)
      injection hform with hca _ hcc
      subst hca hcc
      obtain ⟨f0,f1⟩:=flatD_at R i y hy
      have t0:=(hB.out.cell (p:=⟨g,i * 2,none⟩) hgl).trans (hcs _ _ f0)
      have t1:=(hB.out.cell (p:=⟨g,i * 2+1,none⟩) hgl).trans (hcs _ _ f1)
      have hst:(R.take (i+1)).map E=(R.take i).map E++[E y]:=by rw [List.take_add_one,hy,Option.toList_some,List.map_append];rfl
      have hal:((R.take i).map E).length≤301000000:=by rw [List.length_map,List.length_take];omega
      have HEy:=HE.out y.1 y.2
      obtain ⟨y1,y2⟩:=y
      simp only at t0 t1 HEy
      obtain ⟨L,hL⟩:∃ L,(R.take i).map E=L:=⟨_,rfl⟩
      rw [hL] at hst hal hO
      have HST:Hid ((R.take (i+1)).map E=L++[E (y1,y2)]):=hst
      generalize E (y1,y2)=ey at *
      obtain ⟨⟨r1,r2⟩,⟨m1,m2⟩,ee,⟨v1,v2⟩,ff⟩:=ey
      have HEH:Hid (∀ w,Below W.heap.size W w→Calls Tryz.prog 129 #[.pointer (some ⟨b,0,none⟩),.int .i64 x,.agg #[.int .i64 y1,.int .i64 y2]] w fun e w'=>e=.returned (.agg #[.int .i64 r1,.int .i64 r2,.int .i64 m1,.int .i64 m2,.int .i64 ee,.int .i64 v1,.int .i64 v2,.int .i64 ff])∧Below w.heap.size w w'):=HEy
      obtain ⟨va,vn,rfl⟩:=ownv hO.out
      clear hy f0 f1 hcs hL hst HEy HE HR
      go_wp2_with (first
        | (go_at_call 129;refine (HEH.out _ (bstep B1.out (hB.out.alloc hB.out.size _))).mono ?_;rintro e w3 ⟨rfl,hb⟩;have B3:Hid (Below w1.heap.size w1 w3):=bstep (hB.out.alloc hB.out.size _) hb;have O3:Hid (w3.ownsRow w1.heap.size 103 8 (.slice va L.length vn) L.length (flat8 L)):=rowBelow (hO.out.alloc _) hb;clear hb HEH)
        | (at_builtin;refine wpList_append_own _ rfl _ _ 94 rfl w1.heap.size 103 i0 (.agg #[.int .i64 0,.int .i64 0,.int .i64 0,.int .i64 0,.int .i64 0,.int .i64 0,.int .i64 0,.int .i64 0]) 8 64 Tryz.underlying94 hi0 hz0 hz1 hz2 rfl (by decide) (.slice va L.length vn) L.length (flat8 L) rfl (O3.out.alloc _) ⟨w3.heap.size,0,none⟩ 1 1 (Ent.cells ⟨(r1,r2),(m1,m2),ee,(v1,v2),ff⟩) rfl rfl ?c1 ?c2 ?c3 ?c4 ?c5 ?_))
      case c1 =>
        intro jj u hj
        rw [addr_add,Nat.zero_add]
        have hd:(w3.alloc (.cells #[.int .i64 r1,.int .i64 r2,.int .i64 m1,.int .i64 m2,.int .i64 ee,.int .i64 v1,.int .i64 v2,.int .i64 ff] 103)).heap[w3.heap.size]?=some (.cells #[.int .i64 r1,.int .i64 r2,.int .i64 m1,.int .i64 m2,.int .i64 ee,.int .i64 v1,.int .i64 v2,.int .i64 ff] 103 (0,0)):=halloc1 _ _
        rw [cell_of_row _ _ jj _ _ _ hd,← hj]
        simp only [Ent.cells,List.getElem?_toArray]
      case c2=>intro u hu;exact flat8_one [⟨(r1,r2),(m1,m2),ee,(v1,v2),ff⟩] u (by simpa [flat8] using hu)
      case c3=>unfold maxLen;omega
      case c4=>omega
      case c5=>have:=B3.out.size;simp;omega
      intro v' w4 hown hgrow _
      obtain ⟨va2,vn2,rfl⟩:=ownv hown
      have B4:Hid (Below w1.heap.size w1 w4):=by
        have hb1:Below w1.heap.size w1 (w3.alloc (.cells #[.int .i64 r1,.int .i64 r2,.int .i64 m1,.int .i64 m2,.int .i64 ee,.int .i64 v1,.int .i64 v2,.int .i64 ff] 103)):=B3.out.alloc B3.out.size _
        refine hb1.grown hgrow hb1.size (fun x hx=>?_)
        have:=(O3.out.lt x hx).1
        omega
      have O4:Hid (w4.ownsRow w1.heap.size 103 8 (.slice va2 (L.length+1) vn2) (L++([⟨(r1,r2),(m1,m2),ee,(v1,v2),ff⟩]:List Ent)).length (flat8 (L++([⟨(r1,r2),(m1,m2),ee,(v1,v2),ff⟩]:List Ent)))):=by
        rw [Hid,List.length_append,flat8_app]
        have e2:flat8 ([⟨(r1,r2),(m1,m2),ee,(v1,v2),ff⟩]:List Ent)=Ent.cells ⟨(r1,r2),(m1,m2),ee,(v1,v2),ff⟩:=by simp [flat8]
        rw [e2];exact hown
      go_wp2
      refine ⟨⟨i+1,by simp,by omega,?_,B4⟩,by simp [intOf];omega⟩
      rw [HST.out];exact O4
    · have e:i=n:=by omega
      subst e
      have HEE:Hid ((R.take i).map E=R.map E):=by rw [Hid,List.take_of_length_le (by rw [HR.out];exact Nat.le_refl _)]
      rw [HEE.out] at hO
      obtain ⟨va,vn,rfl⟩:=ownv hO.out
      go_wp2
      exact bodyPost_ret (results_tmp2 rfl _ _ _) rfl ⟨⟨_,rfl,Go.Joins.ownsRow_le hO.out B1.out.size⟩,B1.out.trans (hB.out.mono B1.out.size)⟩
theorem build_no {b:Nat} {ps:List Plc} {W:World} (h:WAt b ps W) (hW:WI ps) (x:Int) (hx:¬ itE ps x=0):Calls Tryz.prog 68 #[.pointer (some ⟨b,0,none⟩),.int .i64 x] W fun e w'=>e=.returned (.tuple #[.slice none 0 0,.int .i64 (itE ps x)])∧Below W.heap.size W w':=by
  have HCO:Hid (Calls Tryz.prog 65 #[.pointer (some ⟨b,0,none⟩),.int .i64 x] W fun e w'=>e=.returned (.tuple #[.slice none 0 0,.int .i64 (itE ps x)])∧Below W.heap.size W w'):=roots_no h hW x hx
  generalize itE ps x=E at *
  have hE:(E == 0)=false:=by simp [hx]
  clear h hW
  go_enter Tryz.func68,Tryz.ntmps68
  go_wp2_with (go_at_call 65;refine HCO.out.mono ?_;rintro e w1 ⟨rfl,hb⟩;have B1:Hid (Below W.heap.size W w1):=hb;clear hb HCO)
  exact bodyPost_ret (results_tmp2 rfl _ _ _) rfl ⟨rfl,B1.out⟩
theorem build14_c {b:Nat} {ps:List Plc} {W:World} (h:WAt b ps W) (hW:WI ps) (x:Int):Calls Tryz.prog 68 #[.pointer (some ⟨b,0,none⟩),.int .i64 x] W fun e w'=>(∃ v,e=.returned (.tuple #[v,.int .i64 (itE ps x)])∧w'.ownsRow W.heap.size 103 8 v (itT ps x).length (flat8 (itT ps x)))∧Below W.heap.size W w':=by
  rcases it_cases ps x with ⟨h0,k,q,rfl,hq,hf,hr⟩|⟨hr,he⟩
  · rw [h0,itT,hr]
    exact build_w W b (k:Int) (rtsP ps q) _ rfl (rts_len hW hq) (entP ps (k:Int)) (roots_yes h hW k q hq hf) (fun c i w hb=>entryOf_c (h.below hb) hW (k:Int) c i)
  · rw [itT,hr]
    exact (build_no h hW x (by rcases he with e|e <;> rw [e] <;> decide)).mono fun e w' zz=>⟨⟨_,zz.1,World.ownsRow_nil _ _ _ _⟩,zz.2⟩
set_option maxHeartbeats 4000000 in
theorem sameEnt_c (r1 r2 m1 m2 e v1 v2 f:Int) (W:World):Calls Tryz.prog 75 #[.agg #[.int .i64 r1,.int .i64 r2,.int .i64 m1,.int .i64 m2,.int .i64 e,.int .i64 v1,.int .i64 v2,.int .i64 f],.agg #[.int .i64 r1,.int .i64 r2,.int .i64 m1,.int .i64 m2,.int .i64 e,.int .i64 v1,.int .i64 v2,.int .i64 f]] W fun e w'=>e=.returned (.bool true)∧Below W.heap.size W w':=by
  have SI:Hid (∀ (a1 a2:Int) (w:World),Calls Tryz.prog 20 #[.agg #[.int .i64 a1,.int .i64 a2],.agg #[.int .i64 a1,.int .i64 a2]] w fun e w'=>e=.returned (.bool true)∧Below w.heap.size w w'):=fun a1 a2 w=>(sameID_c (a1,a2) (a1,a2) w).mono fun e w' zz=>⟨by rw [zz.1];simp,zz.2⟩
  have BB:Hid (Below W.heap.size W W):=Below.refl _ _
  have q0:W.heap.size≤W.heap.size:=Nat.le_refl _
  go_enter Tryz.func75,Tryz.ntmps75
  go_wp2_with (first
    | (go_at_call 20;refine (SI.out _ _ _).mono ?_;clear q0;rintro e w1 ⟨rfl,hb⟩;have aad:=kp8 (n:=W.heap.size) hb (by first|omega|(simp;try omega)) (hkeep (halloc1 _ _));(try clear aaB aa0 aa1 aa2 aa3 aa4 aa5 aa6 aa7 aaf aaL aaN);obtain ⟨aaB,aa0,aa1,aa2,aa3,aa4,aa5,aa6,aa7,aaf,aaL,aaN⟩:=aad;have bbd:=kp8 (n:=W.heap.size+1) hb (by first|omega|(simp;try omega)) (halloc2 _ _ (by simp));(try clear bbB bb0 bb1 bb2 bb3 bb4 bb5 bb6 bb7 bbf bbL bbN);obtain ⟨bbB,bb0,bb1,bb2,bb3,bb4,bb5,bb6,bb7,bbf,bbL,bbN⟩:=bbd;have BB2:Below W.heap.size W w1:=bstep (by repeat (first|refine Below.setCell ?_ (by simp;try omega) _|refine Below.alloc ?_ (by have:=BB.out.size;simp;try omega) _|refine Below.drew ?_|exact BB.out)) hb;clear BB;have BB:Hid (Below W.heap.size W w1):=BB2;clear BB2;clear hb)
    | (go_at_call 20;refine (SI.out _ _ _).mono ?_;rintro e w2 ⟨rfl,hb⟩;have aad:=kp8 (n:=W.heap.size) hb (by first|omega|(simp;try omega)) (aaB.out);(try clear aaB aa0 aa1 aa2 aa3 aa4 aa5 aa6 aa7 aaf aaL aaN);obtain ⟨aaB,aa0,aa1,aa2,aa3,aa4,aa5,aa6,aa7,aaf,aaL,aaN⟩:=aad;have bbd:=kp8 (n:=W.heap.size+1) hb (by first|omega|(simp;try omega)) (bbB.out);(try clear bbB bb0 bb1 bb2 bb3 bb4 bb5 bb6 bb7 bbf bbL bbN);obtain ⟨bbB,bb0,bb1,bb2,bb3,bb4,bb5,bb6,bb7,bbf,bbL,bbN⟩:=bbd;have BB2:Below W.heap.size W w2:=bstep (by repeat (first|refine Below.setCell ?_ (by simp;try omega) _|refine Below.alloc ?_ (by have:=BB.out.size;simp;try omega) _|refine Below.drew ?_|exact BB.out)) hb;clear BB;have BB:Hid (Below W.heap.size W w2):=BB2;clear BB2;clear hb))
  all_goals go_ret
  all_goals exact ⟨retB (by simp),BB.out⟩
theorem Ent.same (x:Ent) (W:World):Calls Tryz.prog 75 #[x.agg,x.agg] W fun e w'=>e=.returned (.bool true)∧Below W.heap.size W w':=by
  obtain ⟨⟨r1,r2⟩,⟨m1,m2⟩,e,⟨v1,v2⟩,f⟩:=x
  exact sameEnt_c r1 r2 m1 m2 e v1 v2 f W
set_option maxHeartbeats 4000000 in
theorem sameEntries_eq (N1 N2:Nat) (l:List Ent) (v1 v2:Value) (W:World) (h1:W.ownsRow N1 103 8 v1 l.length (flat8 l)) (h2:W.ownsRow N2 103 8 v2 l.length (flat8 l)) (hn:l.length≤1000000000):Calls Tryz.prog 70 #[v1,v2] W fun e w'=>e=.returned (.bool true)∧Below W.heap.size W w':=by
  obtain ⟨a1,c1,rfl⟩:=ownv h1
  obtain ⟨a2,c2,rfl⟩:=ownv h2
  have H1:Hid (W.ownsRow N1 103 8 (.slice a1 l.length c1) l.length (flat8 l)):=h1
  have H2:Hid (W.ownsRow N2 103 8 (.slice a2 l.length c2) l.length (flat8 l)):=h2
  obtain ⟨K,hK⟩:∃ K,l.length=K:=⟨_,rfl⟩
  have HK:Hid (l.length=K):=hK
  rw [hK] at hn ⊢
  clear h1 h2 hK
  go_enter Tryz.func70,Tryz.ntmps70
  go_wp2
  go_loopw [5] (fun iv wr=>∃ i:Nat,iv=.int .i64 i∧i≤K∧Hid (Below W.heap.size W wr)) (fun iv _=>K - (intOf iv).toNat)
  case atStart=>exact ⟨0,rfl,Nat.zero_le _,Below.refl _ _⟩
  case round =>
    obtain ⟨i,rfl,hi,hb⟩:=hrel
    by_cases hlt:i<K
    · have hlq:i<l.length:=by rw [HK.out];exact hlt
      obtain ⟨x,hx⟩:∃ x,l[i]?=some x:=⟨_,List.getElem?_eq_getElem hlq⟩
      obtain ⟨g1,d1,hf1,_,hgl1,q1⟩:=own_at8 H1.out (by omega)
      obtain ⟨g2,d2,hf2,_,hgl2,q2⟩:=own_at8 H2.out (by omega)
      injection hf1 with ha1 _ hc1
      injection hf2 with ha2 _ hc2
      subst ha1 hc1 ha2 hc2
      have e0:W.cell? ⟨g1,i * 8,none⟩=_:=q1 _ _ ((flat8_at l i x 0 hx (by decide)).trans rfl)
      have e1:W.cell? ⟨g1,i * 8+1,none⟩=_:=q1 _ _ ((flat8_at l i x 1 hx (by decide)).trans rfl)
      have e2:W.cell? ⟨g1,i * 8+2,none⟩=_:=q1 _ _ ((flat8_at l i x 2 hx (by decide)).trans rfl)
      have e3:W.cell? ⟨g1,i * 8+3,none⟩=_:=q1 _ _ ((flat8_at l i x 3 hx (by decide)).trans rfl)
      have e4:W.cell? ⟨g1,i * 8+4,none⟩=_:=q1 _ _ ((flat8_at l i x 4 hx (by decide)).trans rfl)
      have e5:W.cell? ⟨g1,i * 8+5,none⟩=_:=q1 _ _ ((flat8_at l i x 5 hx (by decide)).trans rfl)
      have e6:W.cell? ⟨g1,i * 8+6,none⟩=_:=q1 _ _ ((flat8_at l i x 6 hx (by decide)).trans rfl)
      have e7:W.cell? ⟨g1,i * 8+7,none⟩=_:=q1 _ _ ((flat8_at l i x 7 hx (by decide)).trans rfl)
      have f0:W.cell? ⟨g2,i * 8,none⟩=_:=q2 _ _ ((flat8_at l i x 0 hx (by decide)).trans rfl)
      have f1:W.cell? ⟨g2,i * 8+1,none⟩=_:=q2 _ _ ((flat8_at l i x 1 hx (by decide)).trans rfl)
      have f2:W.cell? ⟨g2,i * 8+2,none⟩=_:=q2 _ _ ((flat8_at l i x 2 hx (by decide)).trans rfl)
      have f3:W.cell? ⟨g2,i * 8+3,none⟩=_:=q2 _ _ ((flat8_at l i x 3 hx (by decide)).trans rfl)
      have f4:W.cell? ⟨g2,i * 8+4,none⟩=_:=q2 _ _ ((flat8_at l i x 4 hx (by decide)).trans rfl)
      have f5:W.cell? ⟨g2,i * 8+5,none⟩=_:=q2 _ _ ((flat8_at l i x 5 hx (by decide)).trans rfl)
      have f6:W.cell? ⟨g2,i * 8+6,none⟩=_:=q2 _ _ ((flat8_at l i x 6 hx (by decide)).trans rfl)
      have f7:W.cell? ⟨g2,i * 8+7,none⟩=_:=q2 _ _ ((flat8_at l i x 7 hx (by decide)).trans rfl)
      clear q1 q2
      obtain ⟨σ,V,hne,V1,V2⟩:=class_of' (fun w'=>Below W.heap.size W w') ⟨_,Below.refl _ _⟩
      have kp:∀ (s:σ) (bb j:Nat) (v:Value),bb<W.heap.size→W.cell? ⟨bb,j,none⟩=some v→(V s).cell? ⟨bb,j,none⟩=some v:=fun s bb j v hl h=>((V1.out s).cell (p:=⟨bb,j,none⟩) hl).trans h
      replace e0:=fun s=>kp s _ _ _ hgl1 e0
      replace e1:=fun s=>kp s _ _ _ hgl1 e1
      replace e2:=fun s=>kp s _ _ _ hgl1 e2
      replace e3:=fun s=>kp s _ _ _ hgl1 e3
      replace e4:=fun s=>kp s _ _ _ hgl1 e4
      replace e5:=fun s=>kp s _ _ _ hgl1 e5
      replace e6:=fun s=>kp s _ _ _ hgl1 e6
      replace e7:=fun s=>kp s _ _ _ hgl1 e7
      replace f0:=fun s=>kp s _ _ _ hgl2 f0
      replace f1:=fun s=>kp s _ _ _ hgl2 f1
      replace f2:=fun s=>kp s _ _ _ hgl2 f2
      replace f3:=fun s=>kp s _ _ _ hgl2 f3
      replace f4:=fun s=>kp s _ _ _ hgl2 f4
      replace f5:=fun s=>kp s _ _ _ hgl2 f5
      replace f6:=fun s=>kp s _ _ _ hgl2 f6
      replace f7:=fun s=>kp s _ _ _ hgl2 f7
      have HS:Hid (∀ s,Calls Tryz.prog 75 #[x.agg,x.agg] (V s) fun e w'=>e=.returned (.bool true)∧∃ s',w'=V s'):=fun s=>(x.same (V s)).mono fun e w' zz=>⟨zz.1,V2.out _ (bstep (V1.out s) zz.2)⟩
      have hiI:(i:Int)<(K:Int):=by omega
      obtain ⟨⟨x1,x2⟩,⟨x3,x4⟩,x5,⟨x6,x7⟩,x8⟩:=x
      simp only [Ent.agg] at e0 e1 e2 e3 e4 e5 e6 e7 f0 f1 f2 f3 f4 f5 f6 f7 HS
      clear hx kp hlq H1 H2
      go_wp2
      refine wp_region_class (C:=fun w'=>∃ s,w'=V s) (by kernel_rfl) (by kernel_rfl) (V2.out _ (hb.out.drew)) ?_
      repeat (go_big_quiet_step ((go_at_call 75;exact HS.out _)))
      refine wpQuiet_nil ?_
      intro w9 hw9
      obtain ⟨s9,rfl⟩:=hw9
      have B9:Hid (Below W.heap.size W (V s9)):=V1.out s9
      go_wp2
      go_roundw
      case rel=>exact ⟨i+1,by go_num,by omega,B9⟩
      case measure=>simp [intOf];omega
    · have e:i=K:=by omega
      subst e
      go_wp2
      exact bodyPost_ret (results_tmp rfl _ _ _) rfl ⟨rfl,hb.out⟩
theorem clss_keep {w w':World} {v:Value} {l:List Cls} (h:IsClss w v l) (hb:Below w.heap.size w w'):IsClss w' v l:=by
  obtain ⟨ao,cap,rfl,h1,h2,h3⟩:=h
  refine ⟨ao,cap,rfl,h1,h2,fun hne=>?_⟩
  obtain ⟨bk,o,e,hlt,hc⟩:=h3 hne
  refine ⟨bk,o,e,Nat.lt_of_lt_of_le hlt hb.size,fun k c hk=>?_⟩
  obtain ⟨vi,vm,h4,h5⟩:=hc k c hk
  exact ⟨vi,vm,fun j u hj=>(hb.cell hlt).trans (h4 j u hj),h5.keep hb⟩
theorem rts3:rtsR P3 0=[(0,1)]:=by kernel_rfl
theorem itE3:itE P3 0=0:=by kernel_rfl
theorem awake14_n (W:World) (HN:Hid (∀ w:World,Calls Tryz.prog 27 #[] w fun e w'=>∃ b,e=.returned (.pointer (some ⟨b,0,none⟩))∧WAt b P3 w'∧Below w.heap.size w w')) (HM:Hid (∀ (w:World) (b:Nat),WAt b P3 w→Calls Tryz.prog 65 #[.pointer (some ⟨b,0,none⟩),.int .i64 0] w fun e w'=>(∃ v,e=.returned (.tuple #[v,.int .i64 0])∧w'.ownsRow w.heap.size 24 2 v 1 (flatD [(0,1)]))∧Below w.heap.size w w')):Calls Tryz.prog 63 #[] W fun e w'=>e=.returned (.bool true)∧Below W.heap.size W w':=by
  go_enter Tryz.func63,Tryz.ntmps63
  go_wp2_with (first
    | (go_at_call 27;refine (HN.out _).mono ?_;rintro e w1 ⟨b,rfl,hw,hb⟩;have H1:Hid (WAt b P3 w1):=hw;have B1:Hid (Below W.heap.size W w1):=hb;clear hw hb HN)
    | (go_at_call 65;refine (HM.out _ _ H1.out).mono ?_;rintro e w2 ⟨⟨v,rfl,ho⟩,hb⟩;obtain ⟨g,cap,rfl,_,hgl,hcs⟩:=own_at8 ho (by decide);have t0:=hcs 0 _ rfl;have t1:=hcs 1 _ rfl;have B2:Hid (Below W.heap.size W w2):=bstep B1.out hb;clear hb ho hcs HM))
  all_goals go_ret
  all_goals exact ⟨retB (by simp),B2.out⟩
theorem awake14_c (W:World):Calls Tryz.prog 63 #[] W fun e w'=>e=.returned (.bool true)∧Below W.heap.size W w' :=
  awake14_n W (fun w=>(new_any w).mono fun e w' zz=>⟨_,zz.1,by obtain ⟨vp,pv,hw⟩:=zz.2.1;exact hw.wat,zz.2.2⟩) (fun w b h=>by
    have:=roots_c h wi3 0
    rw [rts3,itE3] at this
    exact this)
set_option maxHeartbeats 4000000 in
theorem built14_n (v:Value) (l:List Cls) (W:World) (h:IsClss W v l):Calls Tryz.prog 64 #[v] W fun e w'=>(∃ b,e=.returned (.pointer (some ⟨b,0,none⟩))∧∃ mb vp pv,HW w' W.heap.size b mb (wld l) vp pv)∧Below W.heap.size W w':=by
  have hCW:=clss_w h
  obtain ⟨ao,cap,rfl,h1,h2,h3⟩:=h
  unfold maxLen at h2
  obtain ⟨L,hL⟩:∃ L,l.length=L:=⟨_,rfl⟩
  have HL:Hid (l.length=L):=hL
  have HI:Hid _:=h3
  have HCW:Hid (∀ c∈l,ClsW c):=hCW
  rw [hL] at h1 ⊢
  clear hL h3 hCW
  have HN:Hid (∀ w:World,Calls Tryz.prog 27 #[] w fun e w'=>e=.returned (.pointer (some ⟨w.heap.size+1,0,none⟩))∧(∃ vp pv,HW w' w.heap.size (w.heap.size+1) w.heap.size P3 vp pv)∧Below w.heap.size w w'):=new_any
  go_enter Tryz.func64,Tryz.ntmps64
  go_wp2_with (first
    | (go_at_call 27;refine (HN.out _).mono ?_;rintro e w2 ⟨rfl,hw,hb⟩;have H2:Hid (∃ vp pv,HW w2 W.heap.size (W.heap.size+1) W.heap.size P3 vp pv):=hw;have B2:Hid (Below W.heap.size W w2):=hb;clear hb hw HN))
  go_loopw [4] (fun iv wr=>∃ (i:Nat),iv=.int .i64 i∧i≤L∧Hid (∃ vp pv,HW wr W.heap.size (W.heap.size+1) W.heap.size (wld (l.take i)) vp pv)∧Hid (Below W.heap.size W wr)) (fun iv _=>L - (intOf iv).toNat)
  case atStart=>exact ⟨0,rfl,Nat.zero_le _,H2,B2⟩
  case round =>
    clear H2 B2
    obtain ⟨i,rfl,hi,hHW,hB⟩:=hrel
    by_cases hlt:i<L
    · obtain ⟨c,hc⟩:∃ c,l[i]?=some c:=⟨_,List.getElem?_eq_getElem (by rw [HL.out];exact hlt)⟩
      obtain ⟨bk,o,rfl,hbk,hcl⟩:=HI.out (fun e=>by rw [e] at hc;simp at hc)
      obtain ⟨vi,vm,hcell,hin⟩:=hcl i c hc
      have bel:Below W.heap.size W wr:=hB.out
      have p0:wr.cell? ⟨bk,o+i * 6,none⟩=some (.string c.nm):=(bel.cell (p:=⟨bk,o+i * 6,none⟩) hbk).trans (hcell 0 _ rfl)
      have p1:wr.cell? ⟨bk,o+i * 6+1,none⟩=some (.string c.su):=(bel.cell (p:=⟨bk,o+i * 6+1,none⟩) hbk).trans (hcell 1 _ rfl)
      have p2:wr.cell? ⟨bk,o+i * 6+2,none⟩=some vi:=(bel.cell (p:=⟨bk,o+i * 6+2,none⟩) hbk).trans (hcell 2 _ rfl)
      have p3:wr.cell? ⟨bk,o+i * 6+3,none⟩=some (.int .i64 c.fl):=(bel.cell (p:=⟨bk,o+i * 6+3,none⟩) hbk).trans (hcell 3 _ rfl)
      have p4:wr.cell? ⟨bk,o+i * 6+4,none⟩=some (.int .i64 c.ld):=(bel.cell (p:=⟨bk,o+i * 6+4,none⟩) hbk).trans (hcell 4 _ rfl)
      have p5:wr.cell? ⟨bk,o+i * 6+5,none⟩=some vm:=(bel.cell (p:=⟨bk,o+i * 6+5,none⟩) hbk).trans (hcell 5 _ rfl)
      have hWI:WI (wld (l.take i)):=wld_wi _ (fun c hc=>HCW.out c (List.mem_of_mem_take hc))
      have HD:Hid (Calls Tryz.prog 28 #[.pointer (some ⟨W.heap.size+1,0,none⟩),.agg #[.string c.nm,.string c.su,vi,.int .i64 c.fl,.int .i64 c.ld,vm]] wr fun e w'=>(∃ u,e=.returned u)∧Hid (∃ vp pv,HW w' W.heap.size (W.heap.size+1) W.heap.size (wld (l.take (i+1))) vp pv)∧Hid (Below W.heap.size W w')):=by
        obtain ⟨vp,pv,hw⟩:=hHW.out
        refine (define_any W.heap.size (W.heap.size+1) W.heap.size _ vp pv c vi vm wr hw hB.out.size (hin.keep bel) hWI.nm).mono ?_
        rintro e w' ⟨rfl,hw',hb',_⟩
        rw [wld_at hc]
        exact ⟨⟨_,rfl⟩,hw',hB.out.trans hb'⟩
      clear hcl hcell hin hc bel hWI hHW hB HI
      go_wp2_with (go_at_call 28;refine HD.out.mono ?_;rintro e w3 ⟨⟨u3,rfl⟩,hw3,hb3⟩;clear HD)
      go_roundw
      case rel=>exact ⟨i+1,by go_num,by omega,hw3,hb3⟩
      case measure=>simp [intOf];omega
    · have e:i=L:=by omega
      subst e
      have HF:Hid (∃ mb vp pv,HW wr W.heap.size (W.heap.size+1) mb (wld l) vp pv):=by
        obtain ⟨vp,pv,hw⟩:=hHW.out
        rw [List.take_of_length_le (by rw [HL.out];exact Nat.le_refl _)] at hw
        exact ⟨_,_,_,hw⟩
      clear hHW HI
      go_wp2
      exact bodyPost_ret (results_tmp rfl _ _ _) rfl ⟨⟨_,rfl,HF.out⟩,hB.out⟩
def WN (n z b:Nat) (ps:List Plc) (w:World):Prop:=n≤z∧z≤w.heap.size∧∃ mb vp pv,HW w n b mb ps vp pv∧b<z∧mb<z∧∀ g,vp.ownBlock=some g→g<z
theorem WN.of {w:World} {n b mb:Nat} {ps:List Plc} {vp:Value} {pv:List PV} (h:HW w n b mb ps vp pv) (hn:n≤w.heap.size):WN n w.heap.size b ps w:=by
  obtain ⟨es,cl,hm,_⟩:=h.map
  exact ⟨hn,Nat.le_refl _,mb,vp,pv,h,(Array.getElem?_eq_some_iff.1 h.hb).1,(Array.getElem?_eq_some_iff.1 hm).1,fun g hg=>(h.row.lt g hg).2⟩
theorem WN.below {n z b:Nat} {ps:List Plc} {w w':World} (h:WN n z b ps w) (hb:Below w.heap.size w w'):WN n z b ps w':=by
  obtain ⟨h1,h2,mb,vp,pv,h3,h4⟩:=h
  exact ⟨h1,Nat.le_trans h2 hb.size,mb,vp,pv,h3.below hb,h4⟩
theorem WN.wat {n z b:Nat} {ps:List Plc} {w:World} (h:WN n z b ps w):WAt b ps w:=by
  obtain ⟨_,_,mb,vp,pv,h3,_⟩:=h
  exact ⟨_,_,_,_,h3⟩
structure KeepN (n z:Nat) (w w':World):Prop where
  bel:Below n w w'
  block:∀ k,(k<n∨(z≤k∧k<w.heap.size))→w'.heap[k]?=w.heap[k]?
theorem define_n {n z b:Nat} {ps:List Plc} {w:World} (h:WN n z b ps w) (hW:WI ps) (c:Cls) (vi vm:Value) (hc:ClsIn w vi vm c):Calls Tryz.prog 28 #[.pointer (some ⟨b,0,none⟩),.agg #[.string c.nm,.string c.su,vi,.int .i64 c.fl,.int .i64 c.ld,vm]] w fun e w'=>(∃ u,e=.returned u)∧WAt b (dfP ps (defN ps c)) w'∧KeepN n z w w':=by
  obtain ⟨h1,h2,mb,vp,pv,h3,h4,h5,h6⟩:=h
  refine (define_any n b mb ps vp pv c vi vm w h3 (Nat.le_trans h1 h2) hc hW.nm).mono ?_
  rintro e w' ⟨rfl,⟨vp',pv',hw'⟩,hb,hk⟩
  refine ⟨⟨_,rfl⟩,hw'.wat,hb,fun k hk2=>?_⟩
  rcases hk2 with hk2|⟨hk2,hk3⟩
  · exact hb.block k hk2
  · refine hk k hk3 (by omega) (by omega) (fun e=>?_)
    have:=h6 k e.symm
    omega
theorem shp_slice {v:Value} (h:Shp v):∃ a n c,v=.slice a n c:=by
  rcases h with rfl|⟨a,n,c,rfl⟩
  · exact ⟨none,0,0,rfl⟩
  · exact ⟨some a,n,c,rfl⟩
end Go.Proofs.YthfifobokpfpkaaGreat
