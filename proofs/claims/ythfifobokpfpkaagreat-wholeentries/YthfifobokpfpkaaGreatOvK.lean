import Derived.Test.YthfifobokpfpkaaGreatItB
import Derived.Test.YthfifobokpfpkaaGreatHrS
import Derived.Test.YthfifobokpfpkaaGreatOvP
import Derived.Test.YthfifobokpfpkaaGreatAcE
import Derived.Test.YthfifobokpfpkaaGreatHrQ
import Derived.Test.YthfifobokpfpkaaGreatOvE
set_option maxRecDepth 100000
namespace Go.Proofs.YthfifobokpfpkaaGreat
open Go.RowKit Go.Maps
set_option maxHeartbeats 8000000 in
theorem roots_yes {b:Nat} {ps:List Plc} {W:World} (h:WAt b ps W) (hW:WI ps) (k:Nat) (q:Plc) (hq:ps[k]?=some q) (hf:ifcI ps (k:Int)=false):Calls Tryz.prog 65 #[.pointer (some ⟨b,0,none⟩),.int .i64 (k:Int)] W fun e w'=>(∃ v,e=.returned (.tuple #[v,.int .i64 0])∧w'.ownsRow W.heap.size 24 2 v (rtsP ps q).length (flatD (rtsP ps q)))∧Below W.heap.size W w':=by
  obtain ⟨i0,hi0,hz0,hz1,hz2⟩:=info_parts Tryz.hinfoD
  have hk:=(List.getElem?_eq_some_iff.1 hq).1
  have hcl:=hW.wo.cl k (nd q) (by rw [List.getElem?_map,hq];rfl)
  have HCB:Hid (∀ i∈q.cl,i<ps.length):=fun i hi=>by
    have:=(hcl.2 i hi).1
    omega
  have hKb:q.cl.length≤300:=by
    have:=List.Nodup.length_le_of_subset hcl.1 (l₂:=List.range ps.length) (fun i hi=>List.mem_range.2 (HCB.out i hi))
    rw [List.length_range] at this
    have h2:=hW.hi
    have h3:q.cl.length≤ps.length:=this
    omega
  have hmt:∀ j,(mtK ps j).length≤1000000:=fun j=>by
    rw [mtK]
    split
    · rename_i p hp;exact (hW.pb p (List.mem_of_getElem? hp)).ms
    · exact Nat.zero_le _
  have HRL:Hid (∀ l:List Nat,(rtK topB 0 (mtK ps 0) 0++l.flatMap fun k:Nat=>rtK iroB (k:Int) (mtK ps k) 0).length≤1000000+l.length * 1000000):=fun l=>by
    have hf:∀ l:List Nat,(l.flatMap fun k:Nat=>rtK iroB (k:Int) (mtK ps k) 0).length≤l.length * 1000000:=by
      intro l
      induction l with
      | nil=>exact Nat.zero_le _
      | cons x r ih =>
        rw [List.flatMap_cons,List.length_append,List.length_cons]
        have h1:=rtK_len iroB (x:Int) (mtK ps x) 0
        have h2:=hmt x
        omega
    rw [List.length_append]
    have h1:=rtK_len topB 0 (mtK ps 0) 0
    have h2:=hmt 0
    have h3:=hf l
    omega
  have HMT:Hid (∀ j,(mtK ps j).length≤1000000):=hmt
  have HCO:Hid (Calls Tryz.prog 125 #[.pointer (some ⟨b,0,none⟩),.int .i64 (k:Int)] W fun e w'=>∃ v,e=.returned (.tuple #[v,.int .i64 0])∧w'.ownsRow W.heap.size 3 1 v q.cl.length (q.cl.map numV)∧Below W.heap.size W w'):=closureOf_yes h k q hq hf hW.hi
  have HTP:Hid (∀ w,Below W.heap.size W w→Calls Tryz.prog 126 #[.pointer (some ⟨b,0,none⟩),.int .i64 0,.func (.func 127) #[] #[]] w fun e w'=>(∃ v,e=.returned v∧w'.ownsRow w.heap.size 24 2 v (rtK topB 0 (mtK ps 0) 0).length (flatD (rtK topB 0 (mtK ps 0) 0)))∧Below w.heap.size w w'):=fun w hb=>rootsTop_c (h.below hb) hW 0 (by omega)
  have HIR:Hid (∀ (i:Nat) w,i<ps.length→Below W.heap.size W w→Calls Tryz.prog 126 #[.pointer (some ⟨b,0,none⟩),.int .i64 (i:Int),.func (.func 128) #[] #[]] w fun e w'=>(∃ v,e=.returned v∧w'.ownsRow w.heap.size 24 2 v (rtK iroB (i:Int) (mtK ps i) 0).length (flatD (rtK iroB (i:Int) (mtK ps i) 0)))∧Below w.heap.size w w'):=fun i w hi hb=>rootsIro_c (h.below hb) hW i hi
  obtain ⟨K,hK⟩:∃ K,q.cl.length=K:=⟨_,rfl⟩
  have HK:Hid (q.cl.length=K):=hK
  rw [hK] at hKb
  clear h hW hq hf hcl hmt hK hk
  go_enter Tryz.func65,Tryz.ntmps65
  go_wp2_with (first
    | (go_at_call 125;refine HCO.out.mono ?_;rintro e w1 ⟨v,rfl,ho,hb⟩;rw [HK.out] at ho;obtain ⟨ca,cc,rfl⟩:=ownv ho;have O1:Hid (w1.ownsRow W.heap.size 3 1 (.slice ca K cc) K (q.cl.map numV)):=ho;have B1:Hid (Below W.heap.size W w1):=hb;clear ho hb HCO)
    | (go_at_call 126;refine (HTP.out _ B1.out).mono ?_;rintro e w2 ⟨⟨v,rfl,ho⟩,hb⟩;have R2:Hid (w2.ownsRow w1.heap.size 24 2 v (rtK topB 0 (mtK ps 0) 0).length (flatD (rtK topB 0 (mtK ps 0) 0))):=ho;have B2:Hid (Below w1.heap.size w1 w2):=hb;clear ho hb HTP))
  go_loopw [8,24] (fun sv kv wr=>∃ (j:Nat),kv=.int .i64 j∧j≤K∧Hid (wr.ownsRow w1.heap.size 24 2 sv (rtK topB 0 (mtK ps 0) 0++(q.cl.take j).flatMap fun k:Nat=>rtK iroB (k:Int) (mtK ps k) 0).length (flatD (rtK topB 0 (mtK ps 0) 0++(q.cl.take j).flatMap fun k:Nat=>rtK iroB (k:Int) (mtK ps k) 0)))∧Hid (Below w1.heap.size w1 wr)) (fun _ kv _=>K - (intOf kv).toNat)
  case atStart=>exact ⟨0,rfl,Nat.zero_le _,(by have:=R2.out;rw [Hid,List.take_zero,List.flatMap_nil,List.append_nil];exact this),B2⟩
  case round =>
    clear R2 B2
    obtain ⟨j,rfl,hj,hO,hB⟩:=hrel
    by_cases hlt:j<K
    · have hjI:(j:Int)<(K:Int):=by omega
      have hjl:j<q.cl.length:=by rw [HK.out];exact hlt
      obtain ⟨i,hi⟩:∃ i,q.cl[j]?=some i:=⟨_,List.getElem?_eq_getElem hjl⟩
      obtain ⟨g,c2,hform⟩:=Go.Joins.ownsRow_form O1.out (by omega)
      have hce:w1.cell? ⟨g,j,none⟩=some (.int .i64 (i:Int)):=by
        have hrow:=O1.out
        rw [hform] at hrow
        rw [hrow.cellAt j (by omega),List.getElem?_map,hi];rfl
      injection hform with hca _ hcc
      subst hca hcc
      have hgl:g<w1.heap.size:=World.block_lt_of_cell? w1 _ hce
      have hcr:=(hB.out.cell (p:=⟨g,j,none⟩) hgl).trans hce
      have HC:=HIR.out i wr (HCB.out i (List.mem_of_getElem? hi)) (bstep B1.out hB.out)
      have hst:(rtK topB 0 (mtK ps 0) 0++(q.cl.take (j+1)).flatMap fun k:Nat=>rtK iroB (k:Int) (mtK ps k) 0)=(rtK topB 0 (mtK ps 0) 0++(q.cl.take j).flatMap fun k:Nat=>rtK iroB (k:Int) (mtK ps k) 0)++rtK iroB (i:Int) (mtK ps i) 0:=by
        rw [List.take_add_one,hi,Option.toList_some,List.flatMap_append,List.flatMap_cons,List.flatMap_nil,List.append_nil,List.append_assoc]
      have hal:(rtK topB 0 (mtK ps 0) 0++(q.cl.take j).flatMap fun k:Nat=>rtK iroB (k:Int) (mtK ps k) 0).length≤301000000:=by
        have:=HRL.out (q.cl.take j)
        rw [List.length_take] at this
        omega
      have hnl:(rtK iroB (i:Int) (mtK ps i) 0).length≤1000000:=Nat.le_trans (rtK_len _ _ _ _) (HMT.out i)
      obtain ⟨L,hL⟩:∃ L,(rtK topB 0 (mtK ps 0) 0++(q.cl.take j).flatMap fun k:Nat=>rtK iroB (k:Int) (mtK ps k) 0)=L:=⟨_,rfl⟩
      obtain ⟨M,hM⟩:∃ M,rtK iroB (i:Int) (mtK ps i) 0=M:=⟨_,rfl⟩
      rw [hL] at hst hal hO
      rw [hM] at hst hnl HC
      have HST:Hid ((rtK topB 0 (mtK ps 0) 0++(q.cl.take (j+1)).flatMap fun k:Nat=>rtK iroB (k:Int) (mtK ps k) 0)=L++M):=hst
      have HCH:Hid (Calls Tryz.prog 126 #[.pointer (some ⟨b,0,none⟩),.int .i64 (i:Int),.func (.func 128) #[] #[]] wr fun e w'=>(∃ v,e=.returned v∧w'.ownsRow wr.heap.size 24 2 v M.length (flatD M))∧Below wr.heap.size wr w'):=HC
      obtain ⟨va,vn,rfl⟩:=ownv hO.out
      clear hce hi hjl hL hM hst HC
      go_wp2_with (first
        | (go_at_call 126;refine HCH.out.mono ?_;rintro e w3 ⟨⟨vx,rfl,ho⟩,hb⟩;have X3:Hid (w3.ownsRow wr.heap.size 24 2 vx M.length (flatD M)):=ho;have B3:Hid (Below w1.heap.size w1 w3):=bstep hB.out hb;have O3:Hid (w3.ownsRow w1.heap.size 24 2 (.slice va L.length vn) L.length (flatD L)):=rowBelow hO.out hb;clear ho hb HCH)
        | (at_builtin;refine wpList_append_rdw rfl _ _ 34 rfl w1.heap.size 24 i0 (.agg #[.int .i64 0,.int .i64 0]) 2 16 Tryz.underlying34 hi0 hz0 hz1 hz2 rfl (by decide) (.slice va L.length vn) L.length (flatD L) rfl O3.out vx M.length (flatD M) rfl (.inl (own_rds X3.out)) (flatD_one M) ?c1 ?c2 ?c3 ?_))
      case c1=>unfold maxLen;omega
      case c2=>omega
      case c3=>exact B3.out.size
      intro v' w4 hown hgrow
      obtain ⟨va2,vn2,rfl⟩:=ownv hown
      have B4:Hid (Below w1.heap.size w1 w4):=by
        refine B3.out.grown hgrow B3.out.size (fun x hx=>?_)
        have:=(O3.out.lt x hx).1
        omega
      have O4:Hid (w4.ownsRow w1.heap.size 24 2 (.slice va2 (L.length+M.length) vn2) (L++M).length (flatD (L++M))):=by
        rw [Hid,List.length_append,flatD_app];exact hown
      go_wp2
      refine ⟨⟨j+1,by simp,by omega,?_,B4⟩,by simp [intOf];omega⟩
      rw [HST.out];exact O4
    · have e:j=K:=by omega
      subst e
      have HE:Hid ((rtK topB 0 (mtK ps 0) 0++(q.cl.take j).flatMap fun k:Nat=>rtK iroB (k:Int) (mtK ps k) 0)=rtsP ps q):=by rw [Hid,List.take_of_length_le (by rw [HK.out];exact Nat.le_refl _),rtsP]
      rw [HE.out] at hO
      obtain ⟨va,vn,rfl⟩:=ownv hO.out
      go_wp2
      exact bodyPost_ret (results_tmp2 rfl _ _ _) rfl ⟨⟨_,rfl,Go.Joins.ownsRow_le hO.out B1.out.size⟩,B1.out.trans (hB.out.mono B1.out.size)⟩
theorem roots_no {b:Nat} {ps:List Plc} {W:World} (h:WAt b ps W) (hW:WI ps) (x:Int) (hx:¬ itE ps x=0):Calls Tryz.prog 65 #[.pointer (some ⟨b,0,none⟩),.int .i64 x] W fun e w'=>e=.returned (.tuple #[.slice none 0 0,.int .i64 (itE ps x)])∧Below W.heap.size W w':=by
  have HCO:Hid (Calls Tryz.prog 125 #[.pointer (some ⟨b,0,none⟩),.int .i64 x] W fun e w'=>e=.returned (.tuple #[.slice none 0 0,.int .i64 (itE ps x)])∧Below W.heap.size W w'):=closureOf_no h x hx hW.hi
  generalize itE ps x=E at *
  have hE:(E == 0)=false:=by simp [hx]
  clear h hW
  go_enter Tryz.func65,Tryz.ntmps65
  go_wp2_with (go_at_call 125;refine HCO.out.mono ?_;rintro e w1 ⟨rfl,hb⟩;have B1:Hid (Below W.heap.size W w1):=hb;clear hb HCO)
  exact bodyPost_ret (results_tmp2 rfl _ _ _) rfl ⟨rfl,B1.out⟩
theorem roots_c {b:Nat} {ps:List Plc} {W:World} (h:WAt b ps W) (hW:WI ps) (x:Int):Calls Tryz.prog 65 #[.pointer (some ⟨b,0,none⟩),.int .i64 x] W fun e w'=>(∃ v,e=.returned (.tuple #[v,.int .i64 (itE ps x)])∧w'.ownsRow W.heap.size 24 2 v (rtsR ps x).length (flatD (rtsR ps x)))∧Below W.heap.size W w':=by
  rcases it_cases ps x with ⟨h0,k,q,rfl,hq,hf,hr⟩|⟨hr,he⟩
  · rw [h0,hr]
    exact roots_yes h hW k q hq hf
  · rw [hr]
    exact (roots_no h hW x (by rcases he with e|e <;> rw [e] <;> decide)).mono fun e w' zz=>⟨⟨_,zz.1,World.ownsRow_nil _ _ _ _⟩,zz.2⟩
theorem rw8 {w:World} {n:Nat} {t:TypeId} {a0 a1 a2 a3 a4 a5 a6 a7:Value} (h:w.heap[n]?=some (.cells #[a0,a1,a2,a3,a4,a5,a6,a7] t (0,0))):w.cell? ⟨n,0,none⟩=some a0∧w.cell? ⟨n,1,none⟩=some a1∧w.cell? ⟨n,2,none⟩=some a2∧w.cell? ⟨n,3,none⟩=some a3∧w.cell? ⟨n,4,none⟩=some a4∧w.cell? ⟨n,5,none⟩=some a5∧w.cell? ⟨n,6,none⟩=some a6∧w.cell? ⟨n,7,none⟩=some a7∧(∀ k,w.frozen? ⟨n,k,none⟩=false)∧n<w.heap.size :=
  ⟨(cell_of_row w n 0 _ _ _ h).trans rfl,(cell_of_row w n 1 _ _ _ h).trans rfl,(cell_of_row w n 2 _ _ _ h).trans rfl,(cell_of_row w n 3 _ _ _ h).trans rfl,(cell_of_row w n 4 _ _ _ h).trans rfl,(cell_of_row w n 5 _ _ _ h).trans rfl,(cell_of_row w n 6 _ _ _ h).trans rfl,(cell_of_row w n 7 _ _ _ h).trans rfl,fun k=>frozen_of_row w n k _ _ h,(Array.getElem?_eq_some_iff.1 h).1⟩
theorem kp8 {V w:World} {N n:Nat} {t:TypeId} {a0 a1 a2 a3 a4 a5 a6 a7:Value} (hb:Below N V w) (hn:n<N) (h:V.heap[n]?=some (.cells #[a0,a1,a2,a3,a4,a5,a6,a7] t (0,0))):Hid (w.heap[n]?=some (.cells #[a0,a1,a2,a3,a4,a5,a6,a7] t (0,0)))∧w.cell? ⟨n,0,none⟩=some a0∧w.cell? ⟨n,1,none⟩=some a1∧w.cell? ⟨n,2,none⟩=some a2∧w.cell? ⟨n,3,none⟩=some a3∧w.cell? ⟨n,4,none⟩=some a4∧w.cell? ⟨n,5,none⟩=some a5∧w.cell? ⟨n,6,none⟩=some a6∧w.cell? ⟨n,7,none⟩=some a7∧(∀ k,w.frozen? ⟨n,k,none⟩=false)∧n<w.heap.size∧¬ n=w.heap.size:=by
  have h2:=(hb.block n hn).trans h
  obtain ⟨c0,c1,c2,c3,c4,c5,c6,c7,f,l⟩:=rw8 h2
  exact ⟨h2,c0,c1,c2,c3,c4,c5,c6,c7,f,l,by omega⟩
theorem st8 {w:World} {n:Nat} {t:TypeId} {a0 a1 a2 a3 a4 a5 a6 a7:Value} (h:w.heap[n]?=some (.cells #[a0,a1,a2,a3,a4,a5,a6,a7] t (0,0))) (v2 v3 v4:Value):(((w.setCell ⟨n,2,none⟩ v2).setCell ⟨n,3,none⟩ v3).setCell ⟨n,4,none⟩ v4).heap[n]?=some (.cells #[a0,a1,v2,v3,v4,a5,a6,a7] t (0,0)):=by
  have h0:=Go.Joins.block_setCell (i:=2) h v2
  have h1:=Go.Joins.block_setCell (i:=3) h0 v3
  have h2:=Go.Joins.block_setCell (i:=4) h1 v4
  exact h2.trans (by simp)
theorem ot8 {w:World} {m k:Nat} {v2 v3 v4:Value} (h:¬ k=m):(((w.setCell ⟨m,2,none⟩ v2).setCell ⟨m,3,none⟩ v3).setCell ⟨m,4,none⟩ v4).heap[k]?=w.heap[k]?:=by
  rw [heap_setCell_other _ _ _ _ (by simp;omega),heap_setCell_other _ _ _ _ (by simp;omega),heap_setCell_other _ _ _ _ (by simp;omega)]
set_option maxHeartbeats 2000000 in
theorem chI_n (W:World) (b:Nat) (r c i m1 m2 ee:Int) (HC:Hid (∀ w,Below W.heap.size W w→Calls Tryz.prog 76 #[.pointer (some ⟨b,0,none⟩),.int .i64 r,.agg #[.int .i64 c,.int .i64 i]] w fun e w'=>e=.returned (.tuple #[.agg #[.int .i64 m1,.int .i64 m2],.int .i64 ee])∧Below w.heap.size w w')):Calls Tryz.prog 315 #[.agg #[],.pointer (some ⟨b,0,none⟩),.int .i64 r,.agg #[.int .i64 c,.int .i64 i]] W fun e w'=>e=.returned (.tuple #[.agg #[.int .i64 m1,.int .i64 m2],.int .i64 ee])∧Below W.heap.size W w':=by
  go_enter Tryz.func315,Tryz.ntmps315
  go_wp2_with (first
    | (go_at_call 76;refine (HC.out _ (by repeat (first|exact Below.refl _ _|refine Below.setCell ?_ (by simp;try omega) _|refine Below.alloc ?_ (by simp;try omega) _|refine Below.drew ?_))).mono ?_;rintro e w1 ⟨rfl,hb⟩;have zzd:=kp2 (n:=W.heap.size+1+1) hb;(try clear zzB zz0 zz1 zzf zzL zzN);obtain ⟨zzB,zz0,zz1,zzf,zzL,zzN⟩:=zzd;have B1:Hid (Below W.heap.size W w1):=bstep (by repeat (first|exact Below.refl _ _|refine Below.setCell ?_ (by simp;try omega) _|refine Below.alloc ?_ (by simp;try omega) _|refine Below.drew ?_)) hb;clear hb HC))
  exact bodyPost_ret (v:=.tuple #[.agg #[.int .i64 m1,.int .i64 m2],.int .i64 ee]) (by simp [results,Tryz.results315,go_sem, *]) rfl ⟨rfl,(by repeat (first|refine Below.setCell ?_ (by simp;try omega) _|refine Below.alloc ?_ (by have:=B1.out.size;simp;try omega) _|refine Below.drew ?_|exact B1.out))⟩
set_option maxHeartbeats 2000000 in
theorem seI_n (W:World) (b:Nat) (r c i m1 m2 ee:Int) (HC:Hid (∀ w,Below W.heap.size W w→Calls Tryz.prog 315 #[.agg #[],.pointer (some ⟨b,0,none⟩),.int .i64 r,.agg #[.int .i64 c,.int .i64 i]] w fun e w'=>e=.returned (.tuple #[.agg #[.int .i64 m1,.int .i64 m2],.int .i64 ee])∧Below w.heap.size w w')):Calls Tryz.prog 132 #[.pointer (some ⟨b,0,none⟩),.int .i64 r,.agg #[.int .i64 c,.int .i64 i]] W fun e w'=>e=.returned (.tuple #[.agg #[.int .i64 m1,.int .i64 m2],.int .i64 ee])∧Below W.heap.size W w':=by
  go_enter Tryz.func132,Tryz.ntmps132
  go_wp2_with (first
    | (go_at_call 315;refine (HC.out _ (by repeat (first|exact Below.refl _ _|refine Below.setCell ?_ (by simp;try omega) _|refine Below.alloc ?_ (by simp;try omega) _|refine Below.drew ?_))).mono ?_;rintro e w1 ⟨rfl,hb⟩;have zzd:=kp2 (n:=W.heap.size+1) hb (by first|omega|(simp;try omega)) (hkeep (halloc2 _ _ (by simp)));(try clear zzB zz0 zz1 zzf zzL zzN);obtain ⟨zzB,zz0,zz1,zzf,zzL,zzN⟩:=zzd;have B1:Hid (Below W.heap.size W w1):=bstep (by repeat (first|exact Below.refl _ _|refine Below.setCell ?_ (by simp;try omega) _|refine Below.alloc ?_ (by simp;try omega) _|refine Below.drew ?_)) hb;clear hb HC))
  exact bodyPost_ret (v:=.tuple #[.agg #[.int .i64 m1,.int .i64 m2],.int .i64 ee]) (by simp [results,Tryz.results132,go_sem, *]) rfl ⟨rfl,(by repeat (first|refine Below.setCell ?_ (by simp;try omega) _|refine Below.alloc ?_ (by have:=B1.out.size;simp;try omega) _|refine Below.drew ?_|exact B1.out))⟩
theorem seI_c {b:Nat} {ps:List Plc} {W:World} (h:WAt b ps W) (hW:WI ps) (r c i:Int):Calls Tryz.prog 132 #[.pointer (some ⟨b,0,none⟩),.int .i64 r,.agg #[.int .i64 c,.int .i64 i]] W fun e w'=>e=.returned (.tuple #[.agg #[.int .i64 (itfI ps r (c,i)).1.1,.int .i64 (itfI ps r (c,i)).1.2],.int .i64 (itfI ps r (c,i)).2])∧Below W.heap.size W w' :=
  seI_n W b r c i _ _ _ (fun w hb=>chI_n w b r c i _ _ _ (fun _ hb2=>itf_c ((h.below hb).below hb2) hW r c i))
set_option maxHeartbeats 2000000 in
theorem chV_n (W:World) (b:Nat) (r c i m1 m2 ee:Int) (HC:Hid (∀ w,Below W.heap.size W w→Calls Tryz.prog 77 #[.pointer (some ⟨b,0,none⟩),.int .i64 r,.agg #[.int .i64 c,.int .i64 i]] w fun e w'=>e=.returned (.tuple #[.agg #[.int .i64 m1,.int .i64 m2],.int .i64 ee])∧Below w.heap.size w w')):Calls Tryz.prog 316 #[.agg #[],.pointer (some ⟨b,0,none⟩),.int .i64 r,.agg #[.int .i64 c,.int .i64 i]] W fun e w'=>e=.returned (.tuple #[.agg #[.int .i64 m1,.int .i64 m2],.int .i64 ee])∧Below W.heap.size W w':=by
  go_enter Tryz.func316,Tryz.ntmps316
  go_wp2_with (first
    | (go_at_call 77;refine (HC.out _ (by repeat (first|exact Below.refl _ _|refine Below.setCell ?_ (by simp;try omega) _|refine Below.alloc ?_ (by simp;try omega) _|refine Below.drew ?_))).mono ?_;rintro e w1 ⟨rfl,hb⟩;have zzd:=kp2 (n:=W.heap.size+1+1) hb;(try clear zzB zz0 zz1 zzf zzL zzN);obtain ⟨zzB,zz0,zz1,zzf,zzL,zzN⟩:=zzd;have B1:Hid (Below W.heap.size W w1):=bstep (by repeat (first|exact Below.refl _ _|refine Below.setCell ?_ (by simp;try omega) _|refine Below.alloc ?_ (by simp;try omega) _|refine Below.drew ?_)) hb;clear hb HC))
  exact bodyPost_ret (v:=.tuple #[.agg #[.int .i64 m1,.int .i64 m2],.int .i64 ee]) (by simp [results,Tryz.results316,go_sem, *]) rfl ⟨rfl,(by repeat (first|refine Below.setCell ?_ (by simp;try omega) _|refine Below.alloc ?_ (by have:=B1.out.size;simp;try omega) _|refine Below.drew ?_|exact B1.out))⟩
set_option maxHeartbeats 2000000 in
theorem seV_n (W:World) (b:Nat) (r c i m1 m2 ee:Int) (HC:Hid (∀ w,Below W.heap.size W w→Calls Tryz.prog 316 #[.agg #[],.pointer (some ⟨b,0,none⟩),.int .i64 r,.agg #[.int .i64 c,.int .i64 i]] w fun e w'=>e=.returned (.tuple #[.agg #[.int .i64 m1,.int .i64 m2],.int .i64 ee])∧Below w.heap.size w w')):Calls Tryz.prog 175 #[.pointer (some ⟨b,0,none⟩),.int .i64 r,.agg #[.int .i64 c,.int .i64 i]] W fun e w'=>e=.returned (.tuple #[.agg #[.int .i64 m1,.int .i64 m2],.int .i64 ee])∧Below W.heap.size W w':=by
  go_enter Tryz.func175,Tryz.ntmps175
  go_wp2_with (first
    | (go_at_call 316;refine (HC.out _ (by repeat (first|exact Below.refl _ _|refine Below.setCell ?_ (by simp;try omega) _|refine Below.alloc ?_ (by simp;try omega) _|refine Below.drew ?_))).mono ?_;rintro e w1 ⟨rfl,hb⟩;have zzd:=kp2 (n:=W.heap.size+1) hb (by first|omega|(simp;try omega)) (hkeep (halloc2 _ _ (by simp)));(try clear zzB zz0 zz1 zzf zzL zzN);obtain ⟨zzB,zz0,zz1,zzf,zzL,zzN⟩:=zzd;have B1:Hid (Below W.heap.size W w1):=bstep (by repeat (first|exact Below.refl _ _|refine Below.setCell ?_ (by simp;try omega) _|refine Below.alloc ?_ (by simp;try omega) _|refine Below.drew ?_)) hb;clear hb HC))
  exact bodyPost_ret (v:=.tuple #[.agg #[.int .i64 m1,.int .i64 m2],.int .i64 ee]) (by simp [results,Tryz.results175,go_sem, *]) rfl ⟨rfl,(by repeat (first|refine Below.setCell ?_ (by simp;try omega) _|refine Below.alloc ?_ (by have:=B1.out.size;simp;try omega) _|refine Below.drew ?_|exact B1.out))⟩
theorem seV_c {b:Nat} {ps:List Plc} {W:World} (h:WAt b ps W) (hW:WI ps) (r c i:Int):Calls Tryz.prog 175 #[.pointer (some ⟨b,0,none⟩),.int .i64 r,.agg #[.int .i64 c,.int .i64 i]] W fun e w'=>e=.returned (.tuple #[.agg #[.int .i64 (virI ps r (c,i)).1.1,.int .i64 (virI ps r (c,i)).1.2],.int .i64 (virI ps r (c,i)).2])∧Below W.heap.size W w' :=
  seV_n W b r c i _ _ _ (fun w hb=>chV_n w b r c i _ _ _ (fun _ hb2=>vir_c ((h.below hb).below hb2) hW r c i))
set_option maxHeartbeats 8000000 in
theorem entryOf_n (W:World) (b:Nat) (r c i a1 a2 e1 b1 b2 e2:Int) (HI:Hid (∀ w,Below W.heap.size W w→Calls Tryz.prog 132 #[.pointer (some ⟨b,0,none⟩),.int .i64 r,.agg #[.int .i64 c,.int .i64 i]] w fun e w'=>e=.returned (.tuple #[.agg #[.int .i64 a1,.int .i64 a2],.int .i64 e1])∧Below w.heap.size w w')) (HV:Hid (∀ w,Below W.heap.size W w→Calls Tryz.prog 175 #[.pointer (some ⟨b,0,none⟩),.int .i64 r,.agg #[.int .i64 c,.int .i64 i]] w fun e w'=>e=.returned (.tuple #[.agg #[.int .i64 b1,.int .i64 b2],.int .i64 e2])∧Below w.heap.size w w')):Calls Tryz.prog 129 #[.pointer (some ⟨b,0,none⟩),.int .i64 r,.agg #[.int .i64 c,.int .i64 i]] W fun e w'=>e=.returned (.agg #[.int .i64 c,.int .i64 i,.int .i64 a1,.int .i64 a2,.int .i64 e1,.int .i64 b1,.int .i64 b2,.int .i64 e2])∧Below W.heap.size W w':=by
  have BB:Hid (Below W.heap.size W W):=Below.refl _ _
  go_enter Tryz.func129,Tryz.ntmps129
  go_wp2_with (first
    | (go_at_call 132;refine (HI.out _ (by repeat (first|refine Below.setCell ?_ (by simp;try omega) _|refine Below.alloc ?_ (by have:=BB.out.size;simp;try omega) _|refine Below.drew ?_|exact BB.out))).mono ?_;rintro e w1 ⟨rfl,hb⟩;have mmd:=kp2 (n:=W.heap.size) hb;(try clear mmB mm0 mm1 mmf mmL mmN);obtain ⟨mmB,mm0,mm1,mmf,mmL,mmN⟩:=mmd;have rrd:=kp8 (n:=W.heap.size+1) hb (by first|omega|(simp;try omega)) (hkeep (halloc2 _ _ (by simp)));(try clear rrB rr0 rr1 rr2 rr3 rr4 rr5 rr6 rr7 rrf rrL rrN);obtain ⟨rrB,rr0,rr1,rr2,rr3,rr4,rr5,rr6,rr7,rrf,rrL,rrN⟩:=rrd;have eed:=kp8 (n:=W.heap.size+1+1) hb (by first|omega|(simp;try omega)) (halloc2 _ _ (by simp));(try clear eeB ee0 ee1 ee2 ee3 ee4 ee5 ee6 ee7 eef eeL eeN);obtain ⟨eeB,ee0,ee1,ee2,ee3,ee4,ee5,ee6,ee7,eef,eeL,eeN⟩:=eed;have BB2:Below W.heap.size W w1:=bstep (by repeat (first|refine Below.setCell ?_ (by simp;try omega) _|refine Below.alloc ?_ (by have:=BB.out.size;simp;try omega) _|refine Below.drew ?_|exact BB.out)) hb;clear BB;have BB:Hid (Below W.heap.size W w1):=BB2;clear BB2 hb HI)
    | (go_at_call 175;refine (HV.out _ (by repeat (first|refine Below.setCell ?_ (by simp;try omega) _|refine Below.alloc ?_ (by have:=BB.out.size;simp;try omega) _|refine Below.drew ?_|exact BB.out))).mono ?_;rintro e w2 ⟨rfl,hb⟩;have rrd:=kp8 (n:=W.heap.size+1) hb (by first|omega|(simp;try omega)) ((ot8 (by omega)).trans rrB.out);(try clear rrB rr0 rr1 rr2 rr3 rr4 rr5 rr6 rr7 rrf rrL rrN);obtain ⟨rrB,rr0,rr1,rr2,rr3,rr4,rr5,rr6,rr7,rrf,rrL,rrN⟩:=rrd;have eed:=kp8 (n:=W.heap.size+1+1) hb (by first|omega|(simp;try omega)) (st8 eeB.out _ _ _);(try clear eeB ee0 ee1 ee2 ee3 ee4 ee5 ee6 ee7 eef eeL eeN);obtain ⟨eeB,ee0,ee1,ee2,ee3,ee4,ee5,ee6,ee7,eef,eeL,eeN⟩:=eed;have BB2:Below W.heap.size W w2:=bstep (by repeat (first|refine Below.setCell ?_ (by simp;try omega) _|refine Below.alloc ?_ (by have:=BB.out.size;simp;try omega) _|refine Below.drew ?_|exact BB.out)) hb;clear BB;have BB:Hid (Below W.heap.size W w2):=BB2;clear BB2 hb HV))
  exact bodyPost_ret (v:=.agg #[.int .i64 c,.int .i64 i,.int .i64 a1,.int .i64 a2,.int .i64 e1,.int .i64 b1,.int .i64 b2,.int .i64 e2]) (by simp [results,Tryz.results129,go_sem, *]) rfl ⟨rfl,(by repeat (first|refine Below.setCell ?_ (by simp;try omega) _|refine Below.alloc ?_ (by have:=BB.out.size;simp;try omega) _|refine Below.drew ?_|exact BB.out))⟩
theorem entryOf_c {b:Nat} {ps:List Plc} {W:World} (h:WAt b ps W) (hW:WI ps) (r c i:Int):Calls Tryz.prog 129 #[.pointer (some ⟨b,0,none⟩),.int .i64 r,.agg #[.int .i64 c,.int .i64 i]] W fun e w'=>e=.returned (entP ps r (c,i)).agg∧Below W.heap.size W w' :=
  entryOf_n W b r c i _ _ _ _ _ _ (fun _ hb=>seI_c (h.below hb) hW r c i) (fun _ hb=>seV_c (h.below hb) hW r c i)
theorem own_at8 {w:World} {N T n s:Nat} {v:Value} {xs:List Value} (h:w.ownsRow N T s v n xs) (hn:0<n):∃ g cap,v=.slice (some ⟨g,0,none⟩) n cap∧N≤g∧g<w.heap.size∧∀ (j:Nat) (u:Value),xs[j]?=some u→w.cell? ⟨g,j,none⟩=some u:=by
  have hr:=own_rds h
  rcases h.2 with ⟨_,e⟩|⟨g,cap,cur,e1,e2,e3,e4⟩
  · omega
  · subst e1
    refine ⟨g,cap,rfl,e2,(Array.getElem?_eq_some_iff.1 e3).1,fun j u hj=>?_⟩
    rcases hr.val with ⟨e,_⟩|⟨bk,o,cap',e,_,_,_,h4⟩
    · cases e
    · injection e with ea _ _
      injection ea with ea
      injection ea with e5 e6 _
      subst e5 e6
      have:=h4 j u hj
      rwa [Nat.zero_add] at this
theorem build_no {b:Nat} {ps:List Plc} {W:World} (h:WAt b ps W) (hW:WI ps) (x:Int) (hx:¬ itE ps x=0):Calls Tryz.prog 68 #[.pointer (some ⟨b,0,none⟩),.int .i64 x] W fun e w'=>e=.returned (.tuple #[.slice none 0 0,.int .i64 (itE ps x)])∧Below W.heap.size W w':=by
  have HCO:Hid (Calls Tryz.prog 65 #[.pointer (some ⟨b,0,none⟩),.int .i64 x] W fun e w'=>e=.returned (.tuple #[.slice none 0 0,.int .i64 (itE ps x)])∧Below W.heap.size W w'):=roots_no h hW x hx
  generalize itE ps x=E at *
  have hE:(E == 0)=false:=by simp [hx]
  clear h hW
  go_enter Tryz.func68,Tryz.ntmps68
  go_wp2_with (go_at_call 65;refine HCO.out.mono ?_;rintro e w1 ⟨rfl,hb⟩;have B1:Hid (Below W.heap.size W w1):=hb;clear hb HCO)
  exact bodyPost_ret (results_tmp2 rfl _ _ _) rfl ⟨rfl,B1.out⟩
set_option maxHeartbeats 4000000 in
theorem idxMI_any (N:Nat) (R:List (Int×Int)) (K:Nat) (HK:Hid (R.length=K)) (v:Value) (m1 m2:Int) (W:World) (h:W.ownsRow N 24 2 v K (flatD R)) (hn:K≤1000000000):Calls Tryz.prog 180 #[v,.agg #[.int .i64 m1,.int .i64 m2]] W fun e w'=>(∃ j:Int,e=.returned (.int .i64 j)∧(0≤j↔(m1,m2)∈R))∧Below W.heap.size W w':=by
  obtain ⟨ao,cap,rfl⟩:=ownv h
  have HA:Hid (W.ownsRow N 24 2 (.slice ao K cap) K (flatD R)):=h
  have hB0:Below W.heap.size W (W.alloc (.cells #[.int .i64 m1,.int .i64 m2] 24)):=(Below.refl _ W).alloc (Nat.le_refl _) _
  have hA0:(W.alloc (.cells #[.int .i64 m1,.int .i64 m2] 24)).heap[W.heap.size]?=some (.cells #[.int .i64 m1,.int .i64 m2] 24 (0,0)):=halloc1 _ _
  clear h
  go_enter Tryz.func180,Tryz.ntmps180
  go_wp2
  generalize W.alloc (.cells #[.int .i64 m1,.int .i64 m2] 24)=U at *
  obtain ⟨u0,u1,uf,uL⟩:=rw2 hA0
  have HBU:Hid (Below W.heap.size W U):=hB0
  clear hB0 hA0
  go_loopw [8] (fun iv wr=>∃ i:Nat,iv=.int .i64 i∧i≤K∧Hid (Below U.heap.size U wr)∧Hid ((m1,m2) ∉ R.take i)) (fun iv _=>K - (intOf iv).toNat)
  case atStart=>exact ⟨0,rfl,Nat.zero_le _,Below.refl _ _,by simp [Hid]⟩
  case round =>
    obtain ⟨i,rfl,hi,hb,hs⟩:=hrel
    by_cases hlt:i<K
    · have hiI:(i:Int)<(K:Int):=by omega
      obtain ⟨x,hx⟩:∃ x,R[i]?=some x:=⟨_,List.getElem?_eq_getElem (by rw [HK.out];exact hlt)⟩
      obtain ⟨g,c2,hform,_,hgl,hcs⟩:=own_at8 HA.out (by omega)
      injection hform with hca _ hcc
      subst hca hcc
      obtain ⟨f0,f1⟩:=flatD_at R i x hx
      have t0:=(hb.out.cell (p:=⟨g,i * 2,none⟩) (Nat.lt_trans hgl uL)).trans ((HBU.out.cell (p:=⟨g,i * 2,none⟩) hgl).trans (hcs _ _ f0))
      have t1:=(hb.out.cell (p:=⟨g,i * 2+1,none⟩) (Nat.lt_trans hgl uL)).trans ((HBU.out.cell (p:=⟨g,i * 2+1,none⟩) hgl).trans (hcs _ _ f1))
      have z0:=(hb.out.cell (p:=⟨W.heap.size,0,none⟩) uL).trans u0
      have z1:=(hb.out.cell (p:=⟨W.heap.size,1,none⟩) uL).trans u1
      obtain ⟨x1,x2⟩:=x
      simp only at t0 t1
      have HX:Hid (R[i]?=some (x1,x2)):=hx
      clear hcs f0 f1 hx
      by_cases he:(m1,m2)=(x1,x2)
      · have HM:Hid ((m1,m2)∈R):=by rw [Hid,he];exact List.mem_of_getElem? HX.out
        injection he with e1 e2
        subst e1 e2
        go_wp2
        go_region
        go_wp2
        go_ret
        exact ⟨⟨_,rfl,⟨fun _=>HM.out,fun _=>by omega⟩⟩,HBU.out.trans ((hb.out.drew).mono HBU.out.size)⟩
      · have hne:¬ m1=x1∨(m1=x1∧¬ m2=x2):=by
          by_cases e:m1=x1
          · exact .inr ⟨e,fun e2=>he (Prod.ext e e2)⟩
          · exact .inl e
        have HN:Hid ((m1,m2) ∉ R.take (i+1)):=by
          rw [Hid,List.take_add_one,HX.out,Option.toList_some,List.mem_append,List.mem_singleton]
          rintro (h|h)
          · exact hs.out h
          · exact he h
        clear he
        rcases hne with hne|⟨rfl,hne⟩
        · go_wp2
          go_region
          go_wp2
          go_roundw
          case rel=>exact ⟨i+1,by go_num,by omega,hb.out.drew,HN⟩
          case measure=>simp [intOf];omega
        · go_wp2
          go_region
          go_wp2
          go_roundw
          case rel=>exact ⟨i+1,by go_num,by omega,hb.out.drew,HN⟩
          case measure=>simp [intOf];omega
    · have e:i=K:=by omega
      subst e
      have HN:Hid ((m1,m2) ∉ R):=by
        have:=hs.out
        rwa [← HK.out,List.take_length] at this
      go_wp2
      go_ret
      exact ⟨⟨_,rfl,⟨fun h=>absurd h (by decide),fun h=>absurd h HN.out⟩⟩,HBU.out.trans (hb.out.mono HBU.out.size)⟩
set_option maxHeartbeats 2000000 in
theorem contMI_c (N:Nat) (R:List (Int×Int)) (K:Nat) (HK:Hid (R.length=K)) (v:Value) (m1 m2:Int) (W:World) (h:W.ownsRow N 24 2 v K (flatD R)) (hn:K≤1000000000):Calls Tryz.prog 134 #[v,.agg #[.int .i64 m1,.int .i64 m2]] W fun e w'=>e=.returned (.bool (decide ((m1,m2)∈R)))∧Below W.heap.size W w':=by
  have HI:Hid (∀ w,Below W.heap.size W w→Calls Tryz.prog 180 #[v,.agg #[.int .i64 m1,.int .i64 m2]] w fun e w'=>(∃ j:Int,e=.returned (.int .i64 j)∧(0≤j↔(m1,m2)∈R))∧Below w.heap.size w w'):=fun w hb=>idxMI_any N R K HK v m1 m2 w (rowBelow h hb) hn
  clear h
  go_enter Tryz.func134,Tryz.ntmps134
  go_wp2_with (go_at_call 180;refine (HI.out _ (by repeat (first|exact Below.refl _ _|refine Below.setCell ?_ (by simp;try omega) _|refine Below.alloc ?_ (by simp;try omega) _|refine Below.drew ?_))).mono ?_;rintro e w1 ⟨⟨j,rfl,hj⟩,hb⟩;have HJ:Hid (0≤j↔(m1,m2)∈R):=hj;have B1:Hid (Below W.heap.size W w1):=bstep (by repeat (first|exact Below.refl _ _|refine Below.setCell ?_ (by simp;try omega) _|refine Below.alloc ?_ (by simp;try omega) _|refine Below.drew ?_)) hb;clear hb hj HI)
  all_goals go_ret
  all_goals refine ⟨retB ?_,B1.out⟩
  all_goals rw [decide_eq_decide.2 HJ.out]
def zeE:Ent:=⟨(0,0),(0,0),0,(0,0),0⟩
def lokR (ps:List Plc) (r:Int) (m:Int×Int):Ent×Int:=match methI ps m.1 m.2 with
  | none=>(zeE,3)
  | some _=>if itE ps r=0 then (if m∈rtsR ps r then (entP ps r m,0) else (zeE,6)) else (zeE,itE ps r)
set_option maxHeartbeats 1000000 in
theorem chkI_c {b:Nat} {ps:List Plc} {W:World} (h:WAt b ps W) (hW:WI ps) (m1 m2:Int):Calls Tryz.prog 133 #[.pointer (some ⟨b,0,none⟩),.agg #[.int .i64 m1,.int .i64 m2]] W fun e w'=>e=.returned (.int .i64 (if (methI ps m1 m2).isSome then 0 else 3))∧Below W.heap.size W w':=by
  have HM:Hid (∀ w,Below W.heap.size W w→Calls Tryz.prog 17 #[.pointer (some ⟨b,0,none⟩),.agg #[.int .i64 m1,.int .i64 m2]] w fun e w'=>(∃ y:Value,e=.returned (.tuple #[y,.int .i64 (if (methI ps m1 m2).isSome then 0 else 3)])∧∃ z0 z1 z2 z3 z4 a n s,y=.agg #[.string z0,.string z1,.int .i64 z2,.int .i64 z3,.int .i64 z4,.slice a n s])∧Below w.heap.size w w'):=fun w hb=>by
    have:=mth_e (h.below hb) hW.pb m1 m2
    cases hm:methI ps m1 m2 with
    | none =>
      rw [hm] at this
      exact this.mono fun e w' zz=>⟨⟨_,zz.1,_,_,_,_,_,_,_,_,rfl⟩,zz.2⟩
    | some x =>
      rw [hm] at this
      exact this.mono fun e w' zz=>by
        obtain ⟨⟨sa,sk,so,e1⟩,e2⟩:=zz
        exact ⟨⟨_,e1,_,_,_,_,_,_,_,_,rfl⟩,e2⟩
  generalize (if (methI ps m1 m2).isSome then (0:Int) else 3)=E at *
  clear h hW
  go_enter Tryz.func133,Tryz.ntmps133
  go_wp2_with (go_at_call 17;refine (HM.out _ (by repeat (first|exact Below.refl _ _|refine Below.setCell ?_ (by simp;try omega) _|refine Below.alloc ?_ (by simp;try omega) _|refine Below.drew ?_))).mono ?_;rintro e w1 ⟨⟨y,rfl,z0,z1,z2,z3,z4,a,n,s,rfl⟩,hb⟩;have B1:Hid (Below W.heap.size W w1):=bstep (by repeat (first|exact Below.refl _ _|refine Below.setCell ?_ (by simp;try omega) _|refine Below.alloc ?_ (by simp;try omega) _|refine Below.drew ?_)) hb;clear hb HM)
  exact bodyPost_ret (results_tmp rfl _ _ _) rfl ⟨rfl,(by repeat (first|refine Below.setCell ?_ (by simp;try omega) _|refine Below.alloc ?_ (by have:=B1.out.size;simp;try omega) _|refine Below.drew ?_|exact B1.out))⟩
set_option maxHeartbeats 8000000 in
theorem lok_1 (W:World) (b:Nat) (r m1 m2:Int) (ce:Int) (hce:(ce == 0)=false) (HC:Hid (∀ w,Below W.heap.size W w→Calls Tryz.prog 133 #[.pointer (some ⟨b,0,none⟩),.agg #[.int .i64 m1,.int .i64 m2]] w fun e w'=>(e=.returned (.int .i64 ce))∧Below w.heap.size w w')):Calls Tryz.prog 73 #[.pointer (some ⟨b,0,none⟩),.int .i64 r,.agg #[.int .i64 m1,.int .i64 m2]] W fun e w'=>e=.returned (.tuple #[.agg #[.int .i64 0,.int .i64 0,.int .i64 0,.int .i64 0,.int .i64 0,.int .i64 0,.int .i64 0,.int .i64 0],.int .i64 ce])∧Below W.heap.size W w':=by
  have BB:Hid (Below W.heap.size W W):=Below.refl _ _
  go_enter Tryz.func73,Tryz.ntmps73
  go_wp2_with (first
    | (go_at_call 133;refine (HC.out _ (by repeat (first|refine Below.setCell ?_ (by simp;try omega) _|refine Below.alloc ?_ (by have:=BB.out.size;simp;try omega) _|refine Below.drew ?_|exact BB.out))).mono ?_;rintro e w1 ⟨rfl,hb⟩;have mmd:=kp2 (n:=W.heap.size) hb;(try clear mmB mm0 mm1 mmf mmL mmN);obtain ⟨mmB,mm0,mm1,mmf,mmL,mmN⟩:=mmd;have rrd:=kp8 (n:=W.heap.size+1) hb (by first|omega|(simp;try omega)) (halloc2 _ _ (by simp));(try clear rrB rr0 rr1 rr2 rr3 rr4 rr5 rr6 rr7 rrf rrL rrN);obtain ⟨rrB,rr0,rr1,rr2,rr3,rr4,rr5,rr6,rr7,rrf,rrL,rrN⟩:=rrd;have BB2:Below W.heap.size W w1:=bstep (by repeat (first|refine Below.setCell ?_ (by simp;try omega) _|refine Below.alloc ?_ (by have:=BB.out.size;simp;try omega) _|refine Below.drew ?_|exact BB.out)) hb;clear BB;have BB:Hid (Below W.heap.size W w1):=BB2;clear BB2;clear hb))
  exact bodyPost_ret (v:=.tuple #[.agg #[.int .i64 0,.int .i64 0,.int .i64 0,.int .i64 0,.int .i64 0,.int .i64 0,.int .i64 0,.int .i64 0],.int .i64 ce]) (by simp [results,Tryz.results73,go_sem, *]) rfl ⟨rfl,(by repeat (first|refine Below.setCell ?_ (by simp;try omega) _|refine Below.alloc ?_ (by have:=BB.out.size;simp;try omega) _|refine Below.drew ?_|exact BB.out))⟩
set_option maxHeartbeats 8000000 in
theorem lok_2 (W:World) (b:Nat) (r m1 m2:Int) (E:Int) (hE:(E == 0)=false) (HC:Hid (∀ w,Below W.heap.size W w→Calls Tryz.prog 133 #[.pointer (some ⟨b,0,none⟩),.agg #[.int .i64 m1,.int .i64 m2]] w fun e w'=>(e=.returned (.int .i64 0))∧Below w.heap.size w w')) (HR:Hid (∀ w,Below W.heap.size W w→Calls Tryz.prog 65 #[.pointer (some ⟨b,0,none⟩),.int .i64 r] w fun e w'=>(e=.returned (.tuple #[.slice none 0 0,.int .i64 E]))∧Below w.heap.size w w')):Calls Tryz.prog 73 #[.pointer (some ⟨b,0,none⟩),.int .i64 r,.agg #[.int .i64 m1,.int .i64 m2]] W fun e w'=>e=.returned (.tuple #[.agg #[.int .i64 0,.int .i64 0,.int .i64 0,.int .i64 0,.int .i64 0,.int .i64 0,.int .i64 0,.int .i64 0],.int .i64 E])∧Below W.heap.size W w':=by
  have BB:Hid (Below W.heap.size W W):=Below.refl _ _
  go_enter Tryz.func73,Tryz.ntmps73
  go_wp2_with (first
    | (go_at_call 133;refine (HC.out _ (by repeat (first|refine Below.setCell ?_ (by simp;try omega) _|refine Below.alloc ?_ (by have:=BB.out.size;simp;try omega) _|refine Below.drew ?_|exact BB.out))).mono ?_;rintro e w1 ⟨rfl,hb⟩;have mmd:=kp2 (n:=W.heap.size) hb;(try clear mmB mm0 mm1 mmf mmL mmN);obtain ⟨mmB,mm0,mm1,mmf,mmL,mmN⟩:=mmd;have rrd:=kp8 (n:=W.heap.size+1) hb (by first|omega|(simp;try omega)) (halloc2 _ _ (by simp));(try clear rrB rr0 rr1 rr2 rr3 rr4 rr5 rr6 rr7 rrf rrL rrN);obtain ⟨rrB,rr0,rr1,rr2,rr3,rr4,rr5,rr6,rr7,rrf,rrL,rrN⟩:=rrd;have BB2:Below W.heap.size W w1:=bstep (by repeat (first|refine Below.setCell ?_ (by simp;try omega) _|refine Below.alloc ?_ (by have:=BB.out.size;simp;try omega) _|refine Below.drew ?_|exact BB.out)) hb;clear BB;have BB:Hid (Below W.heap.size W w1):=BB2;clear BB2;clear hb)
    | (go_at_call 65;refine (HR.out _ (by repeat (first|refine Below.setCell ?_ (by simp;try omega) _|refine Below.alloc ?_ (by have:=BB.out.size;simp;try omega) _|refine Below.drew ?_|exact BB.out))).mono ?_;rintro e w2 ⟨rfl,hb⟩;have mmd:=kp2 (n:=W.heap.size) hb;(try clear mmB mm0 mm1 mmf mmL mmN);obtain ⟨mmB,mm0,mm1,mmf,mmL,mmN⟩:=mmd;have rrd:=kp8 (n:=W.heap.size+1) hb (by first|omega|(simp;try omega)) (rrB.out);(try clear rrB rr0 rr1 rr2 rr3 rr4 rr5 rr6 rr7 rrf rrL rrN);obtain ⟨rrB,rr0,rr1,rr2,rr3,rr4,rr5,rr6,rr7,rrf,rrL,rrN⟩:=rrd;have BB2:Below W.heap.size W w2:=bstep (by repeat (first|refine Below.setCell ?_ (by simp;try omega) _|refine Below.alloc ?_ (by have:=BB.out.size;simp;try omega) _|refine Below.drew ?_|exact BB.out)) hb;clear BB;have BB:Hid (Below W.heap.size W w2):=BB2;clear BB2;clear hb))
  exact bodyPost_ret (v:=.tuple #[.agg #[.int .i64 0,.int .i64 0,.int .i64 0,.int .i64 0,.int .i64 0,.int .i64 0,.int .i64 0,.int .i64 0],.int .i64 E]) (by simp [results,Tryz.results73,go_sem, *]) rfl ⟨rfl,(by repeat (first|refine Below.setCell ?_ (by simp;try omega) _|refine Below.alloc ?_ (by have:=BB.out.size;simp;try omega) _|refine Below.drew ?_|exact BB.out))⟩
set_option maxHeartbeats 8000000 in
theorem lok_3 (W:World) (b:Nat) (r m1 m2:Int) (HC:Hid (∀ w,Below W.heap.size W w→Calls Tryz.prog 133 #[.pointer (some ⟨b,0,none⟩),.agg #[.int .i64 m1,.int .i64 m2]] w fun e w'=>(e=.returned (.int .i64 0))∧Below w.heap.size w w')) (R:List (Int×Int)) (n:Nat) (HR:Hid (∀ w,Below W.heap.size W w→Calls Tryz.prog 65 #[.pointer (some ⟨b,0,none⟩),.int .i64 r] w fun e w'=>(∃ v,e=.returned (.tuple #[v,.int .i64 0])∧w'.ownsRow w.heap.size 24 2 v n (flatD R))∧Below w.heap.size w w')) (HT:Hid (∀ N v w,w.ownsRow N 24 2 v n (flatD R)→Calls Tryz.prog 134 #[v,.agg #[.int .i64 m1,.int .i64 m2]] w fun e w'=>e=.returned (.bool false)∧Below w.heap.size w w')):Calls Tryz.prog 73 #[.pointer (some ⟨b,0,none⟩),.int .i64 r,.agg #[.int .i64 m1,.int .i64 m2]] W fun e w'=>e=.returned (.tuple #[.agg #[.int .i64 0,.int .i64 0,.int .i64 0,.int .i64 0,.int .i64 0,.int .i64 0,.int .i64 0,.int .i64 0],.int .i64 6])∧Below W.heap.size W w':=by
  have BB:Hid (Below W.heap.size W W):=Below.refl _ _
  go_enter Tryz.func73,Tryz.ntmps73
  go_wp2_with (first
    | (go_at_call 133;refine (HC.out _ (by repeat (first|refine Below.setCell ?_ (by simp;try omega) _|refine Below.alloc ?_ (by have:=BB.out.size;simp;try omega) _|refine Below.drew ?_|exact BB.out))).mono ?_;rintro e w1 ⟨rfl,hb⟩;have mmd:=kp2 (n:=W.heap.size) hb;(try clear mmB mm0 mm1 mmf mmL mmN);obtain ⟨mmB,mm0,mm1,mmf,mmL,mmN⟩:=mmd;have rrd:=kp8 (n:=W.heap.size+1) hb (by first|omega|(simp;try omega)) (halloc2 _ _ (by simp));(try clear rrB rr0 rr1 rr2 rr3 rr4 rr5 rr6 rr7 rrf rrL rrN);obtain ⟨rrB,rr0,rr1,rr2,rr3,rr4,rr5,rr6,rr7,rrf,rrL,rrN⟩:=rrd;have BB2:Below W.heap.size W w1:=bstep (by repeat (first|refine Below.setCell ?_ (by simp;try omega) _|refine Below.alloc ?_ (by have:=BB.out.size;simp;try omega) _|refine Below.drew ?_|exact BB.out)) hb;clear BB;have BB:Hid (Below W.heap.size W w1):=BB2;clear BB2;clear hb)
    | (go_at_call 65;refine (HR.out _ (by repeat (first|refine Below.setCell ?_ (by simp;try omega) _|refine Below.alloc ?_ (by have:=BB.out.size;simp;try omega) _|refine Below.drew ?_|exact BB.out))).mono ?_;rintro e w2 ⟨⟨vr,rfl,ho⟩,hb⟩;have O2:Hid (w2.ownsRow w1.heap.size 24 2 vr n (flatD R)):=ho;clear ho;have mmd:=kp2 (n:=W.heap.size) hb;(try clear mmB mm0 mm1 mmf mmL mmN);obtain ⟨mmB,mm0,mm1,mmf,mmL,mmN⟩:=mmd;have rrd:=kp8 (n:=W.heap.size+1) hb (by first|omega|(simp;try omega)) (rrB.out);(try clear rrB rr0 rr1 rr2 rr3 rr4 rr5 rr6 rr7 rrf rrL rrN);obtain ⟨rrB,rr0,rr1,rr2,rr3,rr4,rr5,rr6,rr7,rrf,rrL,rrN⟩:=rrd;have BB2:Below W.heap.size W w2:=bstep (by repeat (first|refine Below.setCell ?_ (by simp;try omega) _|refine Below.alloc ?_ (by have:=BB.out.size;simp;try omega) _|refine Below.drew ?_|exact BB.out)) hb;clear BB;have BB:Hid (Below W.heap.size W w2):=BB2;clear BB2;clear hb)
    | (go_at_call 134;refine (HT.out _ _ _ O2.out).mono ?_;rintro e w3 ⟨rfl,hb⟩;have mmd:=kp2 (n:=W.heap.size) hb;(try clear mmB mm0 mm1 mmf mmL mmN);obtain ⟨mmB,mm0,mm1,mmf,mmL,mmN⟩:=mmd;have rrd:=kp8 (n:=W.heap.size+1) hb (by first|omega|(simp;try omega)) (rrB.out);(try clear rrB rr0 rr1 rr2 rr3 rr4 rr5 rr6 rr7 rrf rrL rrN);obtain ⟨rrB,rr0,rr1,rr2,rr3,rr4,rr5,rr6,rr7,rrf,rrL,rrN⟩:=rrd;have BB2:Below W.heap.size W w3:=bstep (by repeat (first|refine Below.setCell ?_ (by simp;try omega) _|refine Below.alloc ?_ (by have:=BB.out.size;simp;try omega) _|refine Below.drew ?_|exact BB.out)) hb;clear BB;have BB:Hid (Below W.heap.size W w3):=BB2;clear BB2;clear hb))
  exact bodyPost_ret (v:=.tuple #[.agg #[.int .i64 0,.int .i64 0,.int .i64 0,.int .i64 0,.int .i64 0,.int .i64 0,.int .i64 0,.int .i64 0],.int .i64 6]) (by simp [results,Tryz.results73,go_sem, *]) rfl ⟨rfl,(by repeat (first|refine Below.setCell ?_ (by simp;try omega) _|refine Below.alloc ?_ (by have:=BB.out.size;simp;try omega) _|refine Below.drew ?_|exact BB.out))⟩
set_option maxHeartbeats 8000000 in
theorem lok_4 (W:World) (b:Nat) (r m1 m2:Int) (r1 r2 k1 k2 ee v1 v2 ff:Int) (HC:Hid (∀ w,Below W.heap.size W w→Calls Tryz.prog 133 #[.pointer (some ⟨b,0,none⟩),.agg #[.int .i64 m1,.int .i64 m2]] w fun e w'=>(e=.returned (.int .i64 0))∧Below w.heap.size w w')) (R:List (Int×Int)) (n:Nat) (HR:Hid (∀ w,Below W.heap.size W w→Calls Tryz.prog 65 #[.pointer (some ⟨b,0,none⟩),.int .i64 r] w fun e w'=>(∃ v,e=.returned (.tuple #[v,.int .i64 0])∧w'.ownsRow w.heap.size 24 2 v n (flatD R))∧Below w.heap.size w w')) (HT:Hid (∀ N v w,w.ownsRow N 24 2 v n (flatD R)→Calls Tryz.prog 134 #[v,.agg #[.int .i64 m1,.int .i64 m2]] w fun e w'=>e=.returned (.bool true)∧Below w.heap.size w w')) (HE:Hid (∀ w,Below W.heap.size W w→Calls Tryz.prog 129 #[.pointer (some ⟨b,0,none⟩),.int .i64 r,.agg #[.int .i64 m1,.int .i64 m2]] w fun e w'=>(e=.returned (.agg #[.int .i64 r1,.int .i64 r2,.int .i64 k1,.int .i64 k2,.int .i64 ee,.int .i64 v1,.int .i64 v2,.int .i64 ff]))∧Below w.heap.size w w')):Calls Tryz.prog 73 #[.pointer (some ⟨b,0,none⟩),.int .i64 r,.agg #[.int .i64 m1,.int .i64 m2]] W fun e w'=>e=.returned (.tuple #[.agg #[.int .i64 r1,.int .i64 r2,.int .i64 k1,.int .i64 k2,.int .i64 ee,.int .i64 v1,.int .i64 v2,.int .i64 ff],.int .i64 0])∧Below W.heap.size W w':=by
  have BB:Hid (Below W.heap.size W W):=Below.refl _ _
  go_enter Tryz.func73,Tryz.ntmps73
  go_wp2_with (first
    | (go_at_call 133;refine (HC.out _ (by repeat (first|refine Below.setCell ?_ (by simp;try omega) _|refine Below.alloc ?_ (by have:=BB.out.size;simp;try omega) _|refine Below.drew ?_|exact BB.out))).mono ?_;rintro e w1 ⟨rfl,hb⟩;have mmd:=kp2 (n:=W.heap.size) hb;(try clear mmB mm0 mm1 mmf mmL mmN);obtain ⟨mmB,mm0,mm1,mmf,mmL,mmN⟩:=mmd;have rrd:=kp8 (n:=W.heap.size+1) hb (by first|omega|(simp;try omega)) (halloc2 _ _ (by simp));(try clear rrB rr0 rr1 rr2 rr3 rr4 rr5 rr6 rr7 rrf rrL rrN);obtain ⟨rrB,rr0,rr1,rr2,rr3,rr4,rr5,rr6,rr7,rrf,rrL,rrN⟩:=rrd;have BB2:Below W.heap.size W w1:=bstep (by repeat (first|refine Below.setCell ?_ (by simp;try omega) _|refine Below.alloc ?_ (by have:=BB.out.size;simp;try omega) _|refine Below.drew ?_|exact BB.out)) hb;clear BB;have BB:Hid (Below W.heap.size W w1):=BB2;clear BB2;clear hb)
    | (go_at_call 65;refine (HR.out _ (by repeat (first|refine Below.setCell ?_ (by simp;try omega) _|refine Below.alloc ?_ (by have:=BB.out.size;simp;try omega) _|refine Below.drew ?_|exact BB.out))).mono ?_;rintro e w2 ⟨⟨vr,rfl,ho⟩,hb⟩;have O2:Hid (w2.ownsRow w1.heap.size 24 2 vr n (flatD R)):=ho;clear ho;have mmd:=kp2 (n:=W.heap.size) hb;(try clear mmB mm0 mm1 mmf mmL mmN);obtain ⟨mmB,mm0,mm1,mmf,mmL,mmN⟩:=mmd;have rrd:=kp8 (n:=W.heap.size+1) hb (by first|omega|(simp;try omega)) (rrB.out);(try clear rrB rr0 rr1 rr2 rr3 rr4 rr5 rr6 rr7 rrf rrL rrN);obtain ⟨rrB,rr0,rr1,rr2,rr3,rr4,rr5,rr6,rr7,rrf,rrL,rrN⟩:=rrd;have BB2:Below W.heap.size W w2:=bstep (by repeat (first|refine Below.setCell ?_ (by simp;try omega) _|refine Below.alloc ?_ (by have:=BB.out.size;simp;try omega) _|refine Below.drew ?_|exact BB.out)) hb;clear BB;have BB:Hid (Below W.heap.size W w2):=BB2;clear BB2;clear hb)
    | (go_at_call 134;refine (HT.out _ _ _ O2.out).mono ?_;rintro e w3 ⟨rfl,hb⟩;have mmd:=kp2 (n:=W.heap.size) hb;(try clear mmB mm0 mm1 mmf mmL mmN);obtain ⟨mmB,mm0,mm1,mmf,mmL,mmN⟩:=mmd;have rrd:=kp8 (n:=W.heap.size+1) hb (by first|omega|(simp;try omega)) (rrB.out);(try clear rrB rr0 rr1 rr2 rr3 rr4 rr5 rr6 rr7 rrf rrL rrN);obtain ⟨rrB,rr0,rr1,rr2,rr3,rr4,rr5,rr6,rr7,rrf,rrL,rrN⟩:=rrd;have BB2:Below W.heap.size W w3:=bstep (by repeat (first|refine Below.setCell ?_ (by simp;try omega) _|refine Below.alloc ?_ (by have:=BB.out.size;simp;try omega) _|refine Below.drew ?_|exact BB.out)) hb;clear BB;have BB:Hid (Below W.heap.size W w3):=BB2;clear BB2;clear hb)
    | (go_at_call 129;refine (HE.out _ (by repeat (first|refine Below.setCell ?_ (by simp;try omega) _|refine Below.alloc ?_ (by have:=BB.out.size;simp;try omega) _|refine Below.drew ?_|exact BB.out))).mono ?_;rintro e w4 ⟨rfl,hb⟩;have rrd:=kp8 (n:=W.heap.size+1) hb (by first|omega|(simp;try omega)) (rrB.out);(try clear rrB rr0 rr1 rr2 rr3 rr4 rr5 rr6 rr7 rrf rrL rrN);obtain ⟨rrB,rr0,rr1,rr2,rr3,rr4,rr5,rr6,rr7,rrf,rrL,rrN⟩:=rrd;have BB2:Below W.heap.size W w4:=bstep (by repeat (first|refine Below.setCell ?_ (by simp;try omega) _|refine Below.alloc ?_ (by have:=BB.out.size;simp;try omega) _|refine Below.drew ?_|exact BB.out)) hb;clear BB;have BB:Hid (Below W.heap.size W w4):=BB2;clear BB2;clear hb))
  exact bodyPost_ret (v:=.tuple #[.agg #[.int .i64 r1,.int .i64 r2,.int .i64 k1,.int .i64 k2,.int .i64 ee,.int .i64 v1,.int .i64 v2,.int .i64 ff],.int .i64 0]) (by simp [results,Tryz.results73,go_sem, *]) rfl ⟨rfl,(by repeat (first|refine Below.setCell ?_ (by simp;try omega) _|refine Below.alloc ?_ (by have:=BB.out.size;simp;try omega) _|refine Below.drew ?_|exact BB.out))⟩
theorem lok_c {b:Nat} {ps:List Plc} {W:World} (h:WAt b ps W) (hW:WI ps) (r m1 m2:Int):Calls Tryz.prog 73 #[.pointer (some ⟨b,0,none⟩),.int .i64 r,.agg #[.int .i64 m1,.int .i64 m2]] W fun e w'=>e=.returned (.tuple #[(lokR ps r (m1,m2)).1.agg,.int .i64 (lokR ps r (m1,m2)).2])∧Below W.heap.size W w':=by
  have HC:∀ w,Below W.heap.size W w→Calls Tryz.prog 133 #[.pointer (some ⟨b,0,none⟩),.agg #[.int .i64 m1,.int .i64 m2]] w fun e w'=>e=.returned (.int .i64 (if (methI ps m1 m2).isSome then 0 else 3))∧Below w.heap.size w w':=fun w hb=>chkI_c (h.below hb) hW m1 m2
  unfold lokR
  cases hm:methI ps m1 m2 with
  | none =>
    rw [hm] at HC
    exact lok_1 W b r m1 m2 3 (by decide) HC
  | some x =>
    rw [hm] at HC
    simp only
    by_cases h0:itE ps r=0
    · rw [if_pos h0]
      have HR:∀ w,Below W.heap.size W w→Calls Tryz.prog 65 #[.pointer (some ⟨b,0,none⟩),.int .i64 r] w fun e w'=>(∃ v,e=.returned (.tuple #[v,.int .i64 0])∧w'.ownsRow w.heap.size 24 2 v (rtsR ps r).length (flatD (rtsR ps r)))∧Below w.heap.size w w':=fun w hb=>by
        have:=roots_c (h.below hb) hW r
        rw [h0] at this
        exact this
      have hlen:(rtsR ps r).length≤1000000000:=by
        rcases it_cases ps r with ⟨_,k,q,rfl,hq,_,hr⟩|⟨hr,_⟩
        · rw [hr];exact Nat.le_trans (rts_len hW hq) (by decide)
        · rw [hr];exact Nat.zero_le _
      have HT:∀ N v w,w.ownsRow N 24 2 v (rtsR ps r).length (flatD (rtsR ps r))→Calls Tryz.prog 134 #[v,.agg #[.int .i64 m1,.int .i64 m2]] w fun e w'=>e=.returned (.bool (decide ((m1,m2)∈rtsR ps r)))∧Below w.heap.size w w':=fun N v w ho=>contMI_c N _ _ rfl v m1 m2 w ho hlen
      by_cases hin:(m1,m2)∈rtsR ps r
      · rw [if_pos hin]
        rw [decide_eq_true hin] at HT
        exact lok_4 W b r m1 m2 _ _ _ _ _ _ _ _ HC (rtsR ps r) _ HR HT (fun w hb=>entryOf_c (h.below hb) hW r m1 m2)
      · rw [if_neg hin]
        rw [decide_eq_false hin] at HT
        exact lok_3 W b r m1 m2 HC (rtsR ps r) _ HR HT
    · rw [if_neg h0]
      exact lok_2 W b r m1 m2 _ (by simp [h0]) HC (fun w hb=>roots_no (h.below hb) hW r h0)
theorem extI_split {ps:List Plc} {a b:Int} (h:extI ps a b=true):∃ i j:Nat,a=(i:Int)∧b=(j:Int)∧i<ps.length∧j<ps.length∧extB (ps.map nd) i j=true:=by
  rw [extI,Bool.and_eq_true,Bool.and_eq_true] at h
  obtain ⟨⟨h1,h2⟩,h3⟩:=h
  rcases plcI_cases ps a with ⟨e,_⟩|⟨i,q,rfl,hq,_⟩
  · rw [e] at h1;cases h1
  · rcases plcI_cases ps b with ⟨e,_⟩|⟨j,r,rfl,hr,_⟩
    · rw [e] at h2;cases h2
    · exact ⟨i,j,rfl,rfl,(List.getElem?_eq_some_iff.1 hq).1,(List.getElem?_eq_some_iff.1 hr).1,h3⟩
end Go.Proofs.YthfifobokpfpkaaGreat
