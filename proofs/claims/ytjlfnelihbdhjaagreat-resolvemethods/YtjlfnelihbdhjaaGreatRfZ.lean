import Derived.Test.YtjlfnelihbdhjaaGreatRwB
import Derived.Test.YtjlfnelihbdhjaaGreatLwG
import Derived.Test.YtjlfnelihbdhjaaGreatRsB
import Derived.Test.YtjlfnelihbdhjaaGreatCodeL
set_option maxRecDepth 100000
namespace Go.Proofs.YtjlfnelihbdhjaaGreat
open Go.RowKit Go.Maps
set_option maxHeartbeats 1000000 in
theorem rHld_c {b:Nat} {cs:List Cls} {ps:List Plc} {W:World} (h:RAt b cs W) (ht:TwW cs ps) (x:Int) (s:ByteArray) (hs:s.size≤maxLen):Calls Tryz.prog 91 #[.pointer (some ⟨b,0,none⟩),.agg #[.int .i64 x,.string s]] W fun e w'=>e=.returned (.tuple #[.int .i64 (hldR ps x s).1,.int .i64 (hldR ps x s).2])∧Below W.heap.size W w':=by
  have hn:cs.length≤300:=by rw [ht.tw.len];exact ht.wi.hi
  have HL:Hid (∀ w,Below W.heap.size W w→Calls Tryz.prog 174 #[.pointer (some ⟨b,0,none⟩),.agg #[.int .i64 x,.string s]] w fun e w'=>e=.returned (.int .i64 (ldI ps x s))∧Below w.heap.size w w'):=fun w hb=>by rw [← ldC_eq ht];exact rLoaded_c (h.below hb) hn x s hs
  have HI:Hid (∀ w:World,Calls Tryz.prog 176 #[.agg #[.int .i64 x,.string s]] w fun e w'=>e=.returned (.bool (intB x s))∧Below w.heap.size w w'):=rIsInt_c x s
  have HN:Hid (∀ k,lookL ps s.data.toList=some k→∀ w:World,Below W.heap.size W w→Calls Tryz.prog 177 #[.pointer (some ⟨b,0,none⟩),.string s] w fun e w'=>e=.returned (.tuple #[.int .i64 (k:Int),.int .i64 0])∧w'=w):=fun k hk w hb=>rByName_t (h.below hb) ht s k hk
  have hlf:=fun h0:ldI ps x s=0=>ld_facts h0
  have hE:ldI ps x s=0→intB x s=false→¬ 0<x→∃ k,lookL ps s.data.toList=some k:=fun h0 h1 h2=>by
    obtain ⟨x0,_,hk⟩:=hlf h0
    refine hk ?_
    have hx:x=0:=by omega
    unfold intB at h1
    rw [hx] at h1
    simpa using h1
  unfold hldR
  generalize ldI ps x s=ld at *
  generalize intB x s=iB at *
  generalize lookL ps s.data.toList=lk at *
  clear h hs ht hn hlf
  by_cases h0:ld=0
  · subst h0
    rw [if_pos rfl]
    cases iB with
    | true =>
      rw [if_pos rfl]
      clear HN hE
      go_enter Tryz.func91,Tryz.ntmps91
      go_wp2_with (first
        | (go_at_call 174;refine (HL.out _ (by repeat (first|exact Below.refl _ _|refine Below.setCell ?_ (by simp;try omega) _|refine Below.alloc ?_ (by simp;try omega) _|refine Below.drew ?_))).mono ?_;rintro e w1 ⟨rfl,hb⟩;have gd:=kp2 (n:=W.heap.size) hb;(try clear gB g0 g1 gf gL gN);obtain ⟨gB,g0,g1,gf,gL,gN⟩:=gd;have B1:Hid (Below W.heap.size W w1):=bstep (by repeat (first|exact Below.refl _ _|refine Below.setCell ?_ (by simp;try omega) _|refine Below.alloc ?_ (by simp;try omega) _|refine Below.drew ?_)) hb;clear hb HL)
        | (go_at_call 176;refine (HI.out _).mono ?_;rintro e w2 ⟨rfl,hb⟩;have B2:Hid (Below W.heap.size W w2):=bstep B1.out hb;clear hb HI))
      exact bodyPost_ret (results_tmp2 rfl _ _ _) rfl ⟨rfl,B2.out⟩
    | false =>
      rw [if_neg (by simp)]
      by_cases hx:0<x
      · rw [if_pos hx]
        clear HN hE
        go_enter Tryz.func91,Tryz.ntmps91
        go_wp2_with (first
          | (go_at_call 174;refine (HL.out _ (by repeat (first|exact Below.refl _ _|refine Below.setCell ?_ (by simp;try omega) _|refine Below.alloc ?_ (by simp;try omega) _|refine Below.drew ?_))).mono ?_;rintro e w1 ⟨rfl,hb⟩;have gd:=kp2 (n:=W.heap.size) hb;(try clear gB g0 g1 gf gL gN);obtain ⟨gB,g0,g1,gf,gL,gN⟩:=gd;have B1:Hid (Below W.heap.size W w1):=bstep (by repeat (first|exact Below.refl _ _|refine Below.setCell ?_ (by simp;try omega) _|refine Below.alloc ?_ (by simp;try omega) _|refine Below.drew ?_)) hb;clear hb HL)
          | (go_at_call 176;refine (HI.out _).mono ?_;rintro e w2 ⟨rfl,hb⟩;have gd:=kp2 (n:=W.heap.size) hb;(try clear gB g0 g1 gf gL gN);obtain ⟨gB,g0,g1,gf,gL,gN⟩:=gd;have B2:Hid (Below W.heap.size W w2):=bstep B1.out hb;clear hb HI))
        exact bodyPost_ret (results_tmp2 rfl _ _ _) rfl ⟨rfl,B2.out⟩
      · rw [if_neg hx]
        obtain ⟨k,rfl⟩:=hE rfl rfl hx
        replace HN:Hid (∀ w:World,Below W.heap.size W w→Calls Tryz.prog 177 #[.pointer (some ⟨b,0,none⟩),.string s] w fun e w'=>e=.returned (.tuple #[.int .i64 (k:Int),.int .i64 0])∧w'=w):=HN.out k rfl
        clear hE
        go_enter Tryz.func91,Tryz.ntmps91
        go_wp2_with (first
          | (go_at_call 174;refine (HL.out _ (by repeat (first|exact Below.refl _ _|refine Below.setCell ?_ (by simp;try omega) _|refine Below.alloc ?_ (by simp;try omega) _|refine Below.drew ?_))).mono ?_;rintro e w1 ⟨rfl,hb⟩;have gd:=kp2 (n:=W.heap.size) hb;(try clear gB g0 g1 gf gL gN);obtain ⟨gB,g0,g1,gf,gL,gN⟩:=gd;have B1:Hid (Below W.heap.size W w1):=bstep (by repeat (first|exact Below.refl _ _|refine Below.setCell ?_ (by simp;try omega) _|refine Below.alloc ?_ (by simp;try omega) _|refine Below.drew ?_)) hb;clear hb HL)
          | (go_at_call 176;refine (HI.out _).mono ?_;rintro e w2 ⟨rfl,hb⟩;have gd:=kp2 (n:=W.heap.size) hb;(try clear gB g0 g1 gf gL gN);obtain ⟨gB,g0,g1,gf,gL,gN⟩:=gd;have B2:Hid (Below W.heap.size W w2):=bstep B1.out hb;clear hb HI)
          | (go_at_call 177;refine (HN.out _ B2.out).mono ?_;rintro e w9 ⟨rfl,hw9⟩;rw [hw9];clear hw9 w9 HN))
        exact bodyPost_ret (results_tmp2 rfl _ _ _) rfl ⟨rfl,B2.out⟩
  · rw [if_neg h0]
    clear HN hE
    go_enter Tryz.func91,Tryz.ntmps91
    go_wp2_with (first
      | (go_at_call 174;refine (HL.out _ (by repeat (first|exact Below.refl _ _|refine Below.setCell ?_ (by simp;try omega) _|refine Below.alloc ?_ (by simp;try omega) _|refine Below.drew ?_))).mono ?_;rintro e w1 ⟨rfl,hb⟩;have gd:=kp2 (n:=W.heap.size) hb;(try clear gB g0 g1 gf gL gN);obtain ⟨gB,g0,g1,gf,gL,gN⟩:=gd;have B1:Hid (Below W.heap.size W w1):=bstep (by repeat (first|exact Below.refl _ _|refine Below.setCell ?_ (by simp;try omega) _|refine Below.alloc ?_ (by simp;try omega) _|refine Below.drew ?_)) hb;clear hb HL))
    exact bodyPost_ret (results_tmp2 rfl _ _ _) rfl ⟨rfl,B1.out⟩
set_option maxHeartbeats 1000000 in
theorem rCls_c {b:Nat} {cs:List Cls} {ps:List Plc} {W:World} (h:RAt b cs W) (ht:TwW cs ps) (d:Int) (s:ByteArray) (hs:s.size≤maxLen):Calls Tryz.prog 90 #[.pointer (some ⟨b,0,none⟩),.int .i64 d,.string s] W fun e w'=>e=.returned (tyE (clsR ps d s.data.toList))∧Below W.heap.size W w':=by
  have hn:cs.length≤300:=by rw [ht.tw.len];exact ht.wi.hi
  have HC:Hid (∀ w,Below W.heap.size W w→Calls Tryz.prog 76 #[.pointer (some ⟨b,0,none⟩),.int .i64 d] w fun e w'=>e=.returned (.bool (plcI ps d).isSome)∧Below w.heap.size w w'):=fun w hb=>(rIn_t (h.below hb) ht d).mono fun e w' zz=>⟨zz.1,by rw [zz.2];exact Below.refl _ _⟩
  have HP:Hid (∀ w:World,Calls Tryz.prog 102 #[.string s] w fun e w'=>e=.returned (.tuple #[.agg #[.int .i64 ((prfT s.data.toList).1:Int),.string (tyS s.data.toList)],.int .i64 (prfE s.data.toList)])∧Below w.heap.size w w'):=rParseRef_any s hs
  have hsz:prfE s.data.toList=0→(tyS s.data.toList).size≤maxLen:=fun h0=>by
    have hl:=(prf_len2 _ h0).1
    have:(tyS s.data.toList).size=(prfT s.data.toList).2.length:=by simp [tyS,ByteArray.size]
    rw [this];unfold maxLen;omega
  have HL:Hid (prfE s.data.toList=0→∀ w,Below W.heap.size W w→Calls Tryz.prog 174 #[.pointer (some ⟨b,0,none⟩),.agg #[.int .i64 ((prfT s.data.toList).1:Int),.string (tyS s.data.toList)]] w fun e w'=>e=.returned (.int .i64 (ldI ps (prfT s.data.toList).1 (tyS s.data.toList)))∧Below w.heap.size w w'):=fun h0 w hb=>by rw [← ldC_eq ht];exact rLoaded_c (h.below hb) hn _ _ (hsz h0)
  have HT:Hid (prfE s.data.toList=0→∀ w,Below W.heap.size W w→Calls Tryz.prog 175 #[.pointer (some ⟨b,0,none⟩),.int .i64 d,.agg #[.int .i64 ((prfT s.data.toList).1:Int),.string (tyS s.data.toList)]] w fun e w'=>e=.returned (.tuple #[.bool (toP ps d (prfT s.data.toList).1 (tyS s.data.toList)).1,.int .i64 (toP ps d (prfT s.data.toList).1 (tyS s.data.toList)).2])∧Below w.heap.size w w'):=fun h0 w hb=>(rTypeOpen_c (h.below hb) hn (ht.tw.sz ht.wi) d _ _ (hsz h0)).mono fun e w' zz=>⟨by rw [zz.1,to_eq ht.tw ht.nm,toI_eq],zz.2⟩
  have hP:∀ p,plcI ps d=some p→toP ps d (prfT s.data.toList).1 (tyS s.data.toList)=if ldI ps (prfT s.data.toList).1 (tyS s.data.toList)=0 then (tyO ps p (tyS s.data.toList),0) else (false,ldI ps (prfT s.data.toList).1 (tyS s.data.toList)):=fun p hp=>by unfold toP;rw [hp]
  unfold clsR tyX
  generalize ((prfT s.data.toList).1:Int)=x at *
  generalize tyS s.data.toList=t at *
  generalize prfE s.data.toList=pe at *
  cases hd:plcI ps d with
  | none =>
    rw [rck_none hd,if_neg (by decide)]
    rw [hd] at HC
    simp only [Option.isSome_none] at HC
    clear h ht hn hsz HL HT hP hd
    go_enter Tryz.func90,Tryz.ntmps90
    go_wp2_with (first
      | (go_at_call 76;refine (HC.out _ (by repeat (first|exact Below.refl _ _|refine Below.setCell ?_ (by simp;try omega) _|refine Below.alloc ?_ (by simp;try omega) _|refine Below.drew ?_))).mono ?_;rintro e w2 ⟨rfl,hb⟩;have zd:=kp2 (n:=W.heap.size) hb;(try clear zB z0 z1 zf zL zN);obtain ⟨zB,z0,z1,zf,zL,zN⟩:=zd;have B2:Hid (Below W.heap.size W w2):=bstep (by repeat (first|exact Below.refl _ _|refine Below.setCell ?_ (by simp;try omega) _|refine Below.alloc ?_ (by simp;try omega) _|refine Below.drew ?_)) hb;clear hb HC))
    exact bodyPost_ret (v:=tyE ((0,⟨#[]⟩),3)) (by simp [results,Tryz.results90,go_sem,tyE, *]) rfl ⟨rfl,(by repeat (first|exact B2.out|refine Below.setCell ?_ (by simp;try omega) _|refine Below.alloc ?_ (by have:=B2.out.size;simp;try omega) _|refine Below.drew ?_))⟩
  | some p =>
    rw [rck_some hd,if_pos rfl]
    have hP2:=hP p hd
    rw [hP2] at HT ⊢
    rw [hd] at HC
    simp only [Option.isSome_some] at HC
    generalize tyO ps p t=tp at *
    generalize ldI ps x t=ld at *
    clear h ht hn hsz hP hd hP2
    by_cases h1:pe=0
    · subst h1
      rw [if_pos rfl]
      replace HL:Hid (∀ w,Below W.heap.size W w→Calls Tryz.prog 174 #[.pointer (some ⟨b,0,none⟩),.agg #[.int .i64 x,.string t]] w fun e w'=>e=.returned (.int .i64 ld)∧Below w.heap.size w w'):=HL.out rfl
      have HT2:=HT.out rfl
      clear HT
      by_cases h2:ld=0
      · subst h2
        rw [if_pos rfl] at HT2 ⊢
        have HT:Hid (∀ w,Below W.heap.size W w→Calls Tryz.prog 175 #[.pointer (some ⟨b,0,none⟩),.int .i64 d,.agg #[.int .i64 x,.string t]] w fun e w'=>e=.returned (.tuple #[.bool tp,.int .i64 0])∧Below w.heap.size w w'):=HT2
        clear HT2
        cases tp with
        | true =>
          have e:shuI true 0=0:=rfl
          simp only [e,if_true]
          clear e
          go_enter Tryz.func90,Tryz.ntmps90
          go_wp2_with (first
            | (go_at_call 76;refine (HC.out _ (by repeat (first|exact Below.refl _ _|refine Below.setCell ?_ (by simp;try omega) _|refine Below.alloc ?_ (by simp;try omega) _|refine Below.drew ?_))).mono ?_;rintro e w1 ⟨rfl,hb⟩;have zd:=kp2 (n:=W.heap.size) hb;(try clear zB z0 z1 zf zL zN);obtain ⟨zB,z0,z1,zf,zL,zN⟩:=zd;have B1:Hid (Below W.heap.size W w1):=bstep (by repeat (first|exact Below.refl _ _|refine Below.setCell ?_ (by simp;try omega) _|refine Below.alloc ?_ (by simp;try omega) _|refine Below.drew ?_)) hb;clear hb HC)
            | (go_at_call 102;refine (HP.out _).mono ?_;rintro e w2 ⟨rfl,hb⟩;have zd:=kp2 (n:=W.heap.size) hb;(try clear zB z0 z1 zf zL zN);obtain ⟨zB,z0,z1,zf,zL,zN⟩:=zd;have B2:Hid (Below W.heap.size W w2):=bstep B1.out hb;clear hb HP)
            | (go_at_call 174;refine (HL.out _ (B2.out.alloc B2.out.size _)).mono ?_;rintro e w3 ⟨rfl,hb⟩;have hn3:¬ w2.heap.size=W.heap.size:=(by omega);have hm3:¬ W.heap.size=w2.heap.size:=(by omega);have zd:=kp2 (n:=W.heap.size) hb;(try clear zB z0 z1 zf zL zN);obtain ⟨zB,z0,z1,zf,zL,zN⟩:=zd;have gd:=kp2 (n:=w2.heap.size) hb;(try clear gB g0 g1 gf gL gN);obtain ⟨gB,g0,g1,gf,gL,gN⟩:=gd;have B3:Hid (Below W.heap.size W w3):=bstep (B2.out.alloc B2.out.size _) hb;clear hb HL)
            | (go_at_call 175;refine (HT.out _ B3.out).mono ?_;rintro e w4 ⟨rfl,hb⟩;have zd:=kp2 (n:=W.heap.size) hb;(try clear zB z0 z1 zf zL zN);obtain ⟨zB,z0,z1,zf,zL,zN⟩:=zd;have gd:=kp2 (n:=w2.heap.size) hb;(try clear gB g0 g1 gf gL gN);obtain ⟨gB,g0,g1,gf,gL,gN⟩:=gd;have B4:Hid (Below W.heap.size W w4):=bstep B3.out hb;clear hb HT))
          exact bodyPost_ret (v:=tyE ((x,t),0)) (by simp [results,Tryz.results90,go_sem,tyE, *]) rfl ⟨rfl,(B4.out.setCell (by simp) _).setCell (by simp) _⟩
        | false =>
          have e:shuI false 0=22:=rfl
          simp only [e]
          rw [if_neg (by decide)]
          clear e
          go_enter Tryz.func90,Tryz.ntmps90
          go_wp2_with (first
            | (go_at_call 76;refine (HC.out _ (by repeat (first|exact Below.refl _ _|refine Below.setCell ?_ (by simp;try omega) _|refine Below.alloc ?_ (by simp;try omega) _|refine Below.drew ?_))).mono ?_;rintro e w1 ⟨rfl,hb⟩;have zd:=kp2 (n:=W.heap.size) hb;(try clear zB z0 z1 zf zL zN);obtain ⟨zB,z0,z1,zf,zL,zN⟩:=zd;have B1:Hid (Below W.heap.size W w1):=bstep (by repeat (first|exact Below.refl _ _|refine Below.setCell ?_ (by simp;try omega) _|refine Below.alloc ?_ (by simp;try omega) _|refine Below.drew ?_)) hb;clear hb HC)
            | (go_at_call 102;refine (HP.out _).mono ?_;rintro e w2 ⟨rfl,hb⟩;have zd:=kp2 (n:=W.heap.size) hb;(try clear zB z0 z1 zf zL zN);obtain ⟨zB,z0,z1,zf,zL,zN⟩:=zd;have B2:Hid (Below W.heap.size W w2):=bstep B1.out hb;clear hb HP)
            | (go_at_call 174;refine (HL.out _ (B2.out.alloc B2.out.size _)).mono ?_;rintro e w3 ⟨rfl,hb⟩;have zd:=kp2 (n:=W.heap.size) hb;(try clear zB z0 z1 zf zL zN);obtain ⟨zB,z0,z1,zf,zL,zN⟩:=zd;have gd:=kp2 (n:=w2.heap.size) hb;(try clear gB g0 g1 gf gL gN);obtain ⟨gB,g0,g1,gf,gL,gN⟩:=gd;have B3:Hid (Below W.heap.size W w3):=bstep (B2.out.alloc B2.out.size _) hb;clear hb HL)
            | (go_at_call 175;refine (HT.out _ B3.out).mono ?_;rintro e w4 ⟨rfl,hb⟩;have zd:=kp2 (n:=W.heap.size) hb;(try clear zB z0 z1 zf zL zN);obtain ⟨zB,z0,z1,zf,zL,zN⟩:=zd;have B4:Hid (Below W.heap.size W w4):=bstep B3.out hb;clear hb HT))
          exact bodyPost_ret (v:=tyE ((0,⟨#[]⟩),22)) (by simp [results,Tryz.results90,go_sem,tyE, *]) rfl ⟨rfl,(B4.out.setCell (by simp) _).setCell (by simp) _⟩
      · rw [if_neg h2] at HT2 ⊢
        have e:shuI false ld=ld:=by rw [shuI,if_neg h2]
        simp only [e]
        rw [if_neg h2]
        clear e HT2
        go_enter Tryz.func90,Tryz.ntmps90
        go_wp2_with (first
          | (go_at_call 76;refine (HC.out _ (by repeat (first|exact Below.refl _ _|refine Below.setCell ?_ (by simp;try omega) _|refine Below.alloc ?_ (by simp;try omega) _|refine Below.drew ?_))).mono ?_;rintro e w1 ⟨rfl,hb⟩;have zd:=kp2 (n:=W.heap.size) hb;(try clear zB z0 z1 zf zL zN);obtain ⟨zB,z0,z1,zf,zL,zN⟩:=zd;have B1:Hid (Below W.heap.size W w1):=bstep (by repeat (first|exact Below.refl _ _|refine Below.setCell ?_ (by simp;try omega) _|refine Below.alloc ?_ (by simp;try omega) _|refine Below.drew ?_)) hb;clear hb HC)
          | (go_at_call 102;refine (HP.out _).mono ?_;rintro e w2 ⟨rfl,hb⟩;have zd:=kp2 (n:=W.heap.size) hb;(try clear zB z0 z1 zf zL zN);obtain ⟨zB,z0,z1,zf,zL,zN⟩:=zd;have B2:Hid (Below W.heap.size W w2):=bstep B1.out hb;clear hb HP)
          | (go_at_call 174;refine (HL.out _ (B2.out.alloc B2.out.size _)).mono ?_;rintro e w3 ⟨rfl,hb⟩;have zd:=kp2 (n:=W.heap.size) hb;(try clear zB z0 z1 zf zL zN);obtain ⟨zB,z0,z1,zf,zL,zN⟩:=zd;have B3:Hid (Below W.heap.size W w3):=bstep (B2.out.alloc B2.out.size _) hb;clear hb HL))
        exact bodyPost_ret (v:=tyE ((0,⟨#[]⟩),ld)) (by simp [results,Tryz.results90,go_sem,tyE, *]) rfl ⟨rfl,(by repeat (first|exact B3.out|refine Below.setCell ?_ (by simp;try omega) _|refine Below.alloc ?_ (by have:=B3.out.size;simp;try omega) _|refine Below.drew ?_))⟩
    · rw [if_neg h1]
      clear HL HT
      go_enter Tryz.func90,Tryz.ntmps90
      go_wp2_with (first
        | (go_at_call 76;refine (HC.out _ (by repeat (first|exact Below.refl _ _|refine Below.setCell ?_ (by simp;try omega) _|refine Below.alloc ?_ (by simp;try omega) _|refine Below.drew ?_))).mono ?_;rintro e w1 ⟨rfl,hb⟩;have zd:=kp2 (n:=W.heap.size) hb;(try clear zB z0 z1 zf zL zN);obtain ⟨zB,z0,z1,zf,zL,zN⟩:=zd;have B1:Hid (Below W.heap.size W w1):=bstep (by repeat (first|exact Below.refl _ _|refine Below.setCell ?_ (by simp;try omega) _|refine Below.alloc ?_ (by simp;try omega) _|refine Below.drew ?_)) hb;clear hb HC)
        | (go_at_call 102;refine (HP.out _).mono ?_;rintro e w2 ⟨rfl,hb⟩;have zd:=kp2 (n:=W.heap.size) hb;(try clear zB z0 z1 zf zL zN);obtain ⟨zB,z0,z1,zf,zL,zN⟩:=zd;have B2:Hid (Below W.heap.size W w2):=bstep B1.out hb;clear hb HP))
      exact bodyPost_ret (v:=tyE ((0,⟨#[]⟩),4)) (by simp [results,Tryz.results90,go_sem,tyE, *]) rfl ⟨rfl,(by repeat (first|exact B2.out|refine Below.setCell ?_ (by simp;try omega) _|refine Below.alloc ?_ (by have:=B2.out.size;simp;try omega) _|refine Below.drew ?_))⟩
theorem filt_take {p:Int×Int→Bool} {A:List (Int×Int)} {i:Nat} {x:Int×Int} (h:A[i]?=some x):(A.take (i+1)).filter p=(A.take i).filter p++if p x then [x] else []:=by
  rw [List.take_add_one,h,List.filter_append]
  congr 1
  simp [List.filter]
  cases p x <;> rfl
theorem any_take {p:Int×Int→Bool} {A:List (Int×Int)} {i:Nat} {x:Int×Int} (h:A[i]?=some x):(A.take (i+1)).any p=((A.take i).any p||p x):=by
  rw [List.take_add_one,h,List.any_append]
  simp
theorem filt_len {p:Int×Int→Bool} {A:List (Int×Int)} (i:Nat):((A.take i).filter p).length≤A.length:=Nat.le_trans (List.length_filter_le _ _) (by rw [List.length_take];omega)
set_option maxHeartbeats 4000000 in
theorem rMax_any {b:Nat} {cs:List Cls} {ps:List Plc} {W:World} (h:RAt b cs W) (ht:TwW cs ps) (hJ:WJ ps) (c E:Int) (nm ds:ByteArray) (A:List (Int×Int)) (hA:A.length≤300)
    (hC:∀ w,Below W.heap.size W w→Calls Tryz.prog 250 #[.pointer (some ⟨b,0,none⟩),.int .i64 c,.string nm,.string ds] w fun e w'=>(∃ v,e=.returned (.tuple #[v,.int .i64 E])∧w'.ownsRow w.heap.size 24 2 v A.length (flatD A))∧Below w.heap.size w w') :
    Calls Tryz.prog 190 #[.pointer (some ⟨b,0,none⟩),.int .i64 c,.string nm,.string ds] W fun e w'=>(∃ v,e=.returned (.tuple #[v,.int .i64 E])∧w'.ownsRow W.heap.size 24 2 v (maxL ps A).length (flatD (maxL ps A)))∧Below W.heap.size W w':=by
  obtain ⟨i0,hi0,hz0,hz1,hz2⟩:=info_parts Tryz.hinfoD
  have HW0:Hid (RAt b cs W):=h
  have HTW:Hid (TwW cs ps):=ht
  have HWJ:Hid (WJ ps):=hJ
  obtain ⟨K,hK⟩:∃ K,A.length=K:=⟨_,rfl⟩
  have HK:Hid (A.length=K):=hK
  have HC:Hid (∀ w,Below W.heap.size W w→Calls Tryz.prog 250 #[.pointer (some ⟨b,0,none⟩),.int .i64 c,.string nm,.string ds] w fun e w'=>(∃ v,e=.returned (.tuple #[v,.int .i64 E])∧w'.ownsRow w.heap.size 24 2 v A.length (flatD A))∧Below w.heap.size w w'):=hC
  have HML:Hid (maxL ps A=A.filter fun m=>!overB ps A m):=rfl
  rw [hK] at hA
  clear h ht hJ hK hC
  go_enter Tryz.func190,Tryz.ntmps190
  go_wp2_with (first
    | (go_at_call 250;refine (HC.out _ (Below.refl _ _)).mono ?_;rintro e w1 ⟨⟨v,rfl,ho⟩,hb⟩;rw [HK.out] at ho;obtain ⟨ca,cc,rfl⟩:=ownv ho;have O1:Hid (w1.ownsRow W.heap.size 24 2 (.slice ca K cc) K (flatD A)):=ho;have B1:Hid (Below W.heap.size W w1):=hb;have HW1:Hid (RAt b cs w1):=HW0.out.below hb;clear ho hb HC))
  go_loopw [12,13] (fun sv kv wr=>∃ (i:Nat),kv=.int .i64 i∧i≤K∧Hid (wr.ownsRow w1.heap.size 24 2 sv ((A.take i).filter fun m=>!overB ps A m).length (flatD ((A.take i).filter fun m=>!overB ps A m)))∧Hid (Below w1.heap.size w1 wr)) (fun _ kv _=>K - (intOf kv).toNat)
  case atStart=>exact ⟨0,rfl,Nat.zero_le _,World.ownsRow_nil _ _ _ _,Below.refl _ _⟩
  case round =>
    obtain ⟨i,rfl,hi,hO,hB⟩:=hrel
    by_cases hlt:i<K
    · have hiA:i<A.length:=by rw [HK.out];exact hlt
      obtain ⟨x,hx⟩:∃ x,A[i]?=some x:=⟨_,List.getElem?_eq_getElem hiA⟩
      have hst:=filt_take (p:=fun m=>!overB ps A m) hx
      have hal:((A.take i).filter fun m=>!overB ps A m).length≤300:=Nat.le_trans (filt_len i) (by rw [HK.out];exact hA)
      obtain ⟨g,c2,hform⟩:=Go.Joins.ownsRow_form O1.out (by omega)
      have HROW:Hid (w1.ownsRow W.heap.size 24 2 (.slice (some ⟨g,0,none⟩) A.length cc) A.length (flatD A)):=by
        have hrow:=O1.out
        injection hform with hca _ _
        rw [Hid,HK.out,← hca];exact hrow
      injection hform with hca _ hcc
      subst hca
      obtain ⟨e0,e1,hgl⟩:=rowD_cells HROW.out hx
      have hgr:g<wr.heap.size:=Nat.lt_of_lt_of_le hgl hB.out.size
      replace e0:=(hB.out.cell (p:=⟨g,i * 2,none⟩) hgl).trans e0
      replace e1:=(hB.out.cell (p:=⟨g,i * 2+1,none⟩) hgl).trans e1
      obtain ⟨L,hL⟩:∃ L,((A.take i).filter fun m=>!overB ps A m)=L:=⟨_,rfl⟩
      rw [hL] at hst hal hO
      obtain ⟨va,vn,rfl⟩:=ownv hO.out
      have HRr:Hid (RAt b cs wr):=HW1.out.below hB.out
      have HST:Hid (List.filter (fun m=>!overB ps A m) (List.take (i+1) A)=L++if !overB ps A x then [x] else []):=hst
      have HOV:Hid (overB ps A x=A.any (overP ps x)):=overB_eq ps A x
      obtain ⟨x1,x2⟩:=x
      have HXI:Hid (A[i]?=some (x1,x2)):=hx
      simp only at e0 e1
      clear hst hL hx hiA hcc
      obtain ⟨wo,hwo⟩:∃ x,x=wr:=⟨_,rfl⟩
      subst hwo
      go_wp2
      obtain ⟨σ,V,hne,V1,V2⟩:=class_of' (fun w'=>Below wo.heap.size wo w') ⟨_,Below.refl _ _⟩
      have kp:∀ (s:σ) (bb j:Nat) (v:Value),bb<wo.heap.size→wo.cell? ⟨bb,j,none⟩=some v→(V s).cell? ⟨bb,j,none⟩=some v:=fun s bb j v hl h=>((V1.out s).cell (p:=⟨bb,j,none⟩) hl).trans h
      have KP:Hid _:=kp
      have e0s:=fun s=>kp s _ _ _ hgr e0
      clear kp
      have hiI:(i:Int)<(K:Int):=by omega
      go_loopw [14,15] (fun lv jv wr=>∃ (j:Nat),jv=.int .i64 j∧j≤K∧lv=.bool (!((A.take j).any (overP ps (x1,x2))))∧Hid (Below wo.heap.size wo wr)) (fun _ jv _=>K - (intOf jv).toNat)
      case atStart=>exact ⟨0,rfl,Nat.zero_le _,rfl,Below.refl _ _⟩
      case round =>
        obtain ⟨j,rfl,hj,rfl,hB2⟩:=hrel
        by_cases hlj:j<K
        · have hjA:j<A.length:=by rw [HK.out];exact hlj
          obtain ⟨y,hy⟩:∃ y,A[j]?=some y:=⟨_,List.getElem?_eq_getElem hjA⟩
          obtain ⟨d0,_,_⟩:=rowD_cells HROW.out hy
          replace d0:=(hB.out.cell (p:=⟨g,j * 2,none⟩) hgl).trans d0
          have d0s:=fun s=>KP.out s _ _ _ hgr d0
          have hat:=any_take (p:=overP ps (x1,x2)) hy
          obtain ⟨y1,y2⟩:=y
          have HAT:Hid (List.any (List.take (j+1) A) (overP ps (x1,x2))=(List.any (List.take j A) (overP ps (x1,x2))||(!(y1 == x1)&&extI ps y1 x1))):=hat
          generalize List.any (List.take j A) (overP ps (x1,x2))=z at *
          have hjI:(j:Int)<(K:Int):=by omega
          simp only at d0s
          have HE:Hid (∀ s,Calls Tryz.prog 116 #[.pointer (some ⟨b,0,none⟩),.int .i64 y1,.int .i64 x1] (V s) fun e w''=>e=.returned (.bool (extI ps y1 x1))∧∃ s',w''=V s'):=fun s=>(rExtends_c (HRr.out.below (V1.out s)) HTW.out HWJ.out y1 x1).mono fun e w'' zz=>⟨zz.1,V2.out _ (bstep (V1.out s) zz.2)⟩
          generalize extI ps y1 x1=ex at *
          clear hy hjA hat d0 HST HOV HXI hO O1 e0 e1
          by_cases hxy:y1=x1
          · subst hxy
            have hnn:(y1 != y1)=false:=by simp
            have HNX:Hid (List.any (List.take (j+1) A) (overP ps (y1,x2))=z):=by rw [Hid,HAT.out];simp
            clear HAT
            go_wp2
            refine wp_region_class (C:=fun w'=>∃ s,w'=V s) (by kernel_rfl) (by kernel_rfl) (V2.out _ (hB2.out.drew)) ?_
            repeat (go_big_quiet_step ((go_at_call 0;skip)))
            refine wpQuiet_nil ?_
            intro w9 hw9
            obtain ⟨s9,rfl⟩:=hw9
            have B9:Hid (Below wo.heap.size wo (V s9)):=V1.out s9
            go_wp2
            go_roundw
            case rel=>exact ⟨j+1,by go_num,by omega,by rw [HNX.out],B9⟩
            case measure=>simp [intOf];omega
          · have hnn:(y1 != x1)=true:=by simpa using hxy
            have HNX:Hid (List.any (List.take (j+1) A) (overP ps (x1,x2))=(z||ex)):=by rw [Hid,HAT.out,beq_false_of_ne hxy];simp
            clear HAT hxy
            cases ex
            all_goals
              go_wp2
              refine wp_region_class (C:=fun w'=>∃ s,w'=V s) (by kernel_rfl) (by kernel_rfl) (V2.out _ (hB2.out.drew)) ?_
              repeat (go_big_quiet_step ((go_at_call 116;exact HE.out _)))
              refine wpQuiet_nil ?_
              intro w9 hw9
              obtain ⟨s9,rfl⟩:=hw9
              have B9:Hid (Below wo.heap.size wo (V s9)):=V1.out s9
              go_wp2
              go_roundw
              case rel=>exact ⟨j+1,by go_num,by omega,by rw [HNX.out];simp,B9⟩
              case measure=>simp [intOf];omega
        · have e:j=K:=by omega
          subst e
          have HAL:Hid (List.any (List.take j A) (overP ps (x1,x2))=overB ps A (x1,x2)):=by rw [Hid,HOV.out,List.take_of_length_le (by rw [HK.out];exact Nat.le_refl _)]
          rw [HAL.out]
          have f0:=(hB2.out.cell (p:=⟨g,i * 2,none⟩) hgr).trans e0
          have f1:=(hB2.out.cell (p:=⟨g,i * 2+1,none⟩) hgr).trans e1
          have O2:Hid (wr.ownsRow w1.heap.size 24 2 (.slice va L.length vn) L.length (flatD L)):=rowBelow hO.out hB2.out
          have B2:Hid (Below w1.heap.size w1 wr):=bstep hB.out hB2.out
          have hgw:g<wr.heap.size:=Nat.lt_of_lt_of_le hgr hB2.out.size
          have hgn:¬ g=wr.heap.size:=by omega
          clear HAL HOV e0 e1 e0s hO KP V1 V2 hB hB2
          generalize overB ps A (x1,x2)=ov at *
          cases ov with
          | true =>
            have hst2:List.filter (fun m=>!overB ps A m) (List.take (i+1) A)=L:=by rw [HST.out];simp
            clear HST
            go_wp2
            refine ⟨⟨i+1,by simp,by omega,?_,B2⟩,by simp [intOf];omega⟩
            rw [hst2];exact O2
          | false =>
            have hst2:List.filter (fun m=>!overB ps A m) (List.take (i+1) A)=L++[(x1,x2)]:=by rw [HST.out];simp
            clear HST
            go_wp2_with (first
              | (at_builtin;refine wpList_append_own _ rfl _ _ 39 rfl w1.heap.size 24 i0 (.agg #[.int .i64 0,.int .i64 0]) 2 16 Tryz.underlying39 hi0 hz0 hz1 hz2 rfl (by decide) (.slice va L.length vn) L.length (flatD L) rfl (O2.out.alloc _) ⟨wr.heap.size,0,none⟩ 1 1 [.int .i64 x1,.int .i64 x2] rfl rfl ?c1 ?c2 ?c3 ?c4 ?c5 ?_))
            case c1=>intro jj u hj;rw [addr_add];match jj,hj with
              | 0,hj=>simp at hj;subst hj;simp [go_sem]
              | 1,hj=>simp at hj;subst hj;simp [go_sem]
              | (jj+2),hj=>simp at hj
            case c2=>intro u hu;simp at hu;rcases hu with rfl|rfl <;> rfl
            case c3=>unfold maxLen;omega
            case c4=>omega
            case c5=>have:=B2.out.size;simp;omega
            intro v' w4 hown hgrow _
            obtain ⟨va2,vn2,rfl⟩:=ownv hown
            have B4:Hid (Below w1.heap.size w1 w4):=by
              have hb1:Below w1.heap.size w1 (wr.alloc (.cells #[.int .i64 x1,.int .i64 x2] 24)):=B2.out.alloc B2.out.size _
              refine hb1.grown hgrow hb1.size (fun x hx=>?_)
              have:=(O2.out.lt x hx).1
              omega
            have O4:Hid (w4.ownsRow w1.heap.size 24 2 (.slice va2 (L.length+1) vn2) (L++[(x1,x2)]).length (flatD (L++[(x1,x2)]))):=by
              rw [Hid,List.length_append,flatD_app];exact hown
            go_wp2
            refine ⟨⟨i+1,by simp,by omega,?_,B4⟩,by simp [intOf];omega⟩
            rw [hst2];exact O4
    · have e:i=K:=by omega
      subst e
      have HE:Hid (((A.take i).filter fun m=>!overB ps A m)=maxL ps A):=by rw [Hid,HML.out,List.take_of_length_le (by rw [HK.out];exact Nat.le_refl _)]
      rw [HE.out] at hO
      obtain ⟨va,vn,rfl⟩:=ownv hO.out
      go_wp2
      exact bodyPost_ret (results_tmp2 rfl _ _ _) rfl ⟨⟨_,rfl,Go.Joins.ownsRow_le hO.out B1.out.size⟩,B1.out.trans (hB.out.mono B1.out.size)⟩
theorem wi_cl {ps:List Plc} (hW:WI ps) {j:Nat} {r:Plc} (hr:ps[j]?=some r):r.cl.length≤ps.length:=by
  have hj:=(List.getElem?_eq_some_iff.1 hr).1
  have e:clO (ps.map nd) j=r.cl:=by rw [clO,nd_at' hr];rfl
  refine nodup_lt_len _ _ (by rw [← e];exact cl_nodup hW.wo j) (fun i hi=>?_)
  rw [← e] at hi
  have:=(cl_facts hW.wo hi).1
  omega
def lst0 (l:List (Int×Int)):Int×Int:=l.getLast?.getD (0,0)
theorem lst0_snoc (l:List (Int×Int)) (x:Int×Int):lst0 (l++[x])=x:=by simp [lst0]
theorem row_facts {W w:World} {c d:Value} {i:Nat} {T:TypeId} (h:w.heap[i]?=some (.cells #[c,d] T (0,0))):w.cell? ⟨i,0,none⟩=some c∧w.cell? ⟨i,1,none⟩=some d∧w.frozen? ⟨i,0,none⟩=false∧w.frozen? ⟨i,1,none⟩=false∧i<w.heap.size∧W=W :=
  ⟨(cell_of_row w i 0 _ _ _ h).trans rfl,(cell_of_row w i 1 _ _ _ h).trans rfl,frozen_of_row w i 0 _ _ h,frozen_of_row w i 1 _ _ h,(Array.getElem?_eq_some_iff.1 h).1,rfl⟩
set_option maxHeartbeats 4000000 in
theorem rOne_yes {b:Nat} {cs:List Cls} {ps:List Plc} {W:World} (h:RAt b cs W) (ht:TwW cs ps) (hJ:WJ ps) (k:Nat) (q:Plc) (hq:ps[k]?=some q) (nm ds:ByteArray):Calls Tryz.prog 108 #[.pointer (some ⟨b,0,none⟩),.int .i64 (k:Int),.string nm,.string ds] W fun e w'=>e=.returned (idE (oneV ps (candL ps nm ds q.cl)))∧Below W.heap.size W w':=by
  have hcb:(candL ps nm ds q.cl).length≤300:=Nat.le_trans (candL_len ps nm ds q.cl) (Nat.le_trans (wi_cl ht.wi hq) ht.wi.hi)
  have HW0:Hid (RAt b cs W):=h
  have HTW:Hid (TwW cs ps):=ht
  have HQ:Hid (∀ w,Below W.heap.size W w→Calls Tryz.prog 190 #[.pointer (some ⟨b,0,none⟩),.int .i64 (k:Int),.string nm,.string ds] w fun e w'=>(∃ v,e=.returned (.tuple #[v,.int .i64 0])∧w'.ownsRow w.heap.size 24 2 v (maxL ps (candL ps nm ds q.cl)).length (flatD (maxL ps (candL ps nm ds q.cl))))∧Below w.heap.size w w'):=fun w hb=>rMax_any (h.below hb) ht hJ k 0 nm ds _ hcb fun w' hb'=>rCand_yes ((h.below hb).below hb') ht hJ k q hq nm ds
  have HCF:Hid (∀ m∈maxL ps (candL ps nm ds q.cl),∃ (i:Nat) (x:HM),m.1=(i:Int)∧methI ps (i:Int) m.2=some x):=fun m hm=>by
    obtain ⟨⟨i,h1,_⟩,_,_,x,h2,_⟩:=cand_facts ht.wi hq (max_mem hm)
    exact ⟨i,x,h1,by rw [← h1];exact h2⟩
  have HOV:Hid (oneV ps (candL ps nm ds q.cl)=match (maxL ps (candL ps nm ds q.cl)).filter (fun m=>!hasS ps m.1 m.2 1024) with | []=>((0,0),24) | [m]=>(m,0)|_=>((0,0),23)):=rfl
  have hmb:(maxL ps (candL ps nm ds q.cl)).length≤300:=Nat.le_trans (List.length_filter_le _ _) hcb
  generalize oneV ps (candL ps nm ds q.cl)=R at *
  generalize maxL ps (candL ps nm ds q.cl)=M at *
  obtain ⟨K,hK⟩:∃ K,M.length=K:=⟨_,rfl⟩
  have HK:Hid (M.length=K):=hK
  rw [hK] at hmb
  clear h ht hJ hq hcb hK
  go_enter Tryz.func108,Tryz.ntmps108
  go_wp2_with (first
    | (go_at_call 190;refine (HQ.out _ (by repeat (first|exact Below.refl _ _|refine Below.setCell ?_ (by simp;try omega) _|refine Below.alloc ?_ (by simp;try omega) _|refine Below.drew ?_))).mono ?_;rintro e w1 ⟨⟨v,rfl,ho⟩,hb⟩;rw [HK.out] at ho;obtain ⟨ca,cc,rfl⟩:=ownv ho;have O1:Hid (w1.ownsRow W.heap.size 24 2 (.slice ca K cc) K (flatD M)):=Go.Joins.ownsRow_le ho (by simp);have zd:w1.heap[W.heap.size]?=some (.cells #[.int .i64 0,.int .i64 0] 24 (0,0)):=(hb.block (W.heap.size) (by first|omega|(simp;try omega))).trans (by first|exact zB.out|exact hkeep zB.out|exact hkeep (hkeep zB.out)|exact halloc2 _ _ rfl|exact heap_alloc2_old _ _ _|exact heap_alloc2_new _ _ _|exact hkeep (halloc2 _ _ rfl)|exact hkeep (hkeep (halloc2 _ _ rfl))|exact halloc2 _ _ (by simp;done));(try clear zB zL zN z0 z1 zf0 zf1);have zB:Hid (w1.heap[W.heap.size]?=some (.cells #[.int .i64 0,.int .i64 0] 24 (0,0))):=zd;have z0:w1.cell? ⟨W.heap.size,0,none⟩=some (.int .i64 0):=(cell_of_row w1 (W.heap.size) 0 _ _ _ zd).trans rfl;have zf0:=frozen_of_row w1 (W.heap.size) 0 _ _ zd;have z1:w1.cell? ⟨W.heap.size,1,none⟩=some (.int .i64 0):=(cell_of_row w1 (W.heap.size) 1 _ _ _ zd).trans rfl;have zf1:=frozen_of_row w1 (W.heap.size) 1 _ _ zd;have zL:W.heap.size<w1.heap.size:=(Array.getElem?_eq_some_iff.1 zd).1;have zN:¬ W.heap.size=w1.heap.size:=(by omega);clear zd;have hWw:W.heap.size<w1.heap.size:=zL;have hWn:¬ W.heap.size=w1.heap.size:=(by omega);have hWm:¬ w1.heap.size=W.heap.size:=(by omega);have B1:Hid (Below W.heap.size W w1):=bstep (by repeat (first|exact Below.refl _ _|refine Below.setCell ?_ (by simp;try omega) _|refine Below.alloc ?_ (by simp;try omega) _|refine Below.drew ?_)) hb;have HW1:Hid (RAt b cs w1):=HW0.out.below B1.out;clear ho hb HQ))
  go_loopw [12,14] (fun nv iv wr=>∃ (i:Nat),iv=.int .i64 i∧i≤K∧nv=.int .i64 (((M.take i).filter fun m=>!hasS ps m.1 m.2 1024).length:Int)∧Hid (wr.heap[w1.heap.size]?=some (.cells #[.int .i64 (lst0 ((M.take i).filter fun m=>!hasS ps m.1 m.2 1024)).1,.int .i64 (lst0 ((M.take i).filter fun m=>!hasS ps m.1 m.2 1024)).2] 24 (0,0)))∧Hid (Below w1.heap.size w1 wr)) (fun _ iv _=>K - (intOf iv).toNat)
  case atStart=>exact ⟨0,rfl,Nat.zero_le _,rfl,halloc2 _ _ rfl,(Below.refl _ _).alloc (Nat.le_refl _) _⟩
  case round =>
    obtain ⟨i,rfl,hi,rfl,hR,hB⟩:=hrel
    have hb:=hB.out
    have zd:wr.heap[W.heap.size]?=some (.cells #[.int .i64 0,.int .i64 0] 24 (0,0)):=(hb.block (W.heap.size) (by first|omega|(simp;try omega))).trans (by first|exact zB.out|exact hkeep zB.out|exact hkeep (hkeep zB.out)|exact halloc2 _ _ rfl|exact heap_alloc2_old _ _ _|exact heap_alloc2_new _ _ _|exact hkeep (halloc2 _ _ rfl)|exact hkeep (hkeep (halloc2 _ _ rfl))|exact halloc2 _ _ (by simp;done));(try clear zB zL zN z0 z1 zf0 zf1);have zB:Hid (wr.heap[W.heap.size]?=some (.cells #[.int .i64 0,.int .i64 0] 24 (0,0))):=zd;have z0:wr.cell? ⟨W.heap.size,0,none⟩=some (.int .i64 0):=(cell_of_row wr (W.heap.size) 0 _ _ _ zd).trans rfl;have zf0:=frozen_of_row wr (W.heap.size) 0 _ _ zd;have z1:wr.cell? ⟨W.heap.size,1,none⟩=some (.int .i64 0):=(cell_of_row wr (W.heap.size) 1 _ _ _ zd).trans rfl;have zf1:=frozen_of_row wr (W.heap.size) 1 _ _ zd;have zL:W.heap.size<wr.heap.size:=(Array.getElem?_eq_some_iff.1 zd).1;have zN:¬ W.heap.size=wr.heap.size:=(by omega);clear zd
    clear hb
    by_cases hlt:i<K
    · have hiM:i<M.length:=by rw [HK.out];exact hlt
      obtain ⟨x,hx⟩:∃ x,M[i]?=some x:=⟨_,List.getElem?_eq_getElem hiM⟩
      have hst:=filt_take (p:=fun m=>!hasS ps m.1 m.2 1024) hx
      obtain ⟨g,c2,hform⟩:=Go.Joins.ownsRow_form O1.out (by omega)
      have HROW:Hid (w1.ownsRow W.heap.size 24 2 (.slice (some ⟨g,0,none⟩) M.length cc) M.length (flatD M)):=by
        have hrow:=O1.out
        injection hform with hca _ _
        rw [Hid,HK.out,← hca];exact hrow
      injection hform with hca _ hcc
      subst hca
      obtain ⟨e0,e1,hgl⟩:=rowD_cells HROW.out hx
      have hgr:g<wr.heap.size:=Nat.lt_of_lt_of_le hgl hB.out.size
      replace e0:=(hB.out.cell (p:=⟨g,i * 2,none⟩) hgl).trans e0
      replace e1:=(hB.out.cell (p:=⟨g,i * 2+1,none⟩) hgl).trans e1
      obtain ⟨ix,X,hx1,hxm⟩:=HCF.out x (List.mem_of_getElem? hx)
      have hhs:hasS ps x.1 x.2 1024=hasI X.fl 1024:=by rw [hasS,hx1,hxm]
      obtain ⟨x1,x2⟩:=x
      simp only at e0 e1 hx1 hxm hhs hst
      subst hx1
      rw [hhs] at hst
      have HRr:Hid (RAt b cs wr):=HW1.out.below hB.out
      obtain ⟨g9,cap9,bk9,o9,n9,cm9,j9,rfl,c91,c92,c93,c94,c95,c96,c97,c98⟩:=HRr.out.flag HTW.out hxm
      have H4:Hid (∀ w:World,Calls Tryz.prog 101 #[.int .i64 X.fl,.int .i64 1024] w fun e w'=>e=.returned (.bool (hasI X.fl 1024))∧w'=w):=has_any X.fl 1024
      generalize hasI X.fl 1024=ab at *
      generalize X.fl=fl at *
      obtain ⟨P,hP⟩:∃ P,((M.take i).filter fun m=>!hasS ps m.1 m.2 1024)=P:=⟨_,rfl⟩
      rw [hP] at hst hR
      rw [hP]
      have hPb:P.length≤300:=by rw [← hP];exact Nat.le_trans (filt_len i) (by rw [HK.out];exact hmb)
      have HST:Hid (List.filter (fun m=>!hasS ps m.1 m.2 1024) (List.take (i+1) M)=P++if !ab then [((ix:Int),(j9:Int))] else []):=hst
      obtain ⟨r0,r1,rf0,rf1,rL,_⟩:=row_facts (W:=W) hR.out
      have hgn:¬ g=w1.heap.size:=by omega
      clear hst hP hx hiM hcc hxm hhs HROW
      cases ab with
      | true =>
        have hst2:List.filter (fun m=>!hasS ps m.1 m.2 1024) (List.take (i+1) M)=P:=by rw [HST.out];simp
        clear HST
        go_wp2
        go_quiet ((go_at_call 101;refine Calls.quiet_of_same (H4.out _)))
        go_wp2
        refine ⟨⟨i+1,by simp,by omega,by rw [hst2],?_,below_drewN hB.out _⟩,by simp [intOf];omega⟩
        rw [hst2];exact ((below_drewN (Below.refl wr.heap.size wr) nq).block w1.heap.size rL).trans hR.out
      | false =>
        have hst2:List.filter (fun m=>!hasS ps m.1 m.2 1024) (List.take (i+1) M)=P++[((ix:Int),(j9:Int))]:=by rw [HST.out];simp
        clear HST
        go_wp2
        go_quiet ((go_at_call 101;refine Calls.quiet_of_same (H4.out _)))
        go_wp2
        have hD:(wr.drewN nq).heap[w1.heap.size]?=some (.cells #[.int .i64 (lst0 P).1,.int .i64 (lst0 P).2] 24 (0,0)):=((below_drewN (Below.refl wr.heap.size wr) nq).block w1.heap.size rL).trans hR.out
        refine ⟨⟨i+1,by simp,by omega,by rw [hst2];simp,?_,((below_drewN hB.out _).setCell (by simp) _).setCell (by simp) _⟩,by simp [intOf];omega⟩
        rw [hst2,lst0_snoc,Hid,heap_setCell_same _ _ _ #[.int .i64 (ix:Int),.int .i64 (lst0 P).2] 24 _ (by rw [heap_setCell_same _ _ _ _ _ _ hD];rfl)]
        rfl
    · have e:i=K:=by omega
      subst e
      have HE:Hid (((M.take i).filter fun m=>!hasS ps m.1 m.2 1024)=M.filter fun m=>!hasS ps m.1 m.2 1024):=by rw [Hid,List.take_of_length_le (by rw [HK.out];exact Nat.le_refl _)]
      rw [HE.out] at hR ⊢
      have BB:Hid (Below W.heap.size W wr):=B1.out.trans (hB.out.mono B1.out.size)
      obtain ⟨r0,r1,rf0,rf1,rL,_⟩:=row_facts (W:=W) hR.out
      have HF:Hid (R=match (M.filter fun m=>!hasS ps m.1 m.2 1024) with | []=>((0,0),24) | [m]=>(m,0)|_=>((0,0),23)):=HOV
      clear HE HOV hR HCF
      generalize (M.filter fun m=>!hasS ps m.1 m.2 1024)=F at *
      match F with
      | [] =>
        have eR:R=((0,0),24):=HF.out
        subst eR
        clear HF
        go_wp2
        exact bodyPost_ret (v:=idE ((0,0),24)) (by simp [results,Tryz.results108,go_sem,idE, *]) rfl ⟨rfl,(by repeat (first|exact BB.out|exact Below.refl _ _|refine Below.setCell ?_ (by simp;try omega) _|refine Below.alloc ?_ (by have:=BB.out.size;simp;try omega) _|refine Below.drew ?_))⟩
      | [m] =>
        have eR:R=(m,0):=HF.out
        subst eR
        clear HF
        obtain ⟨m1,m2⟩:=m
        have hl:lst0 [(m1,m2)]=(m1,m2):=rfl
        rw [hl] at r0 r1
        go_wp2
        exact bodyPost_ret (v:=idE ((m1,m2),0)) (by simp [results,Tryz.results108,go_sem,idE, *]) rfl ⟨rfl,(by repeat (first|exact BB.out|exact Below.refl _ _|refine Below.setCell ?_ (by simp;try omega) _|refine Below.alloc ?_ (by have:=BB.out.size;simp;try omega) _|refine Below.drew ?_))⟩
      | m::m'::r =>
        have eR:R=((0,0),23):=HF.out
        subst eR
        have hl2:(m::m'::r).length=r.length+2:=rfl
        clear HF r0 r1
        generalize (m::m'::r)=ol at *
        have n1:¬ (ol.length:Int)=0:=by omega
        have n2:(1:Int)<(ol.length:Int):=by omega
        clear hl2
        go_wp2
        exact bodyPost_ret (v:=idE ((0,0),23)) (by simp [results,Tryz.results108,go_sem,idE, *]) rfl ⟨rfl,(by repeat (first|exact BB.out|exact Below.refl _ _|refine Below.setCell ?_ (by simp;try omega) _|refine Below.alloc ?_ (by have:=BB.out.size;simp;try omega) _|refine Below.drew ?_))⟩
set_option maxHeartbeats 1000000 in
theorem rSome_yes {b:Nat} {cs:List Cls} {ps:List Plc} {W:World} (h:RAt b cs W) (ht:TwW cs ps) (hJ:WJ ps) (k:Nat) (q:Plc) (hq:ps[k]?=some q) (nm ds:ByteArray):Calls Tryz.prog 240 #[.pointer (some ⟨b,0,none⟩),.int .i64 (k:Int),.string nm,.string ds] W fun e w'=>e=.returned (idE (someV (candL ps nm ds q.cl)))∧Below W.heap.size W w':=by
  have HC:Hid (∀ w,Below W.heap.size W w→Calls Tryz.prog 250 #[.pointer (some ⟨b,0,none⟩),.int .i64 (k:Int),.string nm,.string ds] w fun e w'=>(∃ v,e=.returned (.tuple #[v,.int .i64 0])∧w'.ownsRow w.heap.size 24 2 v (candL ps nm ds q.cl).length (flatD (candL ps nm ds q.cl)))∧Below w.heap.size w w'):=fun w hb=>rCand_yes (h.below hb) ht hJ k q hq nm ds
  generalize candL ps nm ds q.cl=l at *
  clear h ht hJ hq
  match l with
  | [] =>
    rw [someV]
    go_enter Tryz.func240,Tryz.ntmps240
    go_wp2_with (go_at_call 250;refine (HC.out _ (by repeat (first|exact Below.refl _ _|refine Below.setCell ?_ (by simp;try omega) _|refine Below.alloc ?_ (by simp;try omega) _|refine Below.drew ?_))).mono ?_;rintro e w3 ⟨⟨v,rfl,ho⟩,hb⟩;obtain ⟨va3,vn3,rfl⟩:=ownv ho;have zd:w3.heap[W.heap.size]?=some (.cells #[.int .i64 0,.int .i64 0] 24 (0,0)):=(hb.block (W.heap.size) (by first|omega|(simp;try omega))).trans (by first|exact zB.out|exact hkeep zB.out|exact hkeep (hkeep zB.out)|exact halloc2 _ _ rfl|exact heap_alloc2_old _ _ _|exact heap_alloc2_new _ _ _|exact hkeep (halloc2 _ _ rfl)|exact hkeep (hkeep (halloc2 _ _ rfl))|exact halloc2 _ _ (by simp;done));(try clear zB zL zN z0 z1 zf0 zf1);have zB:Hid (w3.heap[W.heap.size]?=some (.cells #[.int .i64 0,.int .i64 0] 24 (0,0))):=zd;have z0:w3.cell? ⟨W.heap.size,0,none⟩=some (.int .i64 0):=(cell_of_row w3 (W.heap.size) 0 _ _ _ zd).trans rfl;have zf0:=frozen_of_row w3 (W.heap.size) 0 _ _ zd;have z1:w3.cell? ⟨W.heap.size,1,none⟩=some (.int .i64 0):=(cell_of_row w3 (W.heap.size) 1 _ _ _ zd).trans rfl;have zf1:=frozen_of_row w3 (W.heap.size) 1 _ _ zd;have zL:W.heap.size<w3.heap.size:=(Array.getElem?_eq_some_iff.1 zd).1;have zN:¬ W.heap.size=w3.heap.size:=(by omega);clear zd;have B3:Hid (Below W.heap.size W w3):=bstep (by repeat (first|exact Below.refl _ _|refine Below.setCell ?_ (by simp;try omega) _|refine Below.alloc ?_ (by simp;try omega) _|refine Below.drew ?_)) hb;clear hb HC ho)
    exact bodyPost_ret (v:=idE ((0,0),6)) (by simp [results,Tryz.results240,go_sem,idE, *]) rfl ⟨rfl,(by repeat (first|exact B3.out|refine Below.setCell ?_ (by simp;try omega) _|refine Below.alloc ?_ (by have:=B3.out.size;simp;try omega) _|refine Below.drew ?_))⟩
  | m::r =>
    rw [someV]
    have hl2:(m::r).length=r.length+1:=rfl
    have hat:Hid ((m::r)[0]?=some m):=rfl
    generalize (m::r)=l at *
    have n1:¬ (l.length:Int)=0:=by omega
    have n2:(0:Int)<(l.length:Int):=by omega
    have n3:Hid (0<l.length):=by rw [Hid,hl2];omega
    clear hl2
    go_enter Tryz.func240,Tryz.ntmps240
    go_wp2_with (go_at_call 250;refine (HC.out _ (by repeat (first|exact Below.refl _ _|refine Below.setCell ?_ (by simp;try omega) _|refine Below.alloc ?_ (by simp;try omega) _|refine Below.drew ?_))).mono ?_;rintro e w3 ⟨⟨v,rfl,ho⟩,hb⟩;obtain ⟨g3,vn3,rfl⟩:=Go.Joins.ownsRow_form ho n3.out;obtain ⟨r0,r1,_⟩:=rowD_cells ho hat.out;simp only [Nat.zero_mul,Nat.zero_add] at r0 r1;have hg3:¬ g3=W.heap.size:=(by have:=(ho.lt g3 rfl).1;simp at this;omega);have zd:w3.heap[W.heap.size]?=some (.cells #[.int .i64 0,.int .i64 0] 24 (0,0)):=(hb.block (W.heap.size) (by first|omega|(simp;try omega))).trans (by first|exact zB.out|exact hkeep zB.out|exact hkeep (hkeep zB.out)|exact halloc2 _ _ rfl|exact heap_alloc2_old _ _ _|exact heap_alloc2_new _ _ _|exact hkeep (halloc2 _ _ rfl)|exact hkeep (hkeep (halloc2 _ _ rfl))|exact halloc2 _ _ (by simp;done));(try clear zB zL zN z0 z1 zf0 zf1);have zB:Hid (w3.heap[W.heap.size]?=some (.cells #[.int .i64 0,.int .i64 0] 24 (0,0))):=zd;have z0:w3.cell? ⟨W.heap.size,0,none⟩=some (.int .i64 0):=(cell_of_row w3 (W.heap.size) 0 _ _ _ zd).trans rfl;have zf0:=frozen_of_row w3 (W.heap.size) 0 _ _ zd;have z1:w3.cell? ⟨W.heap.size,1,none⟩=some (.int .i64 0):=(cell_of_row w3 (W.heap.size) 1 _ _ _ zd).trans rfl;have zf1:=frozen_of_row w3 (W.heap.size) 1 _ _ zd;have zL:W.heap.size<w3.heap.size:=(Array.getElem?_eq_some_iff.1 zd).1;have zN:¬ W.heap.size=w3.heap.size:=(by omega);clear zd;have B3:Hid (Below W.heap.size W w3):=bstep (by repeat (first|exact Below.refl _ _|refine Below.setCell ?_ (by simp;try omega) _|refine Below.alloc ?_ (by simp;try omega) _|refine Below.drew ?_)) hb;clear hb HC ho)
    exact bodyPost_ret (v:=idE (m,0)) (by simp [results,Tryz.results240,go_sem,idE, *]) rfl ⟨rfl,(by repeat (first|exact B3.out|refine Below.setCell ?_ (by simp;try omega) _|refine Below.alloc ?_ (by have:=B3.out.size;simp;try omega) _|refine Below.drew ?_))⟩
def FndF (ps:List Plc) (nm ds:ByteArray) (m:Int×Int):Prop:=∃ x,methI ps m.1 m.2=some x∧x.nm.toList=nm.toList∧x.ds.toList=ds.toList
theorem fnd_facts {ps:List Plc} {c:Int} {nm ds:ByteArray} (h:(fndI ps c nm ds).2=0):FndF ps nm ds (c,(fndI ps c nm ds).1)∧∃ (k:Nat) (q:Plc),c=(k:Int)∧ps[k]?=some q:=by
  rcases plcI_cases ps c with ⟨h1,h2⟩|⟨k,q,rfl,h2,h1⟩
  · rw [fndI,h1] at h;exact absurd h (by show ¬ (3:Int)=0;decide)
  · have e:fndI ps k nm ds=if findH nm ds q.c.ms 0<0 then (0,6) else (findH nm ds q.c.ms 0,0):=by rw [fndI,h1]
    refine ⟨?_,k,q,rfl,h2⟩
    rw [e] at h ⊢
    rcases findH_range nm ds q.c.ms 0 with e2|⟨j,x,e2,hj,hn,hd⟩
    · rw [e2,if_pos (by decide)] at h;exact absurd h (by decide)
    · rw [e2,if_neg (by omega)]
      refine ⟨x,?_,hn,hd⟩
      rw [methI,h1]
      show methP q ((0+j:Nat):Int)=some x
      rw [methP,if_pos (Int.natCast_nonneg _)]
      simpa using hj
theorem own_facts2 {ps:List Plc} {c:Int} {nm ds:ByteArray} {m:Int×Int} (h:ownR ps nm ds c=(m,0)):m=(c,(fndI ps c nm ds).1)∧(fndI ps c nm ds).2=0:=by
  unfold ownR at h
  split at h
  · rename_i h0
    exact ⟨(congrArg Prod.fst h).symm,h0⟩
  · rename_i h0
    exact absurd (congrArg Prod.snd h) h0
theorem up_facts {ps:List Plc} {nm ds:ByteArray} {m:Int×Int}:∀ {l:List Nat},upR ps nm ds l=(m,0)→∃ i∈l,ownR ps nm ds (i:Int)=(m,0)
  | [],h=>by simp [upR] at h
  | i::r,h=>by
    rw [upR] at h
    split at h
    · rename_i h0
      refine ⟨i,by simp,?_⟩
      have e1:(ownR ps nm ds (i:Int)).1=m:=by have:=congrArg Prod.fst h;exact this
      exact Prod.ext e1 h0
    · obtain ⟨j,hj,e⟩:=up_facts h
      exact ⟨j,by simp [hj],e⟩
theorem fir_facts {m:Int×Int}:∀ {l:List ((Int×Int)×Int)},firR l=(m,0)→(m,0)∈l
  | [],h=>by simp [firR] at h
  | x::r,h=>by
    rw [firR] at h
    split at h
    · rename_i h0
      have e1:x.1=m:=by have:=congrArg Prod.fst h;exact this
      have:x=(m,0):=Prod.ext e1 h0
      simp [this]
    · exact List.mem_cons_of_mem _ (fir_facts h)
theorem one_mem {ps:List Plc} {l:List (Int×Int)} {m:Int×Int} (h:oneV ps l=(m,0)):m∈l:=by
  unfold oneV at h
  split at h
  · simp at h
  · rename_i x e
    have:x=m:=congrArg Prod.fst h
    subst this
    have:x∈oneL ps l:=by rw [e];simp
    exact max_mem (List.mem_filter.1 this).1
  · simp at h
theorem some_mem {l:List (Int×Int)} {m:Int×Int} (h:someV l=(m,0)):m∈l:=by
  cases l with
  | nil=>simp [someV] at h
  | cons x r=>simp [someV] at h;simp [h]
theorem look_facts {ps:List Plc} (hW:WI ps) {c:Int} {nm ds:ByteArray} {m:Int×Int} (h:lookR ps nm ds c=(m,0)):FndF ps nm ds m∧extI ps c m.1=true∧ifcI ps c=false:=by
  rcases plcI_cases ps c with ⟨h1,h2⟩|⟨k,q,rfl,h2,h1⟩
  · rw [lookR,h1] at h;exact absurd (congrArg Prod.snd h) (by show ¬ (3:Int)=0;decide)
  · have hk:=(List.getElem?_eq_some_iff.1 h2).1
    rw [lookR,h1] at h
    simp only at h
    cases hf:ifcI ps (k:Int) with
    | true=>rw [hf,if_pos rfl] at h;exact absurd (congrArg Prod.snd h) (by show ¬ (23:Int)=0;decide)
    | false =>
      rw [hf,if_neg (by simp)] at h
      have hm:=fir_facts h
      simp only [List.mem_cons,List.not_mem_nil,or_false] at hm
      rcases hm with hm|hm|hm
      · obtain ⟨i,hi,hio⟩:=up_facts hm.symm
        obtain ⟨rfl,h0⟩:=own_facts2 hio
        obtain ⟨hF,j,p,hj,hp⟩:=fnd_facts h0
        have hij:i=j:=by omega
        subst hij
        have hil:=(List.getElem?_eq_some_iff.1 hp).1
        refine ⟨hF,?_,rfl⟩
        show extI ps (k:Int) (i:Int)=true
        rw [extI_nat hk hil,ext_iff]
        exact .inl hi
      · obtain ⟨_,_,he,x,h3,h4,h5,_⟩:=cand_facts hW h2 (one_mem hm.symm)
        exact ⟨⟨x,h3,h4,h5⟩,he,rfl⟩
      · obtain ⟨_,_,he,x,h3,h4,h5,_⟩:=cand_facts hW h2 (some_mem hm.symm)
        exact ⟨⟨x,h3,h4,h5⟩,he,rfl⟩
theorem top_facts {ps:List Plc} {nm ds:ByteArray} {m:Int×Int} (h:topR ps nm ds=(m,0)):ownR ps nm ds 0=(m,0):=by
  unfold topR at h
  split at h
  · split at h
    · split at h
      · exact h
      · exact absurd (congrArg Prod.snd h) (by show ¬ (6:Int)=0;decide)
    · exact absurd (congrArg Prod.snd h) (by show ¬ (3:Int)=0;decide)
  · rename_i h0
    exact absurd (congrArg Prod.snd h) h0
theorem lif_facts {ps:List Plc} (hW:WI ps) {c:Int} {nm ds:ByteArray} {m:Int×Int} (h:lifR ps nm ds c=(m,0)):FndF ps nm ds m∧extI ps c m.1=true∧ifcI ps c=true:=by
  rcases plcI_cases ps c with ⟨h1,h2⟩|⟨k,q,rfl,h2,h1⟩
  · rw [lifR,h1] at h;exact absurd (congrArg Prod.snd h) (by show ¬ (3:Int)=0;decide)
  · have hk:=(List.getElem?_eq_some_iff.1 h2).1
    rw [lifR,h1] at h
    simp only at h
    cases hf:ifcI ps (k:Int) with
    | false=>rw [hf,if_neg (by simp)] at h;exact absurd (congrArg Prod.snd h) (by show ¬ (23:Int)=0;decide)
    | true =>
      rw [hf,if_pos rfl] at h
      have hm:=fir_facts h
      simp only [List.mem_cons,List.not_mem_nil,or_false] at hm
      rcases hm with hm|hm|hm|hm
      · obtain ⟨rfl,h0⟩:=own_facts2 hm.symm
        obtain ⟨hF,_⟩:=fnd_facts h0
        refine ⟨hF,?_,rfl⟩
        show extI ps (k:Int) (k:Int)=true
        rw [extI_nat hk hk];exact ext_self _ _
      · obtain ⟨rfl,h0⟩:=own_facts2 (top_facts hm.symm)
        obtain ⟨hF,_⟩:=fnd_facts h0
        refine ⟨hF,?_,rfl⟩
        have:=hW.lo
        show extI ps (k:Int) ((0:Nat):Int)=true
        rw [extI_nat hk (by omega)];exact ext_top hW.wo (by simpa using hk)
      · obtain ⟨_,_,he,x,h3,h4,h5,_⟩:=cand_facts hW h2 (one_mem hm.symm)
        exact ⟨⟨x,h3,h4,h5⟩,he,rfl⟩
      · obtain ⟨_,_,he,x,h3,h4,h5,_⟩:=cand_facts hW h2 (some_mem hm.symm)
        exact ⟨⟨x,h3,h4,h5⟩,he,rfl⟩
theorem shu_zero {o:Bool} {e:Int} (h:shuI o e=0):o=true∧e=0:=by
  unfold shuI at h
  split at h
  · rename_i h0
    split at h
    · rename_i h1;exact ⟨h1,h0⟩
    · exact absurd h (by decide)
  · rename_i h0;exact absurd h h0
theorem cls_facts {ps:List Plc} {d:Int} {l:List UInt8} (h:(clsR ps d l).2=0):toP ps d (clsR ps d l).1.1 (clsR ps d l).1.2=(true,0):=by
  unfold clsR at h ⊢
  split at h
  · rename_i h0
    rw [if_pos h0]
    split at h
    · rename_i h1
      rw [if_pos h1]
      split at h
      · rename_i h2
        rw [if_pos h2]
        obtain ⟨h3,h4⟩:=shu_zero h2
        exact Prod.ext h3 h4
      · rename_i h2;exact absurd h h2
    · exact absurd h (by decide)
  · rename_i h0;exact absurd h h0
theorem lby_facts {ps:List Plc} (hW:WI ps) {y:Bool} {c:Int} {nm ds:ByteArray} {m:Int×Int} (h:lbyR ps y nm ds c=(m,0)):FndF ps nm ds m∧extI ps c m.1=true∧ifcI ps c=y:=by
  cases y with
  | true=>exact lif_facts hW h
  | false=>exact look_facts hW h
theorem own_hit {ps:List Plc} {nm ds:ByteArray} {c:Int} (h:(fndI ps c nm ds).2=0):ownR ps nm ds c=((c,(fndI ps c nm ds).1),0):=by
  rw [ownR,if_pos h]
theorem near_iface {ps:List Plc} {k:Nat} {q:Plc} (hq:ps[k]?=some q) (hf:ifcI ps (k:Int)=true) (nm ds:ByteArray):lookR ps nm ds (k:Int)=((0,0),23)∧((fndI ps (k:Int) nm ds).2=0→lifR ps nm ds (k:Int)=(((k:Int),(fndI ps (k:Int) nm ds).1),0)):=by
  have h1:plcI ps (k:Int)=some q:=by rw [plcI_nat];exact hq
  refine ⟨?_,fun h=>?_⟩
  · rw [lookR,h1];simp only;rw [hf,if_pos rfl]
  · rw [lifR,h1];simp only;rw [hf,if_pos rfl,firR,own_hit h,if_pos rfl]
theorem near_look {ps:List Plc} {k:Nat} {q:Plc} (hq:ps[k]?=some q) (hf:ifcI ps (k:Int)=false) (nm ds:ByteArray):lookR ps nm ds (k:Int)=firR [upR ps nm ds (chL (ps.map nd) k),oneV ps (candL ps nm ds q.cl),someV (candL ps nm ds q.cl)]:=by
  have h1:plcI ps (k:Int)=some q:=by rw [plcI_nat];exact hq
  rw [lookR,h1];simp only;rw [hf];rfl
theorem near_hit {x:(Int×Int)} {o s:(Int×Int)×Int}:firR [(x,0),o,s]=(x,0):=by rw [firR,if_pos rfl]
theorem near_miss {o s:(Int×Int)×Int}:firR [((0,0),6),o,s]=firR [o,s]:=by rw [firR,if_neg (by decide)]
set_option maxHeartbeats 1000000 in
theorem rSpc_c {b:Nat} {cs:List Cls} {ps:List Plc} {W:World} (h:RAt b cs W) (ht:TwW cs ps) (hJ:WJ ps) (k:Nat) (q:Plc) (hq:ps[k]?=some q) (nm ds:ByteArray):Calls Tryz.prog 178 #[.pointer (some ⟨b,0,none⟩),.int .i64 (k:Int),.string nm,.string ds] W fun e w'=>e=.returned (idE (firR [oneV ps (candL ps nm ds q.cl),someV (candL ps nm ds q.cl)]))∧Below W.heap.size W w':=by
  have HO:Hid (∀ w,Below W.heap.size W w→Calls Tryz.prog 108 #[.pointer (some ⟨b,0,none⟩),.int .i64 (k:Int),.string nm,.string ds] w fun e w'=>e=.returned (idE (oneV ps (candL ps nm ds q.cl)))∧Below w.heap.size w w'):=fun w hb=>rOne_yes (h.below hb) ht hJ k q hq nm ds
  have HS:Hid (∀ w,Below W.heap.size W w→Calls Tryz.prog 240 #[.pointer (some ⟨b,0,none⟩),.int .i64 (k:Int),.string nm,.string ds] w fun e w'=>e=.returned (idE (someV (candL ps nm ds q.cl)))∧Below w.heap.size w w'):=fun w hb=>rSome_yes (h.below hb) ht hJ k q hq nm ds
  generalize oneV ps (candL ps nm ds q.cl)=O at *
  generalize someV (candL ps nm ds q.cl)=S at *
  obtain ⟨⟨o1,o2⟩,o3⟩:=O
  obtain ⟨⟨s1,s2⟩,s3⟩:=S
  simp only [idE] at HO HS
  simp only [firR]
  clear h ht hJ hq
  by_cases h0:o3=0
  · subst h0
    rw [if_pos rfl]
    clear HS
    go_enter Tryz.func178,Tryz.ntmps178
    go_wp2_with (first
      | (go_at_call 108;refine (HO.out _ (by repeat (first|exact Below.refl _ _|refine Below.setCell ?_ (by simp;try omega) _|refine Below.alloc ?_ (by simp;try omega) _|refine Below.drew ?_))).mono ?_;rintro e w1 ⟨rfl,hb⟩;have zd:=kp2 (n:=W.heap.size) hb;(try clear zB z0 z1 zf zL zN);obtain ⟨zB,z0,z1,zf,zL,zN⟩:=zd;have B1:Hid (Below W.heap.size W w1):=bstep (by repeat (first|exact Below.refl _ _|refine Below.setCell ?_ (by simp;try omega) _|refine Below.alloc ?_ (by simp;try omega) _|refine Below.drew ?_)) hb;clear hb HO))
    exact bodyPost_ret (v:=idE ((o1,o2),0)) (by simp [results,Tryz.results178,go_sem,idE, *]) rfl ⟨rfl,(by repeat (first|exact B1.out|refine Below.setCell ?_ (by simp;try omega) _|refine Below.alloc ?_ (by have:=B1.out.size;simp;try omega) _|refine Below.drew ?_))⟩
  · rw [if_neg h0]
    by_cases h1:s3=0
    · subst h1
      rw [if_pos rfl]
      go_enter Tryz.func178,Tryz.ntmps178
      go_wp2_with (first
        | (go_at_call 108;refine (HO.out _ (by repeat (first|exact Below.refl _ _|refine Below.setCell ?_ (by simp;try omega) _|refine Below.alloc ?_ (by simp;try omega) _|refine Below.drew ?_))).mono ?_;rintro e w1 ⟨rfl,hb⟩;have zd:=kp2 (n:=W.heap.size) hb;(try clear zB z0 z1 zf zL zN);obtain ⟨zB,z0,z1,zf,zL,zN⟩:=zd;have B1:Hid (Below W.heap.size W w1):=bstep (by repeat (first|exact Below.refl _ _|refine Below.setCell ?_ (by simp;try omega) _|refine Below.alloc ?_ (by simp;try omega) _|refine Below.drew ?_)) hb;clear hb HO)
        | (go_at_call 240;refine (HS.out _ (B1.out.alloc B1.out.size _)).mono ?_;rintro e w2 ⟨rfl,hb⟩;have hn2:¬ w1.heap.size=W.heap.size:=(by omega);have hm2:¬ W.heap.size=w1.heap.size:=(by omega);have hle:W.heap.size≤w1.heap.size:=(by omega);have zd:=kp2 (n:=W.heap.size) hb;(try clear zB z0 z1 zf zL zN);obtain ⟨zB,z0,z1,zf,zL,zN⟩:=zd;have gd:=kp2 (n:=w1.heap.size) hb;(try clear gB g0 g1 gf gL gN);obtain ⟨gB,g0,g1,gf,gL,gN⟩:=gd;have B2:Hid (Below W.heap.size W w2):=bstep (B1.out.alloc B1.out.size _) hb;clear hb HS))
      exact bodyPost_ret (v:=idE ((s1,s2),0)) (by simp [results,Tryz.results178,go_sem,idE, *]) rfl ⟨rfl,(by repeat (first|exact B2.out|refine Below.setCell ?_ (by simp;try omega) _|refine Below.alloc ?_ (by have:=B2.out.size;simp;try omega) _|refine Below.drew ?_))⟩
    · rw [if_neg h1]
      go_enter Tryz.func178,Tryz.ntmps178
      go_wp2_with (first
        | (go_at_call 108;refine (HO.out _ (by repeat (first|exact Below.refl _ _|refine Below.setCell ?_ (by simp;try omega) _|refine Below.alloc ?_ (by simp;try omega) _|refine Below.drew ?_))).mono ?_;rintro e w1 ⟨rfl,hb⟩;have zd:=kp2 (n:=W.heap.size) hb;(try clear zB z0 z1 zf zL zN);obtain ⟨zB,z0,z1,zf,zL,zN⟩:=zd;have B1:Hid (Below W.heap.size W w1):=bstep (by repeat (first|exact Below.refl _ _|refine Below.setCell ?_ (by simp;try omega) _|refine Below.alloc ?_ (by simp;try omega) _|refine Below.drew ?_)) hb;clear hb HO)
        | (go_at_call 240;refine (HS.out _ (B1.out.alloc B1.out.size _)).mono ?_;rintro e w2 ⟨rfl,hb⟩;have hn2:¬ w1.heap.size=W.heap.size:=(by omega);have hm2:¬ W.heap.size=w1.heap.size:=(by omega);have hle:W.heap.size≤w1.heap.size:=(by omega);have zd:=kp2 (n:=W.heap.size) hb;(try clear zB z0 z1 zf zL zN);obtain ⟨zB,z0,z1,zf,zL,zN⟩:=zd;have gd:=kp2 (n:=w1.heap.size) hb;(try clear gB g0 g1 gf gL gN);obtain ⟨gB,g0,g1,gf,gL,gN⟩:=gd;have B2:Hid (Below W.heap.size W w2):=bstep (B1.out.alloc B1.out.size _) hb;clear hb HS))
      exact bodyPost_ret (v:=idE ((0,0),21)) (by simp [results,Tryz.results178,go_sem,idE, *]) rfl ⟨rfl,(by repeat (first|exact B2.out|refine Below.setCell ?_ (by simp;try omega) _|refine Below.alloc ?_ (by have:=B2.out.size;simp;try omega) _|refine Below.drew ?_))⟩
theorem rChain_no {b:Nat} {cs:List Cls} {ps:List Plc} {W:World} (h:RAt b cs W) (ht:TwW cs ps) (c:Int) (hc:plcI ps c=none):Calls Tryz.prog 77 #[.pointer (some ⟨b,0,none⟩),.int .i64 c] W fun e w'=>e=.returned (.tuple #[.slice none 0 0,.int .i64 3])∧Below W.heap.size W w':=by
  have HI:Hid (∀ w,Below W.heap.size W w→Calls Tryz.prog 76 #[.pointer (some ⟨b,0,none⟩),.int .i64 c] w fun e w'=>e=.returned (.bool false)∧w'=w):=fun w hb=>(rIn_t (h.below hb) ht c).mono fun e w' zz=>⟨by rw [zz.1,hc];rfl,zz.2⟩
  clear h ht hc
  go_enter Tryz.func77,Tryz.ntmps77
  go_wp2_with (go_at_call 76;refine (HI.out _ (by repeat (first|exact Below.refl _ _|refine Below.setCell ?_ (by simp;try omega) _|refine Below.alloc ?_ (by simp;try omega) _|refine Below.drew ?_))).mono ?_;rintro e w9 ⟨rfl,hw9⟩;rw [hw9];clear hw9 w9)
  exact bodyPost_ret (results_tmp2 rfl _ _ _) rfl ⟨rfl,(by repeat (first|exact Below.refl _ _|refine Below.setCell ?_ (by simp;try omega) _|refine Below.alloc ?_ (by simp;try omega) _|refine Below.drew ?_))⟩
set_option maxHeartbeats 4000000 in
theorem rLook_cls {b:Nat} {cs:List Cls} {ps:List Plc} {W:World} (h:RAt b cs W) (ht:TwW cs ps) (hJ:WJ ps) (k:Nat) (q:Plc) (hq:ps[k]?=some q) (hf:ifcI ps (k:Int)=false) (nm ds:ByteArray):Calls Tryz.prog 93 #[.pointer (some ⟨b,0,none⟩),.int .i64 (k:Int),.string nm,.string ds] W fun e w'=>e=.returned (idE (lookR ps nm ds (k:Int)))∧Below W.heap.size W w':=by
  have hkl:=(List.getElem?_eq_some_iff.1 hq).1
  have HW0:Hid (RAt b cs W):=h
  have HTW:Hid (TwW cs ps):=ht
  have hKb:=chL_len ht.wi hkl
  rw [near_look hq hf]
  have HC:Hid (∀ w,Below W.heap.size W w→Calls Tryz.prog 77 #[.pointer (some ⟨b,0,none⟩),.int .i64 (k:Int)] w fun e w'=>(∃ v,e=.returned (.tuple #[v,.int .i64 0])∧w'.ownsRow w.heap.size 3 1 v (chL (ps.map nd) k).length ((chL (ps.map nd) k).map numV))∧Below w.heap.size w w'):=fun w hb=>rChain_yes (h.below hb) ht k hkl
  have HI:Hid (∀ w,Below W.heap.size W w→Calls Tryz.prog 99 #[.pointer (some ⟨b,0,none⟩),.int .i64 (k:Int)] w fun e w'=>e=.returned (.bool false)∧w'=w):=fun w hb=>(rIsIface_c (h.below hb) k).mono fun e w' zz=>⟨by rw [zz.1,ifcC_eq ht,hf],zz.2⟩
  have HS:Hid (∀ w,Below W.heap.size W w→Calls Tryz.prog 178 #[.pointer (some ⟨b,0,none⟩),.int .i64 (k:Int),.string nm,.string ds] w fun e w'=>e=.returned (idE (firR [oneV ps (candL ps nm ds q.cl),someV (candL ps nm ds q.cl)]))∧Below w.heap.size w w'):=fun w hb=>rSpc_c (h.below hb) ht hJ k q hq nm ds
  generalize oneV ps (candL ps nm ds q.cl)=oV at *
  generalize someV (candL ps nm ds q.cl)=sV at *
  generalize chL (ps.map nd) k=lc at *
  obtain ⟨U,hU0⟩:∃ U,upR ps nm ds lc=U:=⟨_,rfl⟩
  rw [hU0]
  obtain ⟨RR,hRR⟩:∃ RR,firR [U,oV,sV]=RR:=⟨_,rfl⟩
  have HRR:Hid (firR [U,oV,sV]=RR):=hRR
  rw [hRR]
  have HU0:Hid (upR ps nm ds (lc.drop 0)=U):=hU0
  obtain ⟨⟨R1,R2⟩,R3⟩:=RR
  obtain ⟨K,hK⟩:∃ K,lc.length=K:=⟨_,rfl⟩
  have HKK:Hid (lc.length=K):=hK
  rw [hK] at hKb HC
  obtain ⟨⟨⟨S1,S2⟩,S3⟩,hSS⟩:∃ S,firR [oV,sV]=S:=⟨_,rfl⟩
  have HSS:Hid (firR [oV,sV]=((S1,S2),S3)):=hSS
  rw [hSS] at HS
  simp only [idE] at HS
  clear h ht hJ hq hf hkl hRR hU0 hK hSS
  go_enter Tryz.func93,Tryz.ntmps93
  go_wp2_with (first
    | (go_at_call 77;refine (HC.out _ (by repeat (first|exact Below.refl _ _|refine Below.setCell ?_ (by simp;try omega) _|refine Below.alloc ?_ (by simp;try omega) _|refine Below.drew ?_))).mono ?_;rintro e w1 ⟨⟨v,rfl,ho⟩,hb⟩;obtain ⟨ca,cc,rfl⟩:=ownv ho;have zd:=kp2 (n:=W.heap.size) hb;(try clear zB z0 z1 zf zL zN);obtain ⟨zB,z0,z1,zf,zL,zN⟩:=zd;have O1:Hid (w1.ownsRow W.heap.size 3 1 (.slice ca K cc) K (lc.map numV)):=Go.Joins.ownsRow_le ho (by simp);have B1:Hid (Below W.heap.size W w1):=bstep (by repeat (first|exact Below.refl _ _|refine Below.setCell ?_ (by simp;try omega) _|refine Below.alloc ?_ (by simp;try omega) _|refine Below.drew ?_)) hb;have HW1:Hid (RAt b cs w1):=HW0.out.below B1.out;clear ho hb HC)
    | (go_at_call 99;refine (HI.out _ B1.out).mono ?_;rintro e w9 ⟨rfl,hw9⟩;rw [hw9];clear hw9 w9 HI))
  go_loopw [12] (fun kv wr=>∃ (j:Nat),kv=.int .i64 j∧j≤K∧Hid (upR ps nm ds (lc.drop j)=U)∧Hid (Below w1.heap.size w1 wr)) (fun kv _=>K - (intOf kv).toNat)
  case atStart=>exact ⟨0,rfl,Nat.zero_le _,HU0,Below.refl _ _⟩
  case round =>
    obtain ⟨j,rfl,hj,hU,hB⟩:=hrel
    have hb:=hB.out
    have zd:=kp2 (n:=W.heap.size) hb;(try clear zB z0 z1 zf zL zN);obtain ⟨zB,z0,z1,zf,zL,zN⟩:=zd
    clear hb
    have B2:Hid (Below W.heap.size W wr):=bstep B1.out hB.out
    by_cases hlt:j<K
    · have hjl:j<lc.length:=by rw [HKK.out];exact hlt
      obtain ⟨i,hi⟩:∃ i,lc[j]?=some i:=⟨_,List.getElem?_eq_getElem hjl⟩
      obtain ⟨g,c2,hform⟩:=Go.Joins.ownsRow_form O1.out (by omega)
      have hce:w1.cell? ⟨g,j,none⟩=some (.int .i64 (i:Int)):=by
        have hrow:=O1.out
        rw [hform] at hrow
        rw [hrow.cellAt j (by omega),List.getElem?_map,hi];rfl
      injection hform with hca _ hcc
      subst hca hcc
      have hgl:g<w1.heap.size:=World.block_lt_of_cell? w1 _ hce
      have hcr:=(hB.out.cell (p:=⟨g,j,none⟩) hgl).trans hce
      have hgr:g<wr.heap.size:=Nat.lt_of_lt_of_le hgl hB.out.size
      have HF1:=rFind_c (HW1.out.below hB.out) HTW.out (i:Int) nm ds
      have hst:=upR_at (ps:=ps) (nm:=nm) (ds:=ds) hi
      rw [hU.out] at hst
      have HO:Hid (ownR ps nm ds (i:Int)=if (fndI ps (i:Int) nm ds).2=0 then (((i:Int),(fndI ps (i:Int) nm ds).1),0) else ((0,0),(fndI ps (i:Int) nm ds).2)):=rfl
      have HST:Hid (U=if (ownR ps nm ds (i:Int)).2=0 then ((ownR ps nm ds (i:Int)).1,0) else upR ps nm ds (lc.drop (j+1))):=hst
      generalize ownR ps nm ds (i:Int)=OW at *
      generalize fndI ps (i:Int) nm ds=F at *
      obtain ⟨F1,F2⟩:=F
      simp only at HF1 HO
      have HFF:Hid (Calls Tryz.prog 118 #[.pointer (some ⟨b,0,none⟩),.int .i64 (i:Int),.string nm,.string ds] wr fun e w'=>e=.returned (.tuple #[.int .i64 F1,.int .i64 F2])∧Below wr.heap.size wr w'):=HF1
      clear hce hi hjl hst HF1 hU HS HSS
      by_cases hF:F2=0
      · subst hF
        have eU:U=(((i:Int),F1),0):=by rw [HST.out,HO.out,if_pos rfl,if_pos rfl]
        have eR:((R1,R2),R3)=(((i:Int),F1),0):=by rw [← HRR.out,eU,near_hit]
        simp only [Prod.mk.injEq] at eR
        obtain ⟨⟨e1,e2⟩,e3⟩:=eR
        subst e1 e2 e3
        clear HST HO eU HRR HU0
        go_wp2_with (first
          | (go_at_call 118;refine HFF.out.mono ?_;rintro e w6 ⟨rfl,hb⟩;have zd:=kp2 (n:=W.heap.size) hb;(try clear zB z0 z1 zf zL zN);obtain ⟨zB,z0,z1,zf,zL,zN⟩:=zd;replace hcr:=(hb.cell (p:=⟨g,j,none⟩) hgr).trans hcr;have B3:Hid (Below W.heap.size W w6):=bstep B2.out hb;clear hb HFF))
        exact bodyPost_ret (v:=idE (((i:Int),R2),0)) (by simp [results,Tryz.results93,go_sem,idE, *]) rfl ⟨rfl,(by repeat (first|exact B3.out|refine Below.setCell ?_ (by simp;try omega) _|refine Below.alloc ?_ (by have:=B3.out.size;simp;try omega) _|refine Below.drew ?_))⟩
      · have HU2:Hid (upR ps nm ds (lc.drop (j+1))=U):=by
          rw [Hid,HST.out,HO.out,if_neg hF,if_neg hF]
        clear HST HO
        go_wp2_with (first
          | (go_at_call 118;refine HFF.out.mono ?_;rintro e w6 ⟨rfl,hb⟩;have B6:Hid (Below w1.heap.size w1 w6):=bstep hB.out hb;clear hb HFF))
        go_roundw
        case rel=>exact ⟨j+1,by go_num,by omega,HU2,B6⟩
        case measure=>simp [intOf];omega
    · have e:j=K:=by omega
      subst e
      have eU:U=((0,0),6):=by rw [← hU.out,List.drop_of_length_le (by rw [HKK.out];exact Nat.le_refl _)];rfl
      subst eU
      have eR:((R1,R2),R3)=((S1,S2),S3):=by rw [← HRR.out,near_miss,HSS.out]
      simp only [Prod.mk.injEq] at eR
      obtain ⟨⟨e1,e2⟩,e3⟩:=eR
      subst e1 e2 e3
      clear HRR HU0 hU HSS
      go_wp2_with (first
        | (go_at_call 178;refine (HS.out _ B2.out).mono ?_;rintro e w6 ⟨rfl,hb⟩;have zd:=kp2 (n:=W.heap.size) hb;(try clear zB z0 z1 zf zL zN);obtain ⟨zB,z0,z1,zf,zL,zN⟩:=zd;have B3:Hid (Below W.heap.size W w6):=bstep B2.out hb;clear hb HS))
      exact bodyPost_ret (v:=idE ((R1,R2),R3)) (by simp [results,Tryz.results93,go_sem,idE, *]) rfl ⟨rfl,(by repeat (first|exact B3.out|refine Below.setCell ?_ (by simp;try omega) _|refine Below.alloc ?_ (by have:=B3.out.size;simp;try omega) _|refine Below.drew ?_))⟩
theorem rLook_c {b:Nat} {cs:List Cls} {ps:List Plc} {W:World} (h:RAt b cs W) (ht:TwW cs ps) (hJ:WJ ps) (c:Int) (nm ds:ByteArray):Calls Tryz.prog 93 #[.pointer (some ⟨b,0,none⟩),.int .i64 c,.string nm,.string ds] W fun e w'=>e=.returned (idE (lookR ps nm ds c))∧Below W.heap.size W w':=by
  rcases plcI_cases ps c with ⟨h1,_⟩|⟨k,q,rfl,h2,h1⟩
  · have e:lookR ps nm ds c=((0,0),3):=by rw [lookR,h1]
    rw [e]
    have HC:Hid (∀ w,Below W.heap.size W w→Calls Tryz.prog 77 #[.pointer (some ⟨b,0,none⟩),.int .i64 c] w fun e w'=>e=.returned (.tuple #[.slice none 0 0,.int .i64 3])∧Below w.heap.size w w'):=fun w hb=>rChain_no (h.below hb) ht c h1
    clear h ht hJ e h1
    go_enter Tryz.func93,Tryz.ntmps93
    go_wp2_with (first
      | (go_at_call 77;refine (HC.out _ (by repeat (first|exact Below.refl _ _|refine Below.setCell ?_ (by simp;try omega) _|refine Below.alloc ?_ (by simp;try omega) _|refine Below.drew ?_))).mono ?_;rintro e w1 ⟨rfl,hb⟩;have zd:=kp2 (n:=W.heap.size) hb;(try clear zB z0 z1 zf zL zN);obtain ⟨zB,z0,z1,zf,zL,zN⟩:=zd;have B1:Hid (Below W.heap.size W w1):=bstep (by repeat (first|exact Below.refl _ _|refine Below.setCell ?_ (by simp;try omega) _|refine Below.alloc ?_ (by simp;try omega) _|refine Below.drew ?_)) hb;clear hb HC))
    exact bodyPost_ret (v:=idE ((0,0),3)) (by simp [results,Tryz.results93,go_sem,idE, *]) rfl ⟨rfl,(by repeat (first|exact B1.out|refine Below.setCell ?_ (by simp;try omega) _|refine Below.alloc ?_ (by have:=B1.out.size;simp;try omega) _|refine Below.drew ?_))⟩
  · cases hf:ifcI ps (k:Int) with
    | false=>exact rLook_cls h ht hJ k q h2 hf nm ds
    | true =>
      rw [(near_iface h2 hf nm ds).1]
      have HC:Hid (∀ w,Below W.heap.size W w→Calls Tryz.prog 77 #[.pointer (some ⟨b,0,none⟩),.int .i64 (k:Int)] w fun e w'=>(∃ a n c,e=.returned (.tuple #[.slice a n c,.int .i64 0]))∧Below w.heap.size w w'):=fun w hb=>(rChain_yes (h.below hb) ht k (List.getElem?_eq_some_iff.1 h2).1).mono fun e w' zz=>by
        obtain ⟨⟨v,e1,ho⟩,hb⟩:=zz
        obtain ⟨ca,cc,rfl⟩:=ownv ho
        exact ⟨⟨_,_,_,e1⟩,hb⟩
      have HI:Hid (∀ w,Below W.heap.size W w→Calls Tryz.prog 99 #[.pointer (some ⟨b,0,none⟩),.int .i64 (k:Int)] w fun e w'=>e=.returned (.bool true)∧w'=w):=fun w hb=>(rIsIface_c (h.below hb) k).mono fun e w' zz=>⟨by rw [zz.1,ifcC_eq ht,hf],zz.2⟩
      clear h ht hJ h1 h2 hf
      go_enter Tryz.func93,Tryz.ntmps93
      go_wp2_with (first
        | (go_at_call 77;refine (HC.out _ (by repeat (first|exact Below.refl _ _|refine Below.setCell ?_ (by simp;try omega) _|refine Below.alloc ?_ (by simp;try omega) _|refine Below.drew ?_))).mono ?_;rintro e w1 ⟨⟨a1,n1,c1,rfl⟩,hb⟩;have zd:=kp2 (n:=W.heap.size) hb;(try clear zB z0 z1 zf zL zN);obtain ⟨zB,z0,z1,zf,zL,zN⟩:=zd;have B1:Hid (Below W.heap.size W w1):=bstep (by repeat (first|exact Below.refl _ _|refine Below.setCell ?_ (by simp;try omega) _|refine Below.alloc ?_ (by simp;try omega) _|refine Below.drew ?_)) hb;clear hb HC)
        | (go_at_call 99;refine (HI.out _ B1.out).mono ?_;rintro e w9 ⟨rfl,hw9⟩;rw [hw9];clear hw9 w9 HI))
      exact bodyPost_ret (v:=idE ((0,0),23)) (by simp [results,Tryz.results93,go_sem,idE, *]) rfl ⟨rfl,(by repeat (first|exact B1.out|refine Below.setCell ?_ (by simp;try omega) _|refine Below.alloc ?_ (by have:=B1.out.size;simp;try omega) _|refine Below.drew ?_))⟩
theorem has9 (f:Int):bits .and .i64 f 9=1↔(hasI f 1=true∧hasI f 8=false):=by
  have e9:bits .and .i64 f 9=IntKind.wrap .i64 (((BitVec.ofInt 64 f).toNat &&& 9:Nat):Int):=rfl
  have e1:bits .and .i64 f 1=IntKind.wrap .i64 (((BitVec.ofInt 64 f).toNat &&& 1:Nat):Int):=rfl
  have e8:bits .and .i64 f 8=IntKind.wrap .i64 (((BitVec.ofInt 64 f).toNat &&& 8:Nat):Int):=rfl
  have h:(BitVec.ofInt 64 f).toNat &&& 9=((BitVec.ofInt 64 f).toNat &&& 1) ||| ((BitVec.ofInt 64 f).toNat &&& 8):=by
    rw [← Nat.and_or_distrib_left];rfl
  unfold hasI
  rw [e9,e1,e8,h]
  have h2:(BitVec.ofInt 64 f).toNat &&& 1≤1:=Nat.and_le_right
  have h8:(BitVec.ofInt 64 f).toNat &&& 8≤8:=Nat.and_le_right
  have h8':((BitVec.ofInt 64 f).toNat &&& 8) &&& 8=(BitVec.ofInt 64 f).toNat &&& 8:=by rw [Nat.and_assoc,Nat.and_self]
  generalize (BitVec.ofInt 64 f).toNat &&& 1=a at *
  generalize (BitVec.ofInt 64 f).toNat &&& 8=b at *
  have ha:a=0∨a=1:=by omega
  have hb:b=0∨b=8:=by
    have:b=0∨b=1∨b=2∨b=3∨b=4∨b=5∨b=6∨b=7∨b=8:=by omega
    rcases this with rfl|rfl|rfl|rfl|rfl|rfl|rfl|rfl|rfl
    · exact .inl rfl
    all_goals first|exact .inr rfl|exact absurd h8' (by decide)
  rcases ha with rfl|rfl <;> rcases hb with rfl|rfl <;> decide
set_option maxHeartbeats 1000000 in
theorem rLif_if {b:Nat} {cs:List Cls} {ps:List Plc} {W:World} (h:RAt b cs W) (ht:TwW cs ps) (hJ:WJ ps) (k:Nat) (q:Plc) (hq:ps[k]?=some q) (hf:ifcI ps (k:Int)=true) (nm ds:ByteArray):Calls Tryz.prog 92 #[.pointer (some ⟨b,0,none⟩),.int .i64 (k:Int),.string nm,.string ds] W fun e w'=>e=.returned (idE (lifR ps nm ds (k:Int)))∧Below W.heap.size W w':=by
  have h1:plcI ps (k:Int)=some q:=by rw [plcI_nat];exact hq
  have hL:lifR ps nm ds (k:Int)=firR [ownR ps nm ds (k:Int),topR ps nm ds,oneV ps (candL ps nm ds q.cl),someV (candL ps nm ds q.cl)]:=by
    rw [lifR,h1];simp only;rw [hf];rfl
  rw [hL]
  have HI:Hid (∀ w,Below W.heap.size W w→Calls Tryz.prog 76 #[.pointer (some ⟨b,0,none⟩),.int .i64 (k:Int)] w fun e w'=>e=.returned (.bool true)∧w'=w):=fun w hb=>(rIn_t (h.below hb) ht k).mono fun e w' zz=>⟨by rw [zz.1,h1];rfl,zz.2⟩
  have HF:Hid (∀ w,Below W.heap.size W w→Calls Tryz.prog 99 #[.pointer (some ⟨b,0,none⟩),.int .i64 (k:Int)] w fun e w'=>e=.returned (.bool true)∧w'=w):=fun w hb=>(rIsIface_c (h.below hb) k).mono fun e w' zz=>⟨by rw [zz.1,ifcC_eq ht,hf],zz.2⟩
  have F1:Hid (∀ (i:Int) w,Below W.heap.size W w→i=(k:Int)→Calls Tryz.prog 118 #[.pointer (some ⟨b,0,none⟩),.int .i64 i,.string nm,.string ds] w fun e w'=>e=.returned (.tuple #[.int .i64 (fndI ps (k:Int) nm ds).1,.int .i64 (fndI ps (k:Int) nm ds).2])∧Below w.heap.size w w'):=fun i w hb hi=>by rw [hi];exact rFind_c (h.below hb) ht k nm ds
  have F0:Hid (∀ (i:Int) w,Below W.heap.size W w→i=0→Calls Tryz.prog 118 #[.pointer (some ⟨b,0,none⟩),.int .i64 i,.string nm,.string ds] w fun e w'=>e=.returned (.tuple #[.int .i64 (fndI ps 0 nm ds).1,.int .i64 (fndI ps 0 nm ds).2])∧Below w.heap.size w w'):=fun i w hb hi=>by rw [hi];exact rFind_c (h.below hb) ht 0 nm ds
  have HS:Hid (∀ w,Below W.heap.size W w→Calls Tryz.prog 178 #[.pointer (some ⟨b,0,none⟩),.int .i64 (k:Int),.string nm,.string ds] w fun e w'=>e=.returned (idE (firR [oneV ps (candL ps nm ds q.cl),someV (candL ps nm ds q.cl)]))∧Below w.heap.size w w'):=fun w hb=>rSpc_c (h.below hb) ht hJ k q hq nm ds
  have hm0:(fndI ps 0 nm ds).2=0→∃ x,methI ps ((0:Nat):Int) (fndI ps 0 nm ds).1=some x:=fun h0=>fnd_meth h0
  have HFL:Hid (∀ w,Below W.heap.size W w→∀ x,methI ps ((0:Nat):Int) (fndI ps 0 nm ds).1=some x→∃ (g cap bk o n cm j:Nat),(fndI ps 0 nm ds).1=(j:Int)∧w.cell? ⟨b,0,none⟩=some (.slice (some ⟨g,0,none⟩) cs.length cap)∧b<w.heap.size∧g<w.heap.size∧((0:Nat):Int)<(cs.length:Int)∧w.cell? ⟨g,0 * 6+5,none⟩=some (.slice (some ⟨bk,o,none⟩) n cm)∧bk<w.heap.size∧(j:Int)<(n:Int)∧w.cell? ⟨bk,o+j * 6+2,none⟩=some (.int .i64 x.fl)):=fun w hb x hx=>(h.below hb).flag ht hx
  have hO1:ownR ps nm ds (k:Int)=if (fndI ps (k:Int) nm ds).2=0 then (((k:Int),(fndI ps (k:Int) nm ds).1),0) else ((0,0),(fndI ps (k:Int) nm ds).2):=rfl
  have hO0:ownR ps nm ds 0=if (fndI ps 0 nm ds).2=0 then ((0,(fndI ps 0 nm ds).1),0) else ((0,0),(fndI ps 0 nm ds).2):=rfl
  have hTT:topR ps nm ds=if (ownR ps nm ds 0).2=0 then (match methI ps (ownR ps nm ds 0).1.1 (ownR ps nm ds 0).1.2 with
    | some m=>if bits .and .i64 m.fl 9=1 then ownR ps nm ds 0 else ((0,0),6)
    | none=>((0,0),3)) else ((0,0),(ownR ps nm ds 0).2):=rfl
  generalize oneV ps (candL ps nm ds q.cl)=oV at *
  generalize someV (candL ps nm ds q.cl)=sV at *
  generalize topR ps nm ds=T at *
  rw [hO1]
  rw [hO0] at hTT
  generalize fndI ps (k:Int) nm ds=A at *
  obtain ⟨a1,a2⟩:=A
  simp only at F1 ⊢
  obtain ⟨⟨⟨S1,S2⟩,S3⟩,hSS⟩:∃ S,firR [oV,sV]=S:=⟨_,rfl⟩
  rw [hSS] at HS
  simp only [idE] at HS
  clear h hL hO1 hO0
  by_cases hA:a2=0
  · subst hA
    have e:firR [if (0:Int)=0 then (((k:Int),a1),(0:Int)) else ((0,0),0),T,oV,sV]=(((k:Int),a1),0):=by rw [if_pos rfl,firR,if_pos rfl]
    rw [e]
    clear e hTT HS hm0 HFL F0 ht hJ hq hf h1 hSS
    go_enter Tryz.func92,Tryz.ntmps92
    go_wp2_with (first
      | (go_at_call 76;refine (HI.out _ (by repeat (first|exact Below.refl _ _|refine Below.setCell ?_ (by simp;try omega) _|refine Below.alloc ?_ (by simp;try omega) _|refine Below.drew ?_))).mono ?_;rintro e w9 ⟨rfl,hw9⟩;rw [hw9];clear hw9 w9 HI)
      | (go_at_call 99;refine (HF.out _ (by repeat (first|exact Below.refl _ _|refine Below.setCell ?_ (by simp;try omega) _|refine Below.alloc ?_ (by simp;try omega) _|refine Below.drew ?_))).mono ?_;rintro e w9 ⟨rfl,hw9⟩;rw [hw9];clear hw9 w9 HF)
      | (go_at_call 118;refine (F1.out _ _ (by repeat (first|exact Below.refl _ _|refine Below.setCell ?_ (by simp;try omega) _|refine Below.alloc ?_ (by simp;try omega) _|refine Below.drew ?_)) (by rfl)).mono ?_;rintro e w1 ⟨rfl,hb⟩;have zd:=kp2 (n:=W.heap.size) hb;(try clear zB z0 z1 zf zL zN);obtain ⟨zB,z0,z1,zf,zL,zN⟩:=zd;have B1:Hid (Below W.heap.size W w1):=bstep (by repeat (first|exact Below.refl _ _|refine Below.setCell ?_ (by simp;try omega) _|refine Below.alloc ?_ (by simp;try omega) _|refine Below.drew ?_)) hb;clear hb F1))
    exact bodyPost_ret (v:=idE (((k:Int),a1),0)) (by simp [results,Tryz.results92,go_sem,idE, *]) rfl ⟨rfl,(by repeat (first|refine Below.setCell ?_ (by simp;try omega) _|refine Below.alloc ?_ (by have:=B1.out.size;simp;try omega) _|exact B1.out))⟩
  · have hAA:(if a2=0 then (((k:Int),a1),(0:Int)) else ((0,0),a2)).2≠0:=by rw [if_neg hA];exact hA
    rw [firR,if_neg hAA]
    clear hAA
    by_cases hB:(fndI ps 0 nm ds).2=0
    · obtain ⟨x,hx⟩:=hm0 hB
      rw [if_pos hB] at hTT
      simp only [if_true] at hTT
      have hx2:methI ps 0 (fndI ps 0 nm ds).1=some x:=hx
      rw [hx2] at hTT
      simp only at hTT
      replace HFL:Hid (∀ w,Below W.heap.size W w→∃ (g cap bk o n cm j:Nat),(fndI ps 0 nm ds).1=(j:Int)∧w.cell? ⟨b,0,none⟩=some (.slice (some ⟨g,0,none⟩) cs.length cap)∧b<w.heap.size∧g<w.heap.size∧((0:Nat):Int)<(cs.length:Int)∧w.cell? ⟨g,0 * 6+5,none⟩=some (.slice (some ⟨bk,o,none⟩) n cm)∧bk<w.heap.size∧(j:Int)<(n:Int)∧w.cell? ⟨bk,o+j * 6+2,none⟩=some (.int .i64 x.fl)):=fun w hb=>HFL.out w hb x hx
      have Ha:Hid (∀ (z:Int) (w:World),z=1→Calls Tryz.prog 101 #[.int .i64 x.fl,.int .i64 z] w fun e w'=>e=.returned (.bool (hasI x.fl 1))∧w'=w):=fun z w hz=>by rw [hz];exact has_any x.fl 1 w
      have Hb:Hid (∀ (z:Int) (w:World),z=8→Calls Tryz.prog 101 #[.int .i64 x.fl,.int .i64 z] w fun e w'=>e=.returned (.bool (hasI x.fl 8))∧w'=w):=fun z w hz=>by rw [hz];exact has_any x.fl 8 w
      have h9:=has9 x.fl
      rw [hB] at F0
      clear hx hx2 hm0 hB
      generalize (fndI ps 0 nm ds).1=f1 at *
      generalize hasI x.fl 1=z1 at *
      generalize hasI x.fl 8=z8 at *
      generalize bits .and .i64 x.fl 9=b9 at *
      generalize x.fl=fl at *
      clear ht hJ hq hf h1 x
      cases z1 with
      | true =>
        cases z8 with
        | false =>
          have e9:b9=1:=h9.2 ⟨rfl,rfl⟩
          rw [if_pos e9] at hTT
          rw [hTT,firR,if_pos rfl]
          clear e9 hTT h9 hSS HS
          go_enter Tryz.func92,Tryz.ntmps92
          go_wp2_with (first
            | (go_at_call 76;refine (HI.out _ (by repeat (first|exact Below.refl _ _|refine Below.setCell ?_ (by simp;try omega) _|refine Below.alloc ?_ (by simp;try omega) _|refine Below.drew ?_))).mono ?_;rintro e w9 ⟨rfl,hw9⟩;rw [hw9];clear hw9 w9 HI)
            | (go_at_call 99;refine (HF.out _ (by repeat (first|exact Below.refl _ _|refine Below.setCell ?_ (by simp;try omega) _|refine Below.alloc ?_ (by simp;try omega) _|refine Below.drew ?_))).mono ?_;rintro e w9 ⟨rfl,hw9⟩;rw [hw9];clear hw9 w9 HF)
            | (go_at_call 118;refine (F1.out _ _ (by repeat (first|exact Below.refl _ _|refine Below.setCell ?_ (by simp;try omega) _|refine Below.alloc ?_ (by simp;try omega) _|refine Below.drew ?_)) (by rfl)).mono ?_;rintro e w1 ⟨rfl,hb⟩;have zd:=kp2 (n:=W.heap.size) hb;(try clear zB z0 z1 zf zL zN);obtain ⟨zB,z0,z1,zf,zL,zN⟩:=zd;have B1:Hid (Below W.heap.size W w1):=bstep (by repeat (first|exact Below.refl _ _|refine Below.setCell ?_ (by simp;try omega) _|refine Below.alloc ?_ (by simp;try omega) _|refine Below.drew ?_)) hb;clear hb F1)
            | (go_at_call 118;refine (F0.out _ _ B1.out (by rfl)).mono ?_;rintro e w2 ⟨rfl,hb⟩;have zd:=kp2 (n:=W.heap.size) hb;(try clear zB z0 z1 zf zL zN);obtain ⟨zB,z0,z1,zf,zL,zN⟩:=zd;have B2:Hid (Below W.heap.size W w2):=bstep B1.out hb;obtain ⟨g9,cap9,bk9,o9,n9,cm9,j9,hj9,c91,c92,c93,c94,c95,c96,c97,c98⟩:=HFL.out w2 B2.out;simp only [Nat.zero_mul,Nat.zero_add] at c95;have c99:(0:Int)<(cs.length:Int):=c94;subst hj9;clear HFL;clear hb F0)
            | (go_at_call 101;refine (Ha.out _ _ (by rfl)).mono ?_;rintro e w9 ⟨rfl,hw9⟩;rw [hw9];clear hw9 w9 Ha)
            | (go_at_call 101;refine (Hb.out _ _ (by rfl)).mono ?_;rintro e w9 ⟨rfl,hw9⟩;rw [hw9];clear hw9 w9 Hb))
          exact bodyPost_ret (v:=idE ((0,(j9:Int)),0)) (by simp [results,Tryz.results92,go_sem,idE, *]) rfl ⟨rfl,(by repeat (first|refine Below.setCell ?_ (by simp;try omega) _|refine Below.alloc ?_ (by have:=B2.out.size;simp;try omega) _|exact B2.out))⟩
        | true =>
          have e9:¬ b9=1:=fun h=>by have:=(h9.1 h).2;cases this
          rw [if_neg e9] at hTT
          rw [hTT,firR,if_neg (by decide),hSS]
          clear e9 hTT h9 hSS
          go_enter Tryz.func92,Tryz.ntmps92
          go_wp2_with (first
            | (go_at_call 76;refine (HI.out _ (by repeat (first|exact Below.refl _ _|refine Below.setCell ?_ (by simp;try omega) _|refine Below.alloc ?_ (by simp;try omega) _|refine Below.drew ?_))).mono ?_;rintro e w9 ⟨rfl,hw9⟩;rw [hw9];clear hw9 w9 HI)
            | (go_at_call 99;refine (HF.out _ (by repeat (first|exact Below.refl _ _|refine Below.setCell ?_ (by simp;try omega) _|refine Below.alloc ?_ (by simp;try omega) _|refine Below.drew ?_))).mono ?_;rintro e w9 ⟨rfl,hw9⟩;rw [hw9];clear hw9 w9 HF)
            | (go_at_call 118;refine (F1.out _ _ (by repeat (first|exact Below.refl _ _|refine Below.setCell ?_ (by simp;try omega) _|refine Below.alloc ?_ (by simp;try omega) _|refine Below.drew ?_)) (by rfl)).mono ?_;rintro e w1 ⟨rfl,hb⟩;have zd:=kp2 (n:=W.heap.size) hb;(try clear zB z0 z1 zf zL zN);obtain ⟨zB,z0,z1,zf,zL,zN⟩:=zd;have B1:Hid (Below W.heap.size W w1):=bstep (by repeat (first|exact Below.refl _ _|refine Below.setCell ?_ (by simp;try omega) _|refine Below.alloc ?_ (by simp;try omega) _|refine Below.drew ?_)) hb;clear hb F1)
            | (go_at_call 118;refine (F0.out _ _ B1.out (by rfl)).mono ?_;rintro e w2 ⟨rfl,hb⟩;have zd:=kp2 (n:=W.heap.size) hb;(try clear zB z0 z1 zf zL zN);obtain ⟨zB,z0,z1,zf,zL,zN⟩:=zd;have B2:Hid (Below W.heap.size W w2):=bstep B1.out hb;obtain ⟨g9,cap9,bk9,o9,n9,cm9,j9,hj9,c91,c92,c93,c94,c95,c96,c97,c98⟩:=HFL.out w2 B2.out;simp only [Nat.zero_mul,Nat.zero_add] at c95;have c99:(0:Int)<(cs.length:Int):=c94;subst hj9;clear HFL;clear hb F0)
            | (go_at_call 101;refine (Ha.out _ _ (by rfl)).mono ?_;rintro e w9 ⟨rfl,hw9⟩;rw [hw9];clear hw9 w9 Ha)
            | (go_at_call 101;refine (Hb.out _ _ (by rfl)).mono ?_;rintro e w9 ⟨rfl,hw9⟩;rw [hw9];clear hw9 w9 Hb)
            | (go_at_call 178;refine (HS.out _ B2.out).mono ?_;rintro e w3 ⟨rfl,hb⟩;have zd:=kp2 (n:=W.heap.size) hb;(try clear zB z0 z1 zf zL zN);obtain ⟨zB,z0,z1,zf,zL,zN⟩:=zd;have B3:Hid (Below W.heap.size W w3):=bstep B2.out hb;clear hb HS))
          exact bodyPost_ret (v:=idE ((S1,S2),S3)) (by simp [results,Tryz.results92,go_sem,idE, *]) rfl ⟨rfl,(by repeat (first|refine Below.setCell ?_ (by simp;try omega) _|refine Below.alloc ?_ (by have:=B3.out.size;simp;try omega) _|exact B3.out))⟩
      | false =>
        have e9:¬ b9=1:=fun h=>by have:=(h9.1 h).1;cases this
        rw [if_neg e9] at hTT
        rw [hTT,firR,if_neg (by decide),hSS]
        clear e9 hTT h9 hSS Hb
        go_enter Tryz.func92,Tryz.ntmps92
        go_wp2_with (first
          | (go_at_call 76;refine (HI.out _ (by repeat (first|exact Below.refl _ _|refine Below.setCell ?_ (by simp;try omega) _|refine Below.alloc ?_ (by simp;try omega) _|refine Below.drew ?_))).mono ?_;rintro e w9 ⟨rfl,hw9⟩;rw [hw9];clear hw9 w9 HI)
          | (go_at_call 99;refine (HF.out _ (by repeat (first|exact Below.refl _ _|refine Below.setCell ?_ (by simp;try omega) _|refine Below.alloc ?_ (by simp;try omega) _|refine Below.drew ?_))).mono ?_;rintro e w9 ⟨rfl,hw9⟩;rw [hw9];clear hw9 w9 HF)
          | (go_at_call 118;refine (F1.out _ _ (by repeat (first|exact Below.refl _ _|refine Below.setCell ?_ (by simp;try omega) _|refine Below.alloc ?_ (by simp;try omega) _|refine Below.drew ?_)) (by rfl)).mono ?_;rintro e w1 ⟨rfl,hb⟩;have zd:=kp2 (n:=W.heap.size) hb;(try clear zB z0 z1 zf zL zN);obtain ⟨zB,z0,z1,zf,zL,zN⟩:=zd;have B1:Hid (Below W.heap.size W w1):=bstep (by repeat (first|exact Below.refl _ _|refine Below.setCell ?_ (by simp;try omega) _|refine Below.alloc ?_ (by simp;try omega) _|refine Below.drew ?_)) hb;clear hb F1)
          | (go_at_call 118;refine (F0.out _ _ B1.out (by rfl)).mono ?_;rintro e w2 ⟨rfl,hb⟩;have zd:=kp2 (n:=W.heap.size) hb;(try clear zB z0 z1 zf zL zN);obtain ⟨zB,z0,z1,zf,zL,zN⟩:=zd;have B2:Hid (Below W.heap.size W w2):=bstep B1.out hb;obtain ⟨g9,cap9,bk9,o9,n9,cm9,j9,hj9,c91,c92,c93,c94,c95,c96,c97,c98⟩:=HFL.out w2 B2.out;simp only [Nat.zero_mul,Nat.zero_add] at c95;have c99:(0:Int)<(cs.length:Int):=c94;subst hj9;clear HFL;clear hb F0)
          | (go_at_call 101;refine (Ha.out _ _ (by rfl)).mono ?_;rintro e w9 ⟨rfl,hw9⟩;rw [hw9];clear hw9 w9 Ha)
          | (go_at_call 178;refine (HS.out _ B2.out).mono ?_;rintro e w3 ⟨rfl,hb⟩;have zd:=kp2 (n:=W.heap.size) hb;(try clear zB z0 z1 zf zL zN);obtain ⟨zB,z0,z1,zf,zL,zN⟩:=zd;have B3:Hid (Below W.heap.size W w3):=bstep B2.out hb;clear hb HS))
        exact bodyPost_ret (v:=idE ((S1,S2),S3)) (by simp [results,Tryz.results92,go_sem,idE, *]) rfl ⟨rfl,(by repeat (first|refine Below.setCell ?_ (by simp;try omega) _|refine Below.alloc ?_ (by have:=B3.out.size;simp;try omega) _|exact B3.out))⟩
    · rw [if_neg hB] at hTT
      simp only [if_neg hB] at hTT
      have hT2:T.2≠0:=by rw [hTT];exact hB
      rw [firR,if_neg hT2,hSS]
      clear hTT hT2 hm0 HFL ht hJ hq hf h1 hSS
      generalize fndI ps 0 nm ds=F at *
      obtain ⟨f1,f2⟩:=F
      simp only at F0 hB
      go_enter Tryz.func92,Tryz.ntmps92
      go_wp2_with (first
        | (go_at_call 76;refine (HI.out _ (by repeat (first|exact Below.refl _ _|refine Below.setCell ?_ (by simp;try omega) _|refine Below.alloc ?_ (by simp;try omega) _|refine Below.drew ?_))).mono ?_;rintro e w9 ⟨rfl,hw9⟩;rw [hw9];clear hw9 w9 HI)
        | (go_at_call 99;refine (HF.out _ (by repeat (first|exact Below.refl _ _|refine Below.setCell ?_ (by simp;try omega) _|refine Below.alloc ?_ (by simp;try omega) _|refine Below.drew ?_))).mono ?_;rintro e w9 ⟨rfl,hw9⟩;rw [hw9];clear hw9 w9 HF)
        | (go_at_call 118;refine (F1.out _ _ (by repeat (first|exact Below.refl _ _|refine Below.setCell ?_ (by simp;try omega) _|refine Below.alloc ?_ (by simp;try omega) _|refine Below.drew ?_)) (by rfl)).mono ?_;rintro e w1 ⟨rfl,hb⟩;have zd:=kp2 (n:=W.heap.size) hb;(try clear zB z0 z1 zf zL zN);obtain ⟨zB,z0,z1,zf,zL,zN⟩:=zd;have B1:Hid (Below W.heap.size W w1):=bstep (by repeat (first|exact Below.refl _ _|refine Below.setCell ?_ (by simp;try omega) _|refine Below.alloc ?_ (by simp;try omega) _|refine Below.drew ?_)) hb;clear hb F1)
        | (go_at_call 118;refine (F0.out _ _ B1.out (by rfl)).mono ?_;rintro e w2 ⟨rfl,hb⟩;have zd:=kp2 (n:=W.heap.size) hb;(try clear zB z0 z1 zf zL zN);obtain ⟨zB,z0,z1,zf,zL,zN⟩:=zd;have B2:Hid (Below W.heap.size W w2):=bstep B1.out hb;clear hb F0)
        | (go_at_call 178;refine (HS.out _ B2.out).mono ?_;rintro e w3 ⟨rfl,hb⟩;have zd:=kp2 (n:=W.heap.size) hb;(try clear zB z0 z1 zf zL zN);obtain ⟨zB,z0,z1,zf,zL,zN⟩:=zd;have B3:Hid (Below W.heap.size W w3):=bstep B2.out hb;clear hb HS))
      exact bodyPost_ret (v:=idE ((S1,S2),S3)) (by simp [results,Tryz.results92,go_sem,idE, *]) rfl ⟨rfl,(by repeat (first|refine Below.setCell ?_ (by simp;try omega) _|refine Below.alloc ?_ (by have:=B3.out.size;simp;try omega) _|exact B3.out))⟩
theorem rLif_c {b:Nat} {cs:List Cls} {ps:List Plc} {W:World} (h:RAt b cs W) (ht:TwW cs ps) (hJ:WJ ps) (c:Int) (nm ds:ByteArray):Calls Tryz.prog 92 #[.pointer (some ⟨b,0,none⟩),.int .i64 c,.string nm,.string ds] W fun e w'=>e=.returned (idE (lifR ps nm ds c))∧Below W.heap.size W w':=by
  have HI:Hid (∀ w,Below W.heap.size W w→Calls Tryz.prog 76 #[.pointer (some ⟨b,0,none⟩),.int .i64 c] w fun e w'=>e=.returned (.bool (plcI ps c).isSome)∧w'=w):=fun w hb=>rIn_t (h.below hb) ht c
  rcases plcI_cases ps c with ⟨h1,_⟩|⟨k,q,rfl,h2,h1⟩
  · have e:lifR ps nm ds c=((0,0),3):=by rw [lifR,h1]
    rw [e]
    rw [h1] at HI
    simp only [Option.isSome_none] at HI
    clear h ht hJ e h1
    have B0:Hid (Below W.heap.size W W):=Below.refl _ _
    go_enter Tryz.func92,Tryz.ntmps92
    go_wp2_with (first
      | (go_at_call 76;refine (HI.out _ (by repeat (first|exact Below.refl _ _|refine Below.setCell ?_ (by simp;try omega) _|refine Below.alloc ?_ (by simp;try omega) _|refine Below.drew ?_))).mono ?_;rintro e w9 ⟨rfl,hw9⟩;rw [hw9];clear hw9 w9 HI))
    exact bodyPost_ret (v:=idE ((0,0),3)) (by simp [results,Tryz.results92,go_sem,idE, *]) rfl ⟨rfl,(by repeat (first|refine Below.setCell ?_ (by simp;try omega) _|refine Below.alloc ?_ (by have:=B0.out.size;simp;try omega) _|exact B0.out))⟩
  · cases hf:ifcI ps (k:Int) with
    | true=>exact rLif_if h ht hJ k q h2 hf nm ds
    | false =>
      have e:lifR ps nm ds (k:Int)=((0,0),23):=by rw [lifR,h1];simp only;rw [hf];rfl
      rw [e]
      have HF:Hid (∀ w,Below W.heap.size W w→Calls Tryz.prog 99 #[.pointer (some ⟨b,0,none⟩),.int .i64 (k:Int)] w fun e w'=>e=.returned (.bool false)∧w'=w):=fun w hb=>(rIsIface_c (h.below hb) k).mono fun e w' zz=>⟨by rw [zz.1,ifcC_eq ht,hf],zz.2⟩
      rw [h1] at HI
      simp only [Option.isSome_some] at HI
      clear h ht hJ e h1 h2 hf
      have B0:Hid (Below W.heap.size W W):=Below.refl _ _
      go_enter Tryz.func92,Tryz.ntmps92
      go_wp2_with (first
        | (go_at_call 76;refine (HI.out _ (by repeat (first|exact Below.refl _ _|refine Below.setCell ?_ (by simp;try omega) _|refine Below.alloc ?_ (by simp;try omega) _|refine Below.drew ?_))).mono ?_;rintro e w9 ⟨rfl,hw9⟩;rw [hw9];clear hw9 w9 HI)
        | (go_at_call 99;refine (HF.out _ (by repeat (first|exact Below.refl _ _|refine Below.setCell ?_ (by simp;try omega) _|refine Below.alloc ?_ (by simp;try omega) _|refine Below.drew ?_))).mono ?_;rintro e w9 ⟨rfl,hw9⟩;rw [hw9];clear hw9 w9 HF))
      exact bodyPost_ret (v:=idE ((0,0),23)) (by simp [results,Tryz.results92,go_sem,idE, *]) rfl ⟨rfl,(by repeat (first|refine Below.setCell ?_ (by simp;try omega) _|refine Below.alloc ?_ (by have:=B0.out.size;simp;try omega) _|exact B0.out))⟩
end Go.Proofs.YtjlfnelihbdhjaaGreat
