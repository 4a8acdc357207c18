import Derived.Test.YtkclpcmkplbclaaGreatChE
import Derived.Test.YtkclpcmkplbclaaGreatRfN
import Derived.Test.YtkclpcmkplbclaaGreatMxA
import Derived.Test.YtkclpcmkplbclaaGreatWdB
import Derived.Test.YtkclpcmkplbclaaGreatRfF
import Derived.Test.YtkclpcmkplbclaaGreatSoA
set_option maxRecDepth 100000
namespace Go.Proofs.YtkclpcmkplbclaaGreat
open Go.RowKit Go.Maps
theorem spC_eq6 {cs:List Cls} {ps:List Plc} (ht:TwW cs ps) (a b:Int):spC cs a b=spI ps a b:=by
  unfold spC spI
  rcases ht.tw.clsI a with ⟨h1,h2⟩|⟨k,c,q,rfl,hc,hq,hcq,h1,h2⟩
  · rw [h1,h2]
  · rw [h1,h2]
    rcases ht.tw.clsI b with ⟨g1,g2⟩|⟨k',c',q',rfl,hc',hq',hcq',g1,g2⟩
    · rw [g1,g2]
    · rw [g1,g2]
      show togB c c'=samePk q q'
      unfold togB samePk
      rw [hcq,hcq'];rfl
theorem ifcC_eq6 {cs:List Cls} {ps:List Plc} (ht:TwW cs ps) (a:Int):ifcC cs a=ifcI ps a:=by
  unfold ifcC ifcI
  rcases ht.tw.clsI a with ⟨h1,h2⟩|⟨k,c,q,rfl,hc,hq,hcq,h1,h2⟩
  · rw [h1,h2]
  · rw [h1,h2]
    simp only
    rw [hcq];rfl
set_option maxHeartbeats 2000000 in
theorem rSup_c6 {b:Nat} {cs:List Cls} {ps:List Plc} {W:World} (h:RAt b cs W) (ht:TwW cs ps) (d:Int):Calls Tryz.prog 43 #[.pointer (some ⟨b,0,none⟩),.int .i64 d] W fun e w'=>e=.returned (.tuple #[.int .i64 (supI ps d).1,.int .i64 (supI ps d).2])∧w'=W:=by
  rcases plcI_cases ps d with ⟨h1,h2⟩|⟨k,q,rfl,hq,h1⟩
  · have e:supI ps d=(0,3):=by rw [supI,h1]
    rw [e]
    have HI:Hid (Calls Tryz.prog 84 #[.pointer (some ⟨b,0,none⟩),.int .i64 d] W fun e w'=>e=.returned (.bool false)∧w'=W):=by
      have:=rIn_t h ht d
      rw [h1] at this
      exact this
    clear h ht h1 h2 e
    go_enter Tryz.func43,Tryz.ntmps43
    go_wp2_with (go_at_call 84;refine HI.out.mono ?_;rintro e w9 ⟨rfl,hw9⟩;rw [hw9];clear hw9 w9 HI)
    exact bodyPost_ret (results_tmp2 rfl _ _ _) rfl ⟨rfl,rfl⟩
  · have HI:Hid (Calls Tryz.prog 84 #[.pointer (some ⟨b,0,none⟩),.int .i64 (k:Int)] W fun e w'=>e=.returned (.bool true)∧w'=W):=by
      have:=rIn_t h ht (k:Int)
      rw [h1] at this
      exact this
    by_cases h0:k=0
    · subst h0
      have e:supI ps ((0:Nat):Int)=(0,6):=by rw [supI,h1];rfl
      rw [e]
      clear h ht h1 hq e
      go_enter Tryz.func43,Tryz.ntmps43
      go_wp2_with (go_at_call 84;refine HI.out.mono ?_;rintro e w9 ⟨rfl,hw9⟩;rw [hw9];clear hw9 w9 HI)
      exact bodyPost_ret (results_tmp2 rfl _ _ _) rfl ⟨rfl,rfl⟩
    · have hkI:¬ (k:Int)=0:=by omega
      have e:supI ps (k:Int)=((q.sp:Int),0):=by rw [supI,h1];simp [h0]
      rw [e]
      obtain ⟨c,hc,_⟩:=ht.tw.at' hq
      have hlen:=ht.tw.len
      have hsu:=ht.super hc (by omega)
      have hsp:spO (ps.map nd) k=q.sp:=by rw [spO,nd_at' hq];rfl
      have HN:Hid (Calls Tryz.prog 94 #[.pointer (some ⟨b,0,none⟩),.string c.su] W fun e w'=>e=.returned (.int .i64 (q.sp:Int))∧w'=W):=by
        have:=rNamed_c h c.su (by have:=ht.wi.hi;omega)
        rw [hsu,hsp] at this
        exact this
      obtain ⟨g,cap,vi,vm,b0,hlt,hgl,c0,c1,c2,c3,c4,c5,_,_⟩:=h.cells hc
      have hkL:(k:Int)<(cs.length:Int):=by have:=(List.getElem?_eq_some_iff.1 hc).1;omega
      generalize cs.length=L at *
      generalize q.sp=sp at *
      clear h ht h1 hq e hc hsu hsp c0 c2 c3 c4 c5
      go_enter Tryz.func43,Tryz.ntmps43
      go_wp2_with (first
        | (go_at_call 84;refine HI.out.mono ?_;rintro e w9 ⟨rfl,hw9⟩;rw [hw9];clear hw9 w9 HI)
        | (go_at_call 94;refine HN.out.mono ?_;rintro e w9 ⟨rfl,hw9⟩;rw [hw9];clear hw9 w9 HN))
      exact bodyPost_ret (results_tmp2 rfl _ _ _) rfl ⟨rfl,rfl⟩
theorem sameL_self:∀ l:List Ins,sameL l l=true
  | []=>rfl
  | x::a=>by rw [sameL,sameL_self a];simp [sameI,sameRefB]
theorem sameM_self (m:Mth):sameM m m=true:=by
  rw [sameM,sameL_self];simp
theorem two_meth {cs:List Cls} {ps:List Plc} (ht:TwW cs ps) (a b:Int):∃ (m:Mth) (E:Int),(∀ (b1:Nat) (w:World),WAt b1 ps w→Calls Tryz.prog 53 #[.pointer (some ⟨b1,0,none⟩),.agg #[.int .i64 a,.int .i64 b]] w fun e w'=>(∃ sa sc,e=.returned (.tuple #[.agg #[.string m.nm,.string m.ds,.int .i64 m.fl,.int .i64 m.lo,.int .i64 m.st,.slice sa m.code.length sc],.int .i64 E])∧IsInss w' (.slice sa m.code.length sc) m.code)∧Below w.heap.size w w')∧(∀ (b2:Nat) (w:World),RAt b2 cs w→Calls Tryz.prog 54 #[.pointer (some ⟨b2,0,none⟩),.agg #[.int .i64 a,.int .i64 b]] w fun e w'=>(∃ sa sc,e=.returned (.tuple #[.agg #[.string m.nm,.string m.ds,.int .i64 m.fl,.int .i64 m.lo,.int .i64 m.st,.slice sa m.code.length sc],.int .i64 E])∧IsInss w' (.slice sa m.code.length sc) m.code)∧Below w.heap.size w w'):=by
  cases hm:methI ps a b with
  | none =>
    have hnil:∀ w:World,IsInss w (.slice none 0 0) []:=fun w=>⟨none,0,rfl,Nat.le_refl _,by unfold maxLen;simp,fun h=>absurd rfl h⟩
    refine ⟨⟨⟨#[]⟩,⟨#[]⟩,0,0,0,[]⟩,3,fun b1 w hw=>?_,fun b2 w hw=>?_⟩
    · refine (method_c hw ht.wi.pb a b).mono fun e w' zz=>⟨?_,zz.2⟩
      have:=zz.1
      rw [hm] at this
      exact ⟨none,0,this,hnil w'⟩
    · refine (rMethod_d hw ht a b).mono fun e w' zz=>⟨?_,zz.2⟩
      have:=zz.1
      rw [hm] at this
      exact ⟨none,0,this,hnil w'⟩
  | some x =>
    obtain ⟨m,rfl⟩:∃ m,x=hmOf m:=by
      rw [methI] at hm
      cases hp:plcI ps a with
      | none=>rw [hp] at hm;cases hm
      | some q =>
        rw [hp] at hm
        have hm2:methP q b=some x:=hm
        rcases plcI_cases ps a with ⟨h1,_⟩|⟨k,q',_,hq,h1⟩
        · rw [h1] at hp;cases hp
        · rw [h1] at hp
          obtain rfl:=Option.some.inj hp
          obtain ⟨c0,_,hcq⟩:=ht.tw.at' hq
          rw [methP] at hm2
          split at hm2
          · rw [hcq] at hm2
            have hx:=List.mem_of_getElem? hm2
            obtain ⟨m,_,e⟩:=List.mem_map.1 hx
            exact ⟨m,e.symm⟩
          · cases hm2
    refine ⟨m,0,fun b1 w hw=>?_,fun b2 w hw=>?_⟩
    · refine (method_c hw ht.wi.pb a b).mono fun e w' zz=>⟨?_,zz.2⟩
      have h1:=zz.1
      rw [hm] at h1
      obtain ⟨v,h2,h3⟩:=h1
      obtain ⟨sa,sc,rfl⟩:=ownv h3
      exact ⟨sa,sc,h2,rds_inss (own_rds h3)⟩
    · refine (rMethod_d hw ht a b).mono fun e w' zz=>⟨?_,zz.2⟩
      have h1:=zz.1
      rw [hm] at h1
      obtain ⟨sa,sc,N,h2,h3⟩:=h1
      exact ⟨sa,sc,h2,rds_inss (own_rds h3)⟩
theorem HierAsks_any (v:Value) (l:List Cls) (a b:Int) (nm ds:ByteArray) (W:World) (h:IsClss W v l) (hz:∀ c∈l,ClsZ c) (hnz:nm.size≤maxLen):Calls Tryz.prog 10 #[v,.int .i64 a,.int .i64 b,.string nm,.string ds] W fun e w'=>e=.returned (.bool true)∧Below W.heap.size W w':=by
  have ht:TwW (wldC l) (wld l):=twW l (clss_w h)
  have hJ:WJ (wld l):=(wld_wj l (clss_w h)).2
  have HB:=fun (w:World) (hb:Below W.heap.size W w)=>built6_c v l w (clss_keep h hb) hz
  generalize wld l=ps at *
  generalize wldC l=cs at *
  obtain ⟨m,E5,hm1,hm2⟩:=two_meth ht a b
  obtain ⟨y1,y2,hy⟩:∃ y1 y2,bnV (lookL ps nm.data.toList)=.tuple #[.int .i64 y1,.int .i64 y2]:=by
    cases lookL ps nm.data.toList with
    | none=>exact ⟨_,_,rfl⟩
    | some j=>exact ⟨_,_,rfl⟩
  have hy2:bnC (nmdI nm.toList cs 0)=.tuple #[.int .i64 y1,.int .i64 y2]:=by
    rw [← hy,Lib.toList_data,look_nmd ht.tw ht.nm]
    cases lookL ps nm.data.toList with
    | none=>rfl
    | some j=>show bnC (j:Int)=_;rw [bnC,if_neg (by omega)];rfl
  have hlen:cs.length≤300:=by rw [ht.tw.len];exact ht.wi.hi
  have hch:(chR ps a).1.length≤1000000000:=by
    rw [chR]
    rcases plcI_cases ps a with ⟨hn,_⟩|⟨k,q,rfl,hk,hq⟩
    · rw [hn];simp
    · rw [hq]
      exact Nat.le_trans (chL_len ht.wi (List.getElem?_eq_some_iff.1 hk).1) (by omega)
  have hcl:(clR ps a).1.length≤1000000000:=by
    rw [clR]
    rcases plcI_cases ps a with ⟨hn,_⟩|⟨k,q,rfl,hk,hq⟩
    · rw [hn];simp
    · rw [hq]
      have h1:=wi_cl ht.wi hk
      have h2:=ht.wi.hi
      show q.cl.length≤1000000000
      omega
  refine asks_w v W a b nm ds (supI ps a).1 (supI ps a).2 (dpI ps a).1 (dpI ps a).2 ((chR ps a).1.map numV) (chR ps a).1.length (chR ps a).2 ((clR ps a).1.map numV) (clR ps a).1.length (clR ps a).2 (extI ps a b) (ifcI ps a) (spI ps a b) (fndI ps a nm ds).1 (fndI ps a nm ds).2 m.nm m.ds m.fl m.lo m.st m.code.length m.code E5 y1 y2 awake_any (fun w hb=>(HB w hb).mono ?_) (fun w u1 u2 h1 h2=>sameNums_rds _ u1 u2 w h1 h2 hch) (fun w u1 u2 h1 h2=>sameNums_rds _ u1 u2 w h1 h2 hcl) (fun w u1 u2 h1 h2=>(rSameMethod_any m m u1 u2 w h1 h2).mono fun e w' zz=>⟨by rw [zz.1,sameM_self],zz.2⟩)
  rintro e w2 ⟨⟨b1,b2,rfl,hw,hr⟩,hb2⟩
  refine ⟨⟨b1,b2,rfl,?_⟩,hb2⟩
  constructor
  · exact fun w hb=>(sup_c (hw.below hb) a).mono fun e w' zz=>⟨zz.1,by rw [zz.2];exact Below.refl _ _⟩
  · exact fun w hb=>depth_r (hw.below hb) ht.wi a
  · exact fun w hb=>chain_r (hw.below hb) ht.wi a
  · exact fun w hb=>closure_r (hw.below hb) ht.wi a
  · exact fun w hb=>extends_c (hw.below hb) ht.wi a b
  · exact fun w hb=>isIface_c (hw.below hb) a
  · exact fun w hb=>samePk_c (hw.below hb) ht.wi.nm a b
  · exact fun w hb=>find_c (hw.below hb) ht.wi.pb a nm ds
  · exact fun w hb=>hm1 b1 w (hw.below hb)
  · exact fun w hb=>(byName_c (hw.below hb) nm hnz).mono fun e w' zz=>⟨by rw [zz.1,hy],zz.2⟩
  · exact fun w hb=>(rSup_c6 (hr.below hb) ht a).mono fun e w' zz=>⟨zz.1,by rw [zz.2];exact Below.refl _ _⟩
  · exact fun w hb=>rDepth_r (hr.below hb) ht a
  · exact fun w hb=>rChain_r (hr.below hb) ht a
  · exact fun w hb=>rClosure_r (hr.below hb) ht hJ a
  · exact fun w hb=>rExtends_c (hr.below hb) ht hJ a b
  · exact fun w hb=>(rIsIface_c (hr.below hb) a).mono fun e w' zz=>⟨by rw [zz.1,ifcC_eq6 ht],by rw [zz.2];exact Below.refl _ _⟩
  · exact fun w hb=>(rSame_c (hr.below hb) (ht.tw.sz ht.wi) a b).mono fun e w' zz=>⟨by rw [zz.1,spC_eq6 ht],zz.2⟩
  · exact fun w hb=>rFind_c (hr.below hb) ht a nm ds
  · exact fun w hb=>hm2 b2 w (hr.below hb)
  · exact fun w hb=>(rByName_c (hr.below hb) nm hlen).mono fun e w' zz=>⟨by rw [zz.1,hy2],by rw [zz.2];exact Below.refl _ _⟩
end Go.Proofs.YtkclpcmkplbclaaGreat
