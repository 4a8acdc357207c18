import Derived.Test.YtjlfnelihbdhjaaGreatJoin
import Derived.Test.YtjlfnelihbdhjaaGreatOrder
import Derived.Deep.QuietTactic
import Derived.BigQuiet
set_option maxRecDepth 100000
namespace Go.Proofs.YtjlfnelihbdhjaaGreat
open Go.RowKit
set_option maxHeartbeats 400000 in
theorem rLetter_any (c:Int) (w:World) :
    Calls Tryz.prog 280 #[.int .u8 c] w fun e w'=>e=.returned (.bool (ltrI c))∧w'=w:=by
  go_enter Tryz.func280,Tryz.ntmps280
  go_wp2
  all_goals (go_ret;exact ⟨ret_bool (by rw [Bool.eq_iff_iff];simp [ltrI];try omega),rfl⟩)
theorem lastIdx_hit (s:ByteArray) (k:Nat) (h:k<s.size) (e:((s[k].toNat:Int) == 47)=true):Lib.Pa.lastIdx s.data.toList 47 (k+1)=(k:Int):=by
  rw [Lib.Pa.lastIdx,Lib.Pa.at_eq s k h,if_pos]
  congr 1;apply UInt8.toNat_inj.1;have:=beq_iff_eq.1 e;simpa using (by omega:(s[k]).toNat=47)
theorem lastIdx_miss (s:ByteArray) (k:Nat) (h:k<s.size) (e:((s[k].toNat:Int) == 47)=false):Lib.Pa.lastIdx s.data.toList 47 (k+1)=Lib.Pa.lastIdx s.data.toList 47 k:=by
  rw [Lib.Pa.lastIdx,Lib.Pa.at_eq s k h,if_neg]
  intro q
  have h':s[k]=47:=by simpa using q
  rw [h'] at e;simp at e
theorem ltr_not_dig (c:Int) (h:ltrI c=true):digI c=false:=by
  simp [ltrI] at h
  simp [digI]
  omega
set_option maxHeartbeats 1000000 in
theorem rPart_any (s:ByteArray) (hs:s.size≤maxLen) (w:World) :
    Calls Tryz.prog 236 #[.string s] w fun e w'=>e=.returned (.bool (partL s.data.toList))∧w'=w:=by
  unfold maxLen at hs
  have HP:Hid (∀ h:0<s.size,partL s.data.toList=(!digI (s[0]).toNat&&s.data.toList.all wordB)):=partL_head s
  have H0:Hid (s.size=0→partL s.data.toList=false):=fun h=>by
    have:s.data.toList.length=0:=by simpa using h
    rw [List.eq_nil_of_length_eq_zero this];rfl
  generalize partL s.data.toList=b at *
  go_enter Tryz.func236,Tryz.ntmps236
  go_wp2
  go_loop [3] (fun i=>∃ k:Nat,k≤s.size∧i=.int .i64 k∧Hid ((s.data.toList.take k).all wordB=true)∧Hid (∀ h:0<s.size,0<k→digI (s[0]).toNat=false)) (fun i=>s.size - (intOf i).toNat)
  case atStart=>exact ⟨0,Nat.zero_le _,rfl,by simp [Hid],fun _ h=>absurd h (by omega)⟩
  case round =>
    obtain ⟨k,hk,rfl,hr,hd0⟩:=hrel
    by_cases hlt:k<s.size
    · have HS:Hid _:=all_take_succ s wordB k hlt
      have HF:Hid _:=all_false_of s wordB k hlt
      have hw:wordB s[k]=(ltrI (s[k]).toNat||digI (s[k]).toNat):=rfl
      rw [hw] at HS HF
      clear hw
      have HL:Hid (∀ w,_):=rLetter_any (s[k]).toNat
      have HN:Hid _:=ltr_not_dig (s[k]).toNat
      have HD:Hid (digI (s[k]).toNat=(decide (48≤((s[k]).toNat:Int))&&decide (((s[k]).toNat:Int)≤57))):=rfl
      have HK:Hid (k=0→∀ h:0<s.size,digI (s[0]).toNat=digI (s[k]).toNat):=fun e h=>by subst e;rfl
      generalize ltrI (s[k]).toNat=l at *
      cases l
      · by_cases h0:k=0
        · have hb:b=false:=by
            rw [HP.out (by omega)]
            rw [HK.out h0 (by omega)]
            have:=HF.out
            generalize digI (s[k]).toNat=d at *
            cases d
            · rw [this rfl];rfl
            · rfl
          subst hb
          subst h0
          clear HP H0 HS HF HN HD HK hr hd0
          go_wp2_with (go_at_call 280;refine ((HL.out) _).mono ?_;rintro e w' ⟨rfl,rfl⟩)
          go_ret
          exact ⟨rfl,rfl⟩
        · have hkb:((k:Int) == 0)=false:=by rw [beq_eq_false_iff_ne];omega
          generalize digI (s[k]).toNat=d at *
          cases d
          · have hb:b=false:=by rw [HP.out (by omega),HF.out rfl];simp
            subst hb
            have hor:((s[k]).toNat:Int)<48∨57<((s[k]).toNat:Int):=by have:=HD.out;simp at this;omega
            clear HP H0 HS HF HN HD HK hr hd0
            rcases hor with h|h
            · go_wp2_with (go_at_call 280;refine ((HL.out) _).mono ?_;rintro e w' ⟨rfl,rfl⟩)
              go_ret
              exact ⟨rfl,rfl⟩
            · go_wp2_with (go_at_call 280;refine ((HL.out) _).mono ?_;rintro e w' ⟨rfl,rfl⟩)
              go_ret
              exact ⟨rfl,rfl⟩
          · have h1:(48:Int)≤((s[k]).toNat:Int):=by have:=HD.out;simp at this;omega
            have h2:((s[k]).toNat:Int)≤57:=by have:=HD.out;simp at this;omega
            clear HP H0 HF HN HD HK
            go_wp2_with (go_at_call 280;refine ((HL.out) _).mono ?_;rintro e w' ⟨rfl,rfl⟩)
            go_round
            case rel=>exact ⟨k+1,by omega,by go_num,by rw [Hid,HS.out,hr.out];rfl,fun h _=>hd0.out h (by omega)⟩
            case measure=>simp [intOf];omega
      · have HQ:Hid (∀ h:0<s.size,0<k+1→digI (s[0]).toNat=false):=fun h _=>by
          by_cases h0:k=0
          · rw [HK.out h0 h];exact HN.out rfl
          · exact hd0.out h (by omega)
        clear HP H0 HF HN HD HK
        go_wp2_with (go_at_call 280;refine ((HL.out) _).mono ?_;rintro e w' ⟨rfl,rfl⟩)
        go_round
        case rel=>exact ⟨k+1,by omega,by go_num,by rw [Hid,HS.out,hr.out];rfl,HQ⟩
        case measure=>simp [intOf];omega
    · have hk':k=s.size:=by omega
      by_cases hz:s.size=0
      · have hb:=H0.out hz
        clear HP H0 hr hd0 hk'
        go_wp2
        go_ret
        exact ⟨ret_bool rfl,rfl⟩
      · have hb:b=true:=by
          rw [HP.out (by omega),hd0.out (by omega) (by omega),← all_take_full,← hk',hr.out];rfl
        clear HP H0 hr hd0 hk'
        go_wp2
        go_ret
        exact ⟨ret_bool (by simp;omega),rfl⟩
set_option maxHeartbeats 400000 in
theorem rMember_any (s:ByteArray) (hs:s.size≤maxLen) (w:World) :
    Calls Tryz.prog 172 #[.string s] w fun e w'=>e=.returned (.bool (memberL s.data.toList))∧w'=w:=by
  have hlen:s.data.toList.length=s.size:=by simp
  have HM:Hid (memberL s.data.toList=((s.toList == [60,105,110,105,116,62])||(decide (s.size≤60)&&partL s.data.toList))):=by
    unfold memberL;rw [init_beq,hlen];rfl
  have HI:Hid (∀ w,_):=rPart_any s hs
  unfold maxLen at hs
  generalize memberL s.data.toList=b at *
  generalize partL s.data.toList=d at *
  clear hlen
  by_cases hq:(s.toList == [60,105,110,105,116,62])=true
  · go_enter Tryz.func172,Tryz.ntmps172
    go_wp2
    go_ret
    exact ⟨ret_bool (by rw [HM.out];simp [hq]),rfl⟩
  · have hq':(s.toList == [60,105,110,105,116,62])=false:=by simpa using hq
    clear hq
    by_cases h60:s.size≤60
    · go_enter Tryz.func172,Tryz.ntmps172
      go_wp2_with (go_at_call 236;refine ((HI.out) _).mono ?_;rintro e w' ⟨rfl,rfl⟩)
      go_ret
      exact ⟨ret_bool (by rw [HM.out,hq'];simp [h60]),rfl⟩
    · go_enter Tryz.func172,Tryz.ntmps172
      go_wp2
      go_ret
      exact ⟨ret_bool (by rw [HM.out,hq'];simp [h60]),rfl⟩
set_option maxHeartbeats 400000 in
theorem rLast_any (s:ByteArray) (hs:s.size≤maxLen) (w:World) :
    Calls Tryz.prog 295 #[.string s] w fun e w'=>e=.returned (.int .i64 (lastL s.data.toList))∧w'=w:=by
  unfold maxLen at hs
  have HE:Hid (lastL s.data.toList=Lib.Pa.lastIdx s.data.toList 47 s.size):=by
    unfold lastL Lib.Pa.lastIndexByte;rw [Hid];congr 1
  go_enter Tryz.func295,Tryz.ntmps295
  go_wp2
  go_loop [3,4] (fun t i=>∃ k:Nat,k≤s.size∧i=.int .i64 k∧t=.int .i64 (Lib.Pa.lastIdx s.data.toList 47 k)) (fun _ i=>s.size - (intOf i).toNat)
  case atStart=>exact ⟨0,Nat.zero_le _,rfl,rfl⟩
  case round =>
    obtain ⟨k,hk,rfl,rfl⟩:=hrel
    by_cases hlt:k<s.size
    · cases he:(((s[k]).toNat:Int) == 47) with
      | true =>
        have H1:Hid _:=lastIdx_hit s k hlt he
        go_wp2
        go_round
        case rel=>exact ⟨k+1,by omega,by go_num,by rw [H1.out]⟩
        case measure=>simp [intOf];omega
      | false =>
        have H1:Hid _:=lastIdx_miss s k hlt he
        go_wp2
        go_round
        case rel=>exact ⟨k+1,by omega,by go_num,by rw [H1.out]⟩
        case measure=>simp [intOf];omega
    · have hk':k=s.size:=by omega
      go_wp2
      go_ret
      exact ⟨ret_int (by rw [HE.out]),rfl⟩
set_option maxHeartbeats 400000 in
theorem rPackage_any (s:ByteArray) (hs:s.size≤maxLen) (w:World) :
    Calls Tryz.prog 262 #[.string s] w fun e w'=>e=.returned (.string ⟨(pkgL s.data.toList).toArray⟩)∧w'=w:=by
  have hl:=last_le s
  have HP:Hid (pkgL s.data.toList=s.data.toList.take (lastL s.data.toList).toNat):=rfl
  have hm:=hs
  unfold maxLen at hm
  have HB:Hid (∀ w,_):=rLast_any s hs
  generalize lastL s.data.toList=x at *
  by_cases hx:x=-1
  · subst hx
    go_enter Tryz.func262,Tryz.ntmps262
    go_wp2_with (go_at_call 295;refine ((HB.out) _).mono ?_;rintro e w' ⟨rfl,rfl⟩)
    go_ret
    refine ⟨ret_str ?_,rfl⟩
    rw [HP.out]
    apply bytes_ext;simp
  · obtain ⟨n,rfl⟩:∃ n:Nat,x=n:=⟨x.toNat,by omega⟩
    have hn:n<s.size:=by omega
    clear hx hl
    go_enter Tryz.func262,Tryz.ntmps262
    go_wp2_with (go_at_call 295;refine ((HB.out) _).mono ?_;rintro e w' ⟨rfl,rfl⟩)
    go_ret
    refine ⟨ret_str ?_,rfl⟩
    rw [HP.out]
    apply bytes_ext;simp
theorem rParts_rel {w wr w1:World} {B:Nat} {v v':Value} {done:List (List UInt8)} {part:ByteArray} {o:Obj}
    (hB:B≤wr.heap.size) (hown:wr.ownsRow B 9 1 v done.length (done.map strV)) (hbel:Below B w wr)
    (hown':w1.ownsRow B 9 1 v' (done.length+1) (done.map strV++[.string part])) (hg:(wr.alloc o).grownBy w1 v.ownBlock) :
    w1.ownsRow B 9 1 v' (done++[part.data.toList]).length ((done++[part.data.toList]).map strV)∧Below B w w1:=by
  constructor
  · simpa [strV] using hown'
  · refine (hbel.alloc hB o).grown hg (by simp;omega) ?_
    intro k hk
    exact (hown.lt k hk).1
theorem free_succ (s:ByteArray) (f k:Nat) (hf:f≤k) (hlt:k<s.size) (h:(47:UInt8) ∉ (s.data.toList.drop f).take (k - f)) (e:(((s[k]).toNat:Int) == 47)=false) :
    (47:UInt8) ∉ (s.data.toList.drop f).take (k+1 - f):=by
  have hl:k - f<(s.data.toList.drop f).length:=by rw [List.length_drop];simp;omega
  rw [show k+1 - f=(k - f)+1 by omega,List.take_succ_eq_append_getElem hl]
  intro m
  rcases List.mem_append.1 m with m|m
  · exact h m
  · have m2:=List.mem_singleton.1 m
    rw [List.getElem_drop] at m2
    have e3:s.data.toList[f+(k - f)]?=some s[k]:=by rw [show f+(k - f)=k by omega];exact Lib.Pa.at_eq s k hlt
    rw [List.getElem?_eq_getElem (by simp;omega)] at e3
    have e4:s[k]=47:=by rw [m2];exact (Option.some.inj e3).symm
    rw [e4] at e;simp at e
theorem cut_here (s:ByteArray) (f k:Nat) (hf:f≤k) (hlt:k<s.size) (e:(((s[k]).toNat:Int) == 47)=true) :
    s.data.toList.drop f=(s.data.toList.drop f).take (k - f)++47::s.data.toList.drop (k+1):=by
  have h1:s.data.toList.drop f=(s.data.toList.drop f).take (k - f)++(s.data.toList.drop f).drop (k - f):=(List.take_append_drop _ _).symm
  have h2:(s.data.toList.drop f).drop (k - f)=s.data.toList.drop k:=by rw [List.drop_drop];congr 1;omega
  have h3:s.data.toList.drop k=47::s.data.toList.drop (k+1):=by
    rw [List.drop_eq_getElem_cons (by simpa using hlt)]
    congr 1
    have e3:=Lib.Pa.at_eq s k hlt
    rw [List.getElem?_eq_getElem (by simpa using hlt)] at e3
    rw [Option.some.inj e3]
    apply UInt8.toNat_inj.1;have:=beq_iff_eq.1 e;simpa using (by omega:(s[k]).toNat=47)
  rw [h2,h3] at h1
  exact h1
set_option maxHeartbeats 1000000 in
theorem rParts_any (s:ByteArray) (hs:s.size≤1099511627776) (w:World) :
    Calls Tryz.prog 242 #[.string s] w fun e w'=>∃ v,e=.returned v∧w'.ownsRow w.heap.size 9 1 v (partsL s.data.toList).length ((partsL s.data.toList).map strV)∧Below w.heap.size w w':=by
  obtain ⟨i0,hi,hz0,hz1,hz2⟩:=info_parts Tryz.info9
  have HL:Hid _:=partsL_length s.data.toList
  have HZ:Hid (s.data.toList.length=s.size):=by simp [Hid]
  go_enter Tryz.func242,Tryz.ntmps242
  go_wp2
  go_loopw [3,4,5] (fun v fr i wr=>∃ (done:List (List UInt8)) (f k:Nat),fr=.int .i64 f∧i=.int .i64 k∧f≤k∧k≤s.size ∧
      wr.ownsRow w.heap.size 9 1 v done.length (done.map strV)∧Below w.heap.size w wr∧Hid ((47:UInt8) ∉ (s.data.toList.drop f).take (k - f))∧Hid (done++partsL (s.data.toList.drop f)=partsL s.data.toList))
    (fun _ _ i _=>s.size - (intOf i).toNat)
  case atStart=>exact ⟨[],0,0,rfl,rfl,Nat.le_refl _,Nat.zero_le _,World.ownsRow_nil _ _ _ _,Below.refl _ _,by simp [Hid],by simp [Hid]⟩
  case round =>
    obtain ⟨done,f,k,rfl,rfl,hfk,hks,hown,hbel,hfree,hp⟩:=hrel
    have hbs:=hbel.size
    have hn1:=partsL_ne (s.data.toList.drop f)
    have hn2:1≤(partsL (s.data.toList.drop f)).length:=by
      cases e:partsL (s.data.toList.drop f) with
      | nil=>exact absurd e hn1
      | cons a b=>simp
    have hdl:done.length+1≤s.size+1:=by have:=HL.out;rw [← hp.out,HZ.out,List.length_append] at this;omega
    clear hn1 hn2
    by_cases hlt:k<s.size
    · cases he:(((s[k]).toNat:Int) == 47) with
      | true =>
        have HC:Hid _:=cut_here s f k hfk hlt he
        have hd:done++[(s.extract f k).data.toList]++partsL (s.data.toList.drop (k+1))=partsL s.data.toList:=by
          rw [← hp.out,Lib.extract_data]
          conv=>rhs;rw [HC.out,partsL_cut _ _ hfree.out]
          simp
        have HD:Hid _:=hd
        clear hd HC hp hfree
        have hex:(s.extract f k).size≤s.size:=by simp;omega
        go_wp2_with (at_builtin;refine wpList_append_own _ rfl _ _ 45 rfl w.heap.size 9 i0 (.string ⟨#[]⟩) 1 16 Tryz.underlying45 hi hz0 hz1 hz2 rfl (by decide) _ _ _ rfl (hown.alloc _) ⟨wr.heap.size,0,none⟩ 1 1 [.string (s.extract f k)] rfl rfl ?c1 ?c2 ?c3 ?c4 ?c5 ?_)
        case c1=>exact cell_one_new _ _ _
        case c2=>intro u hu;simp at hu;subst hu;rfl
        case c3=>unfold maxLen;omega
        case c4=>omega
        case c5=>simp;omega
        · intro v' w1 hown' hgrow _
          have R:=rParts_rel hbs hown hbel hown' hgrow
          clear hown' hgrow hown
          go_wp2
          go_roundw
          case rel=>exact ⟨done++[(s.extract f k).data.toList],k+1,k+1,by go_num,by go_num,Nat.le_refl _,by omega,R.1,R.2,by simp [Hid],HD.out⟩
          case measure=>simp [intOf];omega
      | false =>
        have HF:Hid _:=free_succ s f k hfk hlt hfree.out he
        clear hfree
        go_wp2
        go_roundw
        case rel=>exact ⟨done,f,k+1,rfl,by go_num,by omega,by omega,hown,hbel,HF,hp⟩
        case measure=>simp [intOf];omega
    · have hk':k=s.size:=by omega
      have hd:done++[(s.extract f s.size).data.toList]=partsL s.data.toList:=by
        rw [← hp.out,Lib.extract_to_end]
        congr 1
        have:(47:UInt8) ∉ s.data.toList.drop f:=by
          have:=hfree.out
          rw [hk',List.take_of_length_le (by rw [List.length_drop,HZ.out];omega)] at this
          exact this
        rw [partsL_free _ this]
      have HD:Hid _:=hd
      subst hk'
      clear hd hp hfree
      go_wp2_with (at_builtin;refine wpList_append_own _ rfl _ _ 45 rfl w.heap.size 9 i0 (.string ⟨#[]⟩) 1 16 Tryz.underlying45 hi hz0 hz1 hz2 rfl (by decide) _ _ _ rfl (hown.alloc _) ⟨wr.heap.size,0,none⟩ 1 1 [.string (s.extract f s.size)] rfl rfl ?d1 ?d2 ?d3 ?d4 ?d5 ?_)
      case d1=>exact cell_one_new _ _ _
      case d2=>intro u hu;simp at hu;subst hu;rfl
      case d3=>unfold maxLen;omega
      case d4=>omega
      case d5=>simp;omega
      · intro v' w1 hown' hgrow _
        have R:=rParts_rel hbs hown hbel hown' hgrow
        rw [HD.out] at R
        clear hown' hgrow hown
        go_wp2
        go_ret
        exact ⟨_,rfl,R⟩
set_option maxHeartbeats 400000 in
theorem rValid_any (s:ByteArray) (hs:s.size≤maxLen) (w:World) :
    Calls Tryz.prog 184 #[.string s] w fun e w'=>e=.returned (.bool (validL s.data.toList))∧Below w.heap.size w w':=by
  have hlen:s.data.toList.length=s.size:=by simp
  unfold maxLen at hs
  by_cases h60:s.size≤60
  · have HV:Hid (validL s.data.toList=(partsL s.data.toList).all partL):=by unfold validL;rw [hlen];simp [Hid,h60]
    have HP:Hid (∀ w,_):=rParts_any s (by omega)
    have hne:=partsL_ne s.data.toList
    have hpl:=partsL_length s.data.toList
    rw [hlen] at hpl
    have hel:∀ p∈partsL s.data.toList,p.length≤60:=fun p hp=>by have:=partsL_mem s.data.toList p hp;omega
    generalize validL s.data.toList=b at *
    generalize partsL s.data.toList=ps at *
    have HN:Hid (ps≠[]):=hne
    have HE:Hid (∀ p∈ps,p.length≤60):=hel
    clear hne hlen hel
    go_enter Tryz.func184,Tryz.ntmps184
    go_wp2_with (go_at_call 242;refine ((HP.out) _).mono ?_;rintro e w1 ⟨v,rfl,hown,hbel⟩;obtain ⟨g,cap,rfl,hg,hgl,hcap,hcm,hcell⟩:=own_shape hown HN.out;clear hown)
    have HC:Hid (∀ k p,ps[k]?=some p→w1.cell? ⟨g,k,none⟩=some (.string ⟨p.toArray⟩)):=hcell
    clear hcell HP HN
    go_loop [4] (fun i=>∃ k:Nat,k≤ps.length∧i=.int .i64 k∧Hid ((ps.take k).all partL=true)) (fun i=>ps.length - (intOf i).toNat)
    case atStart=>exact ⟨0,Nat.zero_le _,rfl,by simp [Hid]⟩
    case round =>
      obtain ⟨k,hk,rfl,hr⟩:=hrel
      by_cases hlt:k<ps.length
      · obtain ⟨p,hp⟩:∃ p,ps[k]?=some p:=⟨_,List.getElem?_eq_getElem hlt⟩
        have hc:=HC.out k p hp
        have HS:Hid _:=all_step ps k p hp
        have HF:Hid _:=all_stop ps k p hp
        have hl60:=HE.out p (List.mem_of_getElem? hp)
        have HI:Hid (∀ w,_):=rPart_any ⟨p.toArray⟩ (by rw [mk_size];unfold maxLen;omega)
        clear hp
        have e:(⟨p.toArray⟩:ByteArray).data.toList=p:=by simp
        rw [e] at HI
        clear e
        generalize partL p=d at *
        cases d
        · go_wp2_with (go_at_call 236;refine ((HI.out) _).mono ?_;rintro e w' ⟨rfl,rfl⟩)
          go_ret
          exact ⟨ret_bool (by rw [HV.out];exact (HF.out trivial).symm),hbel⟩
        · go_wp2_with (go_at_call 236;refine ((HI.out) _).mono ?_;rintro e w' ⟨rfl,rfl⟩)
          go_round
          case rel=>exact ⟨k+1,by omega,by go_num,by rw [Hid,HS.out,hr.out];rfl⟩
          case measure=>simp [intOf];omega
      · have hk':k=ps.length:=by omega
        go_wp2
        go_ret
        refine ⟨ret_bool ?_,hbel⟩
        rw [HV.out,← hr.out,hk',List.take_length]
  · have HV:Hid (validL s.data.toList=false):=by unfold validL;rw [hlen];simp [Hid,h60]
    clear hlen
    go_enter Tryz.func184,Tryz.ntmps184
    go_wp2
    go_ret
    exact ⟨ret_bool HV.out.symm,Below.refl _ _⟩
end Go.Proofs.YtjlfnelihbdhjaaGreat
