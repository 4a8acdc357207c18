import Derived.Test.YtfbhjfpkhofifaaGreatDoorFlagsParse
namespace Go.Proofs.YtfbhjfpkhofifaaGreatDoor
open Go
def sums:List (Int×List UInt8)→List (Int×List (List UInt8))
 | []=>[(0,[])]
 | p::ps=>(sums ps).flatMap fun q=>[q,(p.1+q.1,p.2::q.2)]
theorem Zmh (f:Int) (ps:List (Int×List UInt8)):(Yl f (flagsOf ps),Zo f ps)∈sums ps:=by
 induction ps with
 | nil=>simp [sums,flagsOf,Yl,Zo]
 | cons p ps ih =>
   unfold sums;rw [List.mem_flatMap];refine ⟨_,ih,?_⟩
   cases h:hasI f p.1 with
   | true=>simp [flagsOf,Yl,Zo,h]
   | false=>simp [flagsOf,Yl,Zo,h]
theorem sub_sums {ps:List (Int×List UInt8)} {ts:List (List UInt8)} {f:Int} (h:subW ps ts=some f):(f,ts)∈sums ps:=by
 induction ps generalizing ts f with
 | nil =>
   cases ts with
   | nil=>simp [subW] at h;simp [sums,h]
   | cons t ts=>simp [subW] at h
 | cons p ps ih =>
   unfold sums;rw [List.mem_flatMap]
   cases ts with
   | nil =>
     have h0:f=0:=by simpa [subW] using h.symm
     subst h0;have h2:subW ps []=some 0:=by cases ps <;> rfl
     exact ⟨_,ih h2,by simp⟩
   | cons t ts =>
     rw [subW] at h
     split at h
     ·rename_i e
      cases h2:subW ps ts with
      | none=>rw [h2] at h;simp at h
      | some g =>
        rw [h2] at h;simp at h;exact ⟨_,ih h2,by simp [← h,e]⟩
     ·exact ⟨_,ih h,by simp⟩
theorem all_cls:∀ q∈sums clsP,Zo q.1 clsP=q.2∧Yl q.1 (flagsOf clsP)=q.1:=by decide
theorem all_mth:∀ q∈sums mthP,Zo q.1 mthP=q.2∧Yl q.1 (flagsOf mthP)=q.1:=by decide
theorem back_cls:∀ q∈sums clsP,subW clsP q.2=some q.1:=by decide
theorem back_mth:∀ q∈sums mthP,subW mthP q.2=some q.1:=by decide
structure Good (ps:List (Int×List UInt8)):Prop where
 all:∀ q∈sums ps,Zo q.1 ps=q.2∧Yl q.1 (flagsOf ps)=q.1
 back:∀ q∈sums ps,subW ps q.2=some q.1
 word:∀ p∈ps,p.2≠[]∧p.2.length≤20∧(32:UInt8) ∉ p.2
theorem goodC:Good clsP:=⟨all_cls,back_cls,Zk8⟩
theorem goodM:Good mthP:=⟨all_mth,back_mth,Zk7⟩
theorem Ja {f:Int} {ps:List (Int×List UInt8)} (h:Y4 f ps=true):(f,Zo f ps)∈sums ps:=by
 have h1:=Zmh f ps;have h2:Yl f (flagsOf ps)=f:=by simpa [Y4] using h
 rw [h2] at h1;exact h1
theorem sub_nil (ps:List (Int×List UInt8)):subW ps []=some 0:=by cases ps <;> rfl
theorem Zm9 {f:Int} {ps:List (Int×List UInt8)} {s:List UInt8} (g:Good ps) (h:Zb0 ps s=some f):Y4 f ps=true∧Qv f ps=s:=by
 have key:∀ ts,subW ps ts=some f→Y4 f ps=true∧Qv f ps=Lib.join ts [32]:=fun ts ht=>by
  obtain ⟨k1,k2⟩:=g.all _ (sub_sums ht);have ho:Y4 f ps=true:=by simpa [Y4] using k2
  exact ⟨ho,by rw [Qv,ho,if_pos rfl,k1]⟩
 unfold Zb0 at h
 split at h
 ·rename_i e
  simp at h;subst h;obtain ⟨k1,k2⟩:=key [] (sub_nil ps);exact ⟨k1,by rw [k2,join_nil,e]⟩
 ·obtain ⟨k1,k2⟩:=key _ h;exact ⟨k1,by rw [k2,Zoe]⟩
theorem Zm2 (n:Nat) (h:n<2 ^ 64):(IntKind.wrap .i64 (n:Int)=0)↔n=0:=by
 simp only [IntKind.wrap,IntKind.bits,IntKind.signed];simp;omega
theorem Zpc (f:Int) (m:Nat):bits .andNot .i64 f (m:Int)=IntKind.wrap .i64 ((BitVec.ofInt 64 f &&& ~~~(BitVec.ofInt 64 (m:Int))).toNat:Int):=rfl
theorem bv_mask (x:BitVec 64) (m:Nat) (h:x &&& ~~~(BitVec.ofNat 64 m)=0#64):x.toNat &&& m=x.toNat:=by
 apply Nat.eq_of_testBit_eq;intro i;rw [Nat.testBit_and]
 cases hx:x.toNat.testBit i with
 | false=>rfl
 | true =>
   have hi:i<64:=by
    by_cases q:i<64
    ·exact q
    ·rw [Nat.testBit_lt_two_pow (Nat.lt_of_lt_of_le x.isLt (Nat.pow_le_pow_right (by omega) (by omega)))] at hx;simp at hx
   have h2:=congrArg (fun y=>BitVec.getLsbD y i) h;simp only [BitVec.getLsbD_and,BitVec.getLsbD_not,BitVec.getLsbD_ofNat] at h2;have h3:x.getLsbD i=true:=hx;rw [h3] at h2;simp [hi] at h2;simp [h2]
theorem Zd9:∀ n:Fin 2048,(n.val &&& 1585)=n.val→Y4 (n.val:Int) clsP=true:=by decide +kernel
theorem Zd8:∀ n:Fin 2048,(n.val &&& 1055)=n.val→Y4 (n.val:Int) mthP=true:=by decide +kernel
theorem Zf9:∀ q∈sums clsP,bits .andNot .i64 q.1 1585=0:=by decide
theorem Zf8:∀ q∈sums mthP,bits .andNot .i64 q.1 1055=0:=by decide
theorem Zn9 (f:Int) (m:Nat) (hm:m<2048) (hf:-9223372036854775808≤f∧f≤9223372036854775807) (h:bits .andNot .i64 f (m:Int)=0):∃ n:Fin 2048,f=n.val∧n.val &&& m=n.val:=by
 rw [Zpc,Zm2 _ (BitVec.isLt _)] at h;have h0:BitVec.ofInt 64 f &&& ~~~(BitVec.ofNat 64 m)=0#64:=by
  apply BitVec.eq_of_toNat_eq;rw [BitVec.ofInt_natCast] at h;rw [h];rfl
 have h1:=bv_mask _ m h0;have hle:(BitVec.ofInt 64 f).toNat≤m:=by rw [← h1];exact Nat.and_le_right
 have hfn:f=((BitVec.ofInt 64 f).toNat:Int):=by
  rw [BitVec.toNat_ofInt] at hle ⊢;omega
 exact ⟨⟨(BitVec.ofInt 64 f).toNat,by omega⟩,hfn,h1⟩
theorem Zk1 (f:Int) (hf:-9223372036854775808≤f∧f≤9223372036854775807):(bits .andNot .i64 f 1585 != 0)=!Y4 f clsP:=by
 cases ho:Y4 f clsP with
 | true =>
   have:=Zf9 _ (Ja ho);simp only at this;rw [this];rfl
 | false =>
   by_cases h:bits .andNot .i64 f 1585=0
   ·obtain ⟨n,rfl,hn⟩:=Zn9 f 1585 (by omega) hf h;rw [Zd9 n hn] at ho;simp at ho
   ·simpa using h
theorem Zk0 (f:Int) (hf:-9223372036854775808≤f∧f≤9223372036854775807):(bits .andNot .i64 f 1055 != 0)=!Y4 f mthP:=by
 cases ho:Y4 f mthP with
 | true =>
   have:=Zf8 _ (Ja ho);simp only at this;rw [this];rfl
 | false =>
   by_cases h:bits .andNot .i64 f 1055=0
   ·obtain ⟨n,rfl,hn⟩:=Zn9 f 1055 (by omega) hf h;rw [Zd8 n hn] at ho;simp at ho
   ·simpa using h
end Go.Proofs.YtfbhjfpkhofifaaGreatDoor
