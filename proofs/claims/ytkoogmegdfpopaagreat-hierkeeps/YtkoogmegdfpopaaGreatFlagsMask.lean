import Derived.Test.YtkoogmegdfpopaaGreatShpB
namespace Go.Proofs.YtkoogmegdfpopaaGreat
open Go
def sums:List (Int×List UInt8)→List (Int×List (List UInt8))
 | []=>[(0,[])]
 | p::ps=>(sums ps).flatMap fun q=>[q,(p.1+q.1,p.2::q.2)]
theorem Zg0 (f:Int) (ps:List (Int×List UInt8)):(Z1 f (flagsOf ps),Xk f ps)∈sums ps:=by
 induction ps with
 | nil=>simp [sums,flagsOf,Z1,Xk]
 | cons p ps ih =>
   unfold sums
   rw [List.mem_flatMap]
   refine ⟨_,ih,?_⟩
   cases h:hasI f p.1 with
   | true=>simp [flagsOf,Z1,Xk,h]
   | false=>simp [flagsOf,Z1,Xk,h]
theorem Qs {f:Int} {ps:List (Int×List UInt8)} (h:Y9 f ps=true):(f,Xk f ps)∈sums ps:=by
 have h1:=Zg0 f ps
 have h2:Z1 f (flagsOf ps)=f:=by simpa [Y9] using h
 rw [h2] at h1
 exact h1
theorem Zhc (n:Nat) (h:n<2 ^ 64):(IntKind.wrap .i64 (n:Int)=0)↔n=0:=by
 simp only [IntKind.wrap,IntKind.bits,IntKind.signed]
 simp
 omega
theorem Zjc (f:Int) (m:Nat):bits .andNot .i64 f (m:Int)=IntKind.wrap .i64 ((BitVec.ofInt 64 f &&& ~~~(BitVec.ofInt 64 (m:Int))).toNat:Int):=rfl
theorem bv_mask (x:BitVec 64) (m:Nat) (h:x &&& ~~~(BitVec.ofNat 64 m)=0#64):x.toNat &&& m=x.toNat:=by
 apply Nat.eq_of_testBit_eq
 intro i
 rw [Nat.testBit_and]
 cases hx:x.toNat.testBit i with
 | false=>rfl
 | true =>
   have hi:i<64:=by
    by_cases q:i<64
    ·exact q
    ·rw [Nat.testBit_lt_two_pow (Nat.lt_of_lt_of_le x.isLt (Nat.pow_le_pow_right (by omega) (by omega)))] at hx
     simp at hx
   have h2:=congrArg (fun y=>BitVec.getLsbD y i) h
   simp only [BitVec.getLsbD_and,BitVec.getLsbD_not,BitVec.getLsbD_ofNat] at h2
   have h3:x.getLsbD i=true:=hx
   rw [h3] at h2
   simp [hi] at h2
   simp [h2]
theorem Za1:∀ n:Fin 2048,(n.val &&& 1585)=n.val→Y9 (n.val:Int) clsP=true:=by decide +kernel
theorem Za0:∀ n:Fin 2048,(n.val &&& 1055)=n.val→Y9 (n.val:Int) mthP=true:=by decide +kernel
theorem Zcf:∀ q∈sums clsP,bits .andNot .i64 q.1 1585=0:=by decide
theorem Zce:∀ q∈sums mthP,bits .andNot .i64 q.1 1055=0:=by decide
theorem Zh9 (f:Int) (m:Nat) (hm:m<2048) (hf:-9223372036854775808≤f∧f≤9223372036854775807) (h:bits .andNot .i64 f (m:Int)=0):∃ n:Fin 2048,f=n.val∧n.val &&& m=n.val:=by
 rw [Zjc,Zhc _ (BitVec.isLt _)] at h
 have h0:BitVec.ofInt 64 f &&& ~~~(BitVec.ofNat 64 m)=0#64:=by
  apply BitVec.eq_of_toNat_eq
  rw [BitVec.ofInt_natCast] at h
  rw [h];rfl
 have h1:=bv_mask _ m h0
 have hle:(BitVec.ofInt 64 f).toNat≤m:=by rw [← h1];exact Nat.and_le_right
 have hfn:f=((BitVec.ofInt 64 f).toNat:Int):=by
  rw [BitVec.toNat_ofInt] at hle ⊢
  omega
 exact ⟨⟨(BitVec.ofInt 64 f).toNat,by omega⟩,hfn,h1⟩
theorem mask_cls (f:Int) (hf:-9223372036854775808≤f∧f≤9223372036854775807):(bits .andNot .i64 f 1585 != 0)=!Y9 f clsP:=by
 cases ho:Y9 f clsP with
 | true =>
   have:=Zcf _ (Qs ho)
   simp only at this
   rw [this];rfl
 | false =>
   by_cases h:bits .andNot .i64 f 1585=0
   ·obtain ⟨n,rfl,hn⟩:=Zh9 f 1585 (by omega) hf h
    rw [Za1 n hn] at ho
    simp at ho
   ·simpa using h
theorem mask_mth (f:Int) (hf:-9223372036854775808≤f∧f≤9223372036854775807):(bits .andNot .i64 f 1055 != 0)=!Y9 f mthP:=by
 cases ho:Y9 f mthP with
 | true =>
   have:=Zce _ (Qs ho)
   simp only at this
   rw [this];rfl
 | false =>
   by_cases h:bits .andNot .i64 f 1055=0
   ·obtain ⟨n,rfl,hn⟩:=Zh9 f 1055 (by omega) hf h
    rw [Za0 n hn] at ho
    simp at ho
   ·simpa using h
end Go.Proofs.YtkoogmegdfpopaaGreat
