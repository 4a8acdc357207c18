import Derived.Test.YtfbhjfpkhofifaaGreatDoorOwnX
import Derived.Stop.Asserts
import Derived.RowKitTokens
set_option maxHeartbeats 4000000
set_option maxRecDepth 100000
namespace Go.Proofs.YtfbhjfpkhofifaaGreatDoor
open Go.RowKit Go.Extern.Stop Go.Stop Go.Extern
theorem as_nil (t:Value) (w:World):Calls Tryz.prog 44 #[.nilIface,t] w fun e w'=>e=.returned (.bool false)∧w'=w:=by
 go_enter Tryz.func44,Tryz.ntmps44;go_wp2;go_ret
 exact ⟨rfl,rfl⟩
theorem Tryz.valueOfT (t:Addr) (w:World):(ReflectliteValue.unpack (.iface 81 (.pointer (some t)))).run Tryz.prog w
 = .ok (.agg #[.pointer (some ⟨14,81,none⟩),.pointer (some ⟨w.heap.size,0,none⟩),.int .u64 150]) (w.alloc (.cells #[.pointer (some t)] 81)):=by kernel_rfl
theorem Tryz.typeT (a : Addr) (w : World) : (ReflectliteValue.methodAny (ReflectliteValue.valueError "reflectlite.Value.Type" 0) (fun t _ _ _ => ReflectliteType.toType t) #[.agg #[.pointer (some ⟨14, 81, none⟩), .pointer (some a), .int .u64 150]]).run Tryz.prog w
 = .ok (.iface 172 (.agg #[.pointer (some ⟨14,81,none⟩)])) w:=by kernel_rfl
theorem Tryz.kindT (w:World):((ReflectliteType.abiMethod fun t=>(fun a:Nat=>Value.int IntKind.u8 (a:Int)) <$> Rtype.kind t) #[.pointer (some ⟨14,81,none⟩)]).run Tryz.prog w=.ok (.int .u8 22) w:=by kernel_rfl
theorem Tryz.kindE (w:World):((ReflectliteType.abiMethod fun t=>(fun a:Nat=>Value.int IntKind.u8 (a:Int)) <$> Rtype.kind t) #[.pointer (some ⟨14,79,none⟩)]).run Tryz.prog w=.ok (.int .u8 25) w:=by kernel_rfl
theorem rlm (z:Sem Value) (f:TypeId→Addr→Nat→Nat→Sem Value) (v:Value) :
 ReflectliteValue.method z f #[v]=(do match ← ReflectliteValue.parts v with|none=>z|some (t,a,fl)=>f t a fl (fl % 32)):=rfl
theorem Tryz.partsT (a:Addr) (w:World):(ReflectliteValue.parts (.agg #[.pointer (some ⟨14,81,none⟩),.pointer (some a),.int .u64 150])).run Tryz.prog w=.ok (some (81,a,150)) w:=by kernel_rfl
theorem Tryz.isNilT (a p:Addr) (W:World) (ha:W.cell? a=some (.pointer (some p))) :
 (ReflectliteValue.method (ReflectliteValue.valueError "reflectlite.Value.IsNil" 0) ReflectliteValue.isNil #[.agg #[.pointer (some ⟨14, 81, none⟩), .pointer (some a), .int .u64 150]]).run Tryz.prog W = .ok (.bool false) W := by
 rw [rlm];simp only [Sem.run_bind,Tryz.partsT,Result.andThen];simp [ReflectliteValue.isNil,loadVar,isAgg,underlying,Tryz.underlying81,ha,Result.andThen]
theorem Tryz.elemT (w:World):(ReflectliteType.method ReflectliteType.elem #[.agg #[.pointer (some ⟨14,81,none⟩)]]).run Tryz.prog w=.ok (.iface 172 (.agg #[.pointer (some ⟨14,79,none⟩)])) w:=by kernel_rfl
theorem Tryz.implE (w : World) : (ReflectliteType.relation "Implements" ReflectliteType.implements_ #[.agg #[.pointer (some ⟨14, 79, none⟩)], .iface 172 (.agg #[.pointer (some ⟨14, 75, none⟩)])]).run Tryz.prog w = .ok (.bool true) w := by kernel_rfl
theorem Tryz.typeOfE (v:Value) (w:World):(ReflectliteType.typeOf #[.iface 79 v]).run Tryz.prog w=.ok (.iface 172 (.agg #[.pointer (some ⟨14,79,none⟩)])) w:=by kernel_rfl
theorem Tryz.assignE (w : World) : (ReflectliteType.relation "AssignableTo" ReflectliteType.assignableTo #[.agg #[.pointer (some ⟨14, 79, none⟩)], .iface 172 (.agg #[.pointer (some ⟨14, 79, none⟩)])]).run Tryz.prog w = .ok (.bool true) w := by kernel_rfl
theorem Tryz.valueOfE (x y:Value) (w:World):(ReflectliteValue.unpack (.iface 79 (.agg #[x,y]))).run Tryz.prog w
 = .ok (.agg #[.pointer (some ⟨14,79,none⟩),.pointer (some ⟨w.heap.size,0,none⟩),.int .u64 153]) (w.alloc (.cells #[x,y] 79)):=by kernel_rfl
theorem Tryz.elemOfT (w:World):(Rtype.elem? 81).run Tryz.prog w=.ok (some 79) w:=by kernel_rfl
theorem Tryz.mkE (p:Addr) (w:World):(ReflectliteValue.mk 79 p ReflectliteValue.flagAddr).run Tryz.prog w=.ok (.agg #[.pointer (some ⟨14,79,none⟩),.pointer (some p),.int .u64 409]) w:=by kernel_rfl
theorem Tryz.elemVT (a p:Addr) (W:World) (ha:W.cell? a=some (.pointer (some p))) :
 (ReflectliteValue.method (ReflectliteValue.valueError "reflectlite.Value.Elem" 0) ReflectliteValue.elem #[.agg #[.pointer (some ⟨14, 81, none⟩), .pointer (some a), .int .u64 150]]).run Tryz.prog W
  = .ok (.agg #[.pointer (some ⟨14,79,none⟩),.pointer (some p),.int .u64 409]) W:=by
 rw [rlm];simp only [Sem.run_bind,Tryz.partsT,Result.andThen];simp [ReflectliteValue.elem,loadVar,isAgg,underlying,Tryz.underlying81,ha,Result.andThen,Tryz.elemOfT,Tryz.mkE]
theorem rls (v x:Value):ReflectliteValue.set #[v,x]=(do
 let (some (dst,a,fl),some (src,b,_)):=(← ReflectliteValue.parts v,← ReflectliteValue.parts x)
  | unsupported (.noEntry "extern/(internal/reflectlite.Value).Set.zeroValue")
 if fl / ReflectliteValue.flagAddr % 2 == 0 then unsupported (.noEntry "extern/(internal/reflectlite.Value).Set.unaddressable")
 let val ← loadVar src b
 if ← Rtype.directlyAssignable dst src then storeVar dst a val
 else if ← Rtype.implements dst src then
  if (← Rtype.kind src) == 20 then
   match val with
   | .nilIface => unsupported (.noEntry "extern/reflectlite: a nil value of one interface type handed on as a value of another")
   | _=>storeVar dst a val
  else storeVar dst a (.iface src val)
 else panicString ("reflectlite.Set: value of type " ++ (← Rtype.spelt src) ++ " is not assignable to type " ++ (← Rtype.spelt dst))
 pure (.tuple #[])):=rfl
theorem Tryz.partsEa (a:Addr) (w:World):(ReflectliteValue.parts (.agg #[.pointer (some ⟨14,79,none⟩),.pointer (some a),.int .u64 409])).run Tryz.prog w=.ok (some (79,a,409)) w:=by kernel_rfl
theorem Tryz.partsE (a:Addr) (w:World):(ReflectliteValue.parts (.agg #[.pointer (some ⟨14,79,none⟩),.pointer (some a),.int .u64 153])).run Tryz.prog w=.ok (some (79,a,153)) w:=by kernel_rfl
theorem Tryz.directE (w:World):(Rtype.directlyAssignable 79 79).run Tryz.prog w=.ok true w:=by kernel_rfl
theorem Tryz.setE (ta b:Nat) (x y u0 u1:Value) (hx:x.oneCell'=true) (hy:y.oneCell'=true) (W:World) (hb0:W.cell? ⟨b,0,none⟩=some x) (hb1:W.cell? ⟨b,1,none⟩=some y) (h0:W.cell? ⟨ta,0,none⟩=some u0) (h1:W.cell? ⟨ta,1,none⟩=some u1) (f0:W.frozen? ⟨ta,0,none⟩=false) (f1:W.frozen? ⟨ta,1,none⟩=false) :
 (ReflectliteValue.set #[.agg #[.pointer (some ⟨14,79,none⟩),.pointer (some ⟨ta,0,none⟩),.int .u64 409],.agg #[.pointer (some ⟨14,79,none⟩),.pointer (some ⟨b,0,none⟩),.int .u64 153]]).run Tryz.prog W
  = .ok (.tuple #[]) ((W.setCell ⟨ta,0,none⟩ x).setCell ⟨ta,1,none⟩ y):=by
 rw [rls];simp only [Sem.run_bind,Tryz.partsEa,Tryz.partsE,Result.andThen];simp [ReflectliteValue.flagAddr,loadVar,isAgg,underlying,Tryz.underlying79,Result.andThen,Tryz.directE,storeVar,Value.cells];have hl:(loadCells ⟨b,0,none⟩ 2).run Tryz.prog W=.ok #[x,y] W:=by
  simp [loadCells,loadCellsFrom,Addr.add,hb0,hb1,Result.andThen]
 rw [hl];have g1:(W.setCell ⟨ta,0,none⟩ x).cell? ⟨ta,1,none⟩=some u1:=(World.cell?_setCell_other W (a:=⟨ta,0,none⟩) (b:=⟨ta,1,none⟩) (v:=x) (by simp)).trans h1;have g2:(W.setCell ⟨ta,0,none⟩ x).frozen? ⟨ta,1,none⟩=false:=by simpa using f1
 simp [storeCells,Addr.add,Result.andThen,run_store Tryz.prog W ⟨ta,0,none⟩ x _ hx,h0,f0,run_store Tryz.prog (W.setCell ⟨ta,0,none⟩ x) ⟨ta,1,none⟩ y _ hy,g1,g2]
theorem Tryz.methodKind (h : Value) (w : World) : (Go.method 384 172 (.agg #[h]) "Kind").run Tryz.prog w = .ok (237, h) w := by kernel_rfl
theorem Tryz.methodElem (h : Value) (w : World) : (Go.method 384 172 (.agg #[h]) "Elem").run Tryz.prog w = .ok (250, .agg #[h]) w := by kernel_rfl
theorem Tryz.methodImplements (h : Value) (w : World) : (Go.method 384 172 (.agg #[h]) "Implements").run Tryz.prog w = .ok (251, .agg #[h]) w := by kernel_rfl
theorem Tryz.methodAssignableTo (h : Value) (w : World) : (Go.method 384 172 (.agg #[h]) "AssignableTo").run Tryz.prog w = .ok (248, .agg #[h]) w := by kernel_rfl
theorem as_hit (t:Nat) (x y u0 u1:Value) (hx:x.oneCell'=true) (hy:y.oneCell'=true) (w:World) (hg:w.cell? ⟨1,0,none⟩=some (.iface 172 (.agg #[.pointer (some ⟨14,75,none⟩)]))) (h0:w.cell? ⟨t,0,none⟩=some u0) (h1:w.cell? ⟨t,1,none⟩=some u1) (f0:w.frozen? ⟨t,0,none⟩=false) (f1:w.frozen? ⟨t,1,none⟩=false) :
 Calls Tryz.prog 44 #[.iface 79 (.agg #[x,y]),.iface 81 (.pointer (some ⟨t,0,none⟩))] w fun ev w'=>ev=.returned (.bool true)∧w'=(((((w.alloc (.cells #[.pointer (some ⟨t,0,none⟩)] 81)).alloc (.cells #[.pointer (some ⟨14,81,none⟩),.pointer (some ⟨w.heap.size,0,none⟩),.int .u64 150] 130)).alloc (.cells #[.pointer (some ⟨14,81,none⟩),.pointer (some ⟨w.heap.size,0,none⟩),.int .u64 150] 130)).alloc (.cells #[x,y] 79)).setCell ⟨t,0,none⟩ x).setCell ⟨t,1,none⟩ y:=by
 have h88:=@run_callFunc_extern Tryz.prog 88 _ (fun args=>ReflectliteValue.unpack (args.getD 0 (.tuple #[]))) Tryz.func88 (by kernel_rfl) (by kernel_rfl) (by kernel_rfl) (by kernel_rfl);have h89 := @run_callFunc_extern Tryz.prog 89 _ (ReflectliteValue.methodAny (ReflectliteValue.valueError "reflectlite.Value.Type" 0) (fun t _ _ _ => ReflectliteType.toType t)) Tryz.func89 (by kernel_rfl) (by kernel_rfl) (by kernel_rfl) (by kernel_rfl);have h90 := @run_callFunc_extern Tryz.prog 90 _ (ReflectliteValue.method (ReflectliteValue.valueError "reflectlite.Value.IsNil" 0) ReflectliteValue.isNil) Tryz.func90 (by kernel_rfl) (by kernel_rfl) (by kernel_rfl) (by kernel_rfl);have h237:=@run_callFunc_extern Tryz.prog 237 _ (ReflectliteType.abiMethod fun t=>do pure (.int .u8 (← Rtype.kind t))) Tryz.func237 (by kernel_rfl) (by kernel_rfl) (by kernel_rfl) (by kernel_rfl);have h250:=@run_callFunc_extern Tryz.prog 250 _ (ReflectliteType.method ReflectliteType.elem) Tryz.func250 (by kernel_rfl) (by kernel_rfl) (by kernel_rfl) (by kernel_rfl);have h251 := @run_callFunc_extern Tryz.prog 251 _ (ReflectliteType.relation "Implements" ReflectliteType.implements_) Tryz.func251 (by kernel_rfl) (by kernel_rfl) (by kernel_rfl) (by kernel_rfl);have h130:=@run_callFunc_extern Tryz.prog 130 _ ReflectliteType.typeOf Tryz.func130 (by kernel_rfl) (by kernel_rfl) (by kernel_rfl) (by kernel_rfl);have h248 := @run_callFunc_extern Tryz.prog 248 _ (ReflectliteType.relation "AssignableTo" ReflectliteType.assignableTo) Tryz.func248 (by kernel_rfl) (by kernel_rfl) (by kernel_rfl) (by kernel_rfl);have h131 := @run_callFunc_extern Tryz.prog 131 _ (ReflectliteValue.method (ReflectliteValue.valueError "reflectlite.Value.Elem" 0) ReflectliteValue.elem) Tryz.func131 (by kernel_rfl) (by kernel_rfl) (by kernel_rfl) (by kernel_rfl);have h132:=@run_callFunc_extern Tryz.prog 132 _ ReflectliteValue.set Tryz.func132 (by kernel_rfl) (by kernel_rfl) (by kernel_rfl) (by kernel_rfl);have tO:=Tryz.typeOfE;have mA:=Tryz.methodAssignableTo;have a25:=Tryz.assignE;have v25:=Tryz.valueOfE;have fv:=Tryz.valueOfT;have ft:=Tryz.typeT;have mK:=Tryz.methodKind;have mE:=Tryz.methodElem;have mI:=Tryz.methodImplements;have kT:=Tryz.kindT;have kE:=Tryz.kindE;have eT:=Tryz.elemT;have iE:=Tryz.implE;have hlt:1<w.heap.size:=by
  rcases Nat.lt_or_ge 1 w.heap.size with h|h
  ·exact h
  ·simp [World.cell?,Array.getElem?_eq_none h] at hg
 have htl:t<w.heap.size:=by
  rcases Nat.lt_or_ge t w.heap.size with h|h
  ·exact h
  ·simp [World.cell?,Array.getElem?_eq_none h] at h0
 have n8:=Tryz.isNilT ⟨w.heap.size,0,none⟩ ⟨t,0,none⟩ ((w.alloc (.cells #[.pointer (some ⟨t,0,none⟩)] 81)).alloc (.cells #[.pointer (some ⟨14,81,none⟩),.pointer (some ⟨w.heap.size,0,none⟩),.int .u64 150] 130)) (by simp);have hg2:((w.alloc (.cells #[.pointer (some ⟨t,0,none⟩)] 81)).alloc (.cells #[.pointer (some ⟨14,81,none⟩),.pointer (some ⟨w.heap.size,0,none⟩),.int .u64 150] 130)).cell? ⟨1,0,none⟩=some (.iface 172 (.agg #[.pointer (some ⟨14,75,none⟩)])):=by
  rw [World.cell?_alloc_lt _ _ ⟨1,0,none⟩ (by simp;omega),World.cell?_alloc_lt _ _ ⟨1,0,none⟩ hlt];exact hg
 have el:=Tryz.elemVT ⟨w.heap.size,0,none⟩ ⟨t,0,none⟩ (((w.alloc (.cells #[.pointer (some ⟨t,0,none⟩)] 81)).alloc (.cells #[.pointer (some ⟨14,81,none⟩),.pointer (some ⟨w.heap.size,0,none⟩),.int .u64 150] 130)).alloc (.cells #[.pointer (some ⟨14,81,none⟩),.pointer (some ⟨w.heap.size,0,none⟩),.int .u64 150] 130)) (by rw [World.cell?_alloc_lt _ _ ⟨w.heap.size,0,none⟩ (by simp;omega)];simp);have keep:∀ k v,w.cell? ⟨t,k,none⟩=some v→((((w.alloc (.cells #[.pointer (some ⟨t,0,none⟩)] 81)).alloc (.cells #[.pointer (some ⟨14,81,none⟩),.pointer (some ⟨w.heap.size,0,none⟩),.int .u64 150] 130)).alloc (.cells #[.pointer (some ⟨14,81,none⟩),.pointer (some ⟨w.heap.size,0,none⟩),.int .u64 150] 130)).alloc (.cells #[x,y] 79)).cell? ⟨t,k,none⟩=some v:=fun k v h=>by
  rw [World.cell?_alloc_lt _ _ ⟨t,k,none⟩ (by simp;omega),World.cell?_alloc_lt _ _ ⟨t,k,none⟩ (by simp;omega),World.cell?_alloc_lt _ _ ⟨t,k,none⟩ (by simp;omega),World.cell?_alloc_lt _ _ ⟨t,k,none⟩ htl];exact h
 have keepf:∀ k,w.frozen? ⟨t,k,none⟩=false→((((w.alloc (.cells #[.pointer (some ⟨t,0,none⟩)] 81)).alloc (.cells #[.pointer (some ⟨14,81,none⟩),.pointer (some ⟨w.heap.size,0,none⟩),.int .u64 150] 130)).alloc (.cells #[.pointer (some ⟨14,81,none⟩),.pointer (some ⟨w.heap.size,0,none⟩),.int .u64 150] 130)).alloc (.cells #[x,y] 79)).frozen? ⟨t,k,none⟩=false:=fun k h=>by
  rw [World.frozen?_alloc_old _ _ ⟨t,k,none⟩ (by simp;omega),World.frozen?_alloc_old _ _ ⟨t,k,none⟩ (by simp;omega),World.frozen?_alloc_old _ _ ⟨t,k,none⟩ (by simp;omega),World.frozen?_alloc_old _ _ ⟨t,k,none⟩ (Nat.ne_of_lt htl)];exact h
 have st:=Tryz.setE t (w.heap.size+1+1+1) x y u0 u1 hx hy ((((w.alloc (.cells #[.pointer (some ⟨t,0,none⟩)] 81)).alloc (.cells #[.pointer (some ⟨14,81,none⟩),.pointer (some ⟨w.heap.size,0,none⟩),.int .u64 150] 130)).alloc (.cells #[.pointer (some ⟨14,81,none⟩),.pointer (some ⟨w.heap.size,0,none⟩),.int .u64 150] 130)).alloc (.cells #[x,y] 79))
  (by rw [World.cell?_alloc_at _ _ _ _ (by simp)];rfl) (by rw [World.cell?_alloc_at _ _ _ _ (by simp)];rfl) (keep 0 _ h0) (keep 1 _ h1) (keepf 0 f0) (keepf 1 f1)
 clear keep keepf;go_enter Tryz.func44,Tryz.ntmps44;go_wp2;refine wp_loop_rounds 1 ?_;rw [rounds_succ];go_wp2;go_ret
 exact ⟨rfl,rfl⟩
end Go.Proofs.YtfbhjfpkhofifaaGreatDoor
