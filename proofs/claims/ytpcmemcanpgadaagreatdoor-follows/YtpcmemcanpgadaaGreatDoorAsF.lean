import Derived.Test.YtpcmemcanpgadaaGreatDoorClaG
import Derived.WalkKit
import Derived.LaidEql
import Derived.Stop.Asserts
import Derived.RowKitTokens
namespace Go.Proofs.YtpcmemcanpgadaaGreatDoor
open Go.RowKit Go.Extern.Stop Go.Stop Go.Extern
theorem as_nil (t:Value) (w:World):Calls Tryz.prog 43 #[.nilIface,t] w fun e w'=>e=.returned (.bool false)∧w'=w:=by
 go_enter Tryz.func43,Tryz.ntmps43
 go_wp2
 go_ret
 exact⟨rfl,rfl⟩
theorem as_rlm (P:Program) (z:Sem Value) (f:TypeId→Addr→Nat→Nat→Sem Value) (v:Value) (t:TypeId) (a:Addr) (fl:Nat) (W:World) (h:(ReflectliteValue.parts v).run P W=.ok (some (t,a,fl)) W) :
  (ReflectliteValue.method z f #[v]).run P W=(f t a fl (fl % 32)).run P W:=by
 change Sem.run _ (bind (ReflectliteValue.parts v) _) _=_
 rw[Sem.run_bind,h]
 rfl
theorem as_mKind (h:Value) (w:World):(Go.method 434 189 (.agg #[h]) "Kind").run Tryz.prog w=.ok (178,h) w:=by kernel_rfl
theorem as_mElem (h:Value) (w:World):(Go.method 434 189 (.agg #[h]) "Elem").run Tryz.prog w=.ok (193,.agg #[h]) w:=by kernel_rfl
theorem as_mImplements (h:Value) (w:World):(Go.method 434 189 (.agg #[h]) "Implements").run Tryz.prog w=.ok (194,.agg #[h]) w:=by kernel_rfl
theorem as_mAssignableTo (h:Value) (w:World):(Go.method 434 189 (.agg #[h]) "AssignableTo").run Tryz.prog w=.ok (191,.agg #[h]) w:=by kernel_rfl
theorem as_valueOf_i (t:Addr) (w:World):(ReflectliteValue.unpack (.iface 108 (.pointer (some t)))).run Tryz.prog w=.ok (.agg #[.pointer (some ⟨10,108,none⟩),.pointer (some ⟨w.heap.size,0,none⟩),.int .u64 150]) (w.alloc (.cells #[.pointer (some t)] 108)):=by kernel_rfl
theorem as_type_i (a:Addr) (w:World):(ReflectliteValue.methodAny (ReflectliteValue.valueError "reflectlite.Value.Type" 0) (fun t _ _ _=>ReflectliteType.toType t) #[.agg #[.pointer (some ⟨10,108,none⟩),.pointer (some a),.int .u64 150]]).run Tryz.prog w=.ok (.iface 189 (.agg #[.pointer (some ⟨10,108,none⟩)])) w:=by kernel_rfl
theorem as_kindP_i (w:World):((ReflectliteType.abiMethod fun t=>(fun a:Nat=>Value.int IntKind.u8 (a:Int)) <$> Rtype.kind t) #[.pointer (some ⟨10,108,none⟩)]).run Tryz.prog w=.ok (.int .u8 22) w:=by kernel_rfl
theorem as_kindQ_i (w:World):((ReflectliteType.abiMethod fun t=>(fun a:Nat=>Value.int IntKind.u8 (a:Int)) <$> Rtype.kind t) #[.pointer (some ⟨10,106,none⟩)]).run Tryz.prog w=.ok (.int .u8 22) w:=by kernel_rfl
theorem as_parts_i (a:Addr) (w:World):(ReflectliteValue.parts (.agg #[.pointer (some ⟨10,108,none⟩),.pointer (some a),.int .u64 150])).run Tryz.prog w=.ok (some (108,a,150)) w:=by kernel_rfl
theorem as_isNil_i (a p:Addr) (W:World) (ha:W.cell? a=some (.pointer (some p))):(ReflectliteValue.method (ReflectliteValue.valueError "reflectlite.Value.IsNil" 0) ReflectliteValue.isNil #[.agg #[.pointer (some ⟨10,108,none⟩),.pointer (some a),.int .u64 150]]).run Tryz.prog W=.ok (.bool false) W:=by
 rw[as_rlm _ _ _ _ _ _ _ _ (as_parts_i a W)]
 simp[ReflectliteValue.isNil,loadVar,isAgg,underlying,Tryz.underlying108,ha,Result.andThen]
theorem as_elem_i (w:World):(ReflectliteType.method ReflectliteType.elem #[.agg #[.pointer (some ⟨10,108,none⟩)]]).run Tryz.prog w=.ok (.iface 189 (.agg #[.pointer (some ⟨10,106,none⟩)])) w:=by kernel_rfl
theorem as_implements_i (w:World):(ReflectliteType.relation "Implements" ReflectliteType.implements_ #[.agg #[.pointer (some ⟨10,106,none⟩)],.iface 189 (.agg #[.pointer (some ⟨10,67,none⟩)])]).run Tryz.prog w=.ok (.bool true) w:=by kernel_rfl
theorem as_valueOf_s (t:Addr) (w:World):(ReflectliteValue.unpack (.iface 113 (.pointer (some t)))).run Tryz.prog w=.ok (.agg #[.pointer (some ⟨10,113,none⟩),.pointer (some ⟨w.heap.size,0,none⟩),.int .u64 150]) (w.alloc (.cells #[.pointer (some t)] 113)):=by kernel_rfl
theorem as_type_s (a:Addr) (w:World):(ReflectliteValue.methodAny (ReflectliteValue.valueError "reflectlite.Value.Type" 0) (fun t _ _ _=>ReflectliteType.toType t) #[.agg #[.pointer (some ⟨10,113,none⟩),.pointer (some a),.int .u64 150]]).run Tryz.prog w=.ok (.iface 189 (.agg #[.pointer (some ⟨10,113,none⟩)])) w:=by kernel_rfl
theorem as_kindP_s (w:World):((ReflectliteType.abiMethod fun t=>(fun a:Nat=>Value.int IntKind.u8 (a:Int)) <$> Rtype.kind t) #[.pointer (some ⟨10,113,none⟩)]).run Tryz.prog w=.ok (.int .u8 22) w:=by kernel_rfl
theorem as_kindQ_s (w:World):((ReflectliteType.abiMethod fun t=>(fun a:Nat=>Value.int IntKind.u8 (a:Int)) <$> Rtype.kind t) #[.pointer (some ⟨10,103,none⟩)]).run Tryz.prog w=.ok (.int .u8 22) w:=by kernel_rfl
theorem as_parts_s (a:Addr) (w:World):(ReflectliteValue.parts (.agg #[.pointer (some ⟨10,113,none⟩),.pointer (some a),.int .u64 150])).run Tryz.prog w=.ok (some (113,a,150)) w:=by kernel_rfl
theorem as_isNil_s (a p:Addr) (W:World) (ha:W.cell? a=some (.pointer (some p))):(ReflectliteValue.method (ReflectliteValue.valueError "reflectlite.Value.IsNil" 0) ReflectliteValue.isNil #[.agg #[.pointer (some ⟨10,113,none⟩),.pointer (some a),.int .u64 150]]).run Tryz.prog W=.ok (.bool false) W:=by
 rw[as_rlm _ _ _ _ _ _ _ _ (as_parts_s a W)]
 simp[ReflectliteValue.isNil,loadVar,isAgg,underlying,Tryz.underlying113,ha,Result.andThen]
theorem as_elem_s (w:World):(ReflectliteType.method ReflectliteType.elem #[.agg #[.pointer (some ⟨10,113,none⟩)]]).run Tryz.prog w=.ok (.iface 189 (.agg #[.pointer (some ⟨10,103,none⟩)])) w:=by kernel_rfl
theorem as_implements_s (w:World):(ReflectliteType.relation "Implements" ReflectliteType.implements_ #[.agg #[.pointer (some ⟨10,103,none⟩)],.iface 189 (.agg #[.pointer (some ⟨10,67,none⟩)])]).run Tryz.prog w=.ok (.bool true) w:=by kernel_rfl
theorem as_valueOf_n (t:Addr) (w:World):(ReflectliteValue.unpack (.iface 116 (.pointer (some t)))).run Tryz.prog w=.ok (.agg #[.pointer (some ⟨10,116,none⟩),.pointer (some ⟨w.heap.size,0,none⟩),.int .u64 150]) (w.alloc (.cells #[.pointer (some t)] 116)):=by kernel_rfl
theorem as_type_n (a:Addr) (w:World):(ReflectliteValue.methodAny (ReflectliteValue.valueError "reflectlite.Value.Type" 0) (fun t _ _ _=>ReflectliteType.toType t) #[.agg #[.pointer (some ⟨10,116,none⟩),.pointer (some a),.int .u64 150]]).run Tryz.prog w=.ok (.iface 189 (.agg #[.pointer (some ⟨10,116,none⟩)])) w:=by kernel_rfl
theorem as_kindP_n (w:World):((ReflectliteType.abiMethod fun t=>(fun a:Nat=>Value.int IntKind.u8 (a:Int)) <$> Rtype.kind t) #[.pointer (some ⟨10,116,none⟩)]).run Tryz.prog w=.ok (.int .u8 22) w:=by kernel_rfl
theorem as_kindQ_n (w:World):((ReflectliteType.abiMethod fun t=>(fun a:Nat=>Value.int IntKind.u8 (a:Int)) <$> Rtype.kind t) #[.pointer (some ⟨10,104,none⟩)]).run Tryz.prog w=.ok (.int .u8 22) w:=by kernel_rfl
theorem as_parts_n (a:Addr) (w:World):(ReflectliteValue.parts (.agg #[.pointer (some ⟨10,116,none⟩),.pointer (some a),.int .u64 150])).run Tryz.prog w=.ok (some (116,a,150)) w:=by kernel_rfl
theorem as_isNil_n (a p:Addr) (W:World) (ha:W.cell? a=some (.pointer (some p))):(ReflectliteValue.method (ReflectliteValue.valueError "reflectlite.Value.IsNil" 0) ReflectliteValue.isNil #[.agg #[.pointer (some ⟨10,116,none⟩),.pointer (some a),.int .u64 150]]).run Tryz.prog W=.ok (.bool false) W:=by
 rw[as_rlm _ _ _ _ _ _ _ _ (as_parts_n a W)]
 simp[ReflectliteValue.isNil,loadVar,isAgg,underlying,Tryz.underlying116,ha,Result.andThen]
theorem as_elem_n (w:World):(ReflectliteType.method ReflectliteType.elem #[.agg #[.pointer (some ⟨10,116,none⟩)]]).run Tryz.prog w=.ok (.iface 189 (.agg #[.pointer (some ⟨10,104,none⟩)])) w:=by kernel_rfl
theorem as_implements_n (w:World):(ReflectliteType.relation "Implements" ReflectliteType.implements_ #[.agg #[.pointer (some ⟨10,104,none⟩)],.iface 189 (.agg #[.pointer (some ⟨10,67,none⟩)])]).run Tryz.prog w=.ok (.bool true) w:=by kernel_rfl
theorem as_valueOf_c (t:Addr) (w:World):(ReflectliteValue.unpack (.iface 120 (.pointer (some t)))).run Tryz.prog w=.ok (.agg #[.pointer (some ⟨10,120,none⟩),.pointer (some ⟨w.heap.size,0,none⟩),.int .u64 150]) (w.alloc (.cells #[.pointer (some t)] 120)):=by kernel_rfl
theorem as_type_c (a:Addr) (w:World):(ReflectliteValue.methodAny (ReflectliteValue.valueError "reflectlite.Value.Type" 0) (fun t _ _ _=>ReflectliteType.toType t) #[.agg #[.pointer (some ⟨10,120,none⟩),.pointer (some a),.int .u64 150]]).run Tryz.prog w=.ok (.iface 189 (.agg #[.pointer (some ⟨10,120,none⟩)])) w:=by kernel_rfl
theorem as_kindP_c (w:World):((ReflectliteType.abiMethod fun t=>(fun a:Nat=>Value.int IntKind.u8 (a:Int)) <$> Rtype.kind t) #[.pointer (some ⟨10,120,none⟩)]).run Tryz.prog w=.ok (.int .u8 22) w:=by kernel_rfl
theorem as_kindQ_c (w:World):((ReflectliteType.abiMethod fun t=>(fun a:Nat=>Value.int IntKind.u8 (a:Int)) <$> Rtype.kind t) #[.pointer (some ⟨10,105,none⟩)]).run Tryz.prog w=.ok (.int .u8 22) w:=by kernel_rfl
theorem as_parts_c (a:Addr) (w:World):(ReflectliteValue.parts (.agg #[.pointer (some ⟨10,120,none⟩),.pointer (some a),.int .u64 150])).run Tryz.prog w=.ok (some (120,a,150)) w:=by kernel_rfl
theorem as_isNil_c (a p:Addr) (W:World) (ha:W.cell? a=some (.pointer (some p))):(ReflectliteValue.method (ReflectliteValue.valueError "reflectlite.Value.IsNil" 0) ReflectliteValue.isNil #[.agg #[.pointer (some ⟨10,120,none⟩),.pointer (some a),.int .u64 150]]).run Tryz.prog W=.ok (.bool false) W:=by
 rw[as_rlm _ _ _ _ _ _ _ _ (as_parts_c a W)]
 simp[ReflectliteValue.isNil,loadVar,isAgg,underlying,Tryz.underlying120,ha,Result.andThen]
theorem as_elem_c (w:World):(ReflectliteType.method ReflectliteType.elem #[.agg #[.pointer (some ⟨10,120,none⟩)]]).run Tryz.prog w=.ok (.iface 189 (.agg #[.pointer (some ⟨10,105,none⟩)])) w:=by kernel_rfl
theorem as_implements_c (w:World):(ReflectliteType.relation "Implements" ReflectliteType.implements_ #[.agg #[.pointer (some ⟨10,105,none⟩)],.iface 189 (.agg #[.pointer (some ⟨10,67,none⟩)])]).run Tryz.prog w=.ok (.bool true) w:=by kernel_rfl
theorem as_typeOf_s (v:Value) (w:World):(ReflectliteType.typeOf #[.iface 103 v]).run Tryz.prog w=.ok (.iface 189 (.agg #[.pointer (some ⟨10,103,none⟩)])) w:=by kernel_rfl
theorem as_noAs_s (v:Value) (xT:TypeId) (w:World):(Instr.typeAssert (.iface 103 v) xT 193 true).run Tryz.prog w=.ok (.tuple #[.nilIface,.bool false]) w:=run_typeAssert_lacksB Tryz.underlying193 (by kernel_rfl) (by kernel_rfl) v xT w
theorem as_noUn_s (v:Value) (xT:TypeId) (w:World):(Instr.typeAssert (.iface 103 v) xT 196 true).run Tryz.prog w=.ok (.tuple #[.nilIface,.bool false]) w:=run_typeAssert_lacksB Tryz.underlying196 (by kernel_rfl) (by kernel_rfl) v xT w
theorem as_noUns_s (v:Value) (xT:TypeId) (w:World):(Instr.typeAssert (.iface 103 v) xT 198 true).run Tryz.prog w=.ok (.tuple #[.nilIface,.bool false]) w:=run_typeAssert_lacksB Tryz.underlying198 (by kernel_rfl) (by kernel_rfl) v xT w
theorem as_typeOf_n (v:Value) (w:World):(ReflectliteType.typeOf #[.iface 104 v]).run Tryz.prog w=.ok (.iface 189 (.agg #[.pointer (some ⟨10,104,none⟩)])) w:=by kernel_rfl
theorem as_noAs_n (v:Value) (xT:TypeId) (w:World):(Instr.typeAssert (.iface 104 v) xT 193 true).run Tryz.prog w=.ok (.tuple #[.nilIface,.bool false]) w:=run_typeAssert_lacksB Tryz.underlying193 (by kernel_rfl) (by kernel_rfl) v xT w
theorem as_noUn_n (v:Value) (xT:TypeId) (w:World):(Instr.typeAssert (.iface 104 v) xT 196 true).run Tryz.prog w=.ok (.tuple #[.nilIface,.bool false]) w:=run_typeAssert_lacksB Tryz.underlying196 (by kernel_rfl) (by kernel_rfl) v xT w
theorem as_noUns_n (v:Value) (xT:TypeId) (w:World):(Instr.typeAssert (.iface 104 v) xT 198 true).run Tryz.prog w=.ok (.tuple #[.nilIface,.bool false]) w:=run_typeAssert_lacksB Tryz.underlying198 (by kernel_rfl) (by kernel_rfl) v xT w
theorem as_typeOf_c (v:Value) (w:World):(ReflectliteType.typeOf #[.iface 105 v]).run Tryz.prog w=.ok (.iface 189 (.agg #[.pointer (some ⟨10,105,none⟩)])) w:=by kernel_rfl
theorem as_noAs_c (v:Value) (xT:TypeId) (w:World):(Instr.typeAssert (.iface 105 v) xT 193 true).run Tryz.prog w=.ok (.tuple #[.nilIface,.bool false]) w:=run_typeAssert_lacksB Tryz.underlying193 (by kernel_rfl) (by kernel_rfl) v xT w
theorem as_noUn_c (v:Value) (xT:TypeId) (w:World):(Instr.typeAssert (.iface 105 v) xT 196 true).run Tryz.prog w=.ok (.tuple #[.nilIface,.bool false]) w:=run_typeAssert_lacksB Tryz.underlying196 (by kernel_rfl) (by kernel_rfl) v xT w
theorem as_noUns_c (v:Value) (xT:TypeId) (w:World):(Instr.typeAssert (.iface 105 v) xT 198 true).run Tryz.prog w=.ok (.tuple #[.nilIface,.bool false]) w:=run_typeAssert_lacksB Tryz.underlying198 (by kernel_rfl) (by kernel_rfl) v xT w
theorem as_typeOf_e (v:Value) (w:World):(ReflectliteType.typeOf #[.iface 290 v]).run Tryz.prog w=.ok (.iface 189 (.agg #[.pointer (some ⟨10,290,none⟩)])) w:=by kernel_rfl
theorem as_noAs_e (v:Value) (xT:TypeId) (w:World):(Instr.typeAssert (.iface 290 v) xT 193 true).run Tryz.prog w=.ok (.tuple #[.nilIface,.bool false]) w:=run_typeAssert_lacksB Tryz.underlying193 (by kernel_rfl) (by kernel_rfl) v xT w
theorem as_noUn_e (v:Value) (xT:TypeId) (w:World):(Instr.typeAssert (.iface 290 v) xT 196 true).run Tryz.prog w=.ok (.tuple #[.nilIface,.bool false]) w:=run_typeAssert_lacksB Tryz.underlying196 (by kernel_rfl) (by kernel_rfl) v xT w
theorem as_noUns_e (v:Value) (xT:TypeId) (w:World):(Instr.typeAssert (.iface 290 v) xT 198 true).run Tryz.prog w=.ok (.tuple #[.nilIface,.bool false]) w:=run_typeAssert_lacksB Tryz.underlying198 (by kernel_rfl) (by kernel_rfl) v xT w
theorem as_h6 (args:Array Value) (w:World):(callFunc 62 args).run Tryz.prog w=((ReflectliteValue.unpack (args.getD 0 (.tuple #[]))).run Tryz.prog w).andThen fun v w'=>.ok (.value v) w':=@run_callFunc_extern Tryz.prog 62 _ (fun args=>ReflectliteValue.unpack (args.getD 0 (.tuple #[]))) Tryz.func62 (by kernel_rfl) (by kernel_rfl) (by kernel_rfl) (by kernel_rfl) args w
theorem as_h7 (args:Array Value) (w:World):(callFunc 63 args).run Tryz.prog w=((ReflectliteValue.methodAny (ReflectliteValue.valueError "reflectlite.Value.Type" 0) (fun t _ _ _=>ReflectliteType.toType t) args).run Tryz.prog w).andThen fun v w'=>.ok (.value v) w':=@run_callFunc_extern Tryz.prog 63 _ (fun args=>ReflectliteValue.methodAny (ReflectliteValue.valueError "reflectlite.Value.Type" 0) (fun t _ _ _=>ReflectliteType.toType t) args) Tryz.func63 (by kernel_rfl) (by kernel_rfl) (by kernel_rfl) (by kernel_rfl) args w
theorem as_h8 (args:Array Value) (w:World):(callFunc 64 args).run Tryz.prog w=((ReflectliteValue.method (ReflectliteValue.valueError "reflectlite.Value.IsNil" 0) ReflectliteValue.isNil args).run Tryz.prog w).andThen fun v w'=>.ok (.value v) w':=@run_callFunc_extern Tryz.prog 64 _ (fun args=>ReflectliteValue.method (ReflectliteValue.valueError "reflectlite.Value.IsNil" 0) ReflectliteValue.isNil args) Tryz.func64 (by kernel_rfl) (by kernel_rfl) (by kernel_rfl) (by kernel_rfl) args w
theorem as_h27 (args:Array Value) (w:World):(callFunc 178 args).run Tryz.prog w=(((ReflectliteType.abiMethod fun t=>do pure (.int .u8 (←Rtype.kind t))) args).run Tryz.prog w).andThen fun v w'=>.ok (.value v) w':=@run_callFunc_extern Tryz.prog 178 _ (fun args=>(ReflectliteType.abiMethod fun t=>do pure (.int .u8 (←Rtype.kind t))) args) Tryz.func178 (by kernel_rfl) (by kernel_rfl) (by kernel_rfl) (by kernel_rfl) args w
theorem as_h37 (args:Array Value) (w:World):(callFunc 193 args).run Tryz.prog w=((ReflectliteType.method ReflectliteType.elem args).run Tryz.prog w).andThen fun v w'=>.ok (.value v) w':=@run_callFunc_extern Tryz.prog 193 _ (fun args=>ReflectliteType.method ReflectliteType.elem args) Tryz.func193 (by kernel_rfl) (by kernel_rfl) (by kernel_rfl) (by kernel_rfl) args w
theorem as_h38 (args:Array Value) (w:World):(callFunc 194 args).run Tryz.prog w=((ReflectliteType.relation "Implements" ReflectliteType.implements_ args).run Tryz.prog w).andThen fun v w'=>.ok (.value v) w':=@run_callFunc_extern Tryz.prog 194 _ (fun args=>ReflectliteType.relation "Implements" ReflectliteType.implements_ args) Tryz.func194 (by kernel_rfl) (by kernel_rfl) (by kernel_rfl) (by kernel_rfl) args w
theorem as_h10 (args:Array Value) (w:World):(callFunc 66 args).run Tryz.prog w=((ReflectliteType.typeOf args).run Tryz.prog w).andThen fun v w'=>.ok (.value v) w':=@run_callFunc_extern Tryz.prog 66 _ (fun args=>ReflectliteType.typeOf args) Tryz.func66 (by kernel_rfl) (by kernel_rfl) (by kernel_rfl) (by kernel_rfl) args w
theorem as_h35 (args:Array Value) (w:World):(callFunc 191 args).run Tryz.prog w=((ReflectliteType.relation "AssignableTo" ReflectliteType.assignableTo args).run Tryz.prog w).andThen fun v w'=>.ok (.value v) w':=@run_callFunc_extern Tryz.prog 191 _ (fun args=>ReflectliteType.relation "AssignableTo" ReflectliteType.assignableTo args) Tryz.func191 (by kernel_rfl) (by kernel_rfl) (by kernel_rfl) (by kernel_rfl) args w
theorem as_h11 (args:Array Value) (w:World):(callFunc 99 args).run Tryz.prog w=((ReflectliteValue.method (ReflectliteValue.valueError "reflectlite.Value.Elem" 0) ReflectliteValue.elem args).run Tryz.prog w).andThen fun v w'=>.ok (.value v) w':=@run_callFunc_extern Tryz.prog 99 _ (fun args=>ReflectliteValue.method (ReflectliteValue.valueError "reflectlite.Value.Elem" 0) ReflectliteValue.elem args) Tryz.func99 (by kernel_rfl) (by kernel_rfl) (by kernel_rfl) (by kernel_rfl) args w
theorem as_h12 (args:Array Value) (w:World):(callFunc 100 args).run Tryz.prog w=((ReflectliteValue.set args).run Tryz.prog w).andThen fun v w'=>.ok (.value v) w':=@run_callFunc_extern Tryz.prog 100 _ (fun args=>ReflectliteValue.set args) Tryz.func100 (by kernel_rfl) (by kernel_rfl) (by kernel_rfl) (by kernel_rfl) args w
end Go.Proofs.YtpcmemcanpgadaaGreatDoor
