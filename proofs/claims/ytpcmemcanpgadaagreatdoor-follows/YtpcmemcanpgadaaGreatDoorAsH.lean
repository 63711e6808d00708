import Derived.Test.YtpcmemcanpgadaaGreatDoorAsF
set_option maxHeartbeats 4000000
namespace Go.Proofs.YtpcmemcanpgadaaGreatDoor
open Go.RowKit Go.Extern.Stop Go.Stop Go.Extern
theorem as_assign_ss (w:World):(ReflectliteType.relation "AssignableTo" ReflectliteType.assignableTo #[.agg #[.pointer (some ⟨10,103,none⟩)],.iface 189 (.agg #[.pointer (some ⟨10,103,none⟩)])]).run Tryz.prog w=.ok (.bool true) w:=by kernel_rfl
theorem as_valueOfQ_s (e:Addr) (w:World):(ReflectliteValue.unpack (.iface 103 (.pointer (some e)))).run Tryz.prog w=.ok (.agg #[.pointer (some ⟨10,103,none⟩),.pointer (some ⟨w.heap.size,0,none⟩),.int .u64 150]) (w.alloc (.cells #[.pointer (some e)] 103)):=by kernel_rfl
theorem as_elemOf_s (w:World):(Rtype.elem? 113).run Tryz.prog w=.ok (some 103) w:=by kernel_rfl
theorem as_mk_s (p:Addr) (w:World):(ReflectliteValue.mk 103 p ReflectliteValue.flagAddr).run Tryz.prog w=.ok (.agg #[.pointer (some ⟨10,103,none⟩),.pointer (some p),.int .u64 406]) w:=by kernel_rfl
theorem as_elemV_s (a p:Addr) (W:World) (ha:W.cell? a=some (.pointer (some p))):(ReflectliteValue.method (ReflectliteValue.valueError "reflectlite.Value.Elem" 0) ReflectliteValue.elem #[.agg #[.pointer (some ⟨10,113,none⟩),.pointer (some a),.int .u64 150]]).run Tryz.prog W=.ok (.agg #[.pointer (some ⟨10,103,none⟩),.pointer (some p),.int .u64 406]) W:=by
 rw[as_rlm _ _ _ _ _ _ _ _ (as_parts_s a W)]
 simp[ReflectliteValue.elem,loadVar,isAgg,underlying,Tryz.underlying113,ha,Result.andThen,as_elemOf_s,as_mk_s]
theorem as_partsA_s (a:Addr) (w:World):(ReflectliteValue.parts (.agg #[.pointer (some ⟨10,103,none⟩),.pointer (some a),.int .u64 406])).run Tryz.prog w=.ok (some (103,a,406)) w:=by kernel_rfl
theorem as_partsQ_s (a:Addr) (w:World):(ReflectliteValue.parts (.agg #[.pointer (some ⟨10,103,none⟩),.pointer (some a),.int .u64 150])).run Tryz.prog w=.ok (some (103,a,150)) w:=by kernel_rfl
theorem as_direct_s (w:World):(Rtype.directlyAssignable 103 103).run Tryz.prog w=.ok true w:=by kernel_rfl
theorem as_set_s (ta b e:Addr) (old:Value) (W:World) (hb:W.cell? b=some (.pointer (some e))) (ht:W.cell? ta=some old) (hf:W.frozen? ta=false) :
  (ReflectliteValue.set #[.agg #[.pointer (some ⟨10,103,none⟩),.pointer (some ta),.int .u64 406],.agg #[.pointer (some ⟨10,103,none⟩),.pointer (some b),.int .u64 150]]).run Tryz.prog W=.ok (.tuple #[]) (W.setCell ta (.pointer (some e))):=by
 change Sem.run _ (bind (ReflectliteValue.parts (.agg #[.pointer (some ⟨10,103,none⟩),.pointer (some ta),.int .u64 406])) (fun x=>bind (ReflectliteValue.parts (.agg #[.pointer (some ⟨10,103,none⟩),.pointer (some b),.int .u64 150])) (fun y=>_))) _=_
 simp only[Sem.run_bind,as_partsA_s,as_partsQ_s,Result.andThen]
 simp[ReflectliteValue.flagAddr,loadVar,isAgg,underlying,Tryz.underlying103,hb,Result.andThen,as_direct_s,storeVar,Value.cells,storeCells,Addr.add]
 rw[run_store Tryz.prog W ta _ _ (by rfl)]
 simp[ht,hf]
theorem as_hit_s (e t:Addr) (old:Value) (w:World) (hg:w.cell? ⟨6,0,none⟩=some (.iface 189 (.agg #[.pointer (some ⟨10,67,none⟩)]))) (ht0:w.cell? t=some old) (hf0:w.frozen? t=false) :
  Calls Tryz.prog 43 #[.iface 103 (.pointer (some e)),.iface 113 (.pointer (some t))] w fun ev w'=>ev=.returned (.bool true)∧w'=((((w.alloc (.cells #[.pointer (some t)] 113)).alloc (.cells #[.pointer (some ⟨10,113,none⟩),.pointer (some ⟨w.heap.size,0,none⟩),.int .u64 150] 144)).alloc (.cells #[.pointer (some ⟨10,113,none⟩),.pointer (some ⟨w.heap.size,0,none⟩),.int .u64 150] 144)).alloc (.cells #[.pointer (some e)] 103)).setCell t (.pointer (some e)):=by
 have h6:=as_h6
 have h7:=as_h7
 have h8:=as_h8
 have h27:=as_h27
 have h37:=as_h37
 have h38:=as_h38
 have h10:=as_h10
 have h35:=as_h35
 have mA:=as_mAssignableTo
 have mK:=as_mKind
 have mE:=as_mElem
 have mI:=as_mImplements
 have h11:=as_h11
 have h12:=as_h12
 have tO:=as_typeOf_s
 have a1:=as_assign_ss
 have vQ:=as_valueOfQ_s
 have f6:=as_valueOf_s
 have f7:=as_type_s
 have kP:=as_kindP_s
 have kQ:=as_kindQ_s
 have eP:=as_elem_s
 have iQ:=as_implements_s
 have n8:=as_isNil_s ⟨w.heap.size,0,none⟩ t ((w.alloc (.cells #[.pointer (some t)] 113)).alloc (.cells #[.pointer (some ⟨10,113,none⟩),.pointer (some ⟨w.heap.size,0,none⟩),.int .u64 150] 144)) (by simp)
 have hlt:6<w.heap.size:=bltc hg
 have hg2:((w.alloc (.cells #[.pointer (some t)] 113)).alloc (.cells #[.pointer (some ⟨10,113,none⟩),.pointer (some ⟨w.heap.size,0,none⟩),.int .u64 150] 144)).cell? ⟨6,0,none⟩=some (.iface 189 (.agg #[.pointer (some ⟨10,67,none⟩)])):=by
  rw[World.cell?_alloc_lt _ _ ⟨6,0,none⟩ (by simp;omega),World.cell?_alloc_lt _ _ ⟨6,0,none⟩ hlt];exact hg
 have htl:t.block<w.heap.size:=bltc ht0
 have el:=as_elemV_s ⟨w.heap.size,0,none⟩ t (((w.alloc (.cells #[.pointer (some t)] 113)).alloc (.cells #[.pointer (some ⟨10,113,none⟩),.pointer (some ⟨w.heap.size,0,none⟩),.int .u64 150] 144)).alloc (.cells #[.pointer (some ⟨10,113,none⟩),.pointer (some ⟨w.heap.size,0,none⟩),.int .u64 150] 144)) (by rw[World.cell?_alloc_lt _ _ ⟨w.heap.size,0,none⟩ (by simp;omega)];simp)
 have st:=as_set_s t ⟨w.heap.size+1+1+1,0,none⟩ e old ((((w.alloc (.cells #[.pointer (some t)] 113)).alloc (.cells #[.pointer (some ⟨10,113,none⟩),.pointer (some ⟨w.heap.size,0,none⟩),.int .u64 150] 144)).alloc (.cells #[.pointer (some ⟨10,113,none⟩),.pointer (some ⟨w.heap.size,0,none⟩),.int .u64 150] 144)).alloc (.cells #[.pointer (some e)] 103))
  (by rw[World.cell?_alloc_at _ _ _ _ (by simp)];rfl)
  (by rw[World.cell?_alloc_lt _ _ t (by simp;omega),World.cell?_alloc_lt _ _ t (by simp;omega),World.cell?_alloc_lt _ _ t (by simp;omega),World.cell?_alloc_lt _ _ t htl];exact ht0)
  (by rw[World.frozen?_alloc_old _ _ t (by simp;omega),World.frozen?_alloc_old _ _ t (by simp;omega),World.frozen?_alloc_old _ _ t (by simp;omega),World.frozen?_alloc_old _ _ t (Nat.ne_of_lt htl)];exact hf0)
 go_enter Tryz.func43,Tryz.ntmps43
 go_wp2
 refine wp_loop_rounds 1 ?_
 rw[rounds_succ]
 go_wp2
 go_ret
 exact⟨rfl,rfl⟩
theorem as_assign_nn (w:World):(ReflectliteType.relation "AssignableTo" ReflectliteType.assignableTo #[.agg #[.pointer (some ⟨10,104,none⟩)],.iface 189 (.agg #[.pointer (some ⟨10,104,none⟩)])]).run Tryz.prog w=.ok (.bool true) w:=by kernel_rfl
theorem as_valueOfQ_n (e:Addr) (w:World):(ReflectliteValue.unpack (.iface 104 (.pointer (some e)))).run Tryz.prog w=.ok (.agg #[.pointer (some ⟨10,104,none⟩),.pointer (some ⟨w.heap.size,0,none⟩),.int .u64 150]) (w.alloc (.cells #[.pointer (some e)] 104)):=by kernel_rfl
theorem as_elemOf_n (w:World):(Rtype.elem? 116).run Tryz.prog w=.ok (some 104) w:=by kernel_rfl
theorem as_mk_n (p:Addr) (w:World):(ReflectliteValue.mk 104 p ReflectliteValue.flagAddr).run Tryz.prog w=.ok (.agg #[.pointer (some ⟨10,104,none⟩),.pointer (some p),.int .u64 406]) w:=by kernel_rfl
theorem as_elemV_n (a p:Addr) (W:World) (ha:W.cell? a=some (.pointer (some p))):(ReflectliteValue.method (ReflectliteValue.valueError "reflectlite.Value.Elem" 0) ReflectliteValue.elem #[.agg #[.pointer (some ⟨10,116,none⟩),.pointer (some a),.int .u64 150]]).run Tryz.prog W=.ok (.agg #[.pointer (some ⟨10,104,none⟩),.pointer (some p),.int .u64 406]) W:=by
 rw[as_rlm _ _ _ _ _ _ _ _ (as_parts_n a W)]
 simp[ReflectliteValue.elem,loadVar,isAgg,underlying,Tryz.underlying116,ha,Result.andThen,as_elemOf_n,as_mk_n]
theorem as_partsA_n (a:Addr) (w:World):(ReflectliteValue.parts (.agg #[.pointer (some ⟨10,104,none⟩),.pointer (some a),.int .u64 406])).run Tryz.prog w=.ok (some (104,a,406)) w:=by kernel_rfl
theorem as_partsQ_n (a:Addr) (w:World):(ReflectliteValue.parts (.agg #[.pointer (some ⟨10,104,none⟩),.pointer (some a),.int .u64 150])).run Tryz.prog w=.ok (some (104,a,150)) w:=by kernel_rfl
theorem as_direct_n (w:World):(Rtype.directlyAssignable 104 104).run Tryz.prog w=.ok true w:=by kernel_rfl
theorem as_set_n (ta b e:Addr) (old:Value) (W:World) (hb:W.cell? b=some (.pointer (some e))) (ht:W.cell? ta=some old) (hf:W.frozen? ta=false) :
  (ReflectliteValue.set #[.agg #[.pointer (some ⟨10,104,none⟩),.pointer (some ta),.int .u64 406],.agg #[.pointer (some ⟨10,104,none⟩),.pointer (some b),.int .u64 150]]).run Tryz.prog W=.ok (.tuple #[]) (W.setCell ta (.pointer (some e))):=by
 change Sem.run _ (bind (ReflectliteValue.parts (.agg #[.pointer (some ⟨10,104,none⟩),.pointer (some ta),.int .u64 406])) (fun x=>bind (ReflectliteValue.parts (.agg #[.pointer (some ⟨10,104,none⟩),.pointer (some b),.int .u64 150])) (fun y=>_))) _=_
 simp only[Sem.run_bind,as_partsA_n,as_partsQ_n,Result.andThen]
 simp[ReflectliteValue.flagAddr,loadVar,isAgg,underlying,Tryz.underlying104,hb,Result.andThen,as_direct_n,storeVar,Value.cells,storeCells,Addr.add]
 rw[run_store Tryz.prog W ta _ _ (by rfl)]
 simp[ht,hf]
theorem as_hit_n (e t:Addr) (old:Value) (w:World) (hg:w.cell? ⟨6,0,none⟩=some (.iface 189 (.agg #[.pointer (some ⟨10,67,none⟩)]))) (ht0:w.cell? t=some old) (hf0:w.frozen? t=false) :
  Calls Tryz.prog 43 #[.iface 104 (.pointer (some e)),.iface 116 (.pointer (some t))] w fun ev w'=>ev=.returned (.bool true)∧w'=((((w.alloc (.cells #[.pointer (some t)] 116)).alloc (.cells #[.pointer (some ⟨10,116,none⟩),.pointer (some ⟨w.heap.size,0,none⟩),.int .u64 150] 144)).alloc (.cells #[.pointer (some ⟨10,116,none⟩),.pointer (some ⟨w.heap.size,0,none⟩),.int .u64 150] 144)).alloc (.cells #[.pointer (some e)] 104)).setCell t (.pointer (some e)):=by
 have h6:=as_h6
 have h7:=as_h7
 have h8:=as_h8
 have h27:=as_h27
 have h37:=as_h37
 have h38:=as_h38
 have h10:=as_h10
 have h35:=as_h35
 have mA:=as_mAssignableTo
 have mK:=as_mKind
 have mE:=as_mElem
 have mI:=as_mImplements
 have h11:=as_h11
 have h12:=as_h12
 have tO:=as_typeOf_n
 have a1:=as_assign_nn
 have vQ:=as_valueOfQ_n
 have f6:=as_valueOf_n
 have f7:=as_type_n
 have kP:=as_kindP_n
 have kQ:=as_kindQ_n
 have eP:=as_elem_n
 have iQ:=as_implements_n
 have n8:=as_isNil_n ⟨w.heap.size,0,none⟩ t ((w.alloc (.cells #[.pointer (some t)] 116)).alloc (.cells #[.pointer (some ⟨10,116,none⟩),.pointer (some ⟨w.heap.size,0,none⟩),.int .u64 150] 144)) (by simp)
 have hlt:6<w.heap.size:=bltc hg
 have hg2:((w.alloc (.cells #[.pointer (some t)] 116)).alloc (.cells #[.pointer (some ⟨10,116,none⟩),.pointer (some ⟨w.heap.size,0,none⟩),.int .u64 150] 144)).cell? ⟨6,0,none⟩=some (.iface 189 (.agg #[.pointer (some ⟨10,67,none⟩)])):=by
  rw[World.cell?_alloc_lt _ _ ⟨6,0,none⟩ (by simp;omega),World.cell?_alloc_lt _ _ ⟨6,0,none⟩ hlt];exact hg
 have htl:t.block<w.heap.size:=bltc ht0
 have el:=as_elemV_n ⟨w.heap.size,0,none⟩ t (((w.alloc (.cells #[.pointer (some t)] 116)).alloc (.cells #[.pointer (some ⟨10,116,none⟩),.pointer (some ⟨w.heap.size,0,none⟩),.int .u64 150] 144)).alloc (.cells #[.pointer (some ⟨10,116,none⟩),.pointer (some ⟨w.heap.size,0,none⟩),.int .u64 150] 144)) (by rw[World.cell?_alloc_lt _ _ ⟨w.heap.size,0,none⟩ (by simp;omega)];simp)
 have st:=as_set_n t ⟨w.heap.size+1+1+1,0,none⟩ e old ((((w.alloc (.cells #[.pointer (some t)] 116)).alloc (.cells #[.pointer (some ⟨10,116,none⟩),.pointer (some ⟨w.heap.size,0,none⟩),.int .u64 150] 144)).alloc (.cells #[.pointer (some ⟨10,116,none⟩),.pointer (some ⟨w.heap.size,0,none⟩),.int .u64 150] 144)).alloc (.cells #[.pointer (some e)] 104))
  (by rw[World.cell?_alloc_at _ _ _ _ (by simp)];rfl)
  (by rw[World.cell?_alloc_lt _ _ t (by simp;omega),World.cell?_alloc_lt _ _ t (by simp;omega),World.cell?_alloc_lt _ _ t (by simp;omega),World.cell?_alloc_lt _ _ t htl];exact ht0)
  (by rw[World.frozen?_alloc_old _ _ t (by simp;omega),World.frozen?_alloc_old _ _ t (by simp;omega),World.frozen?_alloc_old _ _ t (by simp;omega),World.frozen?_alloc_old _ _ t (Nat.ne_of_lt htl)];exact hf0)
 go_enter Tryz.func43,Tryz.ntmps43
 go_wp2
 refine wp_loop_rounds 1 ?_
 rw[rounds_succ]
 go_wp2
 go_ret
 exact⟨rfl,rfl⟩
theorem as_assign_cc (w:World):(ReflectliteType.relation "AssignableTo" ReflectliteType.assignableTo #[.agg #[.pointer (some ⟨10,105,none⟩)],.iface 189 (.agg #[.pointer (some ⟨10,105,none⟩)])]).run Tryz.prog w=.ok (.bool true) w:=by kernel_rfl
theorem as_valueOfQ_c (e:Addr) (w:World):(ReflectliteValue.unpack (.iface 105 (.pointer (some e)))).run Tryz.prog w=.ok (.agg #[.pointer (some ⟨10,105,none⟩),.pointer (some ⟨w.heap.size,0,none⟩),.int .u64 150]) (w.alloc (.cells #[.pointer (some e)] 105)):=by kernel_rfl
theorem as_elemOf_c (w:World):(Rtype.elem? 120).run Tryz.prog w=.ok (some 105) w:=by kernel_rfl
theorem as_mk_c (p:Addr) (w:World):(ReflectliteValue.mk 105 p ReflectliteValue.flagAddr).run Tryz.prog w=.ok (.agg #[.pointer (some ⟨10,105,none⟩),.pointer (some p),.int .u64 406]) w:=by kernel_rfl
theorem as_elemV_c (a p:Addr) (W:World) (ha:W.cell? a=some (.pointer (some p))):(ReflectliteValue.method (ReflectliteValue.valueError "reflectlite.Value.Elem" 0) ReflectliteValue.elem #[.agg #[.pointer (some ⟨10,120,none⟩),.pointer (some a),.int .u64 150]]).run Tryz.prog W=.ok (.agg #[.pointer (some ⟨10,105,none⟩),.pointer (some p),.int .u64 406]) W:=by
 rw[as_rlm _ _ _ _ _ _ _ _ (as_parts_c a W)]
 simp[ReflectliteValue.elem,loadVar,isAgg,underlying,Tryz.underlying120,ha,Result.andThen,as_elemOf_c,as_mk_c]
theorem as_partsA_c (a:Addr) (w:World):(ReflectliteValue.parts (.agg #[.pointer (some ⟨10,105,none⟩),.pointer (some a),.int .u64 406])).run Tryz.prog w=.ok (some (105,a,406)) w:=by kernel_rfl
theorem as_partsQ_c (a:Addr) (w:World):(ReflectliteValue.parts (.agg #[.pointer (some ⟨10,105,none⟩),.pointer (some a),.int .u64 150])).run Tryz.prog w=.ok (some (105,a,150)) w:=by kernel_rfl
theorem as_direct_c (w:World):(Rtype.directlyAssignable 105 105).run Tryz.prog w=.ok true w:=by kernel_rfl
theorem as_set_c (ta b e:Addr) (old:Value) (W:World) (hb:W.cell? b=some (.pointer (some e))) (ht:W.cell? ta=some old) (hf:W.frozen? ta=false) :
  (ReflectliteValue.set #[.agg #[.pointer (some ⟨10,105,none⟩),.pointer (some ta),.int .u64 406],.agg #[.pointer (some ⟨10,105,none⟩),.pointer (some b),.int .u64 150]]).run Tryz.prog W=.ok (.tuple #[]) (W.setCell ta (.pointer (some e))):=by
 change Sem.run _ (bind (ReflectliteValue.parts (.agg #[.pointer (some ⟨10,105,none⟩),.pointer (some ta),.int .u64 406])) (fun x=>bind (ReflectliteValue.parts (.agg #[.pointer (some ⟨10,105,none⟩),.pointer (some b),.int .u64 150])) (fun y=>_))) _=_
 simp only[Sem.run_bind,as_partsA_c,as_partsQ_c,Result.andThen]
 simp[ReflectliteValue.flagAddr,loadVar,isAgg,underlying,Tryz.underlying105,hb,Result.andThen,as_direct_c,storeVar,Value.cells,storeCells,Addr.add]
 rw[run_store Tryz.prog W ta _ _ (by rfl)]
 simp[ht,hf]
theorem as_hit_c (e t:Addr) (old:Value) (w:World) (hg:w.cell? ⟨6,0,none⟩=some (.iface 189 (.agg #[.pointer (some ⟨10,67,none⟩)]))) (ht0:w.cell? t=some old) (hf0:w.frozen? t=false) :
  Calls Tryz.prog 43 #[.iface 105 (.pointer (some e)),.iface 120 (.pointer (some t))] w fun ev w'=>ev=.returned (.bool true)∧w'=((((w.alloc (.cells #[.pointer (some t)] 120)).alloc (.cells #[.pointer (some ⟨10,120,none⟩),.pointer (some ⟨w.heap.size,0,none⟩),.int .u64 150] 144)).alloc (.cells #[.pointer (some ⟨10,120,none⟩),.pointer (some ⟨w.heap.size,0,none⟩),.int .u64 150] 144)).alloc (.cells #[.pointer (some e)] 105)).setCell t (.pointer (some e)):=by
 have h6:=as_h6
 have h7:=as_h7
 have h8:=as_h8
 have h27:=as_h27
 have h37:=as_h37
 have h38:=as_h38
 have h10:=as_h10
 have h35:=as_h35
 have mA:=as_mAssignableTo
 have mK:=as_mKind
 have mE:=as_mElem
 have mI:=as_mImplements
 have h11:=as_h11
 have h12:=as_h12
 have tO:=as_typeOf_c
 have a1:=as_assign_cc
 have vQ:=as_valueOfQ_c
 have f6:=as_valueOf_c
 have f7:=as_type_c
 have kP:=as_kindP_c
 have kQ:=as_kindQ_c
 have eP:=as_elem_c
 have iQ:=as_implements_c
 have n8:=as_isNil_c ⟨w.heap.size,0,none⟩ t ((w.alloc (.cells #[.pointer (some t)] 120)).alloc (.cells #[.pointer (some ⟨10,120,none⟩),.pointer (some ⟨w.heap.size,0,none⟩),.int .u64 150] 144)) (by simp)
 have hlt:6<w.heap.size:=bltc hg
 have hg2:((w.alloc (.cells #[.pointer (some t)] 120)).alloc (.cells #[.pointer (some ⟨10,120,none⟩),.pointer (some ⟨w.heap.size,0,none⟩),.int .u64 150] 144)).cell? ⟨6,0,none⟩=some (.iface 189 (.agg #[.pointer (some ⟨10,67,none⟩)])):=by
  rw[World.cell?_alloc_lt _ _ ⟨6,0,none⟩ (by simp;omega),World.cell?_alloc_lt _ _ ⟨6,0,none⟩ hlt];exact hg
 have htl:t.block<w.heap.size:=bltc ht0
 have el:=as_elemV_c ⟨w.heap.size,0,none⟩ t (((w.alloc (.cells #[.pointer (some t)] 120)).alloc (.cells #[.pointer (some ⟨10,120,none⟩),.pointer (some ⟨w.heap.size,0,none⟩),.int .u64 150] 144)).alloc (.cells #[.pointer (some ⟨10,120,none⟩),.pointer (some ⟨w.heap.size,0,none⟩),.int .u64 150] 144)) (by rw[World.cell?_alloc_lt _ _ ⟨w.heap.size,0,none⟩ (by simp;omega)];simp)
 have st:=as_set_c t ⟨w.heap.size+1+1+1,0,none⟩ e old ((((w.alloc (.cells #[.pointer (some t)] 120)).alloc (.cells #[.pointer (some ⟨10,120,none⟩),.pointer (some ⟨w.heap.size,0,none⟩),.int .u64 150] 144)).alloc (.cells #[.pointer (some ⟨10,120,none⟩),.pointer (some ⟨w.heap.size,0,none⟩),.int .u64 150] 144)).alloc (.cells #[.pointer (some e)] 105))
  (by rw[World.cell?_alloc_at _ _ _ _ (by simp)];rfl)
  (by rw[World.cell?_alloc_lt _ _ t (by simp;omega),World.cell?_alloc_lt _ _ t (by simp;omega),World.cell?_alloc_lt _ _ t (by simp;omega),World.cell?_alloc_lt _ _ t htl];exact ht0)
  (by rw[World.frozen?_alloc_old _ _ t (by simp;omega),World.frozen?_alloc_old _ _ t (by simp;omega),World.frozen?_alloc_old _ _ t (by simp;omega),World.frozen?_alloc_old _ _ t (Nat.ne_of_lt htl)];exact hf0)
 go_enter Tryz.func43,Tryz.ntmps43
 go_wp2
 refine wp_loop_rounds 1 ?_
 rw[rounds_succ]
 go_wp2
 go_ret
 exact⟨rfl,rfl⟩
end Go.Proofs.YtpcmemcanpgadaaGreatDoor
