import Derived.Test.YtpcmemcanpgadaaGreatDoorAsF
set_option maxHeartbeats 4000000
namespace Go.Proofs.YtpcmemcanpgadaaGreatDoor
open Go.RowKit Go.Extern.Stop Go.Stop Go.Extern
theorem as_assign_si (w:World):(ReflectliteType.relation "AssignableTo" ReflectliteType.assignableTo #[.agg #[.pointer (some ⟨10,103,none⟩)],.iface 189 (.agg #[.pointer (some ⟨10,106,none⟩)])]).run Tryz.prog w=.ok (.bool false) w:=by kernel_rfl
theorem as_miss_si (e t:Addr) (w:World) (hg:w.cell? ⟨6,0,none⟩=some (.iface 189 (.agg #[.pointer (some ⟨10,67,none⟩)]))) :
  Calls Tryz.prog 43 #[.iface 103 (.pointer (some e)),.iface 108 (.pointer (some t))] w fun ev w'=>ev=.returned (.bool false)∧Below w.heap.size w w':=by
 have h6:=as_h6
 have h7:=as_h7
 have h8:=as_h8
 have h27:=as_h27
 have h37:=as_h37
 have h38:=as_h38
 have h10:=as_h10
 have h35:=as_h35
 have mA:=as_mAssignableTo
 have mK:=as_mKind
 have mE:=as_mElem
 have mI:=as_mImplements
 have tO:=as_typeOf_s
 have a1:=as_assign_si
 have n1:=as_noAs_s
 have n2:=as_noUn_s
 have n3:=as_noUns_s
 have f6:=as_valueOf_i
 have f7:=as_type_i
 have kP:=as_kindP_i
 have kQ:=as_kindQ_i
 have eP:=as_elem_i
 have iQ:=as_implements_i
 have n8:=as_isNil_i ⟨w.heap.size,0,none⟩ t ((w.alloc (.cells #[.pointer (some t)] 108)).alloc (.cells #[.pointer (some ⟨10,108,none⟩),.pointer (some ⟨w.heap.size,0,none⟩),.int .u64 150] 144)) (by simp)
 have hlt:6<w.heap.size:=bltc hg
 have hg2:((w.alloc (.cells #[.pointer (some t)] 108)).alloc (.cells #[.pointer (some ⟨10,108,none⟩),.pointer (some ⟨w.heap.size,0,none⟩),.int .u64 150] 144)).cell? ⟨6,0,none⟩=some (.iface 189 (.agg #[.pointer (some ⟨10,67,none⟩)])):=by
  rw[World.cell?_alloc_lt _ _ ⟨6,0,none⟩ (by simp;omega),World.cell?_alloc_lt _ _ ⟨6,0,none⟩ hlt];exact hg
 go_enter Tryz.func43,Tryz.ntmps43
 go_wp2
 refine wp_loop_rounds 1 ?_
 rw[rounds_succ]
 go_wp2
 go_ret
 exact⟨rfl,(((Below.refl _ w).alloc (Nat.le_refl _) _).alloc (by simp) _).alloc (by simp;omega) _⟩
theorem as_assign_ni (w:World):(ReflectliteType.relation "AssignableTo" ReflectliteType.assignableTo #[.agg #[.pointer (some ⟨10,104,none⟩)],.iface 189 (.agg #[.pointer (some ⟨10,106,none⟩)])]).run Tryz.prog w=.ok (.bool false) w:=by kernel_rfl
theorem as_miss_ni (e t:Addr) (w:World) (hg:w.cell? ⟨6,0,none⟩=some (.iface 189 (.agg #[.pointer (some ⟨10,67,none⟩)]))) :
  Calls Tryz.prog 43 #[.iface 104 (.pointer (some e)),.iface 108 (.pointer (some t))] w fun ev w'=>ev=.returned (.bool false)∧Below w.heap.size w w':=by
 have h6:=as_h6
 have h7:=as_h7
 have h8:=as_h8
 have h27:=as_h27
 have h37:=as_h37
 have h38:=as_h38
 have h10:=as_h10
 have h35:=as_h35
 have mA:=as_mAssignableTo
 have mK:=as_mKind
 have mE:=as_mElem
 have mI:=as_mImplements
 have tO:=as_typeOf_n
 have a1:=as_assign_ni
 have n1:=as_noAs_n
 have n2:=as_noUn_n
 have n3:=as_noUns_n
 have f6:=as_valueOf_i
 have f7:=as_type_i
 have kP:=as_kindP_i
 have kQ:=as_kindQ_i
 have eP:=as_elem_i
 have iQ:=as_implements_i
 have n8:=as_isNil_i ⟨w.heap.size,0,none⟩ t ((w.alloc (.cells #[.pointer (some t)] 108)).alloc (.cells #[.pointer (some ⟨10,108,none⟩),.pointer (some ⟨w.heap.size,0,none⟩),.int .u64 150] 144)) (by simp)
 have hlt:6<w.heap.size:=bltc hg
 have hg2:((w.alloc (.cells #[.pointer (some t)] 108)).alloc (.cells #[.pointer (some ⟨10,108,none⟩),.pointer (some ⟨w.heap.size,0,none⟩),.int .u64 150] 144)).cell? ⟨6,0,none⟩=some (.iface 189 (.agg #[.pointer (some ⟨10,67,none⟩)])):=by
  rw[World.cell?_alloc_lt _ _ ⟨6,0,none⟩ (by simp;omega),World.cell?_alloc_lt _ _ ⟨6,0,none⟩ hlt];exact hg
 go_enter Tryz.func43,Tryz.ntmps43
 go_wp2
 refine wp_loop_rounds 1 ?_
 rw[rounds_succ]
 go_wp2
 go_ret
 exact⟨rfl,(((Below.refl _ w).alloc (Nat.le_refl _) _).alloc (by simp) _).alloc (by simp;omega) _⟩
theorem as_assign_ns (w:World):(ReflectliteType.relation "AssignableTo" ReflectliteType.assignableTo #[.agg #[.pointer (some ⟨10,104,none⟩)],.iface 189 (.agg #[.pointer (some ⟨10,103,none⟩)])]).run Tryz.prog w=.ok (.bool false) w:=by kernel_rfl
theorem as_miss_ns (e t:Addr) (w:World) (hg:w.cell? ⟨6,0,none⟩=some (.iface 189 (.agg #[.pointer (some ⟨10,67,none⟩)]))) :
  Calls Tryz.prog 43 #[.iface 104 (.pointer (some e)),.iface 113 (.pointer (some t))] w fun ev w'=>ev=.returned (.bool false)∧Below w.heap.size w w':=by
 have h6:=as_h6
 have h7:=as_h7
 have h8:=as_h8
 have h27:=as_h27
 have h37:=as_h37
 have h38:=as_h38
 have h10:=as_h10
 have h35:=as_h35
 have mA:=as_mAssignableTo
 have mK:=as_mKind
 have mE:=as_mElem
 have mI:=as_mImplements
 have tO:=as_typeOf_n
 have a1:=as_assign_ns
 have n1:=as_noAs_n
 have n2:=as_noUn_n
 have n3:=as_noUns_n
 have f6:=as_valueOf_s
 have f7:=as_type_s
 have kP:=as_kindP_s
 have kQ:=as_kindQ_s
 have eP:=as_elem_s
 have iQ:=as_implements_s
 have n8:=as_isNil_s ⟨w.heap.size,0,none⟩ t ((w.alloc (.cells #[.pointer (some t)] 113)).alloc (.cells #[.pointer (some ⟨10,113,none⟩),.pointer (some ⟨w.heap.size,0,none⟩),.int .u64 150] 144)) (by simp)
 have hlt:6<w.heap.size:=bltc hg
 have hg2:((w.alloc (.cells #[.pointer (some t)] 113)).alloc (.cells #[.pointer (some ⟨10,113,none⟩),.pointer (some ⟨w.heap.size,0,none⟩),.int .u64 150] 144)).cell? ⟨6,0,none⟩=some (.iface 189 (.agg #[.pointer (some ⟨10,67,none⟩)])):=by
  rw[World.cell?_alloc_lt _ _ ⟨6,0,none⟩ (by simp;omega),World.cell?_alloc_lt _ _ ⟨6,0,none⟩ hlt];exact hg
 go_enter Tryz.func43,Tryz.ntmps43
 go_wp2
 refine wp_loop_rounds 1 ?_
 rw[rounds_succ]
 go_wp2
 go_ret
 exact⟨rfl,(((Below.refl _ w).alloc (Nat.le_refl _) _).alloc (by simp) _).alloc (by simp;omega) _⟩
theorem as_assign_ci (w:World):(ReflectliteType.relation "AssignableTo" ReflectliteType.assignableTo #[.agg #[.pointer (some ⟨10,105,none⟩)],.iface 189 (.agg #[.pointer (some ⟨10,106,none⟩)])]).run Tryz.prog w=.ok (.bool false) w:=by kernel_rfl
theorem as_miss_ci (e t:Addr) (w:World) (hg:w.cell? ⟨6,0,none⟩=some (.iface 189 (.agg #[.pointer (some ⟨10,67,none⟩)]))) :
  Calls Tryz.prog 43 #[.iface 105 (.pointer (some e)),.iface 108 (.pointer (some t))] w fun ev w'=>ev=.returned (.bool false)∧Below w.heap.size w w':=by
 have h6:=as_h6
 have h7:=as_h7
 have h8:=as_h8
 have h27:=as_h27
 have h37:=as_h37
 have h38:=as_h38
 have h10:=as_h10
 have h35:=as_h35
 have mA:=as_mAssignableTo
 have mK:=as_mKind
 have mE:=as_mElem
 have mI:=as_mImplements
 have tO:=as_typeOf_c
 have a1:=as_assign_ci
 have n1:=as_noAs_c
 have n2:=as_noUn_c
 have n3:=as_noUns_c
 have f6:=as_valueOf_i
 have f7:=as_type_i
 have kP:=as_kindP_i
 have kQ:=as_kindQ_i
 have eP:=as_elem_i
 have iQ:=as_implements_i
 have n8:=as_isNil_i ⟨w.heap.size,0,none⟩ t ((w.alloc (.cells #[.pointer (some t)] 108)).alloc (.cells #[.pointer (some ⟨10,108,none⟩),.pointer (some ⟨w.heap.size,0,none⟩),.int .u64 150] 144)) (by simp)
 have hlt:6<w.heap.size:=bltc hg
 have hg2:((w.alloc (.cells #[.pointer (some t)] 108)).alloc (.cells #[.pointer (some ⟨10,108,none⟩),.pointer (some ⟨w.heap.size,0,none⟩),.int .u64 150] 144)).cell? ⟨6,0,none⟩=some (.iface 189 (.agg #[.pointer (some ⟨10,67,none⟩)])):=by
  rw[World.cell?_alloc_lt _ _ ⟨6,0,none⟩ (by simp;omega),World.cell?_alloc_lt _ _ ⟨6,0,none⟩ hlt];exact hg
 go_enter Tryz.func43,Tryz.ntmps43
 go_wp2
 refine wp_loop_rounds 1 ?_
 rw[rounds_succ]
 go_wp2
 go_ret
 exact⟨rfl,(((Below.refl _ w).alloc (Nat.le_refl _) _).alloc (by simp) _).alloc (by simp;omega) _⟩
theorem as_assign_cs (w:World):(ReflectliteType.relation "AssignableTo" ReflectliteType.assignableTo #[.agg #[.pointer (some ⟨10,105,none⟩)],.iface 189 (.agg #[.pointer (some ⟨10,103,none⟩)])]).run Tryz.prog w=.ok (.bool false) w:=by kernel_rfl
theorem as_miss_cs (e t:Addr) (w:World) (hg:w.cell? ⟨6,0,none⟩=some (.iface 189 (.agg #[.pointer (some ⟨10,67,none⟩)]))) :
  Calls Tryz.prog 43 #[.iface 105 (.pointer (some e)),.iface 113 (.pointer (some t))] w fun ev w'=>ev=.returned (.bool false)∧Below w.heap.size w w':=by
 have h6:=as_h6
 have h7:=as_h7
 have h8:=as_h8
 have h27:=as_h27
 have h37:=as_h37
 have h38:=as_h38
 have h10:=as_h10
 have h35:=as_h35
 have mA:=as_mAssignableTo
 have mK:=as_mKind
 have mE:=as_mElem
 have mI:=as_mImplements
 have tO:=as_typeOf_c
 have a1:=as_assign_cs
 have n1:=as_noAs_c
 have n2:=as_noUn_c
 have n3:=as_noUns_c
 have f6:=as_valueOf_s
 have f7:=as_type_s
 have kP:=as_kindP_s
 have kQ:=as_kindQ_s
 have eP:=as_elem_s
 have iQ:=as_implements_s
 have n8:=as_isNil_s ⟨w.heap.size,0,none⟩ t ((w.alloc (.cells #[.pointer (some t)] 113)).alloc (.cells #[.pointer (some ⟨10,113,none⟩),.pointer (some ⟨w.heap.size,0,none⟩),.int .u64 150] 144)) (by simp)
 have hlt:6<w.heap.size:=bltc hg
 have hg2:((w.alloc (.cells #[.pointer (some t)] 113)).alloc (.cells #[.pointer (some ⟨10,113,none⟩),.pointer (some ⟨w.heap.size,0,none⟩),.int .u64 150] 144)).cell? ⟨6,0,none⟩=some (.iface 189 (.agg #[.pointer (some ⟨10,67,none⟩)])):=by
  rw[World.cell?_alloc_lt _ _ ⟨6,0,none⟩ (by simp;omega),World.cell?_alloc_lt _ _ ⟨6,0,none⟩ hlt];exact hg
 go_enter Tryz.func43,Tryz.ntmps43
 go_wp2
 refine wp_loop_rounds 1 ?_
 rw[rounds_succ]
 go_wp2
 go_ret
 exact⟨rfl,(((Below.refl _ w).alloc (Nat.le_refl _) _).alloc (by simp) _).alloc (by simp;omega) _⟩
theorem as_assign_cn (w:World):(ReflectliteType.relation "AssignableTo" ReflectliteType.assignableTo #[.agg #[.pointer (some ⟨10,105,none⟩)],.iface 189 (.agg #[.pointer (some ⟨10,104,none⟩)])]).run Tryz.prog w=.ok (.bool false) w:=by kernel_rfl
theorem as_miss_cn (e t:Addr) (w:World) (hg:w.cell? ⟨6,0,none⟩=some (.iface 189 (.agg #[.pointer (some ⟨10,67,none⟩)]))) :
  Calls Tryz.prog 43 #[.iface 105 (.pointer (some e)),.iface 116 (.pointer (some t))] w fun ev w'=>ev=.returned (.bool false)∧Below w.heap.size w w':=by
 have h6:=as_h6
 have h7:=as_h7
 have h8:=as_h8
 have h27:=as_h27
 have h37:=as_h37
 have h38:=as_h38
 have h10:=as_h10
 have h35:=as_h35
 have mA:=as_mAssignableTo
 have mK:=as_mKind
 have mE:=as_mElem
 have mI:=as_mImplements
 have tO:=as_typeOf_c
 have a1:=as_assign_cn
 have n1:=as_noAs_c
 have n2:=as_noUn_c
 have n3:=as_noUns_c
 have f6:=as_valueOf_n
 have f7:=as_type_n
 have kP:=as_kindP_n
 have kQ:=as_kindQ_n
 have eP:=as_elem_n
 have iQ:=as_implements_n
 have n8:=as_isNil_n ⟨w.heap.size,0,none⟩ t ((w.alloc (.cells #[.pointer (some t)] 116)).alloc (.cells #[.pointer (some ⟨10,116,none⟩),.pointer (some ⟨w.heap.size,0,none⟩),.int .u64 150] 144)) (by simp)
 have hlt:6<w.heap.size:=bltc hg
 have hg2:((w.alloc (.cells #[.pointer (some t)] 116)).alloc (.cells #[.pointer (some ⟨10,116,none⟩),.pointer (some ⟨w.heap.size,0,none⟩),.int .u64 150] 144)).cell? ⟨6,0,none⟩=some (.iface 189 (.agg #[.pointer (some ⟨10,67,none⟩)])):=by
  rw[World.cell?_alloc_lt _ _ ⟨6,0,none⟩ (by simp;omega),World.cell?_alloc_lt _ _ ⟨6,0,none⟩ hlt];exact hg
 go_enter Tryz.func43,Tryz.ntmps43
 go_wp2
 refine wp_loop_rounds 1 ?_
 rw[rounds_succ]
 go_wp2
 go_ret
 exact⟨rfl,(((Below.refl _ w).alloc (Nat.le_refl _) _).alloc (by simp) _).alloc (by simp;omega) _⟩
theorem as_assign_ei (w:World):(ReflectliteType.relation "AssignableTo" ReflectliteType.assignableTo #[.agg #[.pointer (some ⟨10,290,none⟩)],.iface 189 (.agg #[.pointer (some ⟨10,106,none⟩)])]).run Tryz.prog w=.ok (.bool false) w:=by kernel_rfl
theorem as_miss_ei (e t:Addr) (w:World) (hg:w.cell? ⟨6,0,none⟩=some (.iface 189 (.agg #[.pointer (some ⟨10,67,none⟩)]))) :
  Calls Tryz.prog 43 #[.iface 290 (.pointer (some e)),.iface 108 (.pointer (some t))] w fun ev w'=>ev=.returned (.bool false)∧Below w.heap.size w w':=by
 have h6:=as_h6
 have h7:=as_h7
 have h8:=as_h8
 have h27:=as_h27
 have h37:=as_h37
 have h38:=as_h38
 have h10:=as_h10
 have h35:=as_h35
 have mA:=as_mAssignableTo
 have mK:=as_mKind
 have mE:=as_mElem
 have mI:=as_mImplements
 have tO:=as_typeOf_e
 have a1:=as_assign_ei
 have n1:=as_noAs_e
 have n2:=as_noUn_e
 have n3:=as_noUns_e
 have f6:=as_valueOf_i
 have f7:=as_type_i
 have kP:=as_kindP_i
 have kQ:=as_kindQ_i
 have eP:=as_elem_i
 have iQ:=as_implements_i
 have n8:=as_isNil_i ⟨w.heap.size,0,none⟩ t ((w.alloc (.cells #[.pointer (some t)] 108)).alloc (.cells #[.pointer (some ⟨10,108,none⟩),.pointer (some ⟨w.heap.size,0,none⟩),.int .u64 150] 144)) (by simp)
 have hlt:6<w.heap.size:=bltc hg
 have hg2:((w.alloc (.cells #[.pointer (some t)] 108)).alloc (.cells #[.pointer (some ⟨10,108,none⟩),.pointer (some ⟨w.heap.size,0,none⟩),.int .u64 150] 144)).cell? ⟨6,0,none⟩=some (.iface 189 (.agg #[.pointer (some ⟨10,67,none⟩)])):=by
  rw[World.cell?_alloc_lt _ _ ⟨6,0,none⟩ (by simp;omega),World.cell?_alloc_lt _ _ ⟨6,0,none⟩ hlt];exact hg
 go_enter Tryz.func43,Tryz.ntmps43
 go_wp2
 refine wp_loop_rounds 1 ?_
 rw[rounds_succ]
 go_wp2
 go_ret
 exact⟨rfl,(((Below.refl _ w).alloc (Nat.le_refl _) _).alloc (by simp) _).alloc (by simp;omega) _⟩
theorem as_assign_es (w:World):(ReflectliteType.relation "AssignableTo" ReflectliteType.assignableTo #[.agg #[.pointer (some ⟨10,290,none⟩)],.iface 189 (.agg #[.pointer (some ⟨10,103,none⟩)])]).run Tryz.prog w=.ok (.bool false) w:=by kernel_rfl
theorem as_miss_es (e t:Addr) (w:World) (hg:w.cell? ⟨6,0,none⟩=some (.iface 189 (.agg #[.pointer (some ⟨10,67,none⟩)]))) :
  Calls Tryz.prog 43 #[.iface 290 (.pointer (some e)),.iface 113 (.pointer (some t))] w fun ev w'=>ev=.returned (.bool false)∧Below w.heap.size w w':=by
 have h6:=as_h6
 have h7:=as_h7
 have h8:=as_h8
 have h27:=as_h27
 have h37:=as_h37
 have h38:=as_h38
 have h10:=as_h10
 have h35:=as_h35
 have mA:=as_mAssignableTo
 have mK:=as_mKind
 have mE:=as_mElem
 have mI:=as_mImplements
 have tO:=as_typeOf_e
 have a1:=as_assign_es
 have n1:=as_noAs_e
 have n2:=as_noUn_e
 have n3:=as_noUns_e
 have f6:=as_valueOf_s
 have f7:=as_type_s
 have kP:=as_kindP_s
 have kQ:=as_kindQ_s
 have eP:=as_elem_s
 have iQ:=as_implements_s
 have n8:=as_isNil_s ⟨w.heap.size,0,none⟩ t ((w.alloc (.cells #[.pointer (some t)] 113)).alloc (.cells #[.pointer (some ⟨10,113,none⟩),.pointer (some ⟨w.heap.size,0,none⟩),.int .u64 150] 144)) (by simp)
 have hlt:6<w.heap.size:=bltc hg
 have hg2:((w.alloc (.cells #[.pointer (some t)] 113)).alloc (.cells #[.pointer (some ⟨10,113,none⟩),.pointer (some ⟨w.heap.size,0,none⟩),.int .u64 150] 144)).cell? ⟨6,0,none⟩=some (.iface 189 (.agg #[.pointer (some ⟨10,67,none⟩)])):=by
  rw[World.cell?_alloc_lt _ _ ⟨6,0,none⟩ (by simp;omega),World.cell?_alloc_lt _ _ ⟨6,0,none⟩ hlt];exact hg
 go_enter Tryz.func43,Tryz.ntmps43
 go_wp2
 refine wp_loop_rounds 1 ?_
 rw[rounds_succ]
 go_wp2
 go_ret
 exact⟨rfl,(((Below.refl _ w).alloc (Nat.le_refl _) _).alloc (by simp) _).alloc (by simp;omega) _⟩
theorem as_assign_en (w:World):(ReflectliteType.relation "AssignableTo" ReflectliteType.assignableTo #[.agg #[.pointer (some ⟨10,290,none⟩)],.iface 189 (.agg #[.pointer (some ⟨10,104,none⟩)])]).run Tryz.prog w=.ok (.bool false) w:=by kernel_rfl
theorem as_miss_en (e t:Addr) (w:World) (hg:w.cell? ⟨6,0,none⟩=some (.iface 189 (.agg #[.pointer (some ⟨10,67,none⟩)]))) :
  Calls Tryz.prog 43 #[.iface 290 (.pointer (some e)),.iface 116 (.pointer (some t))] w fun ev w'=>ev=.returned (.bool false)∧Below w.heap.size w w':=by
 have h6:=as_h6
 have h7:=as_h7
 have h8:=as_h8
 have h27:=as_h27
 have h37:=as_h37
 have h38:=as_h38
 have h10:=as_h10
 have h35:=as_h35
 have mA:=as_mAssignableTo
 have mK:=as_mKind
 have mE:=as_mElem
 have mI:=as_mImplements
 have tO:=as_typeOf_e
 have a1:=as_assign_en
 have n1:=as_noAs_e
 have n2:=as_noUn_e
 have n3:=as_noUns_e
 have f6:=as_valueOf_n
 have f7:=as_type_n
 have kP:=as_kindP_n
 have kQ:=as_kindQ_n
 have eP:=as_elem_n
 have iQ:=as_implements_n
 have n8:=as_isNil_n ⟨w.heap.size,0,none⟩ t ((w.alloc (.cells #[.pointer (some t)] 116)).alloc (.cells #[.pointer (some ⟨10,116,none⟩),.pointer (some ⟨w.heap.size,0,none⟩),.int .u64 150] 144)) (by simp)
 have hlt:6<w.heap.size:=bltc hg
 have hg2:((w.alloc (.cells #[.pointer (some t)] 116)).alloc (.cells #[.pointer (some ⟨10,116,none⟩),.pointer (some ⟨w.heap.size,0,none⟩),.int .u64 150] 144)).cell? ⟨6,0,none⟩=some (.iface 189 (.agg #[.pointer (some ⟨10,67,none⟩)])):=by
  rw[World.cell?_alloc_lt _ _ ⟨6,0,none⟩ (by simp;omega),World.cell?_alloc_lt _ _ ⟨6,0,none⟩ hlt];exact hg
 go_enter Tryz.func43,Tryz.ntmps43
 go_wp2
 refine wp_loop_rounds 1 ?_
 rw[rounds_succ]
 go_wp2
 go_ret
 exact⟨rfl,(((Below.refl _ w).alloc (Nat.le_refl _) _).alloc (by simp) _).alloc (by simp;omega) _⟩
theorem as_assign_ec (w:World):(ReflectliteType.relation "AssignableTo" ReflectliteType.assignableTo #[.agg #[.pointer (some ⟨10,290,none⟩)],.iface 189 (.agg #[.pointer (some ⟨10,105,none⟩)])]).run Tryz.prog w=.ok (.bool false) w:=by kernel_rfl
theorem as_miss_ec (e t:Addr) (w:World) (hg:w.cell? ⟨6,0,none⟩=some (.iface 189 (.agg #[.pointer (some ⟨10,67,none⟩)]))) :
  Calls Tryz.prog 43 #[.iface 290 (.pointer (some e)),.iface 120 (.pointer (some t))] w fun ev w'=>ev=.returned (.bool false)∧Below w.heap.size w w':=by
 have h6:=as_h6
 have h7:=as_h7
 have h8:=as_h8
 have h27:=as_h27
 have h37:=as_h37
 have h38:=as_h38
 have h10:=as_h10
 have h35:=as_h35
 have mA:=as_mAssignableTo
 have mK:=as_mKind
 have mE:=as_mElem
 have mI:=as_mImplements
 have tO:=as_typeOf_e
 have a1:=as_assign_ec
 have n1:=as_noAs_e
 have n2:=as_noUn_e
 have n3:=as_noUns_e
 have f6:=as_valueOf_c
 have f7:=as_type_c
 have kP:=as_kindP_c
 have kQ:=as_kindQ_c
 have eP:=as_elem_c
 have iQ:=as_implements_c
 have n8:=as_isNil_c ⟨w.heap.size,0,none⟩ t ((w.alloc (.cells #[.pointer (some t)] 120)).alloc (.cells #[.pointer (some ⟨10,120,none⟩),.pointer (some ⟨w.heap.size,0,none⟩),.int .u64 150] 144)) (by simp)
 have hlt:6<w.heap.size:=bltc hg
 have hg2:((w.alloc (.cells #[.pointer (some t)] 120)).alloc (.cells #[.pointer (some ⟨10,120,none⟩),.pointer (some ⟨w.heap.size,0,none⟩),.int .u64 150] 144)).cell? ⟨6,0,none⟩=some (.iface 189 (.agg #[.pointer (some ⟨10,67,none⟩)])):=by
  rw[World.cell?_alloc_lt _ _ ⟨6,0,none⟩ (by simp;omega),World.cell?_alloc_lt _ _ ⟨6,0,none⟩ hlt];exact hg
 go_enter Tryz.func43,Tryz.ntmps43
 go_wp2
 refine wp_loop_rounds 1 ?_
 rw[rounds_succ]
 go_wp2
 go_ret
 exact⟨rfl,(((Below.refl _ w).alloc (Nat.le_refl _) _).alloc (by simp) _).alloc (by simp;omega) _⟩
end Go.Proofs.YtpcmemcanpgadaaGreatDoor
