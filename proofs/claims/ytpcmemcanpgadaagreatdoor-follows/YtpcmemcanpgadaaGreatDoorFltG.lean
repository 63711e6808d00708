import Derived.Test.YtpcmemcanpgadaaGreatDoorAsF
import Derived.Test.YtpcmemcanpgadaaGreatDoorAs
import Derived.Test.YtpcmemcanpgadaaGreatDoorAsH
set_option maxHeartbeats 2000000
set_option maxRecDepth 100000
namespace Go.Proofs.YtpcmemcanpgadaaGreatDoor
open PredP (hide Str Rule bs)
section
open Go.RowKit Go.Extern.Stop Go.Stop Go.Extern
theorem isComparable (w:World):(callFunc 192 #[.agg #[.pointer (some ⟨10,290,none⟩)]]).run Tryz.prog w=.ok (.value (.bool true)) w:=by
 have h:=@run_callFunc_extern Tryz.prog 192 _ (Extern.ReflectliteType.method fun t=>do Rtype.noPackHeld "Comparable" t;pure (.bool (←typeInfo t).comparable)) Tryz.func192 (by kernel_rfl) (by kernel_rfl) (by kernel_rfl) (by kernel_rfl)
 have c:((Extern.ReflectliteType.method fun t=>do Rtype.noPackHeld "Comparable" t;pure (.bool (←typeInfo t).comparable)) #[.agg #[.pointer (some ⟨10,290,none⟩)]]).run Tryz.prog w=.ok (.bool true) w:=by kernel_rfl
 rw[h,c]
 rfl
theorem isMethodComparable (v:Value) (w:World):(Go.method 434 189 v "Comparable").run Tryz.prog w=.ok (192,v) w:=by kernel_rfl
theorem isComp:(Tryz.prog.info? 290).map (·.comparable)=some true:=by kernel_rfl
theorem isSize:(Tryz.prog.info? 310).map (·.size)=some 1:=by kernel_rfl
theorem noIsE (v:Value) (xT:TypeId) (w:World):(Instr.typeAssert (.iface 290 v) xT 200 true).run Tryz.prog w=.ok (.tuple #[.nilIface,.bool false]) w:=run_typeAssert_lacksB Tryz.underlying200 (by kernel_rfl) (by kernel_rfl) v xT w
theorem is_same (a:Addr) (w:World) :
  Calls Tryz.prog 45 #[.iface 290 (.pointer (some a)),.iface 290 (.pointer (some a))] w fun e w'=>e=.returned (.bool true)∧w'=w:=by
 obtain⟨i,hi,hcmp⟩:=Option.map_eq_some_iff.1 isComp
 obtain⟨j,hj,hjs⟩:=Option.map_eq_some_iff.1 isSize
 have h8:=as_h10
 have tT:=as_typeOf_e
 have cT:=isComparable
 have mR:=isMethodComparable
 have heq:=run_eql_iface_ptr_same (P:=Tryz.prog) w a Tryz.underlying67 Tryz.underlying290 hi hcmp hj
 go_enter Tryz.func45,Tryz.ntmps45
 go_wp2
 refine wp_loop_rounds 1 ?_
 rw[rounds_succ]
 go_wp2
 go_ret
 exact⟨rfl,rfl⟩
theorem is_other (a b:Addr) (ca cb:Array Value) (ta tb:TypeId) (w:World) (hne:a≠b) (ha:w.heap[a.block]?=some (.cells ca ta (0,0))) (hb:w.heap[b.block]?=some (.cells cb tb (0,0))) :
  Calls Tryz.prog 45 #[.iface 290 (.pointer (some a)),.iface 290 (.pointer (some b))] w fun e w'=>e=.returned (.bool false)∧w'=w:=by
 obtain⟨i,hi,hcmp⟩:=Option.map_eq_some_iff.1 isComp
 obtain⟨j,hj,hjs⟩:=Option.map_eq_some_iff.1 isSize
 have h8:=as_h10
 have tT:=as_typeOf_e
 have cT:=isComparable
 have mR:=isMethodComparable
 have nE:=noIsE
 have uE:=as_noUn_e
 have vE:=as_noUns_e
 have heq:=run_eql_iface_ptr_other (P:=Tryz.prog) w Tryz.underlying67 Tryz.underlying290 hi hcmp hj (by rw[hjs];decide) hne ha hb
 go_enter Tryz.func45,Tryz.ntmps45
 go_wp2
 refine wp_loop_rounds 1 ?_
 rw[rounds_succ]
 go_wp2
 go_ret
 exact⟨rfl,rfl⟩
end
section
open Go.RowKit Go.Maps
def FltPost (w:World) (what:Int) (at':Nat) (x:Str) (e:Ending) (w':World):Prop :=
 ∃s:ByteArray,e=.returned (.agg #[.int .i64 what,.int .i64 (at':Int),.string s,.slice none 0 0])∧bs s=x∧Below w.heap.size w w'
structure FF (w W:World):Prop where
 low:Below w.heap.size w W
 r0:W.cell? ⟨w.heap.size,0,none⟩=some (.int .i64 0)
 r1:W.cell? ⟨w.heap.size,1,none⟩=some (.int .i64 0)
 r2:W.cell? ⟨w.heap.size,2,none⟩=some (.string ⟨#[]⟩)
 r3:W.cell? ⟨w.heap.size,3,none⟩=some (.slice none 0 0)
 rf:∀j,W.frozen? ⟨w.heap.size,j,none⟩=false
 t1:W.cell? ⟨w.heap.size+1,0,none⟩=some (.pointer none)
 t2:W.cell? ⟨w.heap.size+1+1,0,none⟩=some (.pointer none)
 t3:W.cell? ⟨w.heap.size+1+1+1,0,none⟩=some (.pointer none)
 t4:W.cell? ⟨w.heap.size+1+1+1+1,0,none⟩=some (.pointer none)
 f1:W.frozen? ⟨w.heap.size+1,0,none⟩=false
 f2:W.frozen? ⟨w.heap.size+1+1,0,none⟩=false
 f3:W.frozen? ⟨w.heap.size+1+1+1,0,none⟩=false
theorem FF.onward {w A B:World} (h:FF w A) (hb:Below A.heap.size A B):FF w B:=by
 have l0:=bltc h.r0
 have l1:=bltc h.t1
 have l2:=bltc h.t2
 have l3:=bltc h.t3
 have l4:=bltc h.t4
 exact⟨Below.all h.low hb,(hb.cell l0).trans h.r0,(hb.cell (p:=⟨w.heap.size,1,none⟩) l0).trans h.r1,(hb.cell (p:=⟨w.heap.size,2,none⟩) l0).trans h.r2,(hb.cell (p:=⟨w.heap.size,3,none⟩) l0).trans h.r3,fun j=>(hb.frozen (p:=⟨w.heap.size,j,none⟩) l0).trans (h.rf j),
  (hb.cell l1).trans h.t1,(hb.cell l2).trans h.t2,(hb.cell l3).trans h.t3,(hb.cell l4).trans h.t4,(hb.frozen (p:=⟨w.heap.size+1,0,none⟩) l1).trans h.f1,(hb.frozen (p:=⟨w.heap.size+1+1,0,none⟩) l2).trans h.f2,(hb.frozen (p:=⟨w.heap.size+1+1+1,0,none⟩) l3).trans h.f3⟩
theorem FF.made (w:World):FF w (((((w.alloc (.cells #[.int .i64 0,.int .i64 0,.string ⟨#[]⟩,.slice none 0 0] 41)).alloc (.cells #[.pointer none] 103)).alloc (.cells #[.pointer none] 104)).alloc (.cells #[.pointer none] 105)).alloc (.cells #[.pointer none] 106)):=by
 have k0:∀j u,(#[Value.int .i64 0,.int .i64 0,.string ⟨#[]⟩,.slice none 0 0]:Array Value)[j]?=some u→(w.alloc (.cells #[.int .i64 0,.int .i64 0,.string ⟨#[]⟩,.slice none 0 0] 41)).cell? ⟨w.heap.size,j,none⟩=some u:=fun j u h=>cell_fresh h
 have f0:∀j,(w.alloc (.cells #[.int .i64 0,.int .i64 0,.string ⟨#[]⟩,.slice none 0 0] 41)).frozen? ⟨w.heap.size,j,none⟩=false:=fun j=>frozen_new j
 have p0:Below w.heap.size w (w.alloc (.cells #[.int .i64 0,.int .i64 0,.string ⟨#[]⟩,.slice none 0 0] 41)):=(Below.refl _ _).alloc (Nat.le_refl _) _
 have z0:(w.alloc (.cells #[.int .i64 0,.int .i64 0,.string ⟨#[]⟩,.slice none 0 0] 41)).heap.size=w.heap.size+1:=by simp
 generalize w.alloc (.cells #[.int .i64 0,.int .i64 0,.string ⟨#[]⟩,.slice none 0 0] 41)=w1 at k0 f0 p0 z0
 have k1:(w1.alloc (.cells #[.pointer none] 103)).cell? ⟨w.heap.size+1,0,none⟩=some (.pointer none):=by rw[←z0];exact cell_fresh rfl
 have f1:(w1.alloc (.cells #[.pointer none] 103)).frozen? ⟨w.heap.size+1,0,none⟩=false:=by rw[←z0];exact frozen_new 0
 have p1:Below w1.heap.size w1 (w1.alloc (.cells #[.pointer none] 103)):=(Below.refl _ _).alloc (Nat.le_refl _) _
 have z1:(w1.alloc (.cells #[.pointer none] 103)).heap.size=w.heap.size+1+1:=by simp[z0]
 generalize w1.alloc (.cells #[.pointer none] 103)=w2 at k1 f1 p1 z1
 have k2:(w2.alloc (.cells #[.pointer none] 104)).cell? ⟨w.heap.size+1+1,0,none⟩=some (.pointer none):=by rw[←z1];exact cell_fresh rfl
 have f2:(w2.alloc (.cells #[.pointer none] 104)).frozen? ⟨w.heap.size+1+1,0,none⟩=false:=by rw[←z1];exact frozen_new 0
 have p2:Below w2.heap.size w2 (w2.alloc (.cells #[.pointer none] 104)):=(Below.refl _ _).alloc (Nat.le_refl _) _
 have z2:(w2.alloc (.cells #[.pointer none] 104)).heap.size=w.heap.size+1+1+1:=by simp[z1]
 generalize w2.alloc (.cells #[.pointer none] 104)=w3 at k2 f2 p2 z2
 have k3:(w3.alloc (.cells #[.pointer none] 105)).cell? ⟨w.heap.size+1+1+1,0,none⟩=some (.pointer none):=by rw[←z2];exact cell_fresh rfl
 have f3:(w3.alloc (.cells #[.pointer none] 105)).frozen? ⟨w.heap.size+1+1+1,0,none⟩=false:=by rw[←z2];exact frozen_new 0
 have p3:Below w3.heap.size w3 (w3.alloc (.cells #[.pointer none] 105)):=(Below.refl _ _).alloc (Nat.le_refl _) _
 have z3:(w3.alloc (.cells #[.pointer none] 105)).heap.size=w.heap.size+1+1+1+1:=by simp[z2]
 generalize w3.alloc (.cells #[.pointer none] 105)=w4 at k3 f3 p3 z3
 have k4:(w4.alloc (.cells #[.pointer none] 106)).cell? ⟨w.heap.size+1+1+1+1,0,none⟩=some (.pointer none):=by rw[←z3];exact cell_fresh rfl
 have f4:(w4.alloc (.cells #[.pointer none] 106)).frozen? ⟨w.heap.size+1+1+1+1,0,none⟩=false:=by rw[←z3];exact frozen_new 0
 have p4:Below w4.heap.size w4 (w4.alloc (.cells #[.pointer none] 106)):=(Below.refl _ _).alloc (Nat.le_refl _) _
 have z4:(w4.alloc (.cells #[.pointer none] 106)).heap.size=w.heap.size+1+1+1+1+1:=by simp[z3]
 generalize w4.alloc (.cells #[.pointer none] 106)=w5 at k4 f4 p4 z4
 have q4:=p4
 have q3:=Below.all p3 q4
 have q2:=Below.all p2 q3
 have q1:=Below.all p1 q2
 have c0:∀j u,(#[Value.int .i64 0,.int .i64 0,.string ⟨#[]⟩,.slice none 0 0]:Array Value)[j]?=some u→w5.cell? ⟨w.heap.size,j,none⟩=some u:=fun j u h=>(q1.cell (p:=⟨w.heap.size,j,none⟩) (bltc (k0 j u h))).trans (k0 j u h)
 have l0:w.heap.size<w1.heap.size:=by omega
 have l1:=bltc k1
 have l2:=bltc k2
 have l3:=bltc k3
 exact⟨Below.all p0 q1,c0 0 _ rfl,c0 1 _ rfl,c0 2 _ rfl,c0 3 _ rfl,fun j=>(q1.frozen (p:=⟨w.heap.size,j,none⟩) l0).trans (f0 j),(q2.cell l1).trans k1,(q3.cell l2).trans k2,(q4.cell l3).trans k3,k4,(q2.frozen (p:=⟨w.heap.size+1,0,none⟩) l1).trans f1,(q3.frozen (p:=⟨w.heap.size+1+1,0,none⟩) l2).trans f2,(q4.frozen (p:=⟨w.heap.size+1+1+1,0,none⟩) l3).trans f3⟩
theorem load_fault {W:World} {b:Nat} {v0 v1 v2 v3:Value} (h0:W.cell? ⟨b,0,none⟩=some v0) (h1:W.cell? ⟨b,1,none⟩=some v1) (h2:W.cell? ⟨b,2,none⟩=some v2) (h3:W.cell? ⟨b,3,none⟩=some v3):(loadVar 41 ⟨b,0,none⟩).run Tryz.prog W=.ok (.agg #[v0,v1,v2,v3]) W:=by
 go_simp
theorem hit_world {W:World} {t:Addr} {old v:Value} {o1 o2 o3 o4:Obj} (h:W.cell? t=some old):But t.block W (((((W.alloc o1).alloc o2).alloc o3).alloc o4).setCell t v)∧(((((W.alloc o1).alloc o2).alloc o3).alloc o4).setCell t v).cell? t=some v:=by
 have hB:Below W.heap.size W ((((W.alloc o1).alloc o2).alloc o3).alloc o4):=((((Below.refl _ W).alloc (Nat.le_refl _) _).alloc (by simp) _).alloc (by simp;omega) _).alloc (by simp;omega) _
 have hc:=(hB.cell (p:=t) (bltc h)).trans h
 generalize (((W.alloc o1).alloc o2).alloc o3).alloc o4=X at hB hc
 refine⟨⟨hB.os,hB.tape,hB.output,by simpa[World.setCell] using hB.size,fun k hk hne=>(Below.heap_setCell _ _ _ _ hne).trans (hB.block k hk)⟩,?_⟩
 simp[go_sem,hc]
theorem But.frozenAt {r:Nat} {w w':World} (h:But r w w') {b o:Nat} (hl:b<w.heap.size) (hr:b≠r):w'.frozen? ⟨b,o,none⟩=w.frozen? ⟨b,o,none⟩:=World.frozen?_of_block (a:=⟨b,o,none⟩) (h.block b hl hr)
structure FR (w W:World):Prop where
 low:Below w.heap.size w W
 r0:W.cell? ⟨w.heap.size,0,none⟩=some (.int .i64 0)
 r1:W.cell? ⟨w.heap.size,1,none⟩=some (.int .i64 0)
 r2:W.cell? ⟨w.heap.size,2,none⟩=some (.string ⟨#[]⟩)
 r3:W.cell? ⟨w.heap.size,3,none⟩=some (.slice none 0 0)
 rf:∀j,W.frozen? ⟨w.heap.size,j,none⟩=false
theorem FF.hit {w A B:World} {r:Nat} (h:FF w A) (hb:But r A B) (hr:w.heap.size<r):FR w B:=by
 have l0:w.heap.size<A.heap.size:=bltc h.r0
 exact⟨hb.belowOf h.low (by omega) h.low.size,hb.cellAt h.r0 (by omega),hb.cellAt h.r1 (by omega),hb.cellAt h.r2 (by omega),hb.cellAt h.r3 (by omega),fun j=>(hb.frozenAt l0 (by omega)).trans (h.rf j)⟩
theorem FR.stored {w W:World} (h:FR w W) (v0 v1 v2 v3:Value):Below w.heap.size w ((((W.setCell ⟨w.heap.size,0,none⟩ v0).setCell ⟨w.heap.size,1,none⟩ v1).setCell ⟨w.heap.size,2,none⟩ v2).setCell ⟨w.heap.size,3,none⟩ v3) :=
 (((h.low.setCell (p:=⟨w.heap.size,0,none⟩) (Nat.le_refl _) _).setCell (p:=⟨w.heap.size,1,none⟩) (Nat.le_refl _) _).setCell (p:=⟨w.heap.size,2,none⟩) (Nat.le_refl _) _).setCell (p:=⟨w.heap.size,3,none⟩) (Nat.le_refl _) _
theorem FR.load {w W:World} (h:FR w W) (v0 v1 v2 v3:Value):(loadVar 41 ⟨w.heap.size,0,none⟩).run Tryz.prog ((((W.setCell ⟨w.heap.size,0,none⟩ v0).setCell ⟨w.heap.size,1,none⟩ v1).setCell ⟨w.heap.size,2,none⟩ v2).setCell ⟨w.heap.size,3,none⟩ v3)=.ok (.agg #[v0,v1,v2,v3]) ((((W.setCell ⟨w.heap.size,0,none⟩ v0).setCell ⟨w.heap.size,1,none⟩ v1).setCell ⟨w.heap.size,2,none⟩ v2).setCell ⟨w.heap.size,3,none⟩ v3) :=
 load_fault (by simp[go_sem,h.r0]) (by simp[go_sem,h.r1]) (by simp[go_sem,h.r2]) (by simp[go_sem,h.r3])
theorem FR.drew {w W:World} (h:FR w W):FR w W.drew:=⟨h.low.drew,h.r0,h.r1,h.r2,h.r3,h.rf⟩
theorem fault_nil (w:World):Calls Tryz.prog 27 #[.nilIface] w (FltPost w 0 0 []):=by
 go_enter Tryz.func27,Tryz.ntmps27
 go_wp2_with fail
 have h:=FF.made w
 exact bodyPost_ret_by (results_cell rfl rfl (load_fault h.r0 h.r1 h.r2 h.r3)) rfl ⟨⟨#[]⟩,rfl,rfl,h.low⟩
theorem fault_s (w:World) (hg:w.cell? ⟨6,0,none⟩=some (.iface 189 (.agg #[.pointer (some ⟨10,67,none⟩)]))) (b p:Nat) (d:Bool) (hlt:b<w.heap.size) (c0:w.cell? ⟨b,0,none⟩=some (.int .i64 (p:Int))) (c1:w.cell? ⟨b,1,none⟩=some (.bool d)) :
  Calls Tryz.prog 27 #[.iface 103 (.pointer (some ⟨b,0,none⟩))] w (FltPost w (if d then 5 else 4) p []):=by
 have HG:Hid (∀W,FF w W→W.cell? ⟨6,0,none⟩=some (.iface 189 (.agg #[.pointer (some ⟨10,67,none⟩)]))):=hide fun W h=>(h.low.cell (bltc hg)).trans hg
 clear hg
 have h0:=FF.made w
 cases d
 all_goals
  go_enter Tryz.func27,Tryz.ntmps27
  go_wp2_with fail
  refine(as_miss_si ⟨b,0,none⟩ ⟨w.heap.size+1+1+1+1,0,none⟩ _ (HG.out _ h0)).mono ?_
  rintro e1 W1 ⟨rfl,hb1⟩
  have h1:=h0.onward hb1
  go_wp2_with fail
  refine(as_hit_s ⟨b,0,none⟩ ⟨w.heap.size+1,0,none⟩ (.pointer none) _ (HG.out _ h1) h1.t1 h1.f1).mono ?_
  rintro eH WH ⟨rfl,hWH⟩
  obtain⟨hbH,hcH⟩:But (w.heap.size+1) W1 WH∧WH.cell? ⟨w.heap.size+1,0,none⟩=some (.pointer (some ⟨b,0,none⟩)):=by rw[hWH];exact hit_world h1.t1
  clear hWH
  have hR:=h1.hit hbH (by omega)
  have r0:=hR.r0
  have r1:=hR.r1
  have r2:=hR.r2
  have r3:=hR.r3
  have rf:=hR.rf
  have q0:=hbH.cellAt ((h1.low.cell (p:=⟨b,0,none⟩) hlt).trans c0) (by show b≠_;omega)
  have q1:=hbH.cellAt ((h1.low.cell (p:=⟨b,1,none⟩) hlt).trans c1) (by show b≠_;omega)
  clear h0
  go_wp2_with fail
  exact bodyPost_ret_by (results_cell rfl rfl (hR.load _ _ _ _)) rfl ⟨⟨#[]⟩,rfl,rfl,hR.stored _ _ _ _⟩
theorem fault_n (w:World) (hg:w.cell? ⟨6,0,none⟩=some (.iface 189 (.agg #[.pointer (some ⟨10,67,none⟩)]))) (b p what:Nat) (a:ByteArray) (hw1:1≤what) (hw3:what≤3) (hlt:b<w.heap.size) (c0:w.cell? ⟨b,0,none⟩=some (.int .i64 (p:Int))) (c1:w.cell? ⟨b,1,none⟩=some (.string a)) (c2:w.cell? ⟨b,2,none⟩=some (.int .i64 (what:Int))) :
  Calls Tryz.prog 27 #[.iface 104 (.pointer (some ⟨b,0,none⟩))] w (FltPost w ((5+what:Nat):Int) p (bs a)):=by
 have HG:Hid (∀W,FF w W→W.cell? ⟨6,0,none⟩=some (.iface 189 (.agg #[.pointer (some ⟨10,67,none⟩)]))):=hide fun W h=>(h.low.cell (bltc hg)).trans hg
 clear hg
 have h0:=FF.made w
 have g1:(1:Int)≤(what:Int):=by omega
 have g3:(what:Int)≤3:=by omega
 have g5:IntKind.i64.wrap (5+(what:Int))=5+(what:Int):=by rw[IntKind.wrap_i64];omega
 go_enter Tryz.func27,Tryz.ntmps27
 go_wp2_with fail
 refine(as_miss_ni ⟨b,0,none⟩ ⟨w.heap.size+1+1+1+1,0,none⟩ _ (HG.out _ h0)).mono ?_
 rintro e1 W1 ⟨rfl,hb1⟩
 have h1:=h0.onward hb1
 go_wp2_with fail
 refine(as_miss_ns ⟨b,0,none⟩ ⟨w.heap.size+1,0,none⟩ _ (HG.out _ h1)).mono ?_
 rintro e2 W2 ⟨rfl,hb2⟩
 have h2:=h1.onward hb2
 go_wp2_with fail
 refine(as_hit_n ⟨b,0,none⟩ ⟨w.heap.size+1+1,0,none⟩ (.pointer none) _ (HG.out _ h2) h2.t2 h2.f2).mono ?_
 rintro eH WH ⟨rfl,hWH⟩
 obtain⟨hbH,hcH⟩:But (w.heap.size+1+1) W2 WH∧WH.cell? ⟨w.heap.size+1+1,0,none⟩=some (.pointer (some ⟨b,0,none⟩)):=by rw[hWH];exact hit_world h2.t2
 clear hWH
 have hR:=h2.hit hbH (by omega)
 have r0:=hR.r0
 have r1:=hR.r1
 have r2:=hR.r2
 have r3:=hR.r3
 have rf:=hR.rf
 have q0:=hbH.cellAt ((h2.low.cell (p:=⟨b,0,none⟩) hlt).trans c0) (by show b≠_;omega)
 have q1:=hbH.cellAt ((h2.low.cell (p:=⟨b,1,none⟩) hlt).trans c1) (by show b≠_;omega)
 have q2:=hbH.cellAt ((h2.low.cell (p:=⟨b,2,none⟩) hlt).trans c2) (by show b≠_;omega)
 clear h0
 go_wp2_with fail
 have hnb:w.heap.size≠b:=by omega
 have hnb':b≠w.heap.size:=by omega
 have hnt:w.heap.size≠w.heap.size+1+1:=by omega
 have hnt':w.heap.size≠w.heap.size+1+1+1:=by omega
 go_region_held3 (fun W'=>W'.cell? ⟨w.heap.size+1+1,0,none⟩=some (.pointer (some ⟨b,0,none⟩))∧W'.cell? ⟨b,0,none⟩=some (.int .i64 (p:Int))∧W'.cell? ⟨b,1,none⟩=some (.string a)∧W'.cell? ⟨b,2,none⟩=some (.int .i64 (what:Int))) (go_keep) (fail)
 go_wp2_with fail
 exact bodyPost_ret_by (results_cell rfl rfl (hR.drew.load _ _ _ _)) rfl ⟨a,rfl,rfl,hR.drew.stored _ _ _ _⟩
theorem fault_c (w:World) (hg:w.cell? ⟨6,0,none⟩=some (.iface 189 (.agg #[.pointer (some ⟨10,67,none⟩)]))) (b p:Nat) (a:ByteArray) (hlt:b<w.heap.size) (c0:w.cell? ⟨b,0,none⟩=some (.int .i64 (p:Int))) (c1:w.cell? ⟨b,1,none⟩=some (.string a)) :
  Calls Tryz.prog 27 #[.iface 105 (.pointer (some ⟨b,0,none⟩))] w (FltPost w 9 p (bs a)):=by
 have HG:Hid (∀W,FF w W→W.cell? ⟨6,0,none⟩=some (.iface 189 (.agg #[.pointer (some ⟨10,67,none⟩)]))):=hide fun W h=>(h.low.cell (bltc hg)).trans hg
 clear hg
 have h0:=FF.made w
 go_enter Tryz.func27,Tryz.ntmps27
 go_wp2_with fail
 refine(as_miss_ci ⟨b,0,none⟩ ⟨w.heap.size+1+1+1+1,0,none⟩ _ (HG.out _ h0)).mono ?_
 rintro e1 W1 ⟨rfl,hb1⟩
 have h1:=h0.onward hb1
 go_wp2_with fail
 refine(as_miss_cs ⟨b,0,none⟩ ⟨w.heap.size+1,0,none⟩ _ (HG.out _ h1)).mono ?_
 rintro e2 W2 ⟨rfl,hb2⟩
 have h2:=h1.onward hb2
 go_wp2_with fail
 refine(as_miss_cn ⟨b,0,none⟩ ⟨w.heap.size+1+1,0,none⟩ _ (HG.out _ h2)).mono ?_
 rintro e3 W3 ⟨rfl,hb3⟩
 have h3:=h2.onward hb3
 go_wp2_with fail
 refine(as_hit_c ⟨b,0,none⟩ ⟨w.heap.size+1+1+1,0,none⟩ (.pointer none) _ (HG.out _ h3) h3.t3 h3.f3).mono ?_
 rintro eH WH ⟨rfl,hWH⟩
 obtain⟨hbH,hcH⟩:But (w.heap.size+1+1+1) W3 WH∧WH.cell? ⟨w.heap.size+1+1+1,0,none⟩=some (.pointer (some ⟨b,0,none⟩)):=by rw[hWH];exact hit_world h3.t3
 clear hWH
 have hR:=h3.hit hbH (by omega)
 have r0:=hR.r0
 have r1:=hR.r1
 have r2:=hR.r2
 have r3:=hR.r3
 have rf:=hR.rf
 have q0:=hbH.cellAt ((h3.low.cell (p:=⟨b,0,none⟩) hlt).trans c0) (by show b≠_;omega)
 have q1:=hbH.cellAt ((h3.low.cell (p:=⟨b,1,none⟩) hlt).trans c1) (by show b≠_;omega)
 clear h0
 go_wp2_with fail
 have hnb:w.heap.size≠b:=by omega
 have hnb':b≠w.heap.size:=by omega
 have hnt:w.heap.size≠w.heap.size+1+1:=by omega
 have hnt':w.heap.size≠w.heap.size+1+1+1:=by omega
 go_region_held3 (fun W'=>W'.cell? ⟨w.heap.size+1+1+1,0,none⟩=some (.pointer (some ⟨b,0,none⟩))∧W'.cell? ⟨b,0,none⟩=some (.int .i64 (p:Int))∧W'.cell? ⟨b,1,none⟩=some (.string a)) (go_keep) (fail)
 go_wp2_with fail
 exact bodyPost_ret_by (results_cell rfl rfl (hR.drew.load _ _ _ _)) rfl ⟨a,rfl,rfl,hR.drew.stored _ _ _ _⟩
structure Sent (w:World) (bl be bm:Addr):Prop where
 l:∃cs t,w.heap[bl.block]?=some (.cells cs t (0,0))
 e:∃cs t,w.heap[be.block]?=some (.cells cs t (0,0))
 m:∃cs t,w.heap[bm.block]?=some (.cells cs t (0,0))
 le:bl≠be
 lm:bl≠bm
 em:be≠bm
 gl:w.cell? ⟨3,0,none⟩=some (.iface 290 (.pointer (some bl)))
 ge:w.cell? ⟨4,0,none⟩=some (.iface 290 (.pointer (some be)))
 gm:w.cell? ⟨5,0,none⟩=some (.iface 290 (.pointer (some bm)))
theorem Sent.below {w W:World} {bl be bm:Addr} (h:Sent w bl be bm) (hb:Below w.heap.size w W):Sent W bl be bm:=by
 have up:∀{k:Nat} {cs:Array Value} {t:TypeId},w.heap[k]?=some (.cells cs t (0,0))→W.heap[k]?=some (.cells cs t (0,0)):=fun hk=>(hb.block _ (Array.getElem?_eq_some_iff.1 hk).1).trans hk
 obtain⟨⟨c1,t1,h1⟩,⟨c2,t2,h2⟩,⟨c3,t3,h3⟩,n1,n2,n3,g1,g2,g3⟩:=h
 exact⟨⟨c1,t1,up h1⟩,⟨c2,t2,up h2⟩,⟨c3,t3,up h3⟩,n1,n2,n3,(hb.cell (bltc g1)).trans g1,(hb.cell (bltc g2)).trans g2,(hb.cell (bltc g3)).trans g3⟩
theorem is_not {w:World} {x y:Addr} (hx:∃cs t,w.heap[x.block]?=some (.cells cs t (0,0))) (hy:∃cs t,w.heap[y.block]?=some (.cells cs t (0,0))) (hne:x≠y):Calls Tryz.prog 45 #[.iface 290 (.pointer (some x)),.iface 290 (.pointer (some y))] w fun e w'=>e=.returned (.bool false)∧w'=w:=by
 obtain⟨c1,t1,h1⟩:=hx
 obtain⟨c2,t2,h2⟩:=hy
 exact is_other x y c1 c2 t1 t2 w hne h1 h2
theorem fault_e (w:World) (hg:w.cell? ⟨6,0,none⟩=some (.iface 189 (.agg #[.pointer (some ⟨10,67,none⟩)]))) (bl be bm:Addr) (hs:Sent w bl be bm) (k:Nat) (b:Addr) (hk:(k=1∧b=bl)∨(k=2∧b=be)∨(k=3∧b=bm)) :
  Calls Tryz.prog 27 #[.iface 290 (.pointer (some b))] w (FltPost w (k:Int) 0 []):=by
 have HG:Hid (∀W,FF w W→W.cell? ⟨6,0,none⟩=some (.iface 189 (.agg #[.pointer (some ⟨10,67,none⟩)]))):=hide fun W h=>(h.low.cell (bltc hg)).trans hg
 clear hg
 have h0:=FF.made w
 go_enter Tryz.func27,Tryz.ntmps27
 go_wp2_with fail
 refine(as_miss_ei b ⟨w.heap.size+1+1+1+1,0,none⟩ _ (HG.out _ h0)).mono ?_
 rintro e1 W1 ⟨rfl,hb1⟩
 have h1:=h0.onward hb1
 go_wp2_with fail
 refine(as_miss_es b ⟨w.heap.size+1,0,none⟩ _ (HG.out _ h1)).mono ?_
 rintro e2 W2 ⟨rfl,hb2⟩
 have h2:=h1.onward hb2
 go_wp2_with fail
 refine(as_miss_en b ⟨w.heap.size+1+1,0,none⟩ _ (HG.out _ h2)).mono ?_
 rintro e3 W3 ⟨rfl,hb3⟩
 have h3:=h2.onward hb3
 go_wp2_with fail
 refine(as_miss_ec b ⟨w.heap.size+1+1+1,0,none⟩ _ (HG.out _ h3)).mono ?_
 rintro e4 W4 ⟨rfl,hb4⟩
 have h4:=h3.onward hb4
 have hs4:=hs.below h4.low
 have gl:=hs4.gl
 have ge:=hs4.ge
 have gm:=hs4.gm
 clear h0
 go_wp2_with fail
 have hB5:Below W4.heap.size W4 (W4.alloc (.cells #[.iface 290 (.pointer (some bl)),.iface 290 (.pointer (some be)),.iface 290 (.pointer (some bm))] 67)):=(Below.refl _ _).alloc (Nat.le_refl _) _
 have k0:(W4.alloc (.cells #[.iface 290 (.pointer (some bl)),.iface 290 (.pointer (some be)),.iface 290 (.pointer (some bm))] 67)).cell? ⟨W4.heap.size,0,none⟩=some (.iface 290 (.pointer (some bl))):=cell_fresh rfl
 have k1:(W4.alloc (.cells #[.iface 290 (.pointer (some bl)),.iface 290 (.pointer (some be)),.iface 290 (.pointer (some bm))] 67)).cell? ⟨W4.heap.size,1,none⟩=some (.iface 290 (.pointer (some be))):=cell_fresh rfl
 have k2:(W4.alloc (.cells #[.iface 290 (.pointer (some bl)),.iface 290 (.pointer (some be)),.iface 290 (.pointer (some bm))] 67)).cell? ⟨W4.heap.size,2,none⟩=some (.iface 290 (.pointer (some bm))):=cell_fresh rfl
 generalize W4.alloc (.cells #[.iface 290 (.pointer (some bl)),.iface 290 (.pointer (some be)),.iface 290 (.pointer (some bm))] 67)=W5 at hB5 k0 k1 k2 ⊢
 have h5:=h4.onward hB5
 have hs5:=hs4.below hB5
 have hR:FR w W5:=⟨h5.low,h5.r0,h5.r1,h5.r2,h5.r3,h5.rf⟩
 have r0:=hR.r0
 have r1:=hR.r1
 have r2:=hR.r2
 have r3:=hR.r3
 have rf:=hR.rf
 refine wp_loop_rounds 3 ?_
 rcases hk with ⟨rfl,rfl⟩ | ⟨rfl,rfl⟩ | ⟨rfl,rfl⟩
 ·rw[rounds_succ]
  go_wp2_with fail
  refine(is_same b _).mono ?_
  rintro e6 W6 ⟨rfl,rfl⟩
  go_wp2_with fail
  exact bodyPost_ret_by (results_cell rfl rfl (hR.load _ _ _ _)) rfl ⟨⟨#[]⟩,rfl,rfl,hR.stored _ _ _ _⟩
 ·rw[rounds_succ]
  go_wp2_with fail
  refine(is_not hs5.e hs5.l (Ne.symm hs5.le)).mono ?_
  rintro e6 W6 ⟨rfl,rfl⟩
  go_wp2_with fail
  rw[rounds_succ]
  go_wp2_with fail
  refine(is_same b _).mono ?_
  rintro e7 W7 ⟨rfl,rfl⟩
  go_wp2_with fail
  exact bodyPost_ret_by (results_cell rfl rfl (hR.load _ _ _ _)) rfl ⟨⟨#[]⟩,rfl,rfl,hR.stored _ _ _ _⟩
 ·rw[rounds_succ]
  go_wp2_with fail
  refine(is_not hs5.m hs5.l (Ne.symm hs5.lm)).mono ?_
  rintro e6 W6 ⟨rfl,rfl⟩
  go_wp2_with fail
  rw[rounds_succ]
  go_wp2_with fail
  refine(is_not hs5.m hs5.e (Ne.symm hs5.em)).mono ?_
  rintro e7 W7 ⟨rfl,rfl⟩
  go_wp2_with fail
  rw[rounds_succ]
  go_wp2_with fail
  refine(is_same b _).mono ?_
  rintro e8 W8 ⟨rfl,rfl⟩
  go_wp2_with fail
  exact bodyPost_ret_by (results_cell rfl rfl (hR.load _ _ _ _)) rfl ⟨⟨#[]⟩,rfl,rfl,hR.stored _ _ _ _⟩
end
section
open Go.RowKit Go.Maps
def whatOf:PredP.Res→Int
 | .long=>1
 | .empty=>2
 | .many=>3
 | .bad _ d=>if d then 5 else 4
 | .twice _ _=>6
 | .none _ _=>7
 | .useless _ _=>8
 | .clash _ _=>9
 | .ok _=>0
def atOf:PredP.Res→Nat
 | .bad p _=>p
 | .twice p _=>p
 | .none p _=>p
 | .useless p _=>p
 | .clash p _=>p
 | _=>0
def strOf:PredP.Res→Str
 | .twice _ s=>s
 | .none _ s=>s
 | .useless _ s=>s
 | .clash _ s=>s
 | _=>[]
abbrev sentV (b:Addr):Value:=.iface 290 (.pointer (some b))
theorem fault_any (w:World) (hg:w.cell? ⟨6,0,none⟩=some (.iface 189 (.agg #[.pointer (some ⟨10,67,none⟩)]))) (bl be bm:Addr) (hs:Sent w bl be bm) (lo:Nat) (r:PredP.Res) (u:Value) (h:Fault lo w (sentV bl) (sentV be) (sentV bm) r u) :
  Calls Tryz.prog 27 #[u] w (FltPost w (whatOf r) (atOf r) (strOf r)):=by
 cases r with
 | long=>rw[show u=sentV bl from h];exact fault_e w hg bl be bm hs 1 bl (.inl ⟨rfl,rfl⟩)
 | empty=>rw[show u=sentV be from h];exact fault_e w hg bl be bm hs 2 be (.inr (.inl ⟨rfl,rfl⟩))
 | many=>rw[show u=sentV bm from h];exact fault_e w hg bl be bm hs 3 bm (.inr (.inr ⟨rfl,rfl⟩))
 | bad p d =>
  obtain⟨b,rfl,h1,h2,h3,h4⟩:=h
  exact fault_s w hg b p d h2 h3 h4
 | twice p s =>
  obtain⟨b,a,rfl,h1,h2,h3,h4,h5,h6,h7⟩:=h
  have:=fault_n w hg b p 1 a (by omega) (by omega) h2 h3 h4 h7
  rw[h5]at this
  exact this
 | none p s =>
  obtain⟨b,a,rfl,h1,h2,h3,h4,h5,h6,h7⟩:=h
  have:=fault_n w hg b p 2 a (by omega) (by omega) h2 h3 h4 h7
  rw[h5]at this
  exact this
 | useless p s =>
  obtain⟨b,a,rfl,h1,h2,h3,h4,h5,h6,h7⟩:=h
  have:=fault_n w hg b p 3 a (by omega) (by omega) h2 h3 h4 h7
  rw[h5]at this
  exact this
 | clash p s =>
  obtain⟨b,a,rfl,h1,h2,h3,h4,h5,h6⟩:=h
  have:=fault_c w hg b p a h2 h3 h4
  rw[h5]at this
  exact this
 | ok G=>rw[show u=.nilIface from h];exact fault_nil w
theorem results_two {fn:Func} {t1 t2 ty:Nat} {P:Program} {W:World} {tmps:Array Value} {p:Addr} {v:Value} (h:fn.results=#[.tmp t1,.cell t2 ty]) (ht:tmps[t2]?.getD undef=.pointer (some p)) (hl:(loadVar ty p).run P W=.ok v W):(results fn tmps).run P W=.ok (.tuple #[tmps[t1]?.getD undef,v]) W:=by
 simp[results,h,ht,asAddr,hl]
theorem SetAt.apart {W:World} {b q:Nat} {l:List Str} {v:Value} (h:SetAt W b l) (hc:W.cell? ⟨q,0,none⟩=some v):b≠q:=fun e=>by
 subst e
 obtain⟨D,⟨es,clock,h1,_⟩,_⟩:=h
 simp[World.cell?,h1]at hc
theorem MapAt.apart {W:World} {b q:Nat} {f:List (Str×Nat)} {v:Value} (h:MapAt W b f) (hc:W.cell? ⟨q,0,none⟩=some v):b≠q:=fun e=>by
 subst e
 obtain⟨D,⟨es,clock,h1,_⟩,_⟩:=h
 simp[World.cell?,h1]at hc
theorem Known.stored {G:List Rule} {eb fb ab:Nat} {f fa:List (Str×Nat)} {l0:List Str} {c d:Words} {W W':World} (h:Known G eb fb ab f fa l0 c d W) {q:Nat} {v:Value} (hc:W.cell? ⟨q,0,none⟩=some v) (hs:∀k,k≠q→W'.heap[k]?=W.heap[k]?):Known G eb fb ab f fa l0 c d W':=by
 refine h.block fun b _ hb=>hs b ?_
 rcases hb with rfl | rfl | rfl | hb
 ·exact h.empty.apart hc
 ·exact h.fmap.apart hc
 ·exact h.amap.apart hc
 ·rcases List.mem_append.1 hb with hb | hb
  ·obtain⟨p,hp,rfl⟩:=List.mem_map.1 hb
   exact(h.fset p hp).apart hc
  ·obtain⟨p,hp,rfl⟩:=List.mem_map.1 hb
   exact(h.aset p hp).apart hc
theorem ParserAt.stored {G:List Rule} {lo lo' b q:Nat} {W W':World} {v:Value} (h:ParserAt G lo b W) (hq:q<lo) (hc:W.cell? ⟨q,0,none⟩=some v) (hz:W.heap.size≤W'.heap.size) (hs:∀k,k≠q→W'.heap[k]?=W.heap[k]?) (hl:lo'≤lo):ParserAt G lo' b W':=by
 obtain⟨h0,v,cs,eb,fb,ab,f,fa,l0,c,d,c0,c1,c2,c3,hsl,hr,hk⟩:=h
 have up:∀j u,W.cell? ⟨b,j,none⟩=some u→W'.cell? ⟨b,j,none⟩=some u:=fun j u hu=>(World.cell?_of_block (a:=⟨b,j,none⟩) (hs b (by omega))).trans hu
 exact⟨Nat.le_trans hl h0,v,cs,eb,fb,ab,f,fa,l0,c,d,up 0 _ c0,up 1 _ c1,up 2 _ c2,up 3 _ c3,
  hsl.carry hz (fun k hk _=>⟨Nat.le_trans hl hk,hs k (by have:lo≤k:=hk;omega)⟩),rulesAt.carry hz (fun k hk _=>⟨Nat.le_trans hl hk,hs k (by have:lo≤k:=hk;omega)⟩) _ _ hr,hk.stored hc hs⟩
def PCPost (w:World) (r:PredP.Res) (e:Ending) (w':World):Prop :=
 Below w.heap.size w w'∧∃(v:Value) (x:ByteArray),e=.returned (.tuple #[v,.agg #[.int .i64 (whatOf r),.int .i64 (atOf r:Int),.string x,.slice none 0 0]])∧bs x=strOf r∧match r with
 | .ok G=>∃b0 b,v=.pointer (some ⟨b0,0,none⟩)∧w.heap.size≤b0∧w'.cell? ⟨b0,0,none⟩=some (.pointer (some ⟨b,0,none⟩))∧ParserAt G w.heap.size b w'
 | _=>v=.pointer none
theorem Known.keep {G:List Rule} {eb fb ab:Nat} {f fa:List (Str×Nat)} {l0:List Str} {c d:Words} {W W':World} (h:Known G eb fb ab f fa l0 c d W) (hb:Below W.heap.size W W'):Known G eb fb ab f fa l0 c d W':=h.below hb
theorem ParserAt.below {G:List Rule} {lo lo' b:Nat} {W W':World} (h:ParserAt G lo b W) (hb:Below W.heap.size W W') (hl:lo'≤lo):ParserAt G lo' b W':=by
 obtain⟨h0,v,cs,eb,fb,ab,f,fa,l0,c,d,c0,c1,c2,c3,hs,hr,hk⟩:=h
 have lb:=bltc c0
 exact⟨Nat.le_trans hl h0,v,cs,eb,fb,ab,f,fa,l0,c,d,(hb.cell (p:=⟨b,0,none⟩) lb).trans c0,(hb.cell (p:=⟨b,1,none⟩) lb).trans c1,(hb.cell (p:=⟨b,2,none⟩) lb).trans c2,(hb.cell (p:=⟨b,3,none⟩) lb).trans c3,
  hs.carry hb.size (fun q hq hlq=>⟨Nat.le_trans hl hq,hb.block q hlq⟩),rulesAt.carry hb.size (fun q hq hlq=>⟨Nat.le_trans hl hq,hb.block q hlq⟩) _ _ hr,hk.below hb⟩
theorem pCompile_any (s:ByteArray) (hs:s.size≤maxLen) (w:World) (hg:w.cell? ⟨6,0,none⟩=some (.iface 189 (.agg #[.pointer (some ⟨10,67,none⟩)]))) (bl be bm:Addr) (hS:Sent w bl be bm) :
  Calls Tryz.prog 19 #[.string s] w (PCPost w (PredP.compile (bs s))):=by
 obtain⟨r,hr⟩:∃r,PredP.compile (bs s)=r:=⟨_,rfl⟩
 rw[hr]
 have hB0:Below w.heap.size w (w.alloc (.cells #[.int .i64 0,.int .i64 0,.string ⟨#[]⟩,.slice none 0 0] 41)):=(Below.refl _ _).alloc (Nat.le_refl _) _
 have hF0:∀j u,(#[Value.int .i64 0,.int .i64 0,.string ⟨#[]⟩,.slice none 0 0]:Array Value)[j]?=some u→(w.alloc (.cells #[.int .i64 0,.int .i64 0,.string ⟨#[]⟩,.slice none 0 0] 41)).cell? ⟨w.heap.size,j,none⟩=some u:=fun j u h=>cell_fresh h
 have hfz0:∀j,(w.alloc (.cells #[.int .i64 0,.int .i64 0,.string ⟨#[]⟩,.slice none 0 0] 41)).frozen? ⟨w.heap.size,j,none⟩=false:=fun j=>frozen_new j
 have hz0:(w.alloc (.cells #[.int .i64 0,.int .i64 0,.string ⟨#[]⟩,.slice none 0 0] 41)).heap.size=w.heap.size+1:=by simp
 have HC:Hid (∀W,Below w.heap.size w W→Calls Tryz.prog 29 #[.string s] W (CompPost W (sentV bl) (sentV be) (sentV bm) r)):=hide fun W hW=>by
  have h2:=hS.below hW
  have:=Compile_any s hs W (sentV bl) (sentV be) (sentV bm) h2.gl h2.ge h2.gm ⟨_,_,rfl⟩ ⟨_,_,rfl⟩ ⟨_,_,rfl⟩
  rw[hr]at this
  exact this
 have HF:Hid (∀W lo u,Below w.heap.size w W→Fault lo W (sentV bl) (sentV be) (sentV bm) r u→Calls Tryz.prog 27 #[u] W (FltPost W (whatOf r) (atOf r) (strOf r))):=hide fun W lo u hW hF =>
  fault_any W ((hW.cell (bltc hg)).trans hg) bl be bm (hS.below hW) lo r u hF
 clear hr hg hS hs
 have hFR:∀W,Below (w.heap.size+1) (w.alloc (.cells #[.int .i64 0,.int .i64 0,.string ⟨#[]⟩,.slice none 0 0] 41)) W→FR w W:=fun W hW =>
  have lt:w.heap.size<w.heap.size+1:=by omega
  ⟨hB0.trans (hW.mono (by omega)),(hW.cell (p:=⟨w.heap.size,0,none⟩) lt).trans (hF0 0 _ rfl),(hW.cell (p:=⟨w.heap.size,1,none⟩) lt).trans (hF0 1 _ rfl),(hW.cell (p:=⟨w.heap.size,2,none⟩) lt).trans (hF0 2 _ rfl),(hW.cell (p:=⟨w.heap.size,3,none⟩) lt).trans (hF0 3 _ rfl),fun j=>(hW.frozen (p:=⟨w.heap.size,j,none⟩) lt).trans (hfz0 j)⟩
 have HFR:=hide hFR
 clear hFR hF0 hfz0
 go_enter Tryz.func19,Tryz.ntmps19
 go_wp2_with fail
 generalize w.alloc (.cells #[.int .i64 0,.int .i64 0,.string ⟨#[]⟩,.slice none 0 0] 41)=w1 at hB0 hz0 HFR ⊢
 refine(HC.out _ hB0).mono ?_
 rintro e w2 ⟨hb2,hpost⟩
 cases r with
 | ok G =>
  obtain⟨b,rfl,hpar⟩:=hpost
  go_wp2_with fail
  have hB3:Below w2.heap.size w2 (w2.alloc (.cells #[.pointer (some ⟨b,0,none⟩)] 62)):=(Below.refl _ _).alloc (Nat.le_refl _) _
  have hc3:(w2.alloc (.cells #[.pointer (some ⟨b,0,none⟩)] 62)).cell? ⟨w2.heap.size,0,none⟩=some (.pointer (some ⟨b,0,none⟩)):=cell_fresh rfl
  generalize w2.alloc (.cells #[.pointer (some ⟨b,0,none⟩)] 62)=w3 at hB3 hc3 ⊢
  refine(HF.out _ 0 .nilIface (Below.all hB0 (Below.all hb2 hB3)) rfl).mono ?_
  rintro e4 w4 ⟨x,rfl,hx,hb4⟩
  have hR:=HFR.out w4 (by rw[←hz0];exact Below.all hb2 (Below.all hB3 hb4))
  have r0:=hR.r0
  have r1:=hR.r1
  have r2:=hR.r2
  have r3:=hR.r3
  have rf:=hR.rf
  go_wp2_with fail
  have hpar4:=hpar.below (Below.all hB3 hb4) (Nat.le_refl _)
  refine bodyPost_ret_by (results_two rfl rfl (hR.load _ _ _ _)) rfl ⟨hR.stored _ _ _ _,_,x,rfl,hx,w2.heap.size,b,rfl,Nat.le_trans hB0.size hb2.size,?_,?_⟩
  ·have hne:w2.heap.size≠w.heap.size:=by have:=hb2.size;omega
   have q:∀(X:World) (p:Addr) (u:Value),p.block=w.heap.size→(X.setCell p u).heap[w2.heap.size]?=X.heap[w2.heap.size]?:=fun X p u hp=>Below.heap_setCell _ _ _ _ (by rw[hp];exact hne)
   have hc4:=(hb4.cell (p:=⟨w2.heap.size,0,none⟩) (bltc hc3)).trans hc3
   exact(World.cell?_of_block (a:=⟨w2.heap.size,0,none⟩) ((q _ _ _ rfl).trans ((q _ _ _ rfl).trans ((q _ _ _ rfl).trans (q _ _ _ rfl))))).trans hc4
  ·refine hpar4.stored (q:=w.heap.size) (by omega) hR.r0 (by simp[World.setCell]) (fun k hk=>?_) hB0.size
   have q:∀(X:World) (p:Addr) (u:Value),p.block=w.heap.size→(X.setCell p u).heap[k]?=X.heap[k]?:=fun X p u hp=>Below.heap_setCell _ _ _ _ (by rw[hp];exact hk)
   exact(q _ _ _ rfl).trans ((q _ _ _ rfl).trans ((q _ _ _ rfl).trans (q _ _ _ rfl)))
 | _ =>
  obtain⟨u,rfl,hflt⟩:=hpost
  go_wp2_with fail
  refine(HF.out _ _ u (Below.all hB0 hb2) hflt).mono ?_
  rintro e4 w4 ⟨x,rfl,hx,hb4⟩
  have hR:=HFR.out w4 (by rw[←hz0];exact Below.all hb2 hb4)
  have r0:=hR.r0
  have r1:=hR.r1
  have r2:=hR.r2
  have r3:=hR.r3
  have rf:=hR.rf
  go_wp2_with fail
  refine bodyPost_ret_by (results_two rfl rfl (hR.load _ _ _ _)) rfl ⟨hR.stored _ _ _ _,_,x,rfl,hx,rfl⟩
end
end Go.Proofs.YtpcmemcanpgadaaGreatDoor
