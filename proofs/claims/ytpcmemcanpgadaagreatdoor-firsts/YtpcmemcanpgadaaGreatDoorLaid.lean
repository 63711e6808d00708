import Derived.Test.YtpcmemcanpgadaaGreatDoorRows
import Derived.Test.YtpcmemcanpgadaaGreatDoorFltG
import Derived.ProofKit
import Derived.LaidMore
import Derived.OpenShut
import Derived.Stop.Joined
import Derived.Stop.LaidErr
import Derived.LaidHandle
import Derived.Lay
set_option maxHeartbeats 1000000
set_option maxRecDepth 100000
namespace Go.Proofs.YtpcmemcanpgadaaGreatDoor
open Go.ChangeShapes Go.WideShapes Go.ChangeAt Go.WideMaps Go.WideElems Go.RowKit
theorem own:ownKnob Tryz.prog.godebug=none:=by kernel_rfl
theorem gType:Tryz.prog.globalNamed "errors.errorType" = some 6:=by kernel_rfl
theorem gLong:Tryz.prog.globalNamed "predict/api.ErrLong" = some 3:=by kernel_rfl
theorem tLong:(Tryz.prog.globals[3]?).map (·.type)=some 67:=by kernel_rfl
theorem gEmpty:Tryz.prog.globalNamed "predict/api.ErrEmpty" = some 4:=by kernel_rfl
theorem tEmpty:(Tryz.prog.globals[4]?).map (·.type)=some 67:=by kernel_rfl
theorem gMany:Tryz.prog.globalNamed "predict/api.ErrMany" = some 5:=by kernel_rfl
theorem tMany:(Tryz.prog.globals[5]?).map (·.type)=some 67:=by kernel_rfl
theorem gRule:Tryz.prog.globalNamed "predict/api.ErrRule" = some 0:=by kernel_rfl
theorem tRule:(Tryz.prog.globals[0]?).map (·.type)=some 67:=by kernel_rfl
theorem cellsES:Tryz.prog.cellsOf 310=1:=by kernel_rfl
theorem cellsS:Tryz.prog.cellsOf 9=1:=by kernel_rfl
theorem star : "*" ++ "errors.errorString" = "*errors.errorString" := by decide
theorem rowES (u:TypeId) (h:Tryz.prog.typeName? 3 u=some "*errors.errorString"):u=290 :=
 typeName_ptr_named (nm := "errors.errorString") (by rw[star];kernel_rfl) (by kernel_rfl) (by decide) u (by rw[star];exact h)
theorem rt:(Tryz.prog.cutTypes.find? (·.1 == "internal/reflectlite.rtype")).map (·.2)=some 189:=by kernel_rfl
theorem oneRow:((List.range 334).filter fun t=>Tryz.prog.rowNamed t [101,114,114,111,114])=[67]:=by kernel_rfl
theorem tsize:Tryz.prog.types.size=334:=by kernel_rfl
def laid9:List (String×DataW Unit):=[("unicode/utf8.acceptRanges",Rows.laid_unicode_utf8_acceptRanges),("errors.errorType",Rows.laid_errors_errorType),("predict/api.ErrLong",Rows.laid_predict_api_ErrLong),("predict/api.ErrEmpty",Rows.laid_predict_api_ErrEmpty),("predict/api.ErrMany",Rows.laid_predict_api_ErrMany),("predict/api.ErrRule",Rows.laid_predict_api_ErrRule),("predict/api.ErrEnd",Rows.laid_predict_api_ErrEnd),("predict/api.ErrUnknown",Rows.laid_predict_api_ErrUnknown),("unicode/utf8.first",Rows.laid_unicode_utf8_first)]
def laid8:List (String×DataW Unit):=[("unicode/utf8.acceptRanges",Rows.laid_unicode_utf8_acceptRanges),("predict/api.ErrLong",Rows.laid_predict_api_ErrLong),("predict/api.ErrEmpty",Rows.laid_predict_api_ErrEmpty),("predict/api.ErrMany",Rows.laid_predict_api_ErrMany),("predict/api.ErrRule",Rows.laid_predict_api_ErrRule),("predict/api.ErrEnd",Rows.laid_predict_api_ErrEnd),("predict/api.ErrUnknown",Rows.laid_predict_api_ErrUnknown),("unicode/utf8.first",Rows.laid_unicode_utf8_first)]
theorem laid_split {W:World} (h:laidMetH Tryz.prog laid9 W):laidMet Tryz.prog laid8 W∧handlesMet Tryz.prog [("errors.errorType",Rows.laid_errors_errorType)] W:=h
theorem handle_of_laid {W:World} (h:laidMetH Tryz.prog laid9 W):W.cell? ⟨6,0,none⟩=some (.iface 189 (.agg #[.pointer (some ⟨10,67,none⟩)])):=by
 obtain⟨name,u,ty,e1,e2,e3,e4,e5⟩:=(laid_split h).2 _ (List.mem_singleton.2 rfl)
 have en:name=[101,114,114,111,114]:=(Option.some.inj e1).symm
 subst en
 obtain rfl:=Option.some.inj (rt.symm.trans e2)
 have hm:ty∈(List.range 334).filter fun t=>Tryz.prog.rowNamed t [101,114,114,111,114]:=List.mem_filter.2 ⟨List.mem_range.2 (by rw[←tsize];exact e3),e4⟩
 rw[oneRow]at hm
 obtain rfl:=List.mem_singleton.1 hm
 have hh:typeHandle Tryz.prog 67=.pointer (some ⟨10,67,none⟩):=by kernel_rfl
 rw[hh]at e5
 simpa using World.var?_cell gType e5 0
theorem sents_of_laid {W:World} (h:laidMetH Tryz.prog laid9 W):∃bl be bm br:Addr,Sent W bl be bm∧(∃cs t,W.heap[br.block]?=some (.cells cs t (0,0)))∧bl≠br∧be≠br∧bm≠br∧W.cell? ⟨0,0,none⟩=some (.iface 290 (.pointer (some br))):=by
 obtain⟨ps,⟨gA,tA,csA,fA,pA,qA,_,_,_,_,⟨g0,t0,cs0,f0,p0,q0,hg0,ht0,hv0,hd0,⟨g1,t1,cs1,f1,p1,q1,hg1,ht1,hv1,hd1,⟨g2,t2,cs2,f2,p2,q2,hg2,ht2,hv2,hd2,⟨g3,t3,cs3,f3,p3,q3,hg3,ht3,hv3,hd3,_,e3⟩,e2⟩,e1⟩,e0⟩,eA⟩,hnd,hrows⟩:=(laid_split h).1
 obtain rfl:=Option.some.inj (gLong.symm.trans hg0)
 obtain rfl:=Option.some.inj (tLong.symm.trans ht0)
 obtain rfl:=Option.some.inj (gEmpty.symm.trans hg1)
 obtain rfl:=Option.some.inj (tEmpty.symm.trans ht1)
 obtain rfl:=Option.some.inj (gMany.symm.trans hg2)
 obtain rfl:=Option.some.inj (tMany.symm.trans ht2)
 obtain rfl:=Option.some.inj (gRule.symm.trans hg3)
 obtain rfl:=Option.some.inj (tRule.symm.trans ht3)
 subst e3
 subst e2
 subst e1
 subst e0
 subst eA
 obtain⟨l0⟩:=cs0
 obtain⟨l1⟩:=cs1
 obtain⟨l2⟩:=cs2
 obtain⟨l3⟩:=cs3
 have ok0:∀u v,l0=[.iface u v]→Value.okWide Tryz.prog W .any 0 u v:=fun u v e=>by
  subst e
  exact(hrows 3 0 (by simp[MemPlace.row])).2 u v (by simpa using World.var?_cell hg0 hv0 0)
 have ok1:∀u v,l1=[.iface u v]→Value.okWide Tryz.prog W .any 0 u v:=fun u v e=>by
  subst e
  exact(hrows 4 0 (by simp[MemPlace.row])).2 u v (by simpa using World.var?_cell hg1 hv1 0)
 have ok2:∀u v,l2=[.iface u v]→Value.okWide Tryz.prog W .any 0 u v:=fun u v e=>by
  subst e
  exact(hrows 5 0 (by simp[MemPlace.row])).2 u v (by simpa using World.var?_cell hg2 hv2 0)
 have ok3:∀u v,l3=[.iface u v]→Value.okWide Tryz.prog W .any 0 u v:=fun u v e=>by
  subst e
  exact(hrows 0 0 (by simp[MemPlace.row])).2 u v (by simpa using World.var?_cell hg3 hv3 0)
 obtain⟨a0,s0,rfl,_,_,_,rfl⟩:=errorString_of_trod Tryz.underlying67 rowES Tryz.underlying290 Tryz.underlying310 rfl rfl Tryz.underlying9 cellsES cellsS hd0 ok0
 obtain⟨a1,s1,rfl,_,_,_,rfl⟩:=errorString_of_trod Tryz.underlying67 rowES Tryz.underlying290 Tryz.underlying310 rfl rfl Tryz.underlying9 cellsES cellsS hd1 ok1
 obtain⟨a2,s2,rfl,_,_,_,rfl⟩:=errorString_of_trod Tryz.underlying67 rowES Tryz.underlying290 Tryz.underlying310 rfl rfl Tryz.underlying9 cellsES cellsS hd2 ok2
 obtain⟨a3,s3,rfl,_,_,_,rfl⟩:=errorString_of_trod Tryz.underlying67 rowES Tryz.underlying290 Tryz.underlying310 rfl rfl Tryz.underlying9 cellsES cellsS hd3 ok3
 obtain⟨c0,y0,hb0⟩:=(hrows a0.block a0.off (by simp[MemPlace.row])).1
 obtain⟨c1,y1,hb1⟩:=(hrows a1.block a1.off (by simp[MemPlace.row])).1
 obtain⟨c2,y2,hb2⟩:=(hrows a2.block a2.off (by simp[MemPlace.row])).1
 obtain⟨c3,y3,hb3⟩:=(hrows a3.block a3.off (by simp[MemPlace.row])).1
 have k0:W.cell? ⟨3,0,none⟩=some (.iface 290 (.pointer (some a0))):=by simpa using World.var?_cell hg0 hv0 0
 have k1:W.cell? ⟨4,0,none⟩=some (.iface 290 (.pointer (some a1))):=by simpa using World.var?_cell hg1 hv1 0
 have k2:W.cell? ⟨5,0,none⟩=some (.iface 290 (.pointer (some a2))):=by simpa using World.var?_cell hg2 hv2 0
 have k3:W.cell? ⟨0,0,none⟩=some (.iface 290 (.pointer (some a3))):=by simpa using World.var?_cell hg3 hv3 0
 have hnd':=(List.nodup_append.1 hnd).2.1
 clear hnd hrows
 have n01:a0≠a1:=by rintro rfl;simp[MemPlace.row]at hnd'
 have n02:a0≠a2:=by rintro rfl;simp[MemPlace.row]at hnd'
 have n03:a0≠a3:=by rintro rfl;simp[MemPlace.row]at hnd'
 have n12:a1≠a2:=by rintro rfl;simp[MemPlace.row]at hnd'
 have n13:a1≠a3:=by rintro rfl;simp[MemPlace.row]at hnd'
 have n23:a2≠a3:=by rintro rfl;simp[MemPlace.row]at hnd'
 exact⟨a0,a1,a2,a3,⟨⟨_,_,hb0⟩,⟨_,_,hb1⟩,⟨_,_,hb2⟩,n01,n02,n12,k0,k1,k2⟩,⟨_,_,hb3⟩,n03,n13,n23,k3⟩
noncomputable def handleWorld (os:Os):World :=
 let w0:=World.holding Tryz.prog os ⟨#[],#[],[]⟩
 { w0 with heap:=w0.heap.modify 6 fun
   | .cells _ t frozen=>.cells #[.iface 189 (.agg #[.pointer (some ⟨10,67,none⟩)])] t frozen
   | o=>o }
noncomputable def laidWorld (os:Os):World:=(handleWorld os).layVars Tryz.prog laid8
theorem laidWorld_os (os:Os):(laidWorld os).os=os:=World.layVars_os _ _ _
theorem laidWorld_met (os:Os) (args:Array Value):laidMetH Tryz.prog laid9 ((laidWorld os).forCall (fun _ _=>0) ⟨#[],args,[]⟩).memory:=by
 have e1:(laid8.filter fun x=>(laid8.map (·.1)).contains x.1)=laid8:=List.filter_eq_self.2 fun x hx=>List.contains_iff_mem.2 (List.mem_map.2 ⟨x,hx,rfl⟩)
 have e2:(laid8.filter fun x=>!(laid8.map (·.1)).contains x.1)=[]:=List.filter_eq_nil_iff.2 fun x hx=>by rw[List.contains_iff_mem.2 (List.mem_map.2 ⟨x,hx,rfl⟩)];simp
 have h:laidMet Tryz.prog laid8 (laidWorld os):=laidMet_layVars (w0:=handleWorld os) (laid8.map (·.1)) [] (by rw[e1];rfl) (by rw[e1];kernel_rfl) (by rw[e1];kernel_rfl) (by rw[e2];exact LaidIn.none)
 exact laidMetH_of_parts3 (fuel:=8) (h.of_heap (by simp[World.memory,World.forCall,Input.heap])) (by kernel_rfl) (by kernel_rfl)
end Go.Proofs.YtpcmemcanpgadaaGreatDoor
