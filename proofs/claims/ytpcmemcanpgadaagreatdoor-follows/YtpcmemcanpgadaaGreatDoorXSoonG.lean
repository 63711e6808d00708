import Derived.Test.YtpcmemcanpgadaaGreatDoorXAllG
set_option maxHeartbeats 1000000
set_option maxRecDepth 100000
namespace Go.Proofs.YtpcmemcanpgadaaGreatDoor
open PredP (hide Str Rule bs)
section
open Go.RowKit
def FaultIs (best:Option (Nat×Str)) (W A:Nat) (c:ByteArray):Prop :=
 match best with
 | none=>W=0∧A=0∧bs c=[]
 | some (q,v)=>W=9∧A=q∧bs c=v
abbrev fltV (W A:Nat) (c:ByteArray):Value:=.agg #[.int .i64 (W:Int),.int .i64 (A:Int),.string c]
def SoonPost (w:World) (best:Option (Nat×Str)) (e:Ending) (w':World):Prop:=∃W A c,e=.returned (fltV W A c)∧FaultIs best W A c∧Below w.heap.size w w'
theorem find_take {l:List Str} {P:Str→Bool} {k:Nat} {x:Str} (h:l[k]?=some x) (h0:(l.take k).find? P=none) (hx:P x=true):l.find? P=some x:=by
 rw[←List.take_append_drop k l,List.find?_append,h0,drop_get h,List.find?_cons,hx];rfl
theorem find_more {l:List Str} {P:Str→Bool} {k:Nat} {x:Str} (h:l[k]?=some x) (h0:(l.take k).find? P=none) (hx:P x=false):(l.take (k+1)).find? P=none:=by
 rw[List.take_add_one,h,List.find?_append,h0];simp[hx]
theorem soon_else {best:Option (Nat×Str)} {W A p:Nat} {c:ByteArray} (hF:FaultIs best W A c) (hc:¬(W=9∧A<p)) (o:Option Str):PredP.soonerP best p o=(match o with | some w=>some (p,w) | none=>best):=by
 cases best with
 | none=>cases o<;>rfl
 | some x =>
  obtain⟨q,v⟩:=x
  obtain⟨h1,h2,h3⟩:=hF
  subst h2
  have hn:¬A<p:=fun h=>hc ⟨h1,h⟩
  unfold PredP.soonerP
  simp only[hn,if_false]
  cases o<;>rfl
structure SRel (w:World) (W A:Nat) (c:ByteArray) (wr:World):Prop where
 low:Below w.heap.size w wr
 size:wr.heap.size=w.heap.size+2
 a0:wr.cell? ⟨w.heap.size,0,none⟩=some (.int .i64 (W:Int))
 a1:wr.cell? ⟨w.heap.size,1,none⟩=some (.int .i64 (A:Int))
 a2:wr.cell? ⟨w.heap.size,2,none⟩=some (.string c)
 b0:∃u,wr.cell? ⟨w.heap.size+1,0,none⟩=some u
 b1:∃u,wr.cell? ⟨w.heap.size+1,1,none⟩=some u
 b2:∃u,wr.cell? ⟨w.heap.size+1,2,none⟩=some u
 fz:∀k,wr.frozen? ⟨w.heap.size+1,k,none⟩=false
theorem SRel.zero (w:World) (W A:Nat) (c:ByteArray) (ty:Nat):SRel w W A c ((w.alloc (.cells #[.int .i64 (W:Int),.int .i64 (A:Int),.string c] ty)).alloc (.cells #[.int .i64 0,.int .i64 0,.string ⟨#[]⟩] ty)):=by
 have hB:Below w.heap.size w ((w.alloc (.cells #[.int .i64 (W:Int),.int .i64 (A:Int),.string c] ty)).alloc (.cells #[.int .i64 0,.int .i64 0,.string ⟨#[]⟩] ty)):=((Below.refl _ w).alloc (Nat.le_refl _) _).alloc (by simp) _
 have h1:((w.alloc (.cells #[.int .i64 (W:Int),.int .i64 (A:Int),.string c] ty)).alloc (.cells #[.int .i64 0,.int .i64 0,.string ⟨#[]⟩] ty)).heap[w.heap.size+1]?=some (.cells #[.int .i64 0,.int .i64 0,.string ⟨#[]⟩] ty):=by
  have:=heap_alloc_new (w.alloc (.cells #[.int .i64 (W:Int),.int .i64 (A:Int),.string c] ty)) (.cells #[.int .i64 0,.int .i64 0,.string ⟨#[]⟩] ty)
  rwa[World.size_alloc]at this
 have h0:((w.alloc (.cells #[.int .i64 (W:Int),.int .i64 (A:Int),.string c] ty)).alloc (.cells #[.int .i64 0,.int .i64 0,.string ⟨#[]⟩] ty)).heap[w.heap.size]?=some (.cells #[.int .i64 (W:Int),.int .i64 (A:Int),.string c] ty):=by
  rw[Below.heap_alloc _ _ _ (by simp),heap_alloc_new]
 refine⟨hB,by simp,?_,?_,?_,⟨.int .i64 0,?_⟩,⟨.int .i64 0,?_⟩,⟨.string ⟨#[]⟩,?_⟩,fun k=>?_⟩
 all_goals simp only[World.cell?,World.frozen?,h0,h1]
 all_goals rfl
theorem sooner_x (w:World) (best:Option (Nat×Str)) (W A:Nat) (c:ByteArray) (hF:FaultIs best W A c) (p:Nat) (va vb:Value) (la lb:List Str) (ha:strs w va la) (hb:strs w vb lb) :
  Calls Tryz.prog 86 #[fltV W A c,.int .i64 (p:Int),va,vb] w (SoonPost w (PredP.soonerP best p (la.find? (fun u=>hasS lb u)))):=by
 obtain⟨aa,na,capa,rfl,hma,_,hla,hca⟩:=ha.gen
 unfold maxLen at hma
 have HLA:Hid (la.length=na):=hide (by simpa[strC] using hla)
 have HA:=hide ha
 have HB:=hide hb
 have HF:=hide hF
 have hrel0:=SRel.zero w W A c 55
 obtain⟨r1,r2,r3,r4,r5,⟨_,r6⟩,⟨_,r7⟩,⟨_,r8⟩,r9⟩:=id hrel0
 clear hca hla ha hb hF
 by_cases hc:W=9∧A<p
 ·obtain⟨hW,hAp⟩:=hc
  subst hW
  have hAi:((A:Int)<(p:Int)):=by omega
  go_enter Tryz.func86,Tryz.ntmps86
  go_wp2_with fail
  have hB:Below w.heap.size w ((w.alloc (.cells #[.int .i64 ((9:Nat):Int),.int .i64 (A:Int),.string c] 55)).alloc (.cells #[.int .i64 ((9:Nat):Int),.int .i64 (A:Int),.string c] 55)):=((Below.refl _ w).alloc (Nat.le_refl _) _).alloc (by simp) _
  have k0:∀(o:Obj) (x y z:Value),((w.alloc o).alloc (.cells #[x,y,z] 55)).cell? ⟨w.heap.size+1,0,none⟩=some x:=fun o x y z=>cell_fresh2 rfl
  have k1:∀(o:Obj) (x y z:Value),((w.alloc o).alloc (.cells #[x,y,z] 55)).cell? ⟨w.heap.size+1,1,none⟩=some y:=fun o x y z=>cell_fresh2 rfl
  have k2:∀(o:Obj) (x y z:Value),((w.alloc o).alloc (.cells #[x,y,z] 55)).cell? ⟨w.heap.size+1,2,none⟩=some z:=fun o x y z=>cell_fresh2 rfl
  refine bodyPost_ret (v:=fltV 9 A c) (by simp[results,Tryz.results86,go_sem,k0,k1,k2]) rfl ⟨9,A,c,rfl,?_,hB⟩
  have hF:=HF.out
  cases best with
  | none=>exact absurd hF.1 (by omega)
  | some x =>
   obtain⟨q,v⟩:=x
   obtain⟨h1,rfl,h3⟩:=hF
   unfold PredP.soonerP
   simp only[hAp,if_true]
   exact⟨rfl,rfl,h3⟩
 ·have hW:W=0∨W=9:=by
   cases best with
   | none=>exact .inl HF.out.1
   | some x=>obtain⟨q,v⟩:=x;exact .inr HF.out.1
  have HS:=hide (soon_else (p:=p) HF.out hc)
  have hcond:(W=0)∨(W=9∧¬((A:Int)<(p:Int))):=by
   rcases hW with h | h
   ·exact .inl h
   ·exact .inr ⟨h,by omega⟩
  clear hc hW
  go_enter Tryz.func86,Tryz.ntmps86
  rcases hcond with rfl | ⟨rfl,hnp⟩
  ·go_wp2_with fail
   change Code.wp _ _ _ _ ((w.alloc (.cells #[.int .i64 ((0:Nat):Int),.int .i64 (A:Int),.string c] 55)).alloc (.cells #[.int .i64 0,.int .i64 0,.string ⟨#[]⟩] 55))
   generalize (w.alloc (.cells #[.int .i64 ((0:Nat):Int),.int .i64 (A:Int),.string c] 55)).alloc (.cells #[.int .i64 0,.int .i64 0,.string ⟨#[]⟩] 55)=W0 at hrel0 r1 r2 r3 r4 r5 r6 r7 r8 r9 ⊢
   have HAA:=hide (HA.out.below r1)
   have HBB:=hide (HB.out.below r1)
   have HR1:=hide r1
   have hsz:=r2
   clear r1 r2 hrel0
   go_loopw [23] (fun t wr=>wr=W0∧∃k:Nat,k≤na∧t=.int .i64 k∧(la.take k).find? (fun u=>hasS lb u)=none) (fun t _=>na - (intOf t).toNat)
   case atStart=>exact⟨rfl,0,by omega,rfl,rfl⟩
   case round =>
    obtain⟨rfl,k,hk,rfl,hR⟩:=hrel
    have HR:=hide hR
    clear hR
    by_cases hk':k<na
    ·obtain⟨x0,hx0⟩:∃x0,la[k]?=some x0:=⟨la[k]'(by rw[HLA.out];exact hk'),List.getElem?_eq_getElem _⟩
     obtain⟨ab',nb',capb',eb,_,_,_,hcb⟩:=HAA.out.gen
     cases eb
     rcases hcb with h0 | ⟨gb,rfl,_,hgb,hcell⟩
     ·omega
     obtain⟨y,hyy,k0⟩:=str_cell (hcell k _ (strC_get hx0))
     subst hyy
     have HX:=hide hx0
     clear hcell hx0
     cases hh:hasS lb (bs y)
     ·have HH:=hide hh
      clear hh
      go_wp2_with (go_at_call 37;refine(xhas_any _ _ lb y HBB.out).mono ?_;rintro e w1 ⟨rfl,rfl⟩;rw[HH.out])
      exact⟨⟨trivial,k+1,by omega,by go_num,find_more HX.out HR.out HH.out⟩,by simp[intOf];omega⟩
     ·have HH:=hide hh
      clear hh
      go_wp2_with (go_at_call 37;refine(xhas_any _ _ lb y HBB.out).mono ?_;rintro e w1 ⟨rfl,rfl⟩;rw[HH.out])
      have hB:Below w.heap.size w (((w1.setCell ⟨w.heap.size+1,0,none⟩ (.int .i64 9)).setCell ⟨w.heap.size+1,1,none⟩ (.int .i64 (p:Int))).setCell ⟨w.heap.size+1,2,none⟩ (.string y)):=((HR1.out.setCell (by simp) _).setCell (by simp) _).setCell (by simp) _
      refine bodyPost_ret (v:=fltV 9 p y) (by simp[results,Tryz.results86,go_sem,r6,r7,r8]) rfl ⟨9,p,y,rfl,?_,hB⟩
      rw[find_take HX.out HR.out HH.out,HS.out]
      exact⟨rfl,rfl,rfl⟩
    ·have hfn:la.find? (fun u=>hasS lb u)=none:=by
      have:=HR.out
      rwa[List.take_of_length_le (by rw[HLA.out];omega)]at this
     have HN:=hide hfn
     clear hfn
     go_wp2_with fail
     have hB:Below w.heap.size w (((wr.setCell ⟨w.heap.size+1,0,none⟩ (.int .i64 ((0:Nat):Int))).setCell ⟨w.heap.size+1,1,none⟩ (.int .i64 (A:Int))).setCell ⟨w.heap.size+1,2,none⟩ (.string c)):=((HR1.out.setCell (by simp) _).setCell (by simp) _).setCell (by simp) _
     refine bodyPost_ret (v:=fltV 0 A c) (by simp[results,Tryz.results86,go_sem,r6,r7,r8]) rfl ⟨0,A,c,rfl,?_,hB⟩
     rw[HN.out,HS.out]
     exact HF.out
  ·go_wp2_with fail
   change Code.wp _ _ _ _ ((w.alloc (.cells #[.int .i64 ((9:Nat):Int),.int .i64 (A:Int),.string c] 55)).alloc (.cells #[.int .i64 0,.int .i64 0,.string ⟨#[]⟩] 55))
   generalize (w.alloc (.cells #[.int .i64 ((9:Nat):Int),.int .i64 (A:Int),.string c] 55)).alloc (.cells #[.int .i64 0,.int .i64 0,.string ⟨#[]⟩] 55)=W0 at hrel0 r1 r2 r3 r4 r5 r6 r7 r8 r9 ⊢
   have HAA:=hide (HA.out.below r1)
   have HBB:=hide (HB.out.below r1)
   have HR1:=hide r1
   have hsz:=r2
   clear r1 r2 hrel0
   go_loopw [23] (fun t wr=>wr=W0∧∃k:Nat,k≤na∧t=.int .i64 k∧(la.take k).find? (fun u=>hasS lb u)=none) (fun t _=>na - (intOf t).toNat)
   case atStart=>exact⟨rfl,0,by omega,rfl,rfl⟩
   case round =>
    obtain⟨rfl,k,hk,rfl,hR⟩:=hrel
    have HR:=hide hR
    clear hR
    by_cases hk':k<na
    ·obtain⟨x0,hx0⟩:∃x0,la[k]?=some x0:=⟨la[k]'(by rw[HLA.out];exact hk'),List.getElem?_eq_getElem _⟩
     obtain⟨ab',nb',capb',eb,_,_,_,hcb⟩:=HAA.out.gen
     cases eb
     rcases hcb with h0 | ⟨gb,rfl,_,hgb,hcell⟩
     ·omega
     obtain⟨y,hyy,k0⟩:=str_cell (hcell k _ (strC_get hx0))
     subst hyy
     have HX:=hide hx0
     clear hcell hx0
     cases hh:hasS lb (bs y)
     ·have HH:=hide hh
      clear hh
      go_wp2_with (go_at_call 37;refine(xhas_any _ _ lb y HBB.out).mono ?_;rintro e w1 ⟨rfl,rfl⟩;rw[HH.out])
      exact⟨⟨trivial,k+1,by omega,by go_num,find_more HX.out HR.out HH.out⟩,by simp[intOf];omega⟩
     ·have HH:=hide hh
      clear hh
      go_wp2_with (go_at_call 37;refine(xhas_any _ _ lb y HBB.out).mono ?_;rintro e w1 ⟨rfl,rfl⟩;rw[HH.out])
      have hB:Below w.heap.size w (((w1.setCell ⟨w.heap.size+1,0,none⟩ (.int .i64 9)).setCell ⟨w.heap.size+1,1,none⟩ (.int .i64 (p:Int))).setCell ⟨w.heap.size+1,2,none⟩ (.string y)):=((HR1.out.setCell (by simp) _).setCell (by simp) _).setCell (by simp) _
      refine bodyPost_ret (v:=fltV 9 p y) (by simp[results,Tryz.results86,go_sem,r6,r7,r8]) rfl ⟨9,p,y,rfl,?_,hB⟩
      rw[find_take HX.out HR.out HH.out,HS.out]
      exact⟨rfl,rfl,rfl⟩
    ·have hfn:la.find? (fun u=>hasS lb u)=none:=by
      have:=HR.out
      rwa[List.take_of_length_le (by rw[HLA.out];omega)]at this
     have HN:=hide hfn
     clear hfn
     go_wp2_with fail
     have hB:Below w.heap.size w (((wr.setCell ⟨w.heap.size+1,0,none⟩ (.int .i64 ((9:Nat):Int))).setCell ⟨w.heap.size+1,1,none⟩ (.int .i64 (A:Int))).setCell ⟨w.heap.size+1,2,none⟩ (.string c)):=((HR1.out.setCell (by simp) _).setCell (by simp) _).setCell (by simp) _
     refine bodyPost_ret (v:=fltV 9 A c) (by simp[results,Tryz.results86,go_sem,r6,r7,r8]) rfl ⟨9,A,c,rfl,?_,hB⟩
     rw[HN.out,HS.out]
     exact HF.out
end
section
open Go.RowKit
theorem find_tells {L1 L2:List Str} {P1 P2:Str→Bool} (h1:PredP.Tells L1 P1) (h2:PredP.Tells L2 P2):(L1.find? (fun u=>hasS L2 u)=none→∀v,(P1 v&&P2 v)=false)∧(∀w,L1.find? (fun u=>hasS L2 u)=some w→(P1 w&&P2 w)=true∧∀v,(P1 v&&P2 v)=true→PredP.ltS v w=false):=by
 constructor
 ·intro h v
  cases hv:(P1 v&&P2 v) with
  | false=>rfl
  | true =>
   rw[Bool.and_eq_true]at hv
   have:=List.find?_eq_none.1 h v ((h1.mem v).2 hv.1)
   exact absurd ((h2.is v).trans hv.2) this
 ·intro w hw
  obtain⟨a,b,c⟩:=PredP.find_least h1.up hw
  refine⟨?_,fun v hv=>?_⟩
  ·rw[(h1.mem w).1 b,Bool.true_and,←h2.is w];exact a
  ·rw[Bool.and_eq_true]at hv
   exact c v ((h1.mem v).2 hv.1) ((h2.is v).trans hv.2)
mutual
def shX:PredP.X→Prop
 | .mk _ o _ _ b l=>(o=.opt∨o=.loop→l≠.nil)∧(o=.bar→b.length+1=l.list.length)∧shXs l
def shXs:PredP.Xs→Prop
 | .nil=>True
 | .cons x l=>shX x∧shXs l
end
theorem bars_len:∀(e:PredP.Rows) (l:PredP.Xs),PredP.xEs e l→(PredP.barsOf e).length=l.list.length
 | .nil,l,h=>by rw[PredP.xEs]at h;subst h;rw[PredP.barsOf];rfl
 | .cons _ r e,l,h=>by
  rw[PredP.xEs]at h
  obtain⟨y,l',rfl,_,hs⟩:=h
  rw[PredP.barsOf,PredP.Xs.list,List.length_cons,List.length_cons,bars_len e l' hs]
mutual
theorem sh_P:∀(p:PredP.Part) (x:PredP.X),PredP.xP p x→shX x
 | .word s,x,h=>by rw[PredP.xP]at h;obtain⟨i,p,rfl⟩:=h;unfold shX shXs;exact⟨(fun h=>by rcases h with h | h<;>cases h),(fun h=>by cases h),trivial⟩
 | .name s p,x,h=>by rw[PredP.xP]at h;obtain⟨i,rfl⟩:=h;unfold shX shXs;exact⟨(fun h=>by rcases h with h | h<;>cases h),(fun h=>by cases h),trivial⟩
 | .br .grp _ e,x,h=>by rw[PredP.xP]at h;exact sh_E e x h
 | .br .opt _ e,x,h=>by
  rw[PredP.xP]at h
  obtain⟨i,y,rfl,hy⟩:=h
  unfold shX shXs
  exact⟨(fun _ h=>by cases h),(fun h=>by cases h),sh_E e y hy,by unfold shXs;trivial⟩
 | .br .loop _ e,x,h=>by
  rw[PredP.xP]at h
  obtain⟨i,y,rfl,hy⟩:=h
  unfold shX shXs
  exact⟨(fun _ h=>by cases h),(fun h=>by cases h),sh_E e y hy,by unfold shXs;trivial⟩
theorem sh_R:∀(ps:PredP.Parts) (l:PredP.Xs),PredP.xR ps l→shXs l
 | .nil,l,h=>by rw[PredP.xR]at h;subst h;unfold shXs;trivial
 | .cons p ps,l,h=>by
  rw[PredP.xR]at h
  obtain⟨x,l',rfl,hp,hr⟩:=h
  unfold shXs
  exact⟨sh_P p x hp,sh_R ps l' hr⟩
theorem sh_E:∀(e:PredP.Rows) (x:PredP.X),PredP.xE e x→shX x
 | .nil,x,h=>by rw[PredP.xE]at h;exact h.elim
 | .cons _ r .nil,x,h=>by
  rw[PredP.xE]at h
  obtain⟨i,p,l,rfl,hr⟩:=h
  unfold shX
  exact⟨(fun h=>by rcases h with h | h<;>cases h),(fun h=>by cases h),sh_R r l hr⟩
 | .cons _ r (.cons b r' e),x,h=>by
  rw[PredP.xE]at h
  obtain⟨i,p,y,l,rfl,⟨j,q,m,rfl,hr⟩,hs⟩:=h
  have hb:=bars_len (.cons b r' e) l hs
  rw[PredP.barsOf]at hb
  have h1:=sh_R r m hr
  have h2:=sh_Es (.cons b r' e) l hs
  unfold shX
  refine⟨(fun h=>by rcases h with h | h<;>cases h),(fun _=>by rw[PredP.Xs.list];simp only[List.length_cons]at hb ⊢;omega),?_⟩
  unfold shXs
  refine⟨?_,h2⟩
  unfold shX
  exact⟨(fun h=>by rcases h with h | h<;>cases h),(fun h=>by cases h),h1⟩
theorem sh_Es:∀(e:PredP.Rows) (l:PredP.Xs),PredP.xEs e l→shXs l
 | .nil,l,h=>by rw[PredP.xEs]at h;subst h;unfold shXs;trivial
 | .cons _ r e,l,h=>by
  rw[PredP.xEs]at h
  obtain⟨y,l',rfl,⟨j,q,m,rfl,hr⟩,hs⟩:=h
  have h1:=sh_R r m hr
  unfold shXs
  refine⟨?_,sh_Es e l' hs⟩
  unfold shX
  exact⟨(fun h=>by rcases h with h | h<;>cases h),(fun h=>by cases h),h1⟩
end
mutual
theorem sh_parts:∀(x:PredP.X) (c:PredP.Ctx),shX x→∀q,q∈PredP.partsX c x→shX q.1
 | .mk i o p s b l,c,h,q,hq=>by
  rw[PredP.partsX]at hq
  rcases List.mem_cons.1 hq with rfl | hq
  ·exact h
  ·unfold shX at h;exact sh_partss l _ c 0 h.2.2 q hq
theorem sh_partss:∀(l:PredP.Xs) (p:PredP.X) (c:PredP.Ctx) (n:Nat),shXs l→∀q,q∈PredP.partsXs p c n l→shX q.1
 | .nil,_,_,_,_,q,hq=>by rw[PredP.partsXs]at hq;cases hq
 | .cons y l,p,c,n,h,q,hq=>by
  rw[PredP.partsXs]at hq
  unfold shXs at h
  rcases List.mem_append.1 hq with hq | hq
  ·exact sh_parts y _ h.1 q hq
  ·exact sh_partss l p c (n+1) h.2 q hq
end
abbrev plC (ns:List Str) (bl:List Bool) (fl al:List (List Str)) (l:List (Nat×PredP.X×PredP.Ctx)):List PredP.Place:=PredP.plAll (fun u n=>hasOf ns fl u n) (kOf ns bl) (fun n u=>hasOf ns al u n) ns l
theorem plC_append (ns:List Str) (bl:List Bool) (fl al:List (List Str)) (l m:List (Nat×PredP.X×PredP.Ctx)):plC ns bl fl al (l++m)=plC ns bl fl al l++plC ns bl fl al m:=PredP.plAll_append _ _ _ _ l m
theorem plC_one (ns:List Str) (bl:List Bool) (fl al:List (List Str)) (q:Nat×PredP.X×PredP.Ctx):plC ns bl fl al [q]=PredP.contrib (fun u n=>hasOf ns fl u n) (kOf ns bl) (fun u=>hasOf ns al u (ns.getD q.1 [])) q.2:=by
 unfold plC PredP.plAll;simp
theorem cnt_zero {p:Nat} {l m:List PredP.Place} {P:Str→Bool} (h:PredP.cnt p (l++(p,P)::m)≤1):PredP.cnt p l=0:=by
 rw[PredP.cnt_append,PredP.cnt,if_pos rfl]at h;omega
theorem soon_place {l m all:List PredP.Place} {best:Option (Nat×Str)} {p:Nat} {P1 P2 P:Str→Bool} {L1 L2:List Str} (h:PredP.Soon l best) (hall:all=l++(p,P)::m) (hc:∀q,PredP.cnt q all≤1) (h1:PredP.Tells L1 P1) (h2:PredP.Tells L2 P2) (hP:∀u,P u=(P1 u&&P2 u)) :
  PredP.Soon (l++[(p,P)]) (PredP.soonerP best p (L1.find? (fun u=>hasS L2 u))):=by
 obtain⟨f1,f2⟩:=find_tells h1 h2
 refine PredP.soon_step h (cnt_zero (by rw[←hall];exact hc p)) (fun e v=>by rw[hP];exact f1 e v) (fun w e=>?_)
 obtain⟨g1,g2⟩:=f2 w e
 exact⟨by rw[hP];exact g1,fun v hv=>g2 v (by rw[←hP];exact hv)⟩
structure CRel (w:World) (W A:Nat) (c:ByteArray) (wr:World):Prop where
 low:Below w.heap.size w wr
 size:w.heap.size+2≤wr.heap.size
 a0:wr.cell? ⟨w.heap.size+1,0,none⟩=some (.int .i64 (W:Int))
 a1:wr.cell? ⟨w.heap.size+1,1,none⟩=some (.int .i64 (A:Int))
 a2:wr.cell? ⟨w.heap.size+1,2,none⟩=some (.string c)
 af:∀k,wr.frozen? ⟨w.heap.size+1,k,none⟩=false
 b0:∃u,wr.cell? ⟨w.heap.size,0,none⟩=some u
 b1:∃u,wr.cell? ⟨w.heap.size,1,none⟩=some u
 b2:∃u,wr.cell? ⟨w.heap.size,2,none⟩=some u
 bf:∀k,wr.frozen? ⟨w.heap.size,k,none⟩=false
 at1:∃cs f,wr.heap[w.heap.size+1]?=some (.cells cs 55 f)
theorem cells_set {w:World} {b:Nat} {t:Nat} (h:∃cs f,w.heap[b]?=some (.cells cs t f)) (o:Nat) (v:Value):∃cs f,(w.setCell ⟨b,o,none⟩ v).heap[b]?=some (.cells cs t f):=by
 obtain⟨cs,f,h⟩:=h
 exact⟨_,f,by simp only[World.setCell,Array.getElem?_modify,h];rfl⟩
theorem CRel.zero (w:World):CRel w 0 0 ⟨#[]⟩ ((w.alloc (.cells #[.int .i64 0,.int .i64 0,.string ⟨#[]⟩] 55)).alloc (.cells #[.int .i64 0,.int .i64 0,.string ⟨#[]⟩] 55)):=by
 have hB:Below w.heap.size w ((w.alloc (.cells #[.int .i64 0,.int .i64 0,.string ⟨#[]⟩] 55)).alloc (.cells #[.int .i64 0,.int .i64 0,.string ⟨#[]⟩] 55)):=((Below.refl _ w).alloc (Nat.le_refl _) _).alloc (by simp) _
 have h1:((w.alloc (.cells #[.int .i64 0,.int .i64 0,.string ⟨#[]⟩] 55)).alloc (.cells #[.int .i64 0,.int .i64 0,.string ⟨#[]⟩] 55)).heap[w.heap.size+1]?=some (.cells #[.int .i64 0,.int .i64 0,.string ⟨#[]⟩] 55):=by
  have:=heap_alloc_new (w.alloc (.cells #[.int .i64 0,.int .i64 0,.string ⟨#[]⟩] 55)) (.cells #[.int .i64 0,.int .i64 0,.string ⟨#[]⟩] 55)
  rwa[World.size_alloc]at this
 have h0:((w.alloc (.cells #[.int .i64 0,.int .i64 0,.string ⟨#[]⟩] 55)).alloc (.cells #[.int .i64 0,.int .i64 0,.string ⟨#[]⟩] 55)).heap[w.heap.size]?=some (.cells #[.int .i64 0,.int .i64 0,.string ⟨#[]⟩] 55):=by
  rw[Below.heap_alloc _ _ _ (by simp),heap_alloc_new]
 refine⟨hB,by simp,?_,?_,?_,fun k=>?_,⟨.int .i64 0,?_⟩,⟨.int .i64 0,?_⟩,⟨.string ⟨#[]⟩,?_⟩,fun k=>?_,_,_,h1⟩
 all_goals simp only[World.cell?,World.frozen?,h0,h1]
 all_goals rfl
theorem CRel.below {w:World} {W A:Nat} {c:ByteArray} {wr w':World} (h:CRel w W A c wr) (hb:Below wr.heap.size wr w'):CRel w W A c w':=by
 obtain⟨h1,h2,h3,h4,h5,h6,⟨u0,h7⟩,⟨u1,h8⟩,⟨u2,h9⟩,h10,cs1,f1,h11⟩:=h
 have q:=fun k=>hb.cell (p:=⟨w.heap.size+1,k,none⟩) (by simp;omega)
 have q':=fun k=>hb.cell (p:=⟨w.heap.size,k,none⟩) (by simp;omega)
 exact⟨Below.all h1 hb,Nat.le_trans h2 hb.size,(q 0).trans h3,(q 1).trans h4,(q 2).trans h5,fun k=>(hb.frozen (p:=⟨w.heap.size+1,k,none⟩) (by simp;omega)).trans (h6 k),⟨u0,(q' 0).trans h7⟩,⟨u1,(q' 1).trans h8⟩,⟨u2,(q' 2).trans h9⟩,fun k=>(hb.frozen (p:=⟨w.heap.size,k,none⟩) (by simp;omega)).trans (h10 k),cs1,f1,(hb.block _ (by omega)).trans h11⟩
theorem CRel.set {w:World} {W A W' A':Nat} {c c':ByteArray} {wr:World} (h:CRel w W A c wr):CRel w W' A' c' (((wr.setCell ⟨w.heap.size+1,0,none⟩ (.int .i64 (W':Int))).setCell ⟨w.heap.size+1,1,none⟩ (.int .i64 (A':Int))).setCell ⟨w.heap.size+1,2,none⟩ (.string c')):=by
 obtain⟨h1,h2,h3,h4,h5,h6,⟨u0,h7⟩,⟨u1,h8⟩,⟨u2,h9⟩,h10,cs1,f1,h11⟩:=h
 refine⟨((h1.setCell (by simp) _).setCell (by simp) _).setCell (by simp) _,by simpa[World.setCell] using h2,?_,?_,?_,fun k=>by simp only[World.frozen?_setCell];exact h6 k,⟨u0,?_⟩,⟨u1,?_⟩,⟨u2,?_⟩,fun k=>by simp only[World.frozen?_setCell];exact h10 k,cells_set (cells_set (cells_set ⟨cs1,f1,h11⟩ 0 _) 1 _) 2 _⟩
 all_goals simp[go_sem,h3,h4,h5,h7,h8,h9]
theorem set_butc {w wr:World} (x y z:Value):But (w.heap.size+1) wr (((wr.setCell ⟨w.heap.size+1,0,none⟩ x).setCell ⟨w.heap.size+1,1,none⟩ y).setCell ⟨w.heap.size+1,2,none⟩ z):=(((But.refl (w.heap.size+1) wr).setCell (p:=⟨w.heap.size+1,0,none⟩) rfl x).setCell (p:=⟨w.heap.size+1,1,none⟩) rfl y).setCell (p:=⟨w.heap.size+1,2,none⟩) rfl z
end
end Go.Proofs.YtpcmemcanpgadaaGreatDoor
