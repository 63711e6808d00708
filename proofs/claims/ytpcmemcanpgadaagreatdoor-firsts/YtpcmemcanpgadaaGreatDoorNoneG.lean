import Derived.Test.YtpcmemcanpgadaaGreatDoorTellH
import Derived.Test.YtpcmemcanpgadaaGreatDoorPureR
import Derived.Test.YtpcmemcanpgadaaGreatDoorPureA
set_option maxHeartbeats 4000000
set_option maxRecDepth 100000
namespace Go.Proofs.YtpcmemcanpgadaaGreatDoor
open PredP (hide Str Rule bs)
section
open Go.RowKit Go.Maps Go.Shelf
attribute [local go_sem] Oper.semAt_some
def NonePost (w:World) (o:Option (Str×Nat)) (e:Ending) (w':World):Prop :=
 Below w.heap.size w w'∧match o with
 | none=>e=.returned .nilIface
 | some x=>∃v,e=.returned v∧NameErr w.heap.size w' v x.2 x.1 2
structure FillRel (w:World) (G:List Rule) (kb k:Nat) (cur:List Str) (wr:World):Prop where
 set:SetAt wr kb cur
 mem:∀x,cur.contains x=(PredP.names (G.take k)).contains x
 below:Below w.heap.size w wr
 len:cur.length≤k
 res:wr.cell? ⟨w.heap.size,0,none⟩=some .nilIface
 fz:wr.frozen? ⟨w.heap.size,0,none⟩=false
 mp:wr.cell? ⟨kb+1,0,none⟩=some (.map (some kb))
theorem SetAt.quiet {S:Nat} {A B:World} {b:Nat} {l:List Str} (h:SetAt A b l) (hq:Quiet S A B):SetAt B b l:=by
 obtain⟨D,⟨es,clock,h1,h2⟩,r⟩:=h
 exact⟨D,⟨es,clock,hq.same _ _ h1 rfl,h2⟩,r⟩
theorem frozen_quiet {S:Nat} {A B:World} {p:Addr} {v:Value} (hq:Quiet S A B) (hv:A.cell? p=some v) (hf:A.frozen? p=false):B.frozen? p=false:=by
 unfold World.cell? at hv
 cases hb:A.heap[p.block]? with
 | none=>rw[hb]at hv;cases hv
 | some o =>
  cases o with
  | cells c t f=>exact(World.frozen?_of_block ((hq.same _ _ hb rfl).trans hb.symm)).trans hf
  | _=>rw[hb]at hv;cases hv
structure NB (w:World) (kb:Nat) (cur:List Str) (Ds:List Nat) (W:World):Prop where
 set:SetAt W kb cur
 below:Below w.heap.size w W
 res:W.cell? ⟨w.heap.size,0,none⟩=some .nilIface
 fz:W.frozen? ⟨w.heap.size,0,none⟩=false
 mp:W.cell? ⟨kb+1,0,none⟩=some (.map (some kb))
 mks:MarksAt (w.heap.size+1) Ds W
theorem NB.quiet {w:World} {kb:Nat} {cur:List Str} {Ds:List Nat} {A B:World} {S:Nat} (h:NB w kb cur Ds A) (hq:Quiet S A B) (hS:w.heap.size≤S) (hD:∀D∈Ds,D<S):NB w kb cur Ds B :=
 ⟨h.set.quiet hq,hq.below h.below hS h.below.size,hq.cell h.res,frozen_quiet hq h.res h.fz,hq.cell h.mp,h.mks.quiet hq hD⟩
theorem NB.onward {w:World} {kb:Nat} {cur:List Str} {Ds:List Nat} {A B:World} (h:NB w kb cur Ds A) (hb:Below A.heap.size A B):NB w kb cur Ds B :=
 h.quiet (S:=A.heap.size) (.of_below hb) h.below.size h.mks.lt
structure NX (w:World) (x:Str×Nat) (Ds:List Nat) (W:World):Prop where
 below:Below w.heap.size w W
 res:∃v,W.cell? ⟨w.heap.size,0,none⟩=some v∧NameErr (w.heap.size+1) W v x.2 x.1 2
 mks:MarksAt (w.heap.size+1) Ds W
theorem NameErr.quiet {S lo:Nat} {A B:World} {v:Value} {p what:Nat} {s:Str} (h:NameErr lo A v p s what) (hq:Quiet S A B):NameErr lo B v p s what:=by
 obtain⟨b,a,h0,h1,h2,c0,c1,h3,h4,c2⟩:=h
 exact⟨b,a,h0,h1,Nat.lt_of_lt_of_le h2 hq.size,hq.cell c0,hq.cell c1,h3,h4,hq.cell c2⟩
theorem NameErr.mono {lo lo':Nat} {A:World} {v:Value} {p what:Nat} {s:Str} (h:NameErr lo' A v p s what) (hl:lo≤lo'):NameErr lo A v p s what:=by
 obtain⟨b,a,h0,h1,h2⟩:=h
 exact⟨b,a,h0,Nat.le_trans hl h1,h2⟩
theorem NX.quiet {w:World} {x:Str×Nat} {Ds:List Nat} {A B:World} {S:Nat} (h:NX w x Ds A) (hq:Quiet S A B) (hS:w.heap.size≤S) (hD:∀D∈Ds,D<S):NX w x Ds B:=by
 obtain⟨h1,⟨v,h2,h3⟩,h4⟩:=h
 exact⟨hq.below h1 hS h1.size,⟨v,hq.cell h2,h3.quiet hq⟩,h4.quiet hq hD⟩
theorem NB.made (w:World) (t1 t2:Nat):NB w (w.heap.size+1) [] [] (((w.alloc (.cells #[.nilIface] t1)).alloc (.map #[] 0)).alloc (.cells #[.map (some (w.heap.size+1))] t2)):=by
 have b0:Below w.heap.size w (w.alloc (.cells #[.nilIface] t1)):=(Below.refl _ _).alloc (Nat.le_refl _) _
 have s0:(w.alloc (.cells #[.nilIface] t1)).heap.size=w.heap.size+1:=by simp
 have b1:Below (w.heap.size+1) (w.alloc (.cells #[.nilIface] t1)) (((w.alloc (.cells #[.nilIface] t1)).alloc (.map #[] 0)).alloc (.cells #[.map (some (w.heap.size+1))] t2)):=((Below.refl _ _).alloc (by omega) _).alloc (by simp) _
 refine⟨?_,b0.trans (b1.mono (by omega)),?_,?_,?_,⟨by simp,fun D hD=>by simp at hD⟩⟩
 ·have:=SetAt.made (w.alloc (.cells #[.nilIface] t1))
  rw[s0]at this
  exact this.below ((Below.refl _ _).alloc (Nat.le_refl _) _)
 ·exact(b1.cell (p:=⟨w.heap.size,0,none⟩) (by simp)).trans (cell_fresh rfl)
 ·exact(b1.frozen (p:=⟨w.heap.size,0,none⟩) (by simp)).trans (frozen_new 0)
 ·have s1:((w.alloc (.cells #[.nilIface] t1)).alloc (.map #[] 0)).heap.size=w.heap.size+1+1:=by simp
  rw[←s1]
  exact cell_fresh rfl
theorem NB.grow {w:World} {kb:Nat} {cur cur':List Str} {A B C:World} (h:NB w kb cur [] A) (hkb:w.heap.size<kb) (hb:Below A.heap.size A B) (hg:B.grownBy C (some kb)) (hs:SetAt C kb cur'):NB w kb cur' [] C:=by
 have h1:=h.onward hb
 have l0:=World.block_lt_of_cell? B _ h1.res
 have l1:=World.block_lt_of_cell? B _ h1.mp
 have e0:=hg.block w.heap.size l0 (fun e=>by have:=Option.some.inj e;omega)
 have e1:=hg.block (kb+1) l1 (fun e=>by have:=Option.some.inj e;omega)
 exact⟨hs,h1.below.grown hg h1.below.size (fun j e=>by cases e;omega),(World.cell?_of_block (a:=⟨w.heap.size,0,none⟩) e0).trans h1.res,(World.frozen?_of_block (a:=⟨w.heap.size,0,none⟩) e0).trans h1.fz,(World.cell?_of_block (a:=⟨kb+1,0,none⟩) e1).trans h1.mp,⟨by simp,fun D hD=>by simp at hD⟩⟩
theorem names_take {G:List Rule} {k:Nat} {q:Rule} (h:G[k]?=some q) (x:Str):hasS (PredP.names (G.take (k+1))) x=(hasS (PredP.names (G.take k)) x||x==q.name):=by
 unfold hasS PredP.names
 rw[List.take_add_one,h,Bool.eq_iff_iff]
 simp
theorem hasS_ins (s x:Str) (l:List Str):hasS (ins s l) x=(hasS l x||x==s):=ins_contains s x l
theorem ins_le (s:Str) (l:List Str):(ins s l).length≤l.length+1:=by unfold ins;split<;>simp
theorem results_cell {fn:Func} {t ty:Nat} {P:Program} {W:World} {tmps:Array Value} {p:Addr} {v:Value} (h:fn.results=#[.cell t ty]) (ht:tmps[t]?.getD undef=.pointer (some p)) (hl:(loadVar ty p).run P W=.ok v W):(results fn tmps).run P W=.ok v W:=by
 simp[results,h,ht,asAddr,hl]
theorem load_error {W:World} {b:Nat} {v:Value} (h:W.cell? ⟨b,0,none⟩=some v):(loadVar 67 ⟨b,0,none⟩).run Tryz.prog W=.ok v W:=by
 go_simp
theorem _root_.Go.MarksAt.stored {S:Nat} {Ds:List Nat} {W:World} (h:MarksAt S Ds W) {p:Addr} (hp:p.block<S) (u:Value):MarksAt S Ds (W.setCell p u) :=
 ⟨h.1,fun D hD=>⟨(h.2 D hD).1,(Below.heap_setCell _ _ _ _ (by have:=(h.2 D hD).1;omega)).trans (h.2 D hD).2⟩⟩
theorem NB.failed {w:World} {kb:Nat} {cur:List Str} {Ds:List Nat} {A:World} (h:NB w kb cur Ds A) (x:Str×Nat) (a:ByteArray) (t1 t2:Nat) (ha:bs a=x.1) (hz:a.size≤400) (ht:t1=104) :
  NX w x Ds ((A.alloc (.cells #[.int .i64 (x.2:Int),.string a,.int .i64 2] t2)).setCell ⟨w.heap.size,0,none⟩ (.iface t1 (.pointer (some ⟨A.heap.size,0,none⟩)))):=by
 subst ht
 have hb:Below A.heap.size A (A.alloc (.cells #[.int .i64 (x.2:Int),.string a,.int .i64 2] t2)):=(Below.refl _ _).alloc (Nat.le_refl _) _
 have h1:=h.onward hb
 have hlt:w.heap.size<A.heap.size:=World.block_lt_of_cell? A _ h.res
 have q:((A.alloc (.cells #[.int .i64 (x.2:Int),.string a,.int .i64 2] t2)).setCell ⟨w.heap.size,0,none⟩ (.iface 104 (.pointer (some ⟨A.heap.size,0,none⟩)))).heap[A.heap.size]?=(A.alloc (.cells #[.int .i64 (x.2:Int),.string a,.int .i64 2] t2)).heap[A.heap.size]?:=Below.heap_setCell _ _ _ _ (by show A.heap.size≠w.heap.size;omega)
 refine⟨h1.below.setCell (p:=⟨w.heap.size,0,none⟩) (Nat.le_refl _) _,⟨_,by simp[go_sem,h1.res],A.heap.size,a,rfl,by omega,by simp[World.setCell],?_,?_,ha,hz,?_⟩,h1.mks.stored (by show w.heap.size<_;omega) _⟩
 ·exact(World.cell?_of_block (a:=⟨A.heap.size,0,none⟩) q).trans (cell_fresh rfl)
 ·exact(World.cell?_of_block (a:=⟨A.heap.size,1,none⟩) q).trans (cell_fresh rfl)
 ·exact(World.cell?_of_block (a:=⟨A.heap.size,2,none⟩) q).trans (cell_fresh rfl)
theorem _root_.Go.KeepsAbove.setCell {S:Nat} {A B:World} (h:KeepsAbove S A B) {p:Addr} (hp:p.block<S) (u:Value):KeepsAbove S A (B.setCell p u) :=
 ⟨by simpa[World.setCell] using h.size,fun k hk hA=>(Below.heap_setCell _ _ _ _ (by omega)).trans (h.same k hk hA)⟩
theorem _root_.Go.MarksAt.cons {S:Nat} {Ds:List Nat} {W:World} (h:MarksAt S Ds W) {D B:Nat} (hl:∀E∈Ds,E<B) (hD:B≤D) (hS:S≤D) (hd:W.heap[D]?=some (.deferred (some []))):MarksAt S (D::Ds) W :=
 ⟨List.nodup_cons.2 ⟨fun hm=>by have:=hl D hm;omega,h.1⟩,fun E hE=>by
  rcases List.mem_cons.1 hE with rfl | hE
  ·exact⟨hS,hd⟩
  ·exact h.2 E hE⟩
theorem find_at {α:Type} {p:α→Bool} {A B:List α} {x:α} (hA:∀y∈A,p y=false) (hx:p x=true):(A++x::B).find? p=some x:=by
 rw[List.find?_append,List.find?_eq_none.2 (fun y hy=>by simp[hA y hy]),List.find?_cons,hx];rfl
theorem split_at {G:List Rule} {j:Nat} {q:Rule} (h:G[j]?=some q):G=G.take j++q::G.drop (j+1):=by
 rw[←drop_get h,List.take_append_drop]
theorem none_found {G:List Rule} {j:Nat} {q:Rule} (h:G[j]?=some q) {cur:List Str} (hM:∀x,hasS cur x=hasS (PredP.names (G.take G.length)) x) (hs:∀x∈(G.take j).flatMap (fun r=>PredP.namesE r.body),hasS cur x.1=true)
  {pre post:List Nm} {x:Nm} (hn:PredP.namesE q.body=(pre++x::post).map fun y=>(y.1,y.2.1)) (hp:∀y∈pre,hasS cur y.1=true) (hx:hasS cur x.1=false):PredP.findNone G=some (x.1,x.2.1):=by
 rw[List.take_length]at hM
 unfold PredP.findNone
 have e:G.flatMap (fun r=>PredP.namesE r.body)=((G.take j).flatMap (fun r=>PredP.namesE r.body)++pre.map fun y=>(y.1,y.2.1))++(x.1,x.2.1)::((post.map fun y=>(y.1,y.2.1))++(G.drop (j+1)).flatMap (fun r=>PredP.namesE r.body)):=by
  conv=>lhs;rw[split_at h]
  rw[List.flatMap_append,List.flatMap_cons,hn]
  simp
 rw[e]
 refine find_at (fun y hy=>?_) ?_
 ·show(!hasS (PredP.names G) y.1)=false
  rw[←hM]
  rcases List.mem_append.1 hy with hy | hy
  ·rw[hs y hy];rfl
  ·obtain⟨z,hz,rfl⟩:=List.mem_map.1 hy
   rw[hp z hz];rfl
 ·show(!hasS (PredP.names G) x.1)=true
  rw[←hM,hx];rfl
theorem seen_more {G:List Rule} {j:Nat} {q:Rule} (h:G[j]?=some q) {cur:List Str} (hs:∀x∈(G.take j).flatMap (fun r=>PredP.namesE r.body),hasS cur x.1=true)
  {xs:List Nm} (hn:PredP.namesE q.body=xs.map fun y=>(y.1,y.2.1)) (hp:∀y∈xs,hasS cur y.1=true):∀x∈(G.take (j+1)).flatMap (fun r=>PredP.namesE r.body),hasS cur x.1=true:=by
 intro x hx
 rw[List.take_add_one,h,List.flatMap_append]at hx
 rcases List.mem_append.1 hx with hx | hx
 ·exact hs x hx
 ·simp only[Option.toList,List.flatMap_cons,List.flatMap_nil,List.append_nil]at hx
  rw[hn]at hx
  obtain⟨z,hz,rfl⟩:=List.mem_map.1 hx
  exact hp z hz
theorem checkNone_any (ok:Nat→Prop) (w:World) (v:Value) (cs:List Value) (G:List Rule) (hG:G≠[]) (hlen:G.length≤400) (hsl:slAt ok w 3 v cs) (hr:rulesAt ok w G cs) :
  Calls Tryz.prog 71 #[v] w (NonePost w (PredP.findNone G)):=by
 obtain⟨g,cap,rfl,hm,hg,hcell⟩:=rules_slice hsl hr hG
 have HC:=hide hcell
 have HR:=hide hr
 clear hcell hsl hr hG
 unfold maxLen at hm
 have hmm:=@run_makeMap Tryz.prog
 refine(callsIn_wide (n:=0)).1 ?_
 refine callsIn_of_wp_marks Tryz.func71 rfl trivial ?_ rfl
 rw[wpIn_wide]
 simp only[Tryz.ntmps71,List.size_toArray,List.length_cons,List.length_nil,Nat.reduceAdd,Nat.reduceSub,Array.replicate_succ,Array.replicate_zero,List.push_toArray,List.append_toArray,List.nil_append,List.cons_append]
 go_wp2_with fail
 go_loopw [12] (fun t wr=>∃k:Nat,∃cur,k≤G.length∧t=.int .i64 k∧(∀x,hasS cur x=hasS (PredP.names (G.take k)) x)∧cur.length≤k∧NB w (w.heap.size+1) cur [] wr) (fun t _=>G.length - (intOf t).toNat)
 case atStart =>
  exact⟨0,[],by omega,rfl,fun x=>rfl,Nat.le_refl _,NB.made w _ _⟩
 case round =>
  obtain⟨k,cur,hk,rfl,hmem,hcl,hS⟩:=hrel
  have HM:=hide hmem
  clear hmem
  by_cases hk':k<G.length
  ·obtain⟨q,hq⟩:∃q,G[k]?=some q:=⟨G[k],List.getElem?_eq_getElem hk'⟩
   obtain⟨a,u,us,e0,e1,e2,hnm,ha,hu,hrows⟩:=HR.out.get hq
   have k0:=sl_cell hg HC.out hS.below e0
   have k1:=sl_cell hg HC.out hS.below e1
   have k2:=sl_cell hg HC.out hS.below e2
   have HN:=hide hnm
   have HQ:=hide hq
   clear hnm hq e0 e1 e2
   obtain⟨ua,un,uc,rfl⟩:=hu.form
   have hb0:∀o,Below wr.heap.size wr (wr.alloc o):=fun o=>(Below.refl _ _).alloc (Nat.le_refl _) o
   have mp0:=fun o=>(hS.onward (hb0 o)).mp
   go_wp2_with (go_at_call 41;refine(add_any _ (w.heap.size+1) cur a (le_max ha) (by unfold maxLen;omega) (hS.onward (hb0 _)).set).mono ?_;rintro e w2 ⟨rfl,hg2,hset2⟩)
   exact⟨⟨k+1,_,by omega,by go_num,fun x=>by rw[hasS_ins,HM.out,names_take HQ.out,HN.out],by have:=ins_le (bs a) cur;omega,hS.grow (by omega) (hb0 _) hg2 hset2⟩,by simp[intOf];omega⟩
  ·go_wp2_with fail
   have ek:k=G.length:=by omega
   subst ek
   refine(wpIn_wide (n:=0)).1 (wpIn_loop_marks [23,7,24,25,26,27,28,29,49] [] (fun vs Ds wr=>∃k:Nat,∃x7 x24 x25 x26 x27 x28 x29 x49,vs=[.int .i64 k,x7,x24,x25,x26,x27,x28,x29,x49]∧k≤G.length∧(∀x∈(G.take k).flatMap (fun r=>PredP.namesE r.body),hasS cur x.1=true)∧NB w (w.heap.size+1) cur Ds wr)
    (fun a _=>G.length - (intOf (a.tmps.getD 23 undef)).toNat) [.int .i64 0,undef,undef,undef,undef,undef,undef,undef,undef] ⟨0,undef,undef,undef,undef,undef,undef,undef,undef,rfl,by omega,fun x hx=>by simp at hx,hS⟩ (by simp only[updN,updC,List.set_cons_succ,List.set_cons_zero]) ?_)
   rintro vs Ds wr2 ⟨j,x7,x24,x25,x26,x27,x28,x29,x49,rfl,hj,hseen,hT⟩
   have HSeen:=hide hseen
   clear hseen
   simp only[updN,updC,List.set_cons_succ,List.set_cons_zero]
   have hfn:∀f,Fence.wide.fn f:=fun _=>trivial
   have hdp:Fence.wide.depth=none:=rfl
   by_cases hj':j<G.length
   ·obtain⟨q,hq⟩:∃q,G[j]?=some q:=⟨G[j],List.getElem?_eq_getElem hj'⟩
    obtain⟨a,u,us,e0,e1,e2,hnm,ha,hu,hrows⟩:=HR.out.get hq
    have k0:=sl_cell hg HC.out hT.below e0
    have k1:=sl_cell hg HC.out hT.below e1
    have k2:=sl_cell hg HC.out hT.below e2
    have HQ:=hide hq
    clear hnm hq e0 e1 e2
    obtain⟨ua,un,uc,rfl⟩:=hu.form
    obtain⟨all,hte,htold⟩:=tellsE.there q.body us hrows
    have HIT:=hide (names_iter ok w (wr2.heap.size+1) ua un uc q.body us all hu hte htold.2)
    have HNM:=hide (nms_of all htold.2)
    have HTO:=hide (show PredP.namesE q.body=(all.filterMap nameV).map (fun y=>(y.1,y.2.1)) by rw[HNM.out.1,htold.1,allE_names])
    clear hte htold hu hrows
    gi_wp2_with ((try refine⟨hdd _,?_⟩);gi_at_call 109;refine(callsIn_wide.2 (names_any _ ua un uc)).mono ?_;rintro e w1 ⟨rfl,rfl⟩)
    obtain⟨w3,hw3⟩:∃w3,(wr2.alloc (.cells #[.string a,.int .i64 (q.pos:Int),.slice ua un uc] 97)).alloc (.cells #[.slice ua un uc] 95)=w3:=⟨_,rfl⟩
    have hB3:Below wr2.heap.size wr2 w3:=by rw[←hw3];exact((Below.refl _ wr2).alloc (Nat.le_refl _) _).alloc (by simp) _
    have hz3:w3.heap.size=wr2.heap.size+2:=by rw[←hw3];simp
    have b3:w3.cell? ⟨wr2.heap.size+1,0,none⟩=some (.slice ua un uc):=by rw[←hw3];exact cell_fresh2 rfl
    have hT3:=hT.onward hB3
    rw[hw3]
    clear hw3
    refine range_slots (α:=Nm) (gf:=130) (lb:=#[.pointer (some ⟨wr2.heap.size+1,0,none⟩)]) rfl (enters_of Tryz.func130 (by kernel_rfl) rfl) HIT.out (fun _=>rfl)
     (fun pre W1=>(∀x∈pre,hasS cur x.1=true)∧NB w (w.heap.size+1) cur Ds W1∧W1.cell? ⟨wr2.heap.size+1,0,none⟩=some (.slice ua un uc))
     (fun cd _ W1=>cd=.ret∧∃x,PredP.findNone G=some x∧NX w x Ds W1) ?hok ?hI ?hIx ?h0 [30,8] (fun x=>[.pointer (some ⟨x.2.2,0,none⟩),.pointer (some ⟨x.2.2,0,none⟩)]) ?assign ?body ?done ?stop
    case hok=>exact fun pre W1 h=>⟨h.2.2,h.2.1.below.size,fun b _ hb=>h.2.1.below.block b hb⟩
    case hI=>exact fun pre A B h hb=>⟨h.1,h.2.1.quiet hb hT3.below.size hT3.mks.lt,hb.cell h.2.2⟩
    case hIx=>exact fun cd pre A B ⟨h1,x,h2,h3⟩ hb=>⟨h1,x,h2,h3.quiet hb hT3.below.size hT3.mks.lt⟩
    case h0=>exact⟨fun x hx=>by simp at hx,hT3,b3⟩
    case assign =>
     intro l1 m1 x W1 K hK
     have hK':=hide hK
     clear hK
     gi_wp2
     simp only[updN,updC,List.set_cons_succ,List.set_cons_zero]at hK'
     exact hK'.out
    case body =>
     intro l1 m1 pre x W1 ⟨hpre,hnb,hbx⟩ ⟨post,hsp⟩
     simp only[updN,updC,List.set_cons_succ,List.set_cons_zero]
     obtain⟨s,p,b⟩:=x
     obtain⟨sa,okb,hb,c0,hsa,hsz,c1⟩:=HNM.out.2 (s,p,b) (by rw[hsp];simp)
     have d0:=(hnb.below.cell (p:=⟨b,0,none⟩) hb).trans c0
     have d1:=(hnb.below.cell (p:=⟨b,1,none⟩) hb).trans c1
     have mp1:=hnb.mp
     gi_wp2
     refine round_still_tail 5 (by kernel_rfl) (by kernel_rfl) (fun h=>by obtain⟨_,_,h⟩:=h;exact h) (by kernel_rfl) ?_
     simp only[List.take_succ_cons,List.take_zero,List.drop_succ_cons,List.drop_zero]
     repeat still_step
     refine wpStill_nil ?_
     have hBd:Below W1.heap.size W1 { W1 with drawn:=W1.drawn+1 }:=⟨rfl,rfl,rfl,Nat.le_refl _,fun _ _=>rfl⟩
     generalize { W1 with drawn:=W1.drawn+1 }=Wd at hBd ⊢
     have hnd:=hnb.onward hBd
     clear d0 d1 mp1
     have HSA:=hide hsa
     clear hsa
     cases hc:hasS cur (bs sa)
     ·go_wp2_with (go_at_call 40;refine(has_any _ (w.heap.size+1) cur sa (le_max hsz) hnd.set).mono ?_;rintro e W2 ⟨rfl,hb2⟩)
      gi_wp2
      have hn2:=hnd.onward hb2
      have d0:=(hn2.below.cell (p:=⟨b,0,none⟩) hb).trans c0
      have d1:=(hn2.below.cell (p:=⟨b,1,none⟩) hb).trans c1
      have rs2:=hn2.res
      have fz2:=hn2.fz
      refine round_still_tail 8 (by kernel_rfl) (by kernel_rfl) (fun h=>by obtain⟨_,_,h⟩:=h;exact h) (by kernel_rfl) ?_
      simp only[List.take_succ_cons,List.take_zero,List.drop_succ_cons,List.drop_zero]
      repeat still_step
      refine wpStill_nil ?_
      have hBe:Below W2.heap.size W2 { W2 with drawn:=W2.drawn+1 }:=⟨rfl,rfl,rfl,Nat.le_refl _,fun _ _=>rfl⟩
      generalize { W2 with drawn:=W2.drawn+1 }=We at hBe ⊢
      have hne:=hn2.onward hBe
      clear d0 d1 rs2 fz2
      have rs2:=fun o=>(hne.onward ((Below.refl _ We).alloc (Nat.le_refl _) o)).res
      have fz2:=fun o=>(hne.onward ((Below.refl _ We).alloc (Nat.le_refl _) o)).fz
      go_wp2_with fail
      gi_wp2
      have hBz:=Below.all (Below.all hBd hb2) hBe
      have hlt:w.heap.size<w3.heap.size:=bltc hT3.res
      refine⟨(KeepsAbove.of_below (Below.all hBz ((Below.refl _ We).alloc (Nat.le_refl _) _))).setCell (p:=⟨w.heap.size,0,none⟩) hlt _,rfl,(s,p),?_,hne.failed (s,p) sa _ _ HSA.out hsz rfl⟩
      exact none_found HQ.out HM.out HSeen.out (x:=(s,p,b)) (by rw[HTO.out,hsp]) hpre (by rw[←HSA.out];exact hc)
     ·go_wp2_with (go_at_call 40;refine(has_any _ (w.heap.size+1) cur sa (le_max hsz) hnd.set).mono ?_;rintro e W2 ⟨rfl,hb2⟩)
      gi_wp2
      have hBz:=Below.all hBd hb2
      refine⟨.of_below hBz,?_,hnb.onward hBz,(hBz.cell (p:=⟨wr2.heap.size+1,0,none⟩) (bltc hbx)).trans hbx⟩
      intro y hy
      rcases List.mem_append.1 hy with hy | hy
      ·exact hpre y hy
      ·simp at hy;subst hy;rw[←HSA.out];exact hc
    case done =>
     intro D W1 hD ⟨hpre,hnb,_⟩ hdd
     gi_wp2
     refine⟨[.int .i64 ((j+1:Nat):Int),.pointer (some ⟨wr2.heap.size,0,none⟩),.bool true,.pointer (some ⟨g,j * 3,none⟩),.agg #[.string a,.int .i64 (q.pos:Int),.slice ua un uc],.pointer (some ⟨wr2.heap.size,2,none⟩),.slice ua un uc,.func (.func 130) #[] #[.pointer (some ⟨wr2.heap.size+1,0,none⟩)],.int .i64 ((j:Int)+1)],D::Ds,?_,⟨j+1,_,_,_,_,_,_,_,_,rfl,by omega,?_,?_⟩,?_⟩
     ·simp only[updN,updC,List.set_cons_succ,List.set_cons_zero]
      rfl
     ·exact seen_more HQ.out HSeen.out HTO.out hpre
     ·exact⟨hnb.set,hnb.below,hnb.res,hnb.fz,hnb.mp,hnb.mks.cons hT3.mks.lt hD (by have:=bltc hT3.res;simp at this;omega) hdd⟩
     ·simp[intOf];omega
    case stop =>
     intro D cd pre W1 hD ⟨hcd,x,hx,hnx⟩ hdd
     subst hcd
     gi_wp2
     refine leaves_marks (S:=w.heap.size+1) (D::Ds) W1 (hnx.mks.cons hT3.mks.lt hD (by have:=bltc hT3.res;simp at this;omega) hdd) ?_
     intro W' hq
     obtain⟨v,hv,hne⟩:=hnx.res
     refine⟨v,results_cell rfl rfl (load_error (hq.cell hv)),hq.below hnx.below (by omega) hnx.below.size,?_⟩
     rw[hx]
     exact⟨v,rfl,(hne.quiet hq).mono (Nat.le_succ _)⟩
   ·gi_wp2
    have ej:j=G.length:=by omega
    have rs:=hT.res
    have fz:=hT.fz
    go_wp2_with fail
    refine leaves_marks (S:=w.heap.size+1) Ds _ (hT.mks.stored (p:=⟨w.heap.size,0,none⟩) (Nat.lt_succ_self _) _) ?_
    intro W' hq
    have hb':Below w.heap.size w (wr2.setCell ⟨w.heap.size,0,none⟩ .nilIface):=hT.below.setCell (p:=⟨w.heap.size,0,none⟩) (Nat.le_refl _) _
    refine⟨.nilIface,results_cell rfl rfl (load_error (hq.cell (by simp[go_sem,rs]))),hq.below hb' (by omega) hb'.size,?_⟩
    have hf:PredP.findNone G=none:=by
     unfold PredP.findNone
     refine List.find?_eq_none.2 fun x hx=>?_
     have h1:=HSeen.out x (by rw[ej,List.take_length];exact hx)
     rw[HM.out,List.take_length]at h1
     simpa[hasS] using h1
    rw[hf]
end
section
open Go.RowKit Go.Maps Go.Shelf
attribute [local go_sem] Oper.semAt_some
theorem set_one (w:World) (a:ByteArray) (ha:a.size≤maxLen):∃w1,(Instr.mapUpdate 88 (.map (some w.heap.size)) (.string a) (.agg #[])).run Tryz.prog (w.alloc (.map #[] 0))=.ok () w1∧SetAt w1 w.heap.size [bs a]∧(w.alloc (.map #[] 0)).grownBy w1 (some w.heap.size):=by
 obtain⟨D,hown,hn,hh,hz⟩:=SetAt.made w
 obtain⟨w1,h1,h2,h3⟩:=hown.update lawStr undSet (by unfold maxLen;simp) (keyS a ha) unitElem_mk
 have hput:=put_set (s:=bs a) (hown.tidy lawStr) hn hh hz
 refine⟨w1,h1,⟨_,?_,hput⟩,h3⟩
 have:=owns_tight h2
 rwa[hput.2.2]at this
structure RB (w:World) (kb mb:Nat) (cur:List Str) (Ds:List Nat) (W:World):Prop where
 set:SetAt W kb cur
 below:Below w.heap.size w W
 mp:W.cell? ⟨mb,0,none⟩=some (.map (some kb))
 ne:mb≠kb
 mks:MarksAt (kb+1) Ds W
 nodup:cur.Nodup
theorem RB.quiet {w:World} {kb mb:Nat} {cur:List Str} {Ds:List Nat} {A B:World} {S:Nat} (h:RB w kb mb cur Ds A) (hq:Quiet S A B) (hS:w.heap.size≤S) (hD:∀D∈Ds,D<S):RB w kb mb cur Ds B :=
 ⟨h.set.quiet hq,hq.below h.below hS h.below.size,hq.cell h.mp,h.ne,h.mks.quiet hq hD,h.nodup⟩
theorem RB.onward {w:World} {kb mb:Nat} {cur:List Str} {Ds:List Nat} {A B:World} (h:RB w kb mb cur Ds A) (hb:Below A.heap.size A B):RB w kb mb cur Ds B :=
 h.quiet (S:=A.heap.size) (.of_below hb) h.below.size h.mks.lt
theorem RB.grow {w:World} {kb mb:Nat} {cur:List Str} {Ds:List Nat} {A C:World} (h:RB w kb mb cur Ds A) (hkb:w.heap.size≤kb) {s:Str} (hg:A.grownBy C (some kb)) (hs:SetAt C kb (ins s cur)):RB w kb mb (ins s cur) Ds C:=by
 have e:∀k,k<A.heap.size→k≠kb→C.heap[k]?=A.heap[k]?:=fun k hk hne=>hg.block k hk (fun e=>hne (Option.some.inj e))
 refine⟨hs,h.below.grown hg h.below.size (fun j e=>by cases e;exact hkb),(World.cell?_of_block (a:=⟨mb,0,none⟩) (e _ (World.block_lt_of_cell? A _ h.mp) h.ne)).trans h.mp,h.ne,⟨h.mks.1,fun D hD=>?_⟩,ins_nodup h.nodup⟩
 obtain⟨h1,h2⟩:=h.mks.2 D hD
 exact⟨h1,(e D (h.mks.lt D hD) (by omega)).trans h2⟩
structure OC (G:List Rule) (p:Rule) (bf:Nat) (cur:List Str):Prop where
 le:bf≤cur.length
 sound:PredP.SoundC G cur
 closed:bf=cur.length→PredP.ClosedC G cur
 first:cur.contains p.name=true
structure SC (G:List Rule) (p:Rule) (c0:List Str) (k:Nat) (cur:List Str):Prop where
 sound:PredP.SoundC G cur
 grown:(cur=c0∧∀q,q∈G.take k→cur.contains q.name=true→∀x,x∈PredP.namesE q.body→cur.contains x.1=true)∨c0.length<cur.length
 first:cur.contains p.name=true
structure NC (G:List Rule) (c0:List Str) (pre:List Nm) (cur:List Str):Prop where
 sound:PredP.SoundC G cur
 grown:(cur=c0∧∀x,x∈pre→cur.contains x.1=true)∨c0.length<cur.length
 has:∀x,c0.contains x=true→cur.contains x=true
theorem SC.skip {G:List Rule} {p:Rule} {c0 cur:List Str} {k:Nat} (h:SC G p c0 k cur) {q:Rule} (hq:G[k]?=some q) (hc:hasS cur q.name=false):SC G p c0 (k+1) cur:=by
 refine⟨h.sound,?_,h.first⟩
 rcases h.grown with ⟨rfl,g⟩ | g
 ·refine .inl ⟨rfl,fun r hr hcr=>?_⟩
  rw[List.take_add_one,hq]at hr
  simp at hr
  rcases hr with hr | rfl
  ·exact g r hr hcr
  ·unfold hasS at hc;rw[hc]at hcr;cases hcr
 ·exact .inr g
theorem SC.next {G:List Rule} {p:Rule} {c0 cur cur1:List Str} {k:Nat} (h:SC G p c0 k cur) {q:Rule} (hq:G[k]?=some q) {xs:List Nm} (hn:PredP.namesE q.body=xs.map fun y=>(y.1,y.2.1)) (h1:NC G cur xs cur1):SC G p c0 (k+1) cur1:=by
 refine⟨h1.sound,?_,h1.has _ h.first⟩
 rcases h1.grown with ⟨rfl,g1⟩ | g1
 ·rcases h.grown with ⟨rfl,g⟩ | g
  ·refine .inl ⟨rfl,fun r hr hcr=>?_⟩
   rw[List.take_add_one,hq]at hr
   simp at hr
   rcases hr with hr | rfl
   ·exact g r hr hcr
   ·intro x hx
    rw[hn]at hx
    obtain⟨z,hz,rfl⟩:=List.mem_map.1 hx
    exact g1 z hz
  ·exact .inr g
 ·rcases h.grown with ⟨rfl,_⟩ | g<;>exact .inr (by omega)
theorem SC.swept {G:List Rule} {p:Rule} {c0 cur:List Str} {k:Nat} (h:SC G p c0 k cur) (hk:G.length≤k):OC G p c0.length cur:=by
 refine⟨?_,h.sound,?_,h.first⟩
 ·rcases h.grown with ⟨rfl,_⟩ | g<;>omega
 ·intro e
  rcases h.grown with ⟨rfl,g⟩ | g
  ·rw[List.take_of_length_le hk]at g
   exact g
  ·omega
theorem NC.add {G:List Rule} {c0 cur:List Str} {pre:List Nm} (h:NC G c0 pre cur) (hK:PredP.AllKnown G) {q:Rule} (hq:q∈G) (hc:c0.contains q.name=true) {x:Nm} (hx:(x.1,x.2.1)∈PredP.namesE q.body):NC G c0 (pre++[x]) (ins x.1 cur):=by
 have hin:=h.sound.add hK hq (h.has _ hc) hx
 refine⟨fun y hy=>?_,?_,fun y hy=>by rw[ins_contains,h.has y hy];rfl⟩
 ·rw[ins_contains,Bool.or_eq_true]at hy
  rcases hy with hy | hy
  ·exact h.sound y hy
  ·rw[beq_iff_eq]at hy;rw[hy];exact hin
 ·by_cases hm:cur.contains x.1=true
  ·have e:ins x.1 cur=cur:=by unfold ins;rw[if_pos hm]
   rw[e]
   rcases h.grown with ⟨rfl,g⟩ | g
   ·refine .inl ⟨rfl,fun y hy=>?_⟩
    rcases List.mem_append.1 hy with hy | hy
    ·exact g y hy
    ·simp at hy;subst hy;exact hm
   ·exact .inr g
  ·have e:(ins x.1 cur).length=cur.length+1:=by unfold ins;rw[if_neg hm];rfl
   refine .inr ?_
   rw[e]
   rcases h.grown with ⟨rfl,_⟩ | g<;>omega
theorem reached_any (ok:Nat→Prop) (w:World) (v:Value) (cs:List Value) (G:List Rule) (hG:G≠[]) (hlen:G.length≤400) (hK:PredP.AllKnown G) (hsl:slAt ok w 3 v cs) (hr:rulesAt ok w G cs) :
  Calls Tryz.prog 111 #[v] w (SetPost w (PredP.come G).contains):=by
 obtain⟨g,cap,rfl,hm,hg,hcell⟩:=rules_slice hsl hr hG
 have HC:=hide hcell
 have HR:=hide hr
 have HK:=hide hK
 have hpos:0<G.length:=List.length_pos_iff.2 hG
 obtain⟨p,hp0⟩:∃p,G[0]?=some p:=⟨G[0],List.getElem?_eq_getElem hpos⟩
 obtain⟨pa,pu,pus,f0,f1,f2,hpn,hpa,_⟩:=hr.get hp0
 have c00:w.cell? ⟨g,0,none⟩=some (.string pa):=hcell _ _ (by simpa using f0)
 have HP:=hide hp0
 have HPN:=hide hpn
 clear hcell hsl hr hG hK hp0 hpn f0 f1 f2
 unfold maxLen at hm
 have hmm:=@run_makeMap Tryz.prog
 obtain⟨w1,hrun1,hset1,hgr1⟩:=set_one w pa (le_max hpa)
 have c01:(w.alloc (.map #[] 0)).cell? ⟨g,0,none⟩=some (.string pa):=(((Below.refl _ w).alloc (Nat.le_refl _) _).cell (p:=⟨g,0,none⟩) hg).trans c00
 refine(callsIn_wide (n:=0)).1 ?_
 refine callsIn_of_wp_marks Tryz.func111 rfl trivial ?_ rfl
 rw[wpIn_wide]
 simp only[Tryz.ntmps111,List.size_toArray,List.length_cons,List.length_nil,Nat.reduceAdd,Nat.reduceSub,Array.replicate_succ,Array.replicate_zero,List.push_toArray,List.append_toArray,List.nil_append,List.cons_append]
 go_wp2_with fail
 have hb1:Below w.heap.size w (w1.alloc (.cells #[.map (some w.heap.size)] 88)):=(((Below.refl _ w).alloc (Nat.le_refl _) _).grown hgr1 (by simp) (fun j e=>by cases e;exact Nat.le_refl _)).alloc (by have:=hgr1.size;simp at this;omega) _
 have hz1:w.heap.size<w1.heap.size:=hset1.lt
 have hrb0:RB w w.heap.size w1.heap.size [bs pa] [] (w1.alloc (.cells #[.map (some w.heap.size)] 88)) :=
  ⟨hset1.below ((Below.refl _ _).alloc (Nat.le_refl _) _),hb1,cell_fresh rfl,by omega,⟨by simp,fun D hD=>by simp at hD⟩,by simp⟩
 have hoc0:OC G p 0 [bs pa]:=⟨by simp,fun x hx=>by simp at hx;rw[hx,HPN.out];exact PredP.come_first HP.out,fun e=>by simp at e,by simp[HPN.out]⟩
 generalize w1.alloc (.cells #[.map (some w.heap.size)] 88)=w2 at hrb0 hb1 ⊢
 generalize w1.heap.size=mb at hrb0 ⊢
 clear hrun1 hset1 hgr1 c01 c00 hz1 hb1
 have hfn:∀f,Fence.wide.fn f:=fun _=>trivial
 have hdp:Fence.wide.depth=none:=rfl
 refine(wpIn_wide (n:=0)).1 (wpIn_loop_marks [4,15,16,17,18,19,20,21,22,23,24,25,26,6,27,28,29,30,31,32,33,34,42] [] (fun vs Ds wr=>∃bf:Nat,∃cur,∃x15 x16 x17 x18 x19 x20 x21 x22 x23 x24 x25 x26 x6 x27 x28 x29 x30 x31 x32 x33 x34 x42,vs=[.int .i64 bf,x15,x16,x17,x18,x19,x20,x21,x22,x23,x24,x25,x26,x6,x27,x28,x29,x30,x31,x32,x33,x34,x42]∧OC G p bf cur∧RB w w.heap.size mb cur Ds wr)
  (fun a _=>G.length - (intOf (a.tmps.getD 4 undef)).toNat) [.int .i64 0,undef,undef,undef,undef,undef,undef,undef,undef,undef,undef,undef,undef,undef,undef,undef,undef,undef,undef,undef,undef,undef,undef] ⟨0,_,undef,undef,undef,undef,undef,undef,undef,undef,undef,undef,undef,undef,undef,undef,undef,undef,undef,undef,undef,undef,undef,undef,rfl,hoc0,hrb0⟩ (by simp only[updN,updC,List.set_cons_succ,List.set_cons_zero]) ?_)
 clear hoc0 hrb0
 rintro vs Ds wr ⟨bf,cur,x15,x16,x17,x18,x19,x20,x21,x22,x23,x24,x25,x26,x6,x27,x28,x29,x30,x31,x32,x33,x34,x42,rfl,hO,hB⟩
 simp only[updN,updC,List.set_cons_succ,List.set_cons_zero]
 rw[wpIn_wide]
 have hcl:=hO.sound.length hB.nodup
 have hle:=hO.le
 have mp0:=hB.mp
 obtain⟨D0,hown,hDn,hDh,hDz⟩:=hB.set
 clear hDn hDh
 by_cases hlt:bf<cur.length
 ·have hlt':(bf:Int)<(Maps.size D0:Int):=by rw[hDz];omega
  go_wp2_with (at_len;refine wpList_len_own _ rfl _ 88 rfl 9 100 undSet _ w.heap.size _ D0 rfl hown ?_)
  have HO:=hide hO
  have hsc0:SC G p cur 0 cur:=⟨hO.sound,.inl ⟨rfl,fun q hq=>by simp at hq⟩,hO.first⟩
  clear hO hown
  refine(wpIn_wide (n:=0)).1 (wpIn_loop_marks [23,24,25,26,6,27,28,29,30,31,32,33,34,42] Ds (fun vs Ds wr=>∃k:Nat,∃cur',∃y24 y25 y26 y6 y27 y28 y29 y30 y31 y32 y33 y34 y42,vs=[.int .i64 k,y24,y25,y26,y6,y27,y28,y29,y30,y31,y32,y33,y34,y42]∧k≤G.length∧SC G p cur k cur'∧RB w w.heap.size mb cur' Ds wr)
   (fun a _=>G.length - (intOf (a.tmps.getD 23 undef)).toNat) [.int .i64 0,x24,x25,x26,x6,x27,x28,x29,x30,x31,x32,x33,x34,x42] ⟨0,cur,x24,x25,x26,x6,x27,x28,x29,x30,x31,x32,x33,x34,x42,rfl,by omega,hsc0,hB⟩ (by simp only[updN,updC,List.set_cons_succ,List.set_cons_zero]) ?_)
  clear hsc0 hB mp0
  rintro vs Es wr2 ⟨k,cur',y24,y25,y26,y6,y27,y28,y29,y30,y31,y32,y33,y34,y42,rfl,hk,hS,hB⟩
  simp only[updN,updC,List.set_cons_succ,List.set_cons_zero]
  rw[wpIn_wide]
  have hcl':=hS.sound.length hB.nodup
  by_cases hk':k<G.length
  ·obtain⟨q,hq⟩:∃q,G[k]?=some q:=⟨G[k],List.getElem?_eq_getElem hk'⟩
   obtain⟨a,u,us,e0,e1,e2,hnm,ha,hu,hrows⟩:=HR.out.get hq
   have k0:=sl_cell hg HC.out hB.below e0
   have k1:=sl_cell hg HC.out hB.below e1
   have k2:=sl_cell hg HC.out hB.below e2
   have HQ:=hide hq
   have HN:=hide hnm
   clear hnm hq e0 e1 e2
   obtain⟨ua,un,uc,rfl⟩:=hu.form
   have hb0:∀o,Below wr2.heap.size wr2 (wr2.alloc o):=fun o=>(Below.refl _ _).alloc (Nat.le_refl _) o
   have mp1:=fun o=>(hB.onward (hb0 o)).mp
   cases hc:hasS cur' (bs a)
   ·go_wp2_with (go_at_call 40;refine(has_any _ w.heap.size cur' a (le_max ha) (hB.onward (hb0 _)).set).mono ?_;rintro e w3 ⟨rfl,hb3⟩)
    refine⟨[.int .i64 ((k+1:Nat):Int),.bool true,.pointer (some ⟨g,k * 3,none⟩),.agg #[.string a,.int .i64 (q.pos:Int),.slice ua un uc],.pointer (some ⟨wr2.heap.size,0,none⟩),.map (some w.heap.size),.pointer (some ⟨wr2.heap.size,0,none⟩),.string a,.bool false,.bool true,y32,y33,y34,.int .i64 ((k:Int)+1)],Es,?_,⟨k+1,cur',_,_,_,_,_,_,_,_,_,_,_,_,_,rfl,by omega,hS.skip HQ.out (by rw[←HN.out];exact hc),hB.onward (Below.all (hb0 _) hb3)⟩,?_⟩
    ·simp only[updN,updC,List.set_cons_succ,List.set_cons_zero]
     rfl
    ·simp[intOf];omega
   ·obtain⟨all,hte,htold⟩:=tellsE.there q.body us hrows
    have HNM:=hide (nms_of all htold.2)
    have HTO:=hide (show PredP.namesE q.body=(all.filterMap nameV).map (fun y=>(y.1,y.2.1)) by rw[HNM.out.1,htold.1,allE_names])
    have HIT:Hid (∀B,IterOf Tryz.prog 130 #[.pointer (some ⟨B,0,none⟩)] (fun x:Nm=>#[.pointer (some ⟨x.2.2,0,none⟩)]) (all.filterMap nameV) (BoxAt ok w B (.slice ua un uc))):=hide (fun B=>names_iter ok w B ua un uc q.body us all hu hte htold.2)
    clear hte htold hu hrows
    go_wp2_with (first
     | (go_at_call 40;refine(has_any _ w.heap.size cur' a (le_max ha) (hB.onward (hb0 _)).set).mono ?_;rintro e w3 ⟨rfl,hb3⟩;have hc2:=(hb3.cell (p:=⟨_,2,none⟩) (by simp)).trans (cell_fresh rfl);have hb4:=Below.all (hb0 _) hb3)
     | (go_at_call 109;refine(names_any _ ua un uc).mono ?_;rintro e w4 ⟨rfl,rfl⟩))
    have hB3:=hB.onward (Below.all hb4 ((Below.refl _ w3).alloc (Nat.le_refl _) (.cells #[.slice ua un uc] 95)))
    have b3:(w3.alloc (.cells #[.slice ua un uc] 95)).cell? ⟨w3.heap.size,0,none⟩=some (.slice ua un uc):=cell_fresh rfl
    generalize w3.alloc (.cells #[.slice ua un uc] 95)=w4 at hB3 b3 ⊢
    generalize w3.heap.size=bb at b3 ⊢
    refine(wpIn_wide (n:=0)).1 ?_
    refine range_slots (α:=Nm) (gf:=130) (lb:=#[.pointer (some ⟨bb,0,none⟩)]) rfl (enters_of Tryz.func130 (by kernel_rfl) rfl) (HIT.out bb) (fun _=>rfl)
     (fun pre W1=>∃cur1,NC G cur' pre cur1∧RB w w.heap.size mb cur1 Es W1∧W1.cell? ⟨bb,0,none⟩=some (.slice ua un uc))
     (fun _ _ _=>False) ?hok ?hI ?hIx ?h0 [35,7] (fun x=>[.pointer (some ⟨x.2.2,0,none⟩),.pointer (some ⟨x.2.2,0,none⟩)]) ?assign ?body ?done ?stop
    case hok=>exact fun pre W1 ⟨_,_,h1,h2⟩=>⟨h2,h1.below.size,fun b _ hb=>h1.below.block b hb⟩
    case hI=>exact fun pre A B ⟨c1,h0,h1,h2⟩ hb=>⟨c1,h0,h1.quiet hb hB3.below.size hB3.mks.lt,hb.cell h2⟩
    case hIx=>exact fun cd pre A B h hb=>h
    case h0=>exact⟨cur',⟨hS.sound,.inl ⟨rfl,fun x hx=>by simp at hx⟩,fun x hx=>hx⟩,hB3,b3⟩
    case stop=>exact fun D cd pre W1 hD h hdd=>h.elim
    case assign =>
     intro l1 m1 x W1 K hK
     have hK':=hide hK
     clear hK
     gi_wp2
     simp only[updN,updC,List.set_cons_succ,List.set_cons_zero]at hK'
     exact hK'.out
    case body =>
     intro l1 m1 pre x W1 ⟨cur1,hnc,hrb,hbx⟩ ⟨post,hsp⟩
     simp only[updN,updC,List.set_cons_succ,List.set_cons_zero]
     obtain⟨s,p1,b⟩:=x
     obtain⟨sa,okb,hb,c0,hsa,hsz,c1⟩:=HNM.out.2 (s,p1,b) (by rw[hsp];simp)
     have hxn:(s,p1)∈PredP.namesE q.body:=by rw[HTO.out,hsp];simp
     have d0:=(hrb.below.cell (p:=⟨b,0,none⟩) hb).trans c0
     have mp2:=hrb.mp
     have hcl1:=hnc.sound.length hrb.nodup
     gi_wp2
     refine round_still_tail 5 (by kernel_rfl) (by kernel_rfl) (fun h=>by obtain⟨_,_,h⟩:=h;exact h) (by kernel_rfl) ?_
     simp only[List.take_succ_cons,List.take_zero,List.drop_succ_cons,List.drop_zero]
     repeat still_step
     refine wpStill_nil ?_
     have hBd:Below W1.heap.size W1 { W1 with drawn:=W1.drawn+1 }:=⟨rfl,rfl,rfl,Nat.le_refl _,fun _ _=>rfl⟩
     generalize { W1 with drawn:=W1.drawn+1 }=Wd at hBd ⊢
     have hrd:=hrb.onward hBd
     have hbd:=(hBd.cell (p:=⟨bb,0,none⟩) (bltc hbx)).trans hbx
     clear d0 mp2
     have HSA:=hide hsa
     clear hsa
     go_wp2_with (go_at_call 41;refine(add_any _ w.heap.size cur1 sa (le_max hsz) (by unfold maxLen;omega) hrd.set).mono ?_;rintro e W2 ⟨rfl,hg2,hset2⟩)
     have hlt4:w.heap.size<w4.heap.size:=hB3.set.lt
     refine⟨⟨by have:=hBd.size;have:=hg2.size;omega,fun k hk hA=>(hg2.block k (by have:=hBd.size;omega) (fun e=>by have:=Option.some.inj e;omega)).trans (hBd.block k hA)⟩,ins (bs sa) cur1,?_,hrd.grow (Nat.le_refl _) hg2 hset2,?_⟩
     ·rw[HSA.out]
      exact hnc.add HK.out (List.mem_of_getElem? HQ.out) (by rw[←HN.out];exact hc) hxn
     ·refine(World.cell?_of_block (a:=⟨bb,0,none⟩) (hg2.block bb (bltc hbd) ?_)).trans hbd
      intro e
      have e':=Option.some.inj e
      subst e'
      obtain⟨_,⟨es,clk,hm1,_⟩,_⟩:=hrd.set
      unfold World.cell? at hbd
      simp only[hm1]at hbd
      cases hbd
    case done =>
     intro D W1 hD ⟨cur1,hnc,hrb,hbx⟩ hdd
     gi_wp2
     go_wp2_with fail
     refine⟨[.int .i64 ((k+1:Nat):Int),.bool true,.pointer (some ⟨g,k * 3,none⟩),.agg #[.string a,.int .i64 (q.pos:Int),.slice ua un uc],.pointer (some ⟨wr2.heap.size,0,none⟩),.map (some w.heap.size),.pointer (some ⟨wr2.heap.size,0,none⟩),.string a,.bool true,.bool false,.pointer (some ⟨wr2.heap.size,2,none⟩),.slice ua un uc,.func (.func 130) #[] #[.pointer (some ⟨bb,0,none⟩)],.int .i64 ((k:Int)+1)],D::Es,?_,⟨k+1,cur1,_,_,_,_,_,_,_,_,_,_,_,_,_,rfl,by omega,hS.next HQ.out HTO.out hnc,?_⟩,?_⟩
     ·simp only[updN,updC,List.set_cons_succ,List.set_cons_zero]
      rfl
     ·have hlt4:w.heap.size<w4.heap.size:=hB3.set.lt
      exact⟨hrb.set,hrb.below,hrb.mp,hrb.ne,hrb.mks.cons hB3.mks.lt hD (by omega) hdd,hrb.nodup⟩
     ·simp[intOf];omega
  ·go_wp2_with fail
   have ek:k=G.length:=by omega
   refine⟨[.int .i64 cur.length,.int .i64 bf,.map (some w.heap.size),.int .i64 cur.length,.bool true,.map (some w.heap.size),.int .i64 cur.length,.slice (some ⟨g,0,none⟩) G.length cap,.int .i64 G.length,.int .i64 k,.bool false,y25,y26,y6,y27,y28,y29,y30,y31,y32,y33,y34,y42],Es,?_,⟨cur.length,cur',_,_,_,_,_,_,_,_,_,_,_,_,_,_,_,_,_,_,_,_,_,_,rfl,hS.swept (by omega),hB⟩,?_⟩
   ·simp only[updN,updC,List.set_cons_succ,List.set_cons_zero]
   ·simp[intOf];omega
 ·have hnl:¬(bf:Int)<(Maps.size D0:Int):=by rw[hDz];omega
  have hdone:=hide (hO.sound.done (hO.closed (by omega)) HP.out hO.first)
  go_wp2_with (at_len;refine wpList_len_own _ rfl _ 88 rfl 9 100 undSet _ w.heap.size _ D0 rfl hown ?_)
  refine leaves_marks (S:=w.heap.size+1) Ds wr hB.mks ?_
  intro W' hq
  exact⟨_,results_tmp rfl _ _ _,w.heap.size,cur,rfl,Nat.le_refl _,hB.set.quiet hq,hdone.out,hq.below hB.below (by omega) hB.below.size⟩
end
section
open Go.RowKit Go.Maps
def UselessPost (w:World) (o:Option Rule) (e:Ending) (w':World):Prop :=
 Below w.heap.size w w'∧match o with
 | none=>e=.returned .nilIface
 | some r=>∃v,e=.returned v∧NameErr w.heap.size w' v r.pos r.name 3
structure UseRel (w:World) (G:List Rule) (b1 b2:Nat) (l1 l2:List Str) (k:Nat) (wr:World):Prop where
 s1:SetAt wr b1 l1
 s2:SetAt wr b2 l2
 below:Below w.heap.size w wr
 fine:∀q,q∈G.take k→(hasS l1 q.name&&hasS l2 q.name)=true
theorem UseRel.onward {w:World} {G:List Rule} {b1 b2:Nat} {l1 l2:List Str} {k:Nat} {wr w1:World} (h:UseRel w G b1 b2 l1 l2 k wr) (hb:Below wr.heap.size wr w1):UseRel w G b1 b2 l1 l2 k w1 :=
 ⟨h.s1.below hb,h.s2.below hb,Below.all h.below hb,h.fine⟩
theorem UseRel.next {w:World} {G:List Rule} {b1 b2:Nat} {l1 l2:List Str} {k:Nat} {wr:World} (h:UseRel w G b1 b2 l1 l2 k wr) {q:Rule} (hq:G[k]?=some q) (h1:hasS l1 q.name=true) (h2:hasS l2 q.name=true):UseRel w G b1 b2 l1 l2 (k+1) wr:=by
 refine⟨h.s1,h.s2,h.below,fun r hr=>?_⟩
 rw[List.take_add_one,hq]at hr
 simp at hr
 rcases hr with hr | rfl
 ·exact h.fine r hr
 ·rw[h1,h2];rfl
theorem UseRel.found {w:World} {G:List Rule} {b1 b2:Nat} {l1 l2:List Str} {k:Nat} {wr:World} (h:UseRel w G b1 b2 l1 l2 k wr) (e1:∀x,l1.contains x=(PredP.that true G).contains x) (e2:∀x,l2.contains x=(PredP.come G).contains x) {q:Rule} (hq:G[k]?=some q) (hn:(hasS l1 q.name&&hasS l2 q.name)=false):PredP.findUseless G=some q:=by
 unfold PredP.findUseless
 have e:∀r:Rule,((PredP.ends G).contains r.name&&(PredP.come G).contains r.name)=(hasS l1 r.name&&hasS l2 r.name):=fun r=>by
  unfold hasS;rw[e1,e2];rfl
 conv=>lhs;arg 2;rw[split_at hq]
 exact find_at (fun y hy=>by rw[e y,h.fine y hy];rfl) (by rw[e q,hn];rfl)
theorem UseRel.done {w:World} {G:List Rule} {b1 b2:Nat} {l1 l2:List Str} {k:Nat} {wr:World} (h:UseRel w G b1 b2 l1 l2 k wr) (e1:∀x,l1.contains x=(PredP.that true G).contains x) (e2:∀x,l2.contains x=(PredP.come G).contains x) (hk:G.length≤k):PredP.findUseless G=none:=by
 unfold PredP.findUseless
 refine List.find?_eq_none.2 fun q hq=>?_
 have:=h.fine q (by rw[List.take_of_length_le hk];exact hq)
 unfold hasS at this
 rw[e1,e2]at this
 rw[show PredP.ends G=PredP.that true G from rfl,this]
 simp
theorem checkUseless_any (ok:Nat→Prop) (w:World) (v:Value) (cs:List Value) (G:List Rule) (hG:G≠[]) (hlen:G.length≤400) (hK:PredP.AllKnown G) (hsl:slAt ok w 3 v cs) (hr:rulesAt ok w G cs) :
  Calls Tryz.prog 72 #[v] w (UselessPost w (PredP.findUseless G)):=by
 obtain⟨g,cap,rfl,hm,hg,hcell⟩:=rules_slice hsl hr hG
 have HC:=hide hcell
 have HR:=hide hr
 have C1:=hide (rulesThatD ok w _ cs G hG hlen hsl hr)
 have C2:Hid (∀w',Below w.heap.size w w'→Calls Tryz.prog 111 #[.slice (some ⟨g,0,none⟩) G.length cap] w' (SetPost w' (PredP.come G).contains)):=hide (fun w' hb=>reached_any ok w' _ cs G hG hlen hK (hsl.below hb) (hr.below hb))
 clear hcell hsl hr hG hK
 unfold maxLen at hm
 go_enter Tryz.func72,Tryz.ntmps72
 go_wp2_with (first
  | (go_at_call 73;refine C1.out.mono ?_;rintro e w1 ⟨b1,l1,rfl,hlo1,hs1,he1,hb1⟩;have HE1:=hide he1;clear he1)
  | (go_at_call 111;refine(C2.out _ hb1).mono ?_;rintro e w2 ⟨b2,l2,rfl,hlo2,hs2,he2,hb2⟩;have HE2:=hide he2;clear he2))
 have hrel0:UseRel w G b1 b2 l1 l2 0 w2:=⟨hs1.below hb2,hs2,Below.all hb1 hb2,fun q hq=>by simp at hq⟩
 clear hs1 hs2 hb1 hb2 hlo1 hlo2 C1 C2
 go_loopw [13] (fun t wr=>∃k:Nat,k≤G.length∧t=.int .i64 k∧UseRel w G b1 b2 l1 l2 k wr) (fun t _=>G.length - (intOf t).toNat)
 case atStart=>exact⟨0,by omega,rfl,hrel0⟩
 case round =>
  clear hrel0
  obtain⟨k,hk,rfl,hS⟩:=hrel
  by_cases hk':k<G.length
  ·obtain⟨q,hq⟩:∃q,G[k]?=some q:=⟨G[k],List.getElem?_eq_getElem hk'⟩
   obtain⟨a,u,us,e0,e1,e2,hnm,ha,hu,hrows⟩:=HR.out.get hq
   have k0:=sl_cell hg HC.out hS.below e0
   have k1:=sl_cell hg HC.out hS.below e1
   have k2:=sl_cell hg HC.out hS.below e2
   have HN:=hide hnm
   have HQ:=hide hq
   clear hnm hq e0 e1 e2
   have hb0:∀o,Below wr.heap.size wr (wr.alloc o):=fun o=>(Below.refl _ _).alloc (Nat.le_refl _) o
   obtain⟨ua,un,uc,rfl⟩:=hu.form
   have hS0:=hS.onward (hb0 (.cells #[.string a,.int .i64 (q.pos:Int),.slice ua un uc] 97))
   have HS0:=hide hS0
   clear hS0
   have r0:(wr.alloc (.cells #[.string a,.int .i64 (q.pos:Int),.slice ua un uc] 97)).cell? ⟨wr.heap.size,0,none⟩=some (.string a):=cell_fresh rfl
   have r1:(wr.alloc (.cells #[.string a,.int .i64 (q.pos:Int),.slice ua un uc] 97)).cell? ⟨wr.heap.size,1,none⟩=some (.int .i64 (q.pos:Int)):=cell_fresh rfl
   have hlt0:wr.heap.size<(wr.alloc (.cells #[.string a,.int .i64 (q.pos:Int),.slice ua un uc] 97)).heap.size:=by simp
   have R0:=hide r0
   have R1:=hide r1
   have HL0:=hide hlt0
   clear r0 r1 hlt0
   cases hc1:hasS l1 (bs a)
   ·go_wp2_with (go_at_call 40;refine(has_any _ b1 l1 a (le_max ha) HS0.out.s1).mono ?_;rintro e w3 ⟨rfl,hb3⟩;have hS3:=HS0.out.onward hb3;have d0:=(hb3.cell (p:=⟨wr.heap.size,0,none⟩) HL0.out).trans R0.out;have d1:=(hb3.cell (p:=⟨wr.heap.size,1,none⟩) HL0.out).trans R1.out)
    go_ret
    have hf:=hS.found HE1.out HE2.out HQ.out (by rw[←HN.out,hc1];rfl)
    refine⟨hS3.below.alloc hS3.below.size _,?_⟩
    rw[hf]
    exact⟨_,rfl,w3.heap.size,a,rfl,hS3.below.size,by simp,cell_fresh rfl,cell_fresh rfl,HN.out,ha,cell_fresh rfl⟩
   ·cases hc2:hasS l2 (bs a)
    ·go_wp2_with (first
      | (go_at_call 40;refine(has_any _ b2 l2 a (le_max ha) hS3.s2).mono ?_;rintro e w4 ⟨rfl,hb4⟩;have hS4:=hS3.onward hb4;have hb34:=Below.all hb3 hb4;have d00:=(hb34.cell (p:=⟨wr.heap.size,0,none⟩) HL0.out).trans R0.out;have d11:=(hb34.cell (p:=⟨wr.heap.size,1,none⟩) HL0.out).trans R1.out)
      | (go_at_call 40;refine(has_any _ b1 l1 a (le_max ha) HS0.out.s1).mono ?_;rintro e w3 ⟨rfl,hb3⟩;have hS3:=HS0.out.onward hb3;have d0:=(hb3.cell (p:=⟨wr.heap.size,0,none⟩) HL0.out).trans R0.out))
     go_ret
     have hf:=hS.found HE1.out HE2.out HQ.out (by rw[←HN.out,hc1,hc2];rfl)
     refine⟨hS4.below.alloc hS4.below.size _,?_⟩
     rw[hf]
     exact⟨_,rfl,w4.heap.size,a,rfl,hS4.below.size,by simp,cell_fresh rfl,cell_fresh rfl,HN.out,ha,cell_fresh rfl⟩
    ·go_wp2_with (first
      | (go_at_call 40;refine(has_any _ b2 l2 a (le_max ha) hS3.s2).mono ?_;rintro e w4 ⟨rfl,hb4⟩;have hS4:=hS3.onward hb4;have hb34:=Below.all hb3 hb4;have d00:=(hb34.cell (p:=⟨wr.heap.size,0,none⟩) HL0.out).trans R0.out;have d11:=(hb34.cell (p:=⟨wr.heap.size,1,none⟩) HL0.out).trans R1.out)
      | (go_at_call 40;refine(has_any _ b1 l1 a (le_max ha) HS0.out.s1).mono ?_;rintro e w3 ⟨rfl,hb3⟩;have hS3:=HS0.out.onward hb3;have d0:=(hb3.cell (p:=⟨wr.heap.size,0,none⟩) HL0.out).trans R0.out))
     exact⟨⟨k+1,by omega,by go_num,hS4.next HQ.out (by rw[←HN.out];exact hc1) (by rw[←HN.out];exact hc2)⟩,by simp[intOf];omega⟩
  ·have hf:=hide (hS.done HE1.out HE2.out (by omega))
   go_wp2_with fail
   go_ret
   refine⟨hS.below,?_⟩
   rw[hf.out]
   exact rfl
end
section
open Go.RowKit Go.Maps
def checkA (G:List Rule):Option PredP.Res :=
 if G.length=0 then some .empty
 else if 12<G.length then some .many
 else match PredP.findTwice [] G with
  | some r=>some (.twice r.pos r.name)
  | none=>match PredP.findNone G with
   | some x=>some (.none x.2 x.1)
   | none=>match PredP.findUseless G with
    | some r=>some (.useless r.pos r.name)
    | none=>none
def checkB (G:List Rule):PredP.Res :=
 match PredP.firstClash (PredP.cands G) (PredP.places G) with
 | some (p,w)=>.clash p w
 | none=>.ok G
theorem check_split (G:List Rule):PredP.check G=(checkA G).getD (checkB G):=by
 unfold PredP.check checkA checkB
 split
 ·rfl
 ·split
  ·rfl
  ·cases PredP.findTwice [] G with
   | some r=>rfl
   | none =>
    cases PredP.findNone G with
    | some x=>rfl
    | none =>
     cases PredP.findUseless G with
     | some r=>rfl
     | none=>rfl
def ClashErr (lo:Nat) (w:World) (v:Value) (p:Nat) (s:Str):Prop :=
 ∃b a,v=.iface 105 (.pointer (some ⟨b,0,none⟩))∧lo≤b∧b<w.heap.size∧w.cell? ⟨b,0,none⟩=some (.int .i64 (p:Int))∧w.cell? ⟨b,1,none⟩=some (.string a)∧bs a=s∧a.size≤400
def Fault (lo:Nat) (w:World) (vl ve vm:Value):PredP.Res→Value→Prop
 | .long,v=>v=vl
 | .bad p d,v=>Syn lo w v p d
 | .empty,v=>v=ve
 | .many,v=>v=vm
 | .twice p s,v=>NameErr lo w v p s 1
 | .none p s,v=>NameErr lo w v p s 2
 | .useless p s,v=>NameErr lo w v p s 3
 | .clash p s,v=>ClashErr lo w v p s
 | .ok _,v=>v=.nilIface
def CheckPost (w:World) (vl ve vm:Value) (o:Option PredP.Res) (e:Ending) (w':World):Prop :=
 Below w.heap.size w w'∧match o with
 | none=>e=.returned .nilIface
 | some r=>∃v,e=.returned v∧Fault w.heap.size w' vl ve vm r v
theorem allKnown_of {G:List Rule} (h:PredP.findNone G=none):PredP.AllKnown G:=by
 intro q hq x hx
 unfold PredP.findNone at h
 have:=List.find?_eq_none.1 h x (List.mem_flatMap.2 ⟨q,hq,hx⟩)
 simpa using this
theorem NameErr.form {lo:Nat} {w:World} {v:Value} {p what:Nat} {s:Str} (h:NameErr lo w v p s what):∃b,v=.iface 104 (.pointer (some ⟨b,0,none⟩)):=by
 obtain⟨b,a,h0,_⟩:=h
 exact⟨b,h0⟩
theorem NameErr.below {lo:Nat} {w w':World} {v:Value} {p what:Nat} {s:Str} (h:NameErr lo w v p s what) (hb:Below w.heap.size w w'):NameErr lo w' v p s what:=h.quiet (S:=0) (.of_below hb)
theorem slice_empty {ok:Nat→Prop} {w:World} {v:Value} {cs:List Value} (h:slAt ok w 3 v cs) (hr:rulesAt ok w [] cs):∃a cap,v=.slice a 0 cap:=by
 have hl:=hr.length
 rcases h with ⟨rfl,rfl⟩ | ⟨g,n,cap,rfl,_,_,_,hcs,_⟩
 ·exact⟨_,_,rfl⟩
 ·have:n=0:=by rw[hcs]at hl;simp at hl;omega
  subst this
  exact⟨_,_,rfl⟩
theorem UselessPost.form {w w':World} {o:Option Rule} {e:Ending} (h:UselessPost w o e w'):Below w.heap.size w w'∧∃v,e=.returned v∧((o=none∧v=.nilIface)∨∃r,o=some r∧NameErr w.heap.size w' v r.pos r.name 3):=by
 obtain⟨hb,h⟩:=h
 cases o with
 | none=>exact⟨hb,_,h,.inl ⟨rfl,rfl⟩⟩
 | some r =>
  obtain⟨v,h1,h2⟩:=h
  exact⟨hb,v,h1,.inr ⟨r,rfl,h2⟩⟩
theorem checkRules_any (ok:Nat→Prop) (w:World) (v:Value) (cs:List Value) (G:List Rule) (vl ve vm:Value) (hve:w.cell? ⟨4,0,none⟩=some ve) (hvm:w.cell? ⟨5,0,none⟩=some vm) (hsl:slAt ok w 3 v cs) (hr:rulesAt ok w G cs) :
  Calls Tryz.prog 47 #[v] w (CheckPost w vl ve vm (checkA G)):=by
 by_cases hG:G=[]
 ·subst hG
  obtain⟨a,cap,rfl⟩:=slice_empty hsl hr
  clear hsl hr
  go_enter Tryz.func47,Tryz.ntmps47
  go_wp2_with fail
  go_ret
  exact⟨.refl _ _,ve,rfl,rfl⟩
 ·obtain⟨g,cap,rfl,hm,hg,hcell⟩:=rules_slice hsl hr hG
  have h0:G.length≠0:=fun e=>hG (List.eq_nil_of_length_eq_zero e)
  clear hcell
  unfold maxLen at hm
  by_cases h12:12<G.length
  ·have hres:checkA G=some .many:=by unfold checkA;rw[if_neg h0,if_pos h12]
   have HRes:=hide hres
   clear hsl hr hres
   go_enter Tryz.func47,Tryz.ntmps47
   go_wp2_with fail
   go_ret
   rw[HRes.out]
   exact⟨.refl _ _,vm,rfl,rfl⟩
  ·have C1:=hide (checkTwice_any ok w _ cs G hG (by omega) hsl hr)
   have C2:Hid (∀w',Below w.heap.size w w'→Calls Tryz.prog 71 #[.slice (some ⟨g,0,none⟩) G.length cap] w' (NonePost w' (PredP.findNone G))):=hide (fun w' hb=>checkNone_any ok w' _ cs G hG (by omega) (hsl.below hb) (hr.below hb))
   have C3:Hid (PredP.AllKnown G→∀w',Below w.heap.size w w'→Calls Tryz.prog 72 #[.slice (some ⟨g,0,none⟩) G.length cap] w' (UselessPost w' (PredP.findUseless G))):=hide (fun hK w' hb=>checkUseless_any ok w' _ cs G hG (by omega) hK (hsl.below hb) (hr.below hb))
   have hres:checkA G=match PredP.findTwice [] G with
    | some r=>some (.twice r.pos r.name)
    | none=>match PredP.findNone G with
     | some x=>some (.none x.2 x.1)
     | none=>match PredP.findUseless G with
      | some r=>some (.useless r.pos r.name)
      | none=>none:=by unfold checkA;rw[if_neg h0,if_neg h12]
   have HRes:=hide hres
   clear hsl hr hres
   cases h1:PredP.findTwice [] G with
   | some r =>
    rw[h1]at C1 HRes
    have H1:=hide h1
    clear h1
    go_enter Tryz.func47,Tryz.ntmps47
    go_wp2_with (go_at_call 70;refine C1.out.mono ?_;rintro e w1 ⟨hb1,v1,rfl,hv1⟩;obtain⟨bb,rfl⟩:=hv1.form)
    go_ret
    rw[HRes.out]
    exact⟨hb1,_,rfl,hv1⟩
   | none =>
    rw[h1]at C1 HRes
    have H1:=hide h1
    clear h1
    cases h2:PredP.findNone G with
    | some x =>
     simp only[h2]at HRes C2
     go_enter Tryz.func47,Tryz.ntmps47
     go_wp2_with (first
      | (go_at_call 70;refine C1.out.mono ?_;rintro e w1 ⟨hb1,hv1⟩;simp only[]at hv1;subst hv1)
      | (go_at_call 71;refine(C2.out _ hb1).mono ?_;rintro e w2 ⟨hb2,v2,rfl,hv2⟩;obtain⟨bb,rfl⟩:=hv2.form))
     go_ret
     rw[HRes.out]
     exact⟨Below.all hb1 hb2,_,rfl,hv2.mono hb1.size⟩
    | none =>
     have hK:=allKnown_of h2
     have C3':=hide (C3.out hK)
     simp only[h2]at HRes C2
     clear C3 hK
     go_enter Tryz.func47,Tryz.ntmps47
     go_wp2_with (first
      | (go_at_call 70;refine C1.out.mono ?_;rintro e w1 ⟨hb1,hv1⟩;simp only[]at hv1;subst hv1)
      | (go_at_call 71;refine(C2.out _ hb1).mono ?_;rintro e w2 ⟨hb2,hv2⟩;simp only[]at hv2;subst hv2)
      | (go_at_call 72;refine(C3'.out _ (Below.all hb1 hb2)).mono ?_;rintro e w3 hp3;obtain⟨hb3,v3,rfl,hv3⟩:=hp3.form;have HV3:=hide hv3;clear hv3 hp3))
     go_ret
     rw[HRes.out]
     rcases HV3.out with ⟨h3,rfl⟩ | ⟨r,h3,h4⟩
     ·rw[h3]
      exact⟨Below.all (Below.all hb1 hb2) hb3,rfl⟩
     ·rw[h3]
      exact⟨Below.all (Below.all hb1 hb2) hb3,v3,rfl,h4.mono (Below.all hb1 hb2).size⟩
end
end Go.Proofs.YtpcmemcanpgadaaGreatDoor
