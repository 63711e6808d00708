import Derived.Test.YtpcmemcanpgadaaGreatDoorXTieG
set_option maxHeartbeats 1000000
set_option maxRecDepth 100000
namespace Go.Proofs.YtpcmemcanpgadaaGreatDoor
open PredP (hide Str Rule bs)
section
open Go.RowKit
structure RS (w0:World) (stop:Int) (b:Nat) (ns:List Str) (ps:List Nat) (vn vp:Value) (W:World):Prop where
 low:Below w0.heap.size w0 W
 sz:w0.heap.size+5≤W.heap.size
 c0:W.cell? ⟨w0.heap.size,0,none⟩=some (.int .i64 stop)
 c1:W.cell? ⟨w0.heap.size+1,0,none⟩=some vn
 c2:W.cell? ⟨w0.heap.size+1+1,0,none⟩=some vp
 c3:W.cell? ⟨w0.heap.size+1+1+1,0,none⟩=some (.bool false)
 c4:W.cell? ⟨w0.heap.size+1+1+1+1,0,none⟩=some (.pointer (some ⟨b,0,none⟩))
 z1:W.frozen? ⟨w0.heap.size+1,0,none⟩=false
 z2:W.frozen? ⟨w0.heap.size+1+1,0,none⟩=false
 z3:W.frozen? ⟨w0.heap.size+1+1+1,0,none⟩=false
 on:W.ownsRow (w0.heap.size+5) 9 1 vn ns.length (strC ns)
 op:W.ownsRow (w0.heap.size+5) 3 1 vp ps.length (intC ps)
section
variable {w0:World} {stop:Int} {b:Nat} {ns:List Str} {ps:List Nat} {vn vp:Value} {W:World}
theorem RS.drew (h:RS w0 stop b ns ps vn vp W):RS w0 stop b ns ps vn vp W.drew:=⟨h.low.drew,h.sz,h.c0,h.c1,h.c2,h.c3,h.c4,h.z1,h.z2,h.z3,h.on,h.op⟩
theorem RS.below {W':World} (h:RS w0 stop b ns ps vn vp W) (hb:Below W.heap.size W W'):RS w0 stop b ns ps vn vp W':=by
 have hz:=h.sz
 have q:∀k,k<5→∀{u:Value},W.cell? ⟨w0.heap.size+k,0,none⟩=some u→W'.cell? ⟨w0.heap.size+k,0,none⟩=some u:=fun k hk u hu=>(hb.cell (p:=⟨w0.heap.size+k,0,none⟩) (by show _+_<_;omega)).trans hu
 have f:∀k,k<5→W.frozen? ⟨w0.heap.size+k,0,none⟩=false→W'.frozen? ⟨w0.heap.size+k,0,none⟩=false:=fun k hk hu=>(hb.frozen (p:=⟨w0.heap.size+k,0,none⟩) (by show _+_<_;omega)).trans hu
 exact⟨Below.all h.low hb,Nat.le_trans hz hb.size,q 0 (by omega) h.c0,q 1 (by omega) h.c1,q 2 (by omega) h.c2,q 3 (by omega) h.c3,q 4 (by omega) h.c4,f 1 (by omega) h.z1,f 2 (by omega) h.z2,f 3 (by omega) h.z3,own_below h.on hb,own_below h.op hb⟩
theorem RS.put1 (h:RS w0 stop b ns ps vn vp W):RS w0 stop b ns ps vn vp (W.setCell ⟨w0.heap.size+1,0,none⟩ vn) :=
 ⟨h.low.setCell (by simp<;>omega) _,by simpa using h.sz,by rw[World.cell?_setCell_far _ _ _ _ (by simp<;>omega)];exact h.c0,World.cell?_setCell_same _ _ _ h.c1,by rw[World.cell?_setCell_far _ _ _ _ (by simp<;>omega)];exact h.c2,by rw[World.cell?_setCell_far _ _ _ _ (by simp<;>omega)];exact h.c3,by rw[World.cell?_setCell_far _ _ _ _ (by simp<;>omega)];exact h.c4,
  by simpa using h.z1,by simpa using h.z2,by simpa using h.z3,ownsRow_setCell_below h.on (by simp<;>omega) _,ownsRow_setCell_below h.op (by simp<;>omega) _⟩
theorem RS.put2 (h:RS w0 stop b ns ps vn vp W):RS w0 stop b ns ps vn vp (W.setCell ⟨w0.heap.size+1+1,0,none⟩ vp) :=
 ⟨h.low.setCell (by simp<;>omega) _,by simpa using h.sz,by rw[World.cell?_setCell_far _ _ _ _ (by simp<;>omega)];exact h.c0,by rw[World.cell?_setCell_far _ _ _ _ (by simp<;>omega)];exact h.c1,World.cell?_setCell_same _ _ _ h.c2,by rw[World.cell?_setCell_far _ _ _ _ (by simp<;>omega)];exact h.c3,by rw[World.cell?_setCell_far _ _ _ _ (by simp<;>omega)];exact h.c4,
  by simpa using h.z1,by simpa using h.z2,by simpa using h.z3,ownsRow_setCell_below h.on (by simp<;>omega) _,ownsRow_setCell_below h.op (by simp<;>omega) _⟩
theorem RS.put3 (h:RS w0 stop b ns ps vn vp W):RS w0 stop b ns ps vn vp (W.setCell ⟨w0.heap.size+1+1+1,0,none⟩ (.bool false)) :=
 ⟨h.low.setCell (by simp<;>omega) _,by simpa using h.sz,by rw[World.cell?_setCell_far _ _ _ _ (by simp<;>omega)];exact h.c0,by rw[World.cell?_setCell_far _ _ _ _ (by simp<;>omega)];exact h.c1,by rw[World.cell?_setCell_far _ _ _ _ (by simp<;>omega)];exact h.c2,World.cell?_setCell_same _ _ _ h.c3,by rw[World.cell?_setCell_far _ _ _ _ (by simp<;>omega)];exact h.c4,
  by simpa using h.z1,by simpa using h.z2,by simpa using h.z3,ownsRow_setCell_below h.on (by simp<;>omega) _,ownsRow_setCell_below h.op (by simp<;>omega) _⟩
theorem own_keep2 {w W w2:World} {b b' n n':Nat} {e e':TypeId} {v v':Value} {xs xs':List Value} (h:w.ownsRow b e 1 v n xs) (h':w.ownsRow b' e' 1 v' n' xs') (he:e≠e') (hb:Below w.heap.size w W) (hg:W.grownBy w2 v'.ownBlock):w2.ownsRow b e 1 v n xs:=by
 refine own_same h (fun g hv=>?_)
 have hl:=(h.lt g hv).2
 exact(hg.block g (Nat.lt_of_lt_of_le hl hb.size) (fun e=>own_apart h h' he g hv e.symm)).trans (hb.block g hl)
theorem RS.keep {o:Obj} {w2:World} {v:Value} {n:Nat} {e:TypeId} {xs:List Value} (h:RS w0 stop b ns ps vn vp W) (ho:W.ownsRow (w0.heap.size+5) e 1 v n xs) (hg:(W.alloc o).grownBy w2 v.ownBlock) (k:Nat) (hk:k<w0.heap.size+5):w2.heap[k]?=W.heap[k]?:=by
 have hz:=h.sz
 exact(hg.block k (by simp<;>omega) (fun e=>by have:=(ho.lt k e.symm).1;omega)).trans (Below.heap_alloc W o k (by omega))
theorem RS.low2 {o:Obj} {w2:World} {v:Value} {n:Nat} {e:TypeId} {xs:List Value} (h:RS w0 stop b ns ps vn vp W) (ho:W.ownsRow (w0.heap.size+5) e 1 v n xs) (hg:(W.alloc o).grownBy w2 v.ownBlock):Below w0.heap.size w0 w2∧w0.heap.size+5≤w2.heap.size:=by
 have hz:=h.sz
 have h3:Below w0.heap.size w0 (W.alloc o):=Below.all h.low ((Below.refl _ _).alloc (Nat.le_refl _) o)
 exact⟨h3.grown hg h3.size (fun k e=>by have:=(ho.lt k e).1;omega),Nat.le_trans (by simp<;>omega) hg.size⟩
theorem RS.kcell {o:Obj} {w2:World} {v:Value} {n:Nat} {e:TypeId} {xs:List Value} (h:RS w0 stop b ns ps vn vp W) (ho:W.ownsRow (w0.heap.size+5) e 1 v n xs) (hg:(W.alloc o).grownBy w2 v.ownBlock) (k:Nat) (hk:k<w0.heap.size+5) {u:Value} (hu:W.cell? ⟨k,0,none⟩=some u):w2.cell? ⟨k,0,none⟩=some u :=
 (World.cell?_of_block (h.keep ho hg k hk)).trans hu
theorem RS.kfroz {o:Obj} {w2:World} {v:Value} {n:Nat} {e:TypeId} {xs:List Value} (h:RS w0 stop b ns ps vn vp W) (ho:W.ownsRow (w0.heap.size+5) e 1 v n xs) (hg:(W.alloc o).grownBy w2 v.ownBlock) (k:Nat) (hk:k<w0.heap.size+5) (hu:W.frozen? ⟨k,0,none⟩=false):w2.frozen? ⟨k,0,none⟩=false :=
 (World.frozen?_of_block (h.keep ho hg k hk)).trans hu
theorem RS.name {o:Obj} {w2:World} {vn':Value} {a:ByteArray} (h:RS w0 stop b ns ps vn vp W) (hg:(W.alloc o).grownBy w2 vn.ownBlock) (ho:w2.ownsRow (w0.heap.size+5) 9 1 vn' (ns.length+1) (strC ns++[.string a])) :
  RS w0 stop b (ns++[bs a]) ps vn' vp (w2.setCell ⟨w0.heap.size+1,0,none⟩ vn'):=by
 have c:=fun k hk {u} hu=>h.kcell h.on hg k hk (u:=u) hu
 have z:=fun k hk hu=>h.kfroz h.on hg k hk hu
 obtain⟨hl,hs⟩:=h.low2 h.on hg
 have e:strC (ns++[bs a])=strC ns++[.string a]:=by simp[strC];rfl
 refine⟨hl.setCell (by simp<;>omega) _,by simpa using hs,by rw[World.cell?_setCell_far _ _ _ _ (by simp<;>omega)];exact c _ (by omega) h.c0,World.cell?_setCell_same _ _ _ (c _ (by omega) h.c1),by rw[World.cell?_setCell_far _ _ _ _ (by simp<;>omega)];exact c _ (by omega) h.c2,by rw[World.cell?_setCell_far _ _ _ _ (by simp<;>omega)];exact c _ (by omega) h.c3,by rw[World.cell?_setCell_far _ _ _ _ (by simp<;>omega)];exact c _ (by omega) h.c4,
  by simpa using z _ (by omega) h.z1,by simpa using z _ (by omega) h.z2,by simpa using z _ (by omega) h.z3,?_,?_⟩
 ·rw[e,List.length_append]
  exact ownsRow_setCell_below ho (by simp<;>omega) _
 ·exact ownsRow_setCell_below (own_keep2 h.op h.on (by decide) ((Below.refl _ _).alloc (Nat.le_refl _) o) hg) (by simp<;>omega) _
theorem RS.place {o:Obj} {w2:World} {vp':Value} {p:Nat} (h:RS w0 stop b ns ps vn vp W) (hg:(W.alloc o).grownBy w2 vp.ownBlock) (ho:w2.ownsRow (w0.heap.size+5) 3 1 vp' (ps.length+1) (intC ps++[.int .i64 (p:Int)])) :
  RS w0 stop b ns (ps++[p]) vn vp' (w2.setCell ⟨w0.heap.size+1+1,0,none⟩ vp'):=by
 have c:=fun k hk {u} hu=>h.kcell h.op hg k hk (u:=u) hu
 have z:=fun k hk hu=>h.kfroz h.op hg k hk hu
 obtain⟨hl,hs⟩:=h.low2 h.op hg
 have e:intC (ps++[p])=intC ps++[.int .i64 (p:Int)]:=by simp[intC]
 refine⟨hl.setCell (by simp<;>omega) _,by simpa using hs,by rw[World.cell?_setCell_far _ _ _ _ (by simp<;>omega)];exact c _ (by omega) h.c0,by rw[World.cell?_setCell_far _ _ _ _ (by simp<;>omega)];exact c _ (by omega) h.c1,World.cell?_setCell_same _ _ _ (c _ (by omega) h.c2),by rw[World.cell?_setCell_far _ _ _ _ (by simp<;>omega)];exact c _ (by omega) h.c3,by rw[World.cell?_setCell_far _ _ _ _ (by simp<;>omega)];exact c _ (by omega) h.c4,
  by simpa using z _ (by omega) h.z1,by simpa using z _ (by omega) h.z2,by simpa using z _ (by omega) h.z3,?_,?_⟩
 ·exact ownsRow_setCell_below (own_keep2 h.on h.op (by decide) ((Below.refl _ _).alloc (Nat.le_refl _) o) hg) (by simp<;>omega) _
 ·rw[e,List.length_append]
  exact ownsRow_setCell_below ho (by simp<;>omega) _
theorem own_len {e:TypeId} {base size n:Nat} {v:Value} {xs:List Value} (h:W.ownsRow base e size v n xs):∃a c,v=.slice a n c:=by
 rcases Joins.ownsRow_forms h with ⟨rfl,rfl⟩ | ⟨g,cap,rfl⟩
 ·exact⟨_,_,rfl⟩
 ·exact⟨_,_,rfl⟩
end
theorem infoStr2:(Tryz.prog.info? 9).map (fun i=>(i.zero,i.size,i.bytes))=some (some (.string ByteArray.empty),1,16):=by kernel_rfl
theorem infoInt2:(Tryz.prog.info? 3).map (fun i=>(i.zero,i.size,i.bytes))=some (some (.int .i64 0),1,8):=by kernel_rfl
theorem yield_x (w0:World) (stop:Int) (b:Nat) (ns:List Str) (ps:List Nat) (vn vp:Value) (a:ByteArray) (p:Nat) (W:World) (h:RS w0 stop b ns ps vn vp W) (hl:ps.length=ns.length) (hn:ns.length≤100) (hst:stop≤0∨(ns.length:Int)<stop) :
  Calls Tryz.prog 23 #[.string a,.int .i64 (p:Int),.pointer (some ⟨w0.heap.size+1+1+1,0,none⟩),.pointer (some ⟨w0.heap.size+1,0,none⟩),.pointer (some ⟨w0.heap.size,0,none⟩),.pointer (some ⟨w0.heap.size+1+1,0,none⟩)] W
   fun e W'=>e=.returned (.bool ((ns.length:Int)+1 != stop))∧∃vn' vp',RS w0 stop b (ns++[bs a]) (ps++[p]) vn' vp' W':=by
 obtain⟨iS,hiS,hzS0,hzS1,hzS2⟩:=info_parts infoStr2
 obtain⟨iI,hiI,hzI0,hzI1,hzI2⟩:=info_parts infoInt2
 have HL:=hide hl
 have H0:=hide h
 obtain⟨sa,sc,hv⟩:=own_len h.on
 have c0:=h.c0
 have c1:=h.c1
 have c3:=h.c3
 have z3:=h.z3
 rw[hv]at c1
 clear h hv hl
 by_cases hk:(ns.length:Int)=stop
 case' pos =>
  have hs0:¬(0:Int)<stop:=by omega
  go_enter Tryz.func23,Tryz.ntmps23
  go_upto_region 2 with fail
  clear hs0
 case' neg =>
  have hkd:decide ((ns.length:Int)=stop)=false:=by simpa using hk
  go_enter Tryz.func23,Tryz.ntmps23
  go_upto_region 2 with fail
  clear hkd
 all_goals
  clear c0 c1 c3 z3 hk
  have H1:=hide H0.out.put3
  generalize W.setCell ⟨w0.heap.size+1+1+1,0,none⟩ (.bool false)=W1 at H1 ⊢
  clear H0
  have c1:=H1.out.c1
  have hO:=H1.out.on
  have hsz:=H1.out.sz
  go_upto_region 3 with (at_builtin;refine wpList_append_own_at _ rfl _ _ _ rfl (w0.heap.size+5) 9 iS (.string ByteArray.empty) 1 16 (by kernel_rfl) hiS hzS0 hzS1 hzS2 rfl (by decide) vn ns.length (strC ns) rfl (hO.alloc _) _ 1 1 [_] rfl rfl (cell_one_new _ _ _) (by simp[Value.oneCell']) (by unfold maxLen;omega) (by omega) (by simp;omega) ?_;intro vn' w2 hown2 hgrow2 _ _;obtain⟨gn,capn,rfl⟩:=Joins.ownsRow_form hown2 (by omega);have y0:=H1.out.kcell H1.out.on hgrow2 (w0.heap.size+1) (by omega) H1.out.c1;have yf:=H1.out.kfroz H1.out.on hgrow2 (w0.heap.size+1) (by omega) H1.out.z1)
  have H2:=hide (H1.out.name hgrow2 hown2)
  generalize w2.setCell ⟨w0.heap.size+1,0,none⟩ (.slice (some ⟨gn,0,none⟩) (ns.length+1) capn)=W2 at H2 ⊢
  clear H1 c1 hO hsz y0 yf hown2 hgrow2
  have c2:=H2.out.c2
  have hO:=H2.out.op
  have hsz:=H2.out.sz
  have hpl:ps.length≤100:=by rw[HL.out];exact hn
  go_upto_region 4 with (at_builtin;refine wpList_append_own_at _ rfl _ _ _ rfl (w0.heap.size+5) 3 iI (.int .i64 0) 1 8 (by kernel_rfl) hiI hzI0 hzI1 hzI2 rfl (by decide) vp ps.length (intC ps) rfl (hO.alloc _) _ 1 1 [_] rfl rfl (cell_one_new _ _ _) (by simp[Value.oneCell']) (by unfold maxLen;omega) (by omega) (by simp;omega) ?_;intro vp' w3 hown3 hgrow3 _ _;obtain⟨gp,capp,rfl⟩:=Joins.ownsRow_form hown3 (by omega);have y0:=H2.out.kcell H2.out.op hgrow3 (w0.heap.size+1+1) (by omega) H2.out.c2;have yf:=H2.out.kfroz H2.out.op hgrow3 (w0.heap.size+1+1) (by omega) H2.out.z2)
  have H3:=hide (H2.out.place hgrow3 hown3)
  generalize w3.setCell ⟨w0.heap.size+1+1,0,none⟩ (.slice (some ⟨gp,0,none⟩) (ps.length+1) capp)=W3 at H3 ⊢
  clear H2 c2 hO hsz y0 yf hown3 hgrow3
  have c0:=H3.out.c0
  have c1:=H3.out.c1
  go_wp2_with fail
  go_ret
  exact⟨by simp,_,_,H3.out⟩
theorem grules_x (p:Value) (w:World) (hp:∃q,p=.pointer q):Calls Tryz.prog 22 #[p] w fun e w'=>e=.returned (.func (.func 36) #[] #[.pointer (some ⟨w.heap.size,0,none⟩)])∧w'=w.alloc (.cells #[p] 60):=by
 obtain⟨q,rfl⟩:=hp
 go_enter Tryz.func22,Tryz.ntmps22
 go_wp2_with fail
 go_ret
 exact⟨rfl,rfl⟩
theorem equalIn_func_nil (w:World) (d:Nat) (F:Fn) (A B:Array Value):(Op.equalIn (d+1) 37 (.func F A B) .nilFunc).run Tryz.prog w=.ok false w:=by simp[Op.equalIn,run_underlying Tryz.underlying37]
theorem eql_func_nil (w:World) (F:Fn) (A B:Array Value):(binOp .eql 37 (.func F A B) .nilFunc).run Tryz.prog w=.ok (.bool false) w:=by
 simp only[binOp]
 simp[show Op.equal 37 (.func F A B) .nilFunc=Op.equalIn (9999+1) 37 (.func F A B) .nilFunc from rfl,equalIn_func_nil w 9999 F A B]
def upTo (stop:Int) (n:Nat):Nat:=if 0<stop∧stop<(n:Int) then stop.toNat else n
theorem upTo_all {stop:Int} {n:Nat} (h:stop≤0∨(n:Int)<stop):upTo stop n=n:=by unfold upTo;rw[if_neg (by omega)]
theorem upTo_one {stop:Int} {n k:Nat} (h:(k:Int)+1=stop) (hk:k<n):upTo stop n=k+1:=by
 unfold upTo
 by_cases e:k+1=n
 ·rw[if_neg (by omega),e]
 ·rw[if_pos (by omega)];omega
theorem grulesIter_x (w0:World) (stop:Int) (b:Nat) (v:Value) (cs:List Value) (G:List Rule) (ok:Nat→Prop) (hb:w0.cell? ⟨b,0,none⟩=some v) (hsl:slAt ok w0 3 v cs) (hr:rulesAt ok w0 G cs) (hG:G≠[]) (hlen:G.length≤12) (vn vp:Value) (W:World) (h:RS w0 stop b [] [] vn vp W) :
  Calls Tryz.prog 36 #[.func (.func 23) #[] #[.pointer (some ⟨w0.heap.size+1+1+1,0,none⟩),.pointer (some ⟨w0.heap.size+1,0,none⟩),.pointer (some ⟨w0.heap.size,0,none⟩),.pointer (some ⟨w0.heap.size+1+1,0,none⟩)],.pointer (some ⟨w0.heap.size+1+1+1+1,0,none⟩)] W
   fun e W'=>e=.returned (.tuple #[])∧∃vn' vp',RS w0 stop b ((PredP.names G).take (upTo stop G.length)) ((G.map (·.pos)).take (upTo stop G.length)) vn' vp' W':=by
 obtain⟨g,cap,rfl,hm,hg,hcell⟩:=rules_slice hsl hr hG
 have HC:=hide hcell
 have HR:=hide hr
 have H0:=hide h
 have c4:=h.c4
 have cb:=(h.low.cell (p:=⟨b,0,none⟩) (bltc hb)).trans hb
 clear hcell hsl hr hG h hb
 unfold maxLen at hm
 have hnil:=eql_func_nil W
 go_enter Tryz.func36,Tryz.ntmps36
 go_wp2_with fail
 clear c4 cb
 go_loopw [16] (fun t wr=>∃k:Nat,∃vn vp,k≤G.length∧t=.int .i64 k∧(stop≤0∨(k:Int)<stop)∧RS w0 stop b ((PredP.names G).take k) ((G.map (·.pos)).take k) vn vp wr) (fun t _=>G.length - (intOf t).toNat)
 case atStart=>exact⟨0,_,_,by omega,rfl,by omega,H0.out⟩
 case round =>
  clear H0
  obtain⟨k,vn,vp,hk,rfl,hst,hS⟩:=hrel
  by_cases hk':k<G.length
  ·obtain⟨q,hq⟩:∃q,G[k]?=some q:=⟨G[k],List.getElem?_eq_getElem hk'⟩
   obtain⟨a,u,us,e0,e1,e2,hnm,ha,hu,hrows⟩:=HR.out.get hq
   have k0:=sl_cell hg HC.out hS.low e0
   have k1:=sl_cell hg HC.out hS.low e1
   have k2:=sl_cell hg HC.out hS.low e2
   have HS:=hide hS
   have hl1:((PredP.names G).take k).length=k:=by rw[List.length_take,PredP.names,List.length_map];omega
   have hl2:((G.map (·.pos)).take k).length=k:=by rw[List.length_take,List.length_map];omega
   have HE:Hid ((PredP.names G).take k++[bs a]=(PredP.names G).take (k+1)∧(G.map (·.pos)).take k++[q.pos]=(G.map (·.pos)).take (k+1)):=hide ⟨by rw[List.take_add_one];simp[PredP.names,hq,hnm],by rw[List.take_add_one];simp[hq]⟩
   have HY:Hid (∀W',Below wr.heap.size wr W'→Calls Tryz.prog 23 #[.string a,.int .i64 (q.pos:Int),.pointer (some ⟨w0.heap.size+1+1+1,0,none⟩),.pointer (some ⟨w0.heap.size+1,0,none⟩),.pointer (some ⟨w0.heap.size,0,none⟩),.pointer (some ⟨w0.heap.size+1+1,0,none⟩)] W'
     fun e W'=>e=.returned (.bool ((k:Int)+1 != stop))∧∃vn' vp',RS w0 stop b ((PredP.names G).take (k+1)) ((G.map (·.pos)).take (k+1)) vn' vp' W'):=hide fun W' hW=>by
    have:=yield_x w0 stop b _ _ vn vp a q.pos W' (HS.out.below hW) (hl2.trans hl1.symm) (by rw[hl1];omega) (by rw[hl1];exact hst)
    rw[hl1,HE.out.1,HE.out.2]at this
    exact this
   obtain⟨ua,un,uc,rfl⟩:=hu.form
   have hb0:∀o,Below wr.heap.size wr (wr.alloc o):=fun o=>(Below.refl _ _).alloc (Nat.le_refl _) o
   clear hl1 hl2 HE e0 e1 e2 hnm hq hS
   by_cases he:(k:Int)+1=stop
   ·have hd:((k:Int)+1 != stop)=false:=by simp[he]
    go_wp2_with (go_at_call 23;refine(HY.out _ (hb0 _)).mono ?_;rintro e w1 ⟨rfl,vn',vp',hR⟩;have HR1:=hide hR;clear hR)
    exact bodyPost_ret (v:=.tuple #[]) (results_none Tryz.results36 _ _ _) rfl ⟨rfl,vn',vp',by rw[upTo_one he hk'];exact HR1.out⟩
   ·have hd:((k:Int)+1 != stop)=true:=by simpa using he
    go_wp2_with (go_at_call 23;refine(HY.out _ (hb0 _)).mono ?_;rintro e w1 ⟨rfl,vn',vp',hR⟩;have HR1:=hide hR;clear hR)
    exact⟨⟨k+1,vn',vp',by omega,by go_num,by omega,HR1.out⟩,by simp[intOf];omega⟩
  ·have hkn:k=G.length:=by omega
   have HS:=hide hS
   clear hS
   go_wp2_with fail
   go_end0
   exact⟨rfl,vn,vp,by rw[upTo_all (by omega),←hkn];exact HS.out⟩
end
section
open Go.RowKit
theorem RS.zero (w:World) (stop:Int) (b:Nat):RS w stop b [] [] (.slice none 0 0) (.slice none 0 0) (((((w.alloc (.cells #[.int .i64 stop] 3)).alloc (.cells #[.slice none 0 0] 27)).alloc (.cells #[.slice none 0 0] 28)).alloc (.cells #[.bool false] 4)).alloc (.cells #[.pointer (some ⟨b,0,none⟩)] 60)):=by
 have q:∀(o:Obj) (W:World) (k:Nat),k<W.heap.size→(W.alloc o).heap[k]?=W.heap[k]?:=fun o W k hk=>Below.heap_alloc W o k hk
 have b0:∀(o:Obj) (W:World),Below W.heap.size W (W.alloc o):=fun o W=>(Below.refl _ _).alloc (Nat.le_refl _) o
 have z:∀(o:Obj) (W:World),(W.alloc o).heap.size=W.heap.size+1:=fun o W=>by simp
 have n0:∀(W:World) (u:Value) (t:TypeId),(W.alloc (.cells #[u] t)).cell? ⟨W.heap.size,0,none⟩=some u:=fun W u t=>cell_fresh rfl
 have f0:∀(W:World) (u:Value) (t:TypeId),(W.alloc (.cells #[u] t)).frozen? ⟨W.heap.size,0,none⟩=false:=fun W u t=>frozen_new 0
 obtain⟨W1,h1⟩:∃W1,w.alloc (.cells #[.int .i64 stop] 3)=W1:=⟨_,rfl⟩
 have a1:=b0 (.cells #[.int .i64 stop] 3) w
 have s1:=z (.cells #[.int .i64 stop] 3) w
 have c1:=n0 w (.int .i64 stop) 3
 rw[h1]at a1 s1 c1 ⊢
 obtain⟨W2,h2⟩:∃W2,W1.alloc (.cells #[.slice none 0 0] 27)=W2:=⟨_,rfl⟩
 have a2:=b0 (.cells #[.slice none 0 0] 27) W1
 have s2:=z (.cells #[.slice none 0 0] 27) W1
 have c2:=n0 W1 (.slice none 0 0) 27
 have f2:=f0 W1 (.slice none 0 0) 27
 rw[h2]at a2 s2 c2 f2 ⊢
 obtain⟨W3,h3⟩:∃W3,W2.alloc (.cells #[.slice none 0 0] 28)=W3:=⟨_,rfl⟩
 have a3:=b0 (.cells #[.slice none 0 0] 28) W2
 have s3:=z (.cells #[.slice none 0 0] 28) W2
 have c3:=n0 W2 (.slice none 0 0) 28
 have f3:=f0 W2 (.slice none 0 0) 28
 rw[h3]at a3 s3 c3 f3 ⊢
 obtain⟨W4,h4⟩:∃W4,W3.alloc (.cells #[.bool false] 4)=W4:=⟨_,rfl⟩
 have a4:=b0 (.cells #[.bool false] 4) W3
 have s4:=z (.cells #[.bool false] 4) W3
 have c4:=n0 W3 (.bool false) 4
 have f4:=f0 W3 (.bool false) 4
 rw[h4]at a4 s4 c4 f4 ⊢
 have a5:=b0 (.cells #[.pointer (some ⟨b,0,none⟩)] 60) W4
 have s5:=z (.cells #[.pointer (some ⟨b,0,none⟩)] 60) W4
 have c5:=n0 W4 (.pointer (some ⟨b,0,none⟩)) 60
 generalize W4.alloc (.cells #[.pointer (some ⟨b,0,none⟩)] 60)=W5 at a5 s5 c5 ⊢
 rw[s4,s3,s2,s1]at c5
 rw[s3,s2,s1]at c4 f4
 rw[s2,s1]at c3 f3
 rw[s1]at c2 f2
 have a25:=Below.all a3 (Below.all a4 a5)
 have a35:=Below.all a4 a5
 exact⟨Below.all a1 (Below.all a2 a25),by omega,((Below.all a2 a25).cell (bltc c1)).trans c1,(a25.cell (bltc c2)).trans c2,(a35.cell (bltc c3)).trans c3,(a5.cell (bltc c4)).trans c4,c5,
  (a25.frozen (p:=⟨w.heap.size+1,0,none⟩) (bltc c2)).trans f2,(a35.frozen (p:=⟨w.heap.size+1+1,0,none⟩) (bltc c3)).trans f3,(a5.frozen (p:=⟨w.heap.size+1+1+1,0,none⟩) (bltc c4)).trans f4,World.ownsRow_nil _ _ _ _,World.ownsRow_nil _ _ _ _⟩
theorem RS.s3 {w0:World} {stop:Int} {b:Nat} {ns:List Str} {ps:List Nat} {vn vp:Value} {W:World} (h:RS w0 stop b ns ps vn vp W):W.cell? ⟨w0.heap.size+1,0,none⟩=some vn∧W.cell? ⟨w0.heap.size+1+1,0,none⟩=some vp∧W.cell? ⟨w0.heap.size+1+1+1,0,none⟩=some (.bool false):=⟨h.c1,h.c2,h.c3⟩
theorem own_strs5 {wr:World} {base:Nat} {v:Value} {zs:List Str} (h:wr.ownsRow base 9 1 v zs.length (strC zs)):strs wr v zs :=
 slAt.of_owns h (fun g hg=>by
  rcases h.2 with ⟨rfl,_⟩ | ⟨g',cap,cur,rfl,_,hg',_⟩
  ·cases hg
  ·cases hg
   exact⟨_,_,hg'⟩)
def RulesPost (w:World) (L:List Str) (A:List Nat) (e:Ending) (w':World):Prop :=
 ∃vn vp,e=.returned (.tuple #[vn,vp,.bool false])∧Below w.heap.size w w'∧strs w' vn L∧slAt (fun _=>True) w' 1 vp (intC A)
theorem RS.post {w0:World} {stop:Int} {b:Nat} {ns:List Str} {ps:List Nat} {vn vp:Value} {W:World} (h:RS w0 stop b ns ps vn vp W):RulesPost w0 ns ps (.returned (.tuple #[vn,vp,.bool false])) W :=
 ⟨vn,vp,rfl,h.low,own_strs5 h.on,slAt.of_owns h.op (fun _ _=>trivial)⟩
theorem prules_x (w:World) (stop:Int) (b0 b:Nat) (v:Value) (cs:List Value) (G:List Rule) (ok:Nat→Prop) (hb0:w.cell? ⟨b0,0,none⟩=some (.pointer (some ⟨b,0,none⟩))) (hb:w.cell? ⟨b,0,none⟩=some v) (hsl:slAt ok w 3 v cs) (hr:rulesAt ok w G cs) (hG:G≠[]) (hlen:G.length≤12) :
  Calls Tryz.prog 9 #[.pointer (some ⟨b0,0,none⟩),.int .i64 stop] w (RulesPost w ((PredP.names G).take (upTo stop G.length)) ((G.map (·.pos)).take (upTo stop G.length))):=by
 obtain⟨L,hL⟩:∃L,(PredP.names G).take (upTo stop G.length)=L:=⟨_,rfl⟩
 obtain⟨A,hA⟩:∃A,(G.map (·.pos)).take (upTo stop G.length)=A:=⟨_,rfl⟩
 have HI:=hide (fun W h=>grulesIter_x w stop b v cs G ok hb hsl hr hG hlen (.slice none 0 0) (.slice none 0 0) W h)
 rw[hL,hA]at HI ⊢
 clear hL hA
 have hR0:=RS.zero w stop b
 have hz:((((w.alloc (.cells #[.int .i64 stop] 3)).alloc (.cells #[.slice none 0 0] 27)).alloc (.cells #[.slice none 0 0] 28)).alloc (.cells #[.bool false] 4)).heap.size=w.heap.size+1+1+1+1:=by simp
 have q0:((((w.alloc (.cells #[.int .i64 stop] 3)).alloc (.cells #[.slice none 0 0] 27)).alloc (.cells #[.slice none 0 0] 28)).alloc (.cells #[.bool false] 4)).cell? ⟨b0,0,none⟩=some (.pointer (some ⟨b,0,none⟩)):=by
  have hlt:=bltc hb0
  have hB:Below w.heap.size w ((((w.alloc (.cells #[.int .i64 stop] 3)).alloc (.cells #[.slice none 0 0] 27)).alloc (.cells #[.slice none 0 0] 28)).alloc (.cells #[.bool false] 4)):=((((Below.refl _ w).alloc (Nat.le_refl _) _).alloc (by simp) _).alloc (by simp;omega) _).alloc (by simp;omega) _
  exact(hB.cell hlt).trans hb0
 clear hb0 hb hsl hr
 go_enter Tryz.func9,Tryz.ntmps9
 go_upto_region 1 with fail
 generalize (((w.alloc (.cells #[.int .i64 stop] 3)).alloc (.cells #[.slice none 0 0] 27)).alloc (.cells #[.slice none 0 0] 28)).alloc (.cells #[.bool false] 4)=W4 at hR0 hz q0 ⊢
 have HG:=grules_x (.pointer (some ⟨b,0,none⟩)) W4 ⟨_,rfl⟩
 rw[hz]at HG
 have HG2:=hide HG
 have HR0:=hide hR0
 clear HG hR0 hz
 go_upto_region 2 with (first
  | (go_at_call 22;refine HG2.out.mono ?_;rintro e w1 ⟨rfl,rfl⟩)
  | (go_at_call 36;refine(HI.out _ HR0.out).mono ?_;rintro e w2 ⟨rfl,vn,vp,hR⟩))
 obtain⟨sa,sc,rfl⟩:=own_len hR.on
 obtain⟨ta,tc,rfl⟩:=own_len hR.op
 have HD:=hide hR
 have d1:=hR.drew.c1
 have d2:=hR.drew.c2
 have d3:=hR.drew.c3
 have y1:=hR.drew.z1
 have y2:=hR.drew.z2
 have y3:=hR.drew.z3
 have x1:=hR.z1
 have x2:=hR.z2
 have x3:=hR.z3
 have r2:=hR.put1.drew.c2
 have r3:=hR.put1.put2.drew.c3
 have s2:=hR.put1.drew.z2
 have s3:=hR.put1.put2.drew.z3
 clear hR HI HG2 HR0 q0
 go_region_held (fun X=>X.cell? ⟨w.heap.size+1,0,none⟩=some (.slice sa L.length sc)∧X.cell? ⟨w.heap.size+1+1,0,none⟩=some (.slice ta A.length tc)∧X.cell? ⟨w.heap.size+1+1+1,0,none⟩=some (.bool false)) (first | exact HD.out.drew.s3 | exact HD.out.put1.drew.s3 | exact HD.out.put1.put2.drew.s3 | exact HD.out.put1.put2.put3.drew.s3) (fail)
 all_goals
  have hf:=HD.out.put1.put2.put3.drew
  go_wp2_with fail
  clear d1 d2 d3 y1 y2 y3 x1 x2 x3 r2 r3 s2 s3 HD
  generalize World.drew _=X at hf ⊢
  exact bodyPost_ret (v:=.tuple #[.slice sa L.length sc,.slice ta A.length tc,.bool false]) (by simp[results,Tryz.results9,go_sem,hf.c1,hf.c2,hf.c3]) rfl hf.post
end
end Go.Proofs.YtpcmemcanpgadaaGreatDoor
