import Derived.Test.YtpcmemcanpgadaaGreatDoorLeastG
import Derived.Test.YtpcmemcanpgadaaGreatDoorHandG
set_option maxHeartbeats 8000000
set_option maxRecDepth 100000
namespace Go.Proofs.YtpcmemcanpgadaaGreatDoor
open PredP (hide Str Rule bs)
open Go.RowKit Go.Maps Go.Shelf
attribute [local go_sem] Oper.semAt_some
def ClaE (U C l0:List Str) (f:List (Str×Nat)) (F:Str→Str→Bool) (eb fb:Nat) (ao:Option Nat) (e:PredP.Rows):Prop :=
 ∀(ok:Nat→Prop) (w:World) (v:Value) (cs:List Value) (vb:Nat) (A:Str→Bool),Sts U l0 f F eb fb w→slAt ok w 2 v cs→rowsAt ok w e cs→NamesIn f (PredP.namesE e)→WordsIn U (PredP.wordsE e)→SetOf U w vb A →
  Calls Tryz.prog 81 #[.agg #[.map (some eb),.map (some fb),.map ao],v,.map (some vb)] w (CPost w (PredP.firstClash C (PredP.placesE F l0.contains (fun _=>false) A e)))
def ClaR (U C l0:List Str) (f:List (Str×Nat)) (F:Str→Str→Bool) (eb fb:Nat) (ao:Option Nat) (ps:PredP.Parts):Prop :=
 ∀(ok:Nat→Prop) (w:World) (v:Value) (us:List Value) (vb:Nat) (A:Str→Bool),Sts U l0 f F eb fb w→slAt ok w 1 v us→partsAt ok w ps us→NamesIn f (PredP.namesR ps)→WordsIn U (PredP.wordsR ps)→SetOf U w vb A →
  Calls Tryz.prog 118 #[.agg #[.map (some eb),.map (some fb),.map ao],v,.map (some vb)] w (CPost w (PredP.firstClash C (PredP.placesR F l0.contains A ps)))
def placesT (F:Str→Str→Bool) (l0:List Str) (A:Str→Bool) (x:Tl):List PredP.Place:=PredP.placesP F l0.contains (fun w=>PredP.telR w (F w) l0.contains (A w) x.2.1) x.1
theorem placesR_tails {ok:Nat→Prop} {w:World} {F:Str→Str→Bool} {l0:List Str} {A:Str→Bool}:∀(ps:PredP.Parts) (us:List Value),partsAt ok w ps us→PredP.placesR F l0.contains A ps=(tails ps us).flatMap (placesT F l0 A)
 | .nil,us,h=>by
  unfold partsAt at h
  subst h
  rw[PredP.placesR];rfl
 | .cons p ps,us,h=>by
  unfold partsAt at h
  obtain⟨v,l,rfl,hv,hl⟩:=h
  rw[PredP.placesR,tails,List.flatMap_cons,placesR_tails ps l hl];rfl
theorem places_part (F:Str→Str→Bool) (l0:List Str) (B:Str→Bool) (p:PredP.Part):PredP.placesP F l0.contains B p=partPlace F l0 (withinP F l0 B p) B p++PredP.placesE F l0.contains (fun _=>false) (withinP F l0 B p) (withinE p):=by
 cases p with
 | word s=>simp[PredP.placesP,partPlace,withinE,PredP.placesE]
 | name s q=>simp[PredP.placesP,partPlace,withinE,PredP.placesE]
 | br k q e=>cases k<;>simp[PredP.placesP,partPlace,withinE]<;>first | exact⟨rfl,rfl⟩ | rfl
theorem clash_none {C:List Str}:∀{l:List PredP.Place},PredP.firstClash C l=none→∀{m:List PredP.Place},PredP.firstClash C (l++m)=PredP.firstClash C m:=fun h m=>by rw[clash_app,h];rfl
theorem clash_flat_none {C:List Str} {g:Tl→List PredP.Place}:∀{xs:List Tl},(∀x,x∈xs→PredP.firstClash C (g x)=none)→PredP.firstClash C (xs.flatMap g)=none
 | [],_=>rfl
 | x::xs,h=>by
  rw[List.flatMap_cons,clash_none (h x List.mem_cons_self)]
  exact clash_flat_none fun y hy=>h y (List.mem_cons_of_mem _ hy)
structure CI (w:World) (eb fb:Nat) (ao:Option Nat) (v va:Value) (W:World):Prop where
 low:Below w.heap.size w W
 b0:W.cell? ⟨w.heap.size,0,none⟩=some (.map (some eb))
 b1:W.cell? ⟨w.heap.size,1,none⟩=some (.map (some fb))
 b2:W.cell? ⟨w.heap.size,2,none⟩=some (.map ao)
 res:W.cell? ⟨w.heap.size+1,0,none⟩=some .nilIface
 fz:W.frozen? ⟨w.heap.size+1,0,none⟩=false
 s0:W.cell? ⟨w.heap.size+1+1,0,none⟩=some (.map (some eb))
 s1:W.cell? ⟨w.heap.size+1+1,1,none⟩=some (.map (some fb))
 s2:W.cell? ⟨w.heap.size+1+1,2,none⟩=some (.map ao)
 pc:W.cell? ⟨w.heap.size+1+1+1,0,none⟩=some v
 ac:W.cell? ⟨w.heap.size+1+1+1+1,0,none⟩=some va
theorem CI.quiet {w:World} {eb fb:Nat} {ao:Option Nat} {v va:Value} {A B:World} {N:Nat} (h:CI w eb fb ao v va A) (hq:Quiet N A B) (hN:w.heap.size≤N):CI w eb fb ao v va B :=
 ⟨hq.below h.low hN h.low.size,hq.cell h.b0,hq.cell h.b1,hq.cell h.b2,hq.cell h.res,frozen_quiet hq h.res h.fz,hq.cell h.s0,hq.cell h.s1,hq.cell h.s2,hq.cell h.pc,hq.cell h.ac⟩
theorem CI.onward {w:World} {eb fb:Nat} {ao:Option Nat} {v va:Value} {A B:World} (h:CI w eb fb ao v va A) (hb:Below A.heap.size A B):CI w eb fb ao v va B:=h.quiet (N:=A.heap.size) (.of_below hb) h.low.size
structure CX (w:World) (x:Nat×Str) (W:World):Prop where
 low:Below w.heap.size w W
 res:∃v,W.cell? ⟨w.heap.size+1,0,none⟩=some v∧ClashErr w.heap.size W v x.1 x.2
theorem CX.quiet {w:World} {x:Nat×Str} {A B:World} {N:Nat} (h:CX w x A) (hq:Quiet N A B) (hN:w.heap.size≤N):CX w x B:=by
 obtain⟨h1,v,h2,b,a,g1,g2,g3,g4,g5,g6,g7⟩:=h
 exact⟨hq.below h1 hN h1.size,v,hq.cell h2,b,a,g1,g2,Nat.lt_of_lt_of_le g3 hq.size,hq.cell g4,hq.cell g5,g6,g7⟩
theorem cx_made {w:World} {eb fb:Nat} {ao:Option Nat} {v va u:Value} {A:World} {x:Nat×Str} (h:CI w eb fb ao v va A) (hce:ClashErr w.heap.size A u x.1 x.2):CX w x (A.setCell ⟨w.heap.size+1,0,none⟩ u):=by
 obtain⟨b,a,g1,g2,g3,g4,g5,g6,g7⟩:=hce
 have hne:b≠w.heap.size+1:=fun e=>by
  subst e
  rw[h.res]at g4;cases g4
 have q:(A.setCell ⟨w.heap.size+1,0,none⟩ u).heap[b]?=A.heap[b]?:=Below.heap_setCell _ _ _ _ hne
 exact⟨h.low.setCell (p:=⟨w.heap.size+1,0,none⟩) (Nat.le_succ _) _,u,by simp[go_sem,h.res],b,a,g1,g2,by simpa[World.setCell] using g3,(World.cell?_of_block (a:=⟨b,0,none⟩) q).trans g4,(World.cell?_of_block (a:=⟨b,1,none⟩) q).trans g5,g6,g7⟩
theorem CI.made (w:World) (eb fb:Nat) (ao:Option Nat) (v va:Value) (t0 t1 t2 t3 t4:Nat):CI w eb fb ao v va (((((w.alloc (.cells #[.map (some eb),.map (some fb),.map ao] t0)).alloc (.cells #[.nilIface] t1)).alloc (.cells #[.map (some eb),.map (some fb),.map ao] t2)).alloc (.cells #[v] t3)).alloc (.cells #[va] t4)):=by
 have k0:∀j u,(#[Value.map (some eb),.map (some fb),.map ao]:Array Value)[j]?=some u→(w.alloc (.cells #[.map (some eb),.map (some fb),.map ao] t0)).cell? ⟨w.heap.size,j,none⟩=some u:=fun j u h=>cell_fresh h
 have p0:Below w.heap.size w (w.alloc (.cells #[.map (some eb),.map (some fb),.map ao] t0)):=(Below.refl _ _).alloc (Nat.le_refl _) _
 have z0:(w.alloc (.cells #[.map (some eb),.map (some fb),.map ao] t0)).heap.size=w.heap.size+1:=by simp
 generalize w.alloc (.cells #[.map (some eb),.map (some fb),.map ao] t0)=w1 at k0 p0 z0
 have k1:(w1.alloc (.cells #[.nilIface] t1)).cell? ⟨w.heap.size+1,0,none⟩=some .nilIface:=by rw[←z0];exact cell_fresh rfl
 have f1:(w1.alloc (.cells #[.nilIface] t1)).frozen? ⟨w.heap.size+1,0,none⟩=false:=by rw[←z0];exact frozen_new 0
 have p1:Below w1.heap.size w1 (w1.alloc (.cells #[.nilIface] t1)):=(Below.refl _ _).alloc (Nat.le_refl _) _
 have z1:(w1.alloc (.cells #[.nilIface] t1)).heap.size=w.heap.size+1+1:=by simp[z0]
 generalize w1.alloc (.cells #[.nilIface] t1)=w2 at k1 f1 p1 z1
 have k2:∀j u,(#[Value.map (some eb),.map (some fb),.map ao]:Array Value)[j]?=some u→(w2.alloc (.cells #[.map (some eb),.map (some fb),.map ao] t2)).cell? ⟨w.heap.size+1+1,j,none⟩=some u:=fun j u h=>by rw[←z1];exact cell_fresh h
 have p2:Below w2.heap.size w2 (w2.alloc (.cells #[.map (some eb),.map (some fb),.map ao] t2)):=(Below.refl _ _).alloc (Nat.le_refl _) _
 have z2:(w2.alloc (.cells #[.map (some eb),.map (some fb),.map ao] t2)).heap.size=w.heap.size+1+1+1:=by simp[z1]
 generalize w2.alloc (.cells #[.map (some eb),.map (some fb),.map ao] t2)=w3 at k2 p2 z2
 have k3:(w3.alloc (.cells #[v] t3)).cell? ⟨w.heap.size+1+1+1,0,none⟩=some v:=by rw[←z2];exact cell_fresh rfl
 have p3:Below w3.heap.size w3 (w3.alloc (.cells #[v] t3)):=(Below.refl _ _).alloc (Nat.le_refl _) _
 have z3:(w3.alloc (.cells #[v] t3)).heap.size=w.heap.size+1+1+1+1:=by simp[z2]
 generalize w3.alloc (.cells #[v] t3)=w4 at k3 p3 z3
 have k4:(w4.alloc (.cells #[va] t4)).cell? ⟨w.heap.size+1+1+1+1,0,none⟩=some va:=by rw[←z3];exact cell_fresh rfl
 have p4:Below w4.heap.size w4 (w4.alloc (.cells #[va] t4)):=(Below.refl _ _).alloc (Nat.le_refl _) _
 generalize w4.alloc (.cells #[va] t4)=w5 at k4 p4
 have q3:=Below.all p3 p4
 have q2:=Below.all p2 q3
 have q1:=Below.all p1 q2
 have c0:∀j u,(#[Value.map (some eb),.map (some fb),.map ao]:Array Value)[j]?=some u→w5.cell? ⟨w.heap.size,j,none⟩=some u:=fun j u h=>(q1.cell (p:=⟨w.heap.size,j,none⟩) (bltc (k0 j u h))).trans (k0 j u h)
 have c2:∀j u,(#[Value.map (some eb),.map (some fb),.map ao]:Array Value)[j]?=some u→w5.cell? ⟨w.heap.size+1+1,j,none⟩=some u:=fun j u h=>(q3.cell (p:=⟨w.heap.size+1+1,j,none⟩) (bltc (k2 j u h))).trans (k2 j u h)
 exact⟨Below.all p0 q1,c0 0 _ rfl,c0 1 _ rfl,c0 2 _ rfl,(q2.cell (bltc k1)).trans k1,(q2.frozen (p:=⟨w.heap.size+1,0,none⟩) (bltc k1)).trans f1,c2 0 _ rfl,c2 1 _ rfl,c2 2 _ rfl,(p4.cell (bltc k3)).trans k3,k4⟩
theorem aft_blk {U:List Str} {W:World} {v:Value} {g:Str→Bool} {b M:Nat} (h:MaySet U W v g) (hwh:v=.map (some b)∨∃b',v=.map (some b')∧M≤b'):∃b4,v=.map (some b4)∧SetOf U W b4 g:=by
 rcases h with ⟨h1,_⟩ | ⟨b4,h1,h2⟩
 ·rcases hwh with h | ⟨b',h,_⟩<;>(rw[h1]at h;cases h)
 ·exact⟨b4,h1,h2⟩
theorem clashInRow_any {U C:List Str} (hC:CandsOf U C) (l0:List Str) (f:List (Str×Nat)) (F:Str→Str→Bool) (eb fb:Nat) (ao:Option Nat) (ps:PredP.Parts) (IH:Hid (∀e':PredP.Rows,SizeOf.sizeOf e'<SizeOf.sizeOf ps→ClaE U C l0 f F eb fb ao e')):ClaR U C l0 f F eb fb ao ps:=by
 intro ok w v us vb A hst hsl hps hnm hwd hva
 have hU:2 * U.length<maxLen:=by have:=hC.few;unfold maxLen;omega
 obtain⟨ua,un,uc,rfl⟩:=hsl.form
 have hB0:∀o,Below w.heap.size w (w.alloc o):=fun o=>(Below.refl _ w).alloc (Nat.le_refl _) o
 have HIT:=hide (withAfter_iter (σ:=Unit) U l0 hU f F eb fb ao ok ps us (.slice ua un uc) (.map (some vb)) (w.heap.size+1+1) (fun _=>A) hnm hwd)
 have HST:=hide hst
 have HSL:=hide hsl
 have HPS:=hide hps
 have HVA:=hide hva
 have HPL:=hide (placesR_tails (F:=F) (l0:=l0) (A:=A) ps us hps)
 clear hst hsl hps hva
 have hfn:∀f,Fence.wide.fn f:=fun _=>trivial
 have hdp:Fence.wide.depth=none:=rfl
 refine(callsIn_wide (n:=0)).1 ?_
 refine callsIn_of_wp_marks Tryz.func118 rfl trivial ?_ rfl
 simp only[Tryz.ntmps118,List.size_toArray,List.length_cons,List.length_nil,Nat.reduceAdd,Nat.reduceSub,Array.replicate_succ,Array.replicate_zero,List.push_toArray,List.append_toArray,List.nil_append,List.cons_append]
 gi_wp2_with ((try refine⟨hdd _,?_⟩);gi_at_call 115;refine(callsIn_wide.2 (withAfter_any _ eb fb ao (some vb) ua un uc)).mono ?_;rintro e w1 ⟨rfl,rfl⟩)
 have hci0:=CI.made w eb fb ao (.slice ua un uc) (.map (some vb)) 91 67 91 225 88
 generalize ((((w.alloc (.cells #[.map (some eb),.map (some fb),.map ao] 91)).alloc (.cells #[.nilIface] 67)).alloc (.cells #[.map (some eb),.map (some fb),.map ao] 91)).alloc (.cells #[.slice ua un uc] 225)).alloc (.cells #[.map (some vb)] 88)=w3 at hci0 ⊢
 have hlt3:w.heap.size+1<w3.heap.size:=bltc hci0.res
 refine range_by_slots (α:=Tl) (σ:=Unit) (gf:=133) (lb:=#[.pointer (some ⟨w.heap.size+1+1+1,0,none⟩),.pointer (some ⟨w.heap.size+1+1,0,none⟩),.pointer (some ⟨w.heap.size+1+1+1+1,0,none⟩)]) rfl (enters_of Tryz.func133 (by kernel_rfl) rfl) HIT.out (fun _ _=>rfl)
  (fun pre _ W1=>CI w eb fb ao (.slice ua un uc) (.map (some vb)) W1∧∀x,x∈pre→PredP.firstClash C (placesT F l0 A x)=none) (fun cd _ W1=>cd=.ret∧∃x,PredP.firstClash C (PredP.placesR F l0.contains A ps)=some x∧CX w x W1) ?hok ?hI ?hIx ?hV () ?h0 [16,17,7,8] (fun x b=>[x.2.2,.map (some b),x.2.2,.map (some b)]) ?assign ?body ?done ?stop
 case hok=>exact fun pre s' W1 h=>⟨HST.out.below h.1.low,.inr ⟨vb,rfl,HVA.out.below h.1.low⟩,HSL.out.below h.1.low,HPS.out.below h.1.low,h.1.s0,h.1.s1,h.1.s2,h.1.pc,h.1.ac⟩
 case hI=>exact fun pre s' X Y h hq=>⟨h.1.quiet hq (by omega),h.2⟩
 case hIx=>exact fun cd pre X Y ⟨h1,x,h2,h3⟩ hq=>⟨h1,x,h2,h3.quiet hq (by omega)⟩
 case hV=>exact fun x s' b X Y h hq=>SetOf.quiet h hq
 case h0=>exact⟨hci0,fun x hx=>by simp at hx⟩
 case assign =>
  intro l1 m1 x b W1 K hK
  have hK':=hide hK
  clear hK
  gi_wp2
  simp only[updN,updC,List.set_cons_succ,List.set_cons_zero]at hK'
  exact hK'.out
 case body =>
  intro l1 m1 pre x s' b W1 hI1 ⟨post,hsp⟩ hSb hVb0
  simp only[updN,updC,List.set_cons_succ,List.set_cons_zero]
  obtain⟨p,rest,v⟩:=x
  obtain⟨hp,hszp,hnp,hwp,_⟩:=tails_mem ps us HPS.out (p,rest,v) (by rw[hsp];simp)
  have hVb:SetOf U W1 b (fun y=>PredP.telR y (F y) l0.contains (A y) rest):=hVb0
  have hAW:∀W3,Below w.heap.size w W3→SetOf U W3 b (fun y=>PredP.telR y (F y) l0.contains (A y) rest)→Calls Tryz.prog 116 #[.agg #[.map (some eb),.map (some fb),.map ao],v,.map (some b)] W3 (AftPost U W3 (.map (some b)) (withinP F l0 (fun y=>PredP.telR y (F y) l0.contains (A y) rest) p)):=fun W3 h0 h2 =>
   afterWithin_any U l0 hU f F eb fb ao p ok W3 v (.map (some b)) _ (HST.out.below h0) (hp.below h0) (fun x hx=>hnm x (hnp x hx)) (fun x hx=>hwd x (hwp x hx)) (.inr ⟨b,rfl,h2⟩)
  have hCP:∀W4,Below w.heap.size w W4→∀b4,SetOf U W4 b4 (withinP F l0 (fun y=>PredP.telR y (F y) l0.contains (A y) rest) p)→SetOf U W4 b (fun y=>PredP.telR y (F y) l0.contains (A y) rest)→Calls Tryz.prog 135 #[.agg #[.map (some eb),.map (some fb),.map ao],v,.map (some b4),.map (some b)] W4 (CPost W4 (PredP.firstClash C (partPlace F l0 (withinP F l0 (fun y=>PredP.telR y (F y) l0.contains (A y) rest) p) (fun y=>PredP.telR y (F y) l0.contains (A y) rest) p))):=fun W4 h0 b4 h1 h2 =>
   clashAtPart_any hC l0 f F eb fb ao p ok W4 v b4 b _ _ (HST.out.below h0) (hp.below h0) (fun x hx=>hnm x (hnp x hx)) (fun x hx=>hwd x (hwp x hx)) h1 h2
  have hIH:∀W4,Below w.heap.size w W4→∀u2 us2,slAt ok w 2 u2 us2→rowsAt ok w (withinE p) us2→∀b4,SetOf U W4 b4 (withinP F l0 (fun y=>PredP.telR y (F y) l0.contains (A y) rest) p) →
    Calls Tryz.prog 81 #[.agg #[.map (some eb),.map (some fb),.map ao],u2,.map (some b4)] W4 (CPost W4 (PredP.firstClash C (PredP.placesE F l0.contains (fun _=>false) (withinP F l0 (fun y=>PredP.telR y (F y) l0.contains (A y) rest) p) (withinE p)))):=fun W4 h0 u2 us2 h2 h3 b4 h4 =>
   IH.out (withinE p) (by have:=within_size p;simp only[]at hszp;omega) ok W4 u2 us2 b4 _ (HST.out.below h0) (h2.below h0) (h3.below h0) (fun x hx=>hnm x (hnp x (within_names p x hx))) (fun x hx=>hwd x (hwp x (within_words p x hx))) h4
  have hsome1:(∀x,x∈pre→PredP.firstClash C (placesT F l0 A x)=none)→∀{x5},PredP.firstClash C (partPlace F l0 (withinP F l0 (fun y=>PredP.telR y (F y) l0.contains (A y) rest) p) (fun y=>PredP.telR y (F y) l0.contains (A y) rest) p)=some x5→PredP.firstClash C (PredP.placesR F l0.contains A ps)=some x5:=fun h1 x5 h2=>by
   rw[HPL.out,hsp,List.flatMap_append,clash_none (clash_flat_none h1),List.flatMap_cons]
   rw[show placesT F l0 A (p,rest,v)=_ from places_part F l0 _ p,List.append_assoc,clash_app,h2];rfl
  have hsome:(∀x,x∈pre→PredP.firstClash C (placesT F l0 A x)=none)→PredP.firstClash C (partPlace F l0 (withinP F l0 (fun y=>PredP.telR y (F y) l0.contains (A y) rest) p) (fun y=>PredP.telR y (F y) l0.contains (A y) rest) p)=none→∀{x6},PredP.firstClash C (PredP.placesE F l0.contains (fun _=>false) (withinP F l0 (fun y=>PredP.telR y (F y) l0.contains (A y) rest) p) (withinE p))=some x6→PredP.firstClash C (PredP.placesR F l0.contains A ps)=some x6:=fun h1 h2 x6 h3=>by
   rw[HPL.out,hsp,List.flatMap_append,clash_none (clash_flat_none h1),List.flatMap_cons]
   rw[show placesT F l0 A (p,rest,v)=_ from places_part F l0 _ p,List.append_assoc,clash_none h2,clash_app,h3];rfl
  have hnone:PredP.firstClash C (partPlace F l0 (withinP F l0 (fun y=>PredP.telR y (F y) l0.contains (A y) rest) p) (fun y=>PredP.telR y (F y) l0.contains (A y) rest) p)=none→PredP.firstClash C (PredP.placesE F l0.contains (fun _=>false) (withinP F l0 (fun y=>PredP.telR y (F y) l0.contains (A y) rest) p) (withinE p))=none→PredP.firstClash C (placesT F l0 A (p,rest,v))=none:=fun h2 h3=>by
   rw[show placesT F l0 A (p,rest,v)=_ from places_part F l0 _ p,clash_none h2,h3]
  have HAW:=hide hAW
  have HCP:=hide hCP
  have HIH:=hide hIH
  have HSOM1:=hide @hsome1
  have HSOME:=hide @hsome
  have HNONE:=hide hnone
  clear hAW hCP hIH hsome1 hsome hnone hVb0 hnp hwp hsp hszp
  cases p with
  | word st =>
   obtain⟨bp,a,rfl,hokp,hbp,c0,hs0,ha,hsh0⟩:=id hp
   clear hp hs0
   have z0:=hI1.1.b0
   have z1:=hI1.1.b1
   have z2:=hI1.1.b2
   gi_wp2_with (first
    | ((try refine⟨hdd _,?_⟩);gi_at_call 116;refine(callsIn_wide.2 (HAW.out _ hI1.1.low hVb)).mono ?_;rintro r4 W4 ⟨va4,rfl,hms4,hwh4,hb4⟩;obtain⟨b4,rfl,hs4⟩:=aft_blk hms4 hwh4;have hci4:=hI1.1.onward hb4;have y0:=hci4.b0;have y1:=hci4.b1;have y2:=hci4.b2)
    | ((try refine⟨hdd _,?_⟩);gi_at_call 135;refine(callsIn_wide.2 (HCP.out _ hci4.low b4 hs4 (SetOf.below hVb hb4))).mono ?_;rintro r5 W5 ⟨v5,rfl,hb5,hce5⟩;have hci5:=hci4.onward hb5;have hb5z:=Below.all hb4 hb5;have rs5:=hci5.res;have fz5:=hci5.fz;rcases hce5.form with ⟨ho5,rfl⟩ | ⟨x5,e5,ho5,rfl⟩))
   ·have hdr:Below W5.heap.size W5 W5.drew:=(Below.refl _ _).drew
    have hsh:W5.drew.shape? bp=some (260,1):=shape_low hci5.low hbp hsh0
    refine round_held (S:=fun W=>W.cell? ⟨w.heap.size,0,none⟩=some (.map (some eb))∧W.cell? ⟨w.heap.size,1,none⟩=some (.map (some fb))∧W.cell? ⟨w.heap.size,2,none⟩=some (.map ao)) (by kernel_rfl) (by kernel_rfl) (fun h=>by obtain⟨_,_,h⟩:=h;exact h) ⟨hci5.b0,hci5.b1,hci5.b2⟩ ?_
    intro hHeld
    refine wpAnyH_take (i:=0) (oi:=?o0word) (v:=?v0word) ?i0word (by kernel_rfl) (by kernel_rfl) (by kernel_rfl) (fun _ _ _ h=>h) (Or.inl ⟨?w0word,?y0word⟩) hHeld ?_
    case i0word=>(simp only[List.getElem?_toArray,List.getElem?_cons_zero];rfl)
    case w0word=>rfl
    case y0word=>(intro W hSW;obtain⟨q0,q1,q2⟩:=hSW;go_simp;(try with_reducible rfl))
    simp only[Act.put,pu3]
    refine wpAnyH_take (i:=1) (oi:=?o1word) (v:=?v1word) ?i1word (by kernel_rfl) (by kernel_rfl) (by kernel_rfl) (fun _ _ _ h=>h) (Or.inl ⟨?w1word,?y1word⟩) hHeld ?_
    case i1word=>(simp only[gc3];rfl)
    case w1word=>rfl
    case y1word=>(intro W hSW;obtain⟨q0,q1,q2⟩:=hSW;go_simp;(try with_reducible rfl))
    simp only[Act.put,pu3]
    refine wpAnyH_take (i:=3) (oi:=?o3word) (v:=?v3word) ?i3word (by kernel_rfl) (by kernel_rfl) (by kernel_rfl) (fun _ _ _ h=>h) (Or.inl ⟨?w3word,?y3word⟩) hHeld ?_
    case i3word=>(simp only[gc3];rfl)
    case w3word=>rfl
    case y3word=>(intro W hSW;obtain⟨q0,q1,q2⟩:=hSW;go_simp;(try with_reducible rfl))
    simp only[Act.put,pu3]
    refine wpAnyH_ready (rs:=[2]) (by kernel_rfl) (by simp) ?_
    refine AllReadyH.cons (o:=?o2word) ?i2word (fun K hK=>?c2word) AllReadyH.nil
    case i2word=>(simp only[gc3];rfl)
    case c2word =>
     go_simp
     rw[m_word bp 1 _ _ (by kernel_rfl) hsh]
     go_simp
     go_at_call 201
     refine(single_within _).mono ?_
     rintro r6 W6a ⟨rfl,hb6b⟩
     have hb6a:=Below.all hdr hb6b
     have hci6a:=hci5.onward hb6a
     refine hK.out _ _ ⟨hci6a.b0,hci6a.b1,hci6a.b2⟩ (fun hHeld2=>?_)
     clear hK K
     have hHeld:=hHeld2
     try simp only[Act.put,pu3]
     refine wpAnyH_ready (rs:=[4]) (by kernel_rfl) (by simp) ?_
     refine AllReadyH.cons (o:=?o4word) ?i4word (fun K hK=>?c4word) AllReadyH.nil
     case i4word=>(simp only[gc3];rfl)
     case c4word =>
      go_simp
      go_at_call 81
      refine(HIH.out _ hci6a.low (.slice none 0 0) [] (.inl ⟨rfl,rfl⟩) (by simp only[withinE];unfold rowsAt;rfl) b4 (hs4.below (Below.all hb5 hb6a))).mono ?_
      rintro r7 W6 ⟨v6,rfl,hb7,hce6⟩
      have hb6z:=Below.all (Below.all hb5z hb6a) hb7
      have hci6:=hci6a.onward hb7
      have hce6:=CErr.below hce6 (Below.refl _ _) (Nat.le_trans hci5.low.size hb6a.size)
      refine hK.out _ _ ⟨hci6.b0,hci6.b1,hci6.b2⟩ (fun hHeld2=>?_)
      clear hK K
      have hHeld:=hHeld2
      try simp only[Act.put,pu3]
      refine wpAnyH_take (i:=5) (oi:=?o5word) (v:=?v5word) ?i5word (by kernel_rfl) (by kernel_rfl) (by kernel_rfl) (fun _ _ _ h=>h) (Or.inl ⟨?w5word,?y5word⟩) hHeld ?_
      case i5word=>(simp only[gc3];rfl)
      case w5word=>rfl
      case y5word=>(intro W hSW;obtain⟨q0,q1,q2⟩:=hSW;go_simp;(try with_reducible rfl))
      simp only[Act.put,pu3]
      refine wpAnyH_done (by kernel_rfl) ?_ _
      rcases hce6.form with ⟨ho6,rfl⟩ | ⟨x6,e6,ho6,rfl⟩
      ·gi_wp2
       exact⟨.of_below hb6z,(),hci6,fun z hz=>by
        rcases List.mem_append.1 hz with hz | hz
        ·exact hI1.2 z hz
        ·simp at hz;subst hz;exact HNONE.out ho5 ho6⟩
      ·have rs6:=hci6.res
       have fz6:=hci6.fz
       gi_wp2
       have hce7:ClashErr w.heap.size W6 (.iface 105 (.pointer (some ⟨e6,0,none⟩))) x6.1 x6.2:=by
        rw[ho6]at hce6
        exact hce6
       exact⟨(KeepsAbove.of_below hb6z).setCell (p:=⟨w.heap.size+1,0,none⟩) hlt3 _,rfl,x6,HSOME.out hI1.2 ho5 ho6,cx_made hci6 hce7⟩
   ·have hce7:ClashErr w.heap.size W5 (.iface 105 (.pointer (some ⟨e5,0,none⟩))) x5.1 x5.2:=by
     rw[ho5]at hce5
     exact CErr.below (o:=some x5) hce5 (Below.refl _ _) hci4.low.size
    exact⟨(KeepsAbove.of_below hb5z).setCell (p:=⟨w.heap.size+1,0,none⟩) hlt3 _,rfl,x5,HSOM1.out hI1.2 ho5,cx_made hci5 hce7⟩
  | name st qp =>
   obtain⟨bp,a,rfl,hokp,hbp,c0,hs0,ha,c1,hsh0⟩:=id hp
   clear hp hs0 c1
   have z0:=hI1.1.b0
   have z1:=hI1.1.b1
   have z2:=hI1.1.b2
   gi_wp2_with (first
    | ((try refine⟨hdd _,?_⟩);gi_at_call 116;refine(callsIn_wide.2 (HAW.out _ hI1.1.low hVb)).mono ?_;rintro r4 W4 ⟨va4,rfl,hms4,hwh4,hb4⟩;obtain⟨b4,rfl,hs4⟩:=aft_blk hms4 hwh4;have hci4:=hI1.1.onward hb4;have y0:=hci4.b0;have y1:=hci4.b1;have y2:=hci4.b2)
    | ((try refine⟨hdd _,?_⟩);gi_at_call 135;refine(callsIn_wide.2 (HCP.out _ hci4.low b4 hs4 (SetOf.below hVb hb4))).mono ?_;rintro r5 W5 ⟨v5,rfl,hb5,hce5⟩;have hci5:=hci4.onward hb5;have hb5z:=Below.all hb4 hb5;have rs5:=hci5.res;have fz5:=hci5.fz;rcases hce5.form with ⟨ho5,rfl⟩ | ⟨x5,e5,ho5,rfl⟩))
   ·have hdr:Below W5.heap.size W5 W5.drew:=(Below.refl _ _).drew
    have hsh:W5.drew.shape? bp=some (213,2):=shape_low hci5.low hbp hsh0
    refine round_held (S:=fun W=>W.cell? ⟨w.heap.size,0,none⟩=some (.map (some eb))∧W.cell? ⟨w.heap.size,1,none⟩=some (.map (some fb))∧W.cell? ⟨w.heap.size,2,none⟩=some (.map ao)) (by kernel_rfl) (by kernel_rfl) (fun h=>by obtain⟨_,_,h⟩:=h;exact h) ⟨hci5.b0,hci5.b1,hci5.b2⟩ ?_
    intro hHeld
    refine wpAnyH_take (i:=0) (oi:=?o0name) (v:=?v0name) ?i0name (by kernel_rfl) (by kernel_rfl) (by kernel_rfl) (fun _ _ _ h=>h) (Or.inl ⟨?w0name,?y0name⟩) hHeld ?_
    case i0name=>(simp only[List.getElem?_toArray,List.getElem?_cons_zero];rfl)
    case w0name=>rfl
    case y0name=>(intro W hSW;obtain⟨q0,q1,q2⟩:=hSW;go_simp;(try with_reducible rfl))
    simp only[Act.put,pu3]
    refine wpAnyH_take (i:=1) (oi:=?o1name) (v:=?v1name) ?i1name (by kernel_rfl) (by kernel_rfl) (by kernel_rfl) (fun _ _ _ h=>h) (Or.inl ⟨?w1name,?y1name⟩) hHeld ?_
    case i1name=>(simp only[gc3];rfl)
    case w1name=>rfl
    case y1name=>(intro W hSW;obtain⟨q0,q1,q2⟩:=hSW;go_simp;(try with_reducible rfl))
    simp only[Act.put,pu3]
    refine wpAnyH_take (i:=3) (oi:=?o3name) (v:=?v3name) ?i3name (by kernel_rfl) (by kernel_rfl) (by kernel_rfl) (fun _ _ _ h=>h) (Or.inl ⟨?w3name,?y3name⟩) hHeld ?_
    case i3name=>(simp only[gc3];rfl)
    case w3name=>rfl
    case y3name=>(intro W hSW;obtain⟨q0,q1,q2⟩:=hSW;go_simp;(try with_reducible rfl))
    simp only[Act.put,pu3]
    refine wpAnyH_ready (rs:=[2]) (by kernel_rfl) (by simp) ?_
    refine AllReadyH.cons (o:=?o2name) ?i2name (fun K hK=>?c2name) AllReadyH.nil
    case i2name=>(simp only[gc3];rfl)
    case c2name =>
     go_simp
     rw[m_name bp 2 _ _ (by kernel_rfl) hsh]
     go_simp
     go_at_call 201
     refine(single_within _).mono ?_
     rintro r6 W6a ⟨rfl,hb6b⟩
     have hb6a:=Below.all hdr hb6b
     have hci6a:=hci5.onward hb6a
     refine hK.out _ _ ⟨hci6a.b0,hci6a.b1,hci6a.b2⟩ (fun hHeld2=>?_)
     clear hK K
     have hHeld:=hHeld2
     try simp only[Act.put,pu3]
     refine wpAnyH_ready (rs:=[4]) (by kernel_rfl) (by simp) ?_
     refine AllReadyH.cons (o:=?o4name) ?i4name (fun K hK=>?c4name) AllReadyH.nil
     case i4name=>(simp only[gc3];rfl)
     case c4name =>
      go_simp
      go_at_call 81
      refine(HIH.out _ hci6a.low (.slice none 0 0) [] (.inl ⟨rfl,rfl⟩) (by simp only[withinE];unfold rowsAt;rfl) b4 (hs4.below (Below.all hb5 hb6a))).mono ?_
      rintro r7 W6 ⟨v6,rfl,hb7,hce6⟩
      have hb6z:=Below.all (Below.all hb5z hb6a) hb7
      have hci6:=hci6a.onward hb7
      have hce6:=CErr.below hce6 (Below.refl _ _) (Nat.le_trans hci5.low.size hb6a.size)
      refine hK.out _ _ ⟨hci6.b0,hci6.b1,hci6.b2⟩ (fun hHeld2=>?_)
      clear hK K
      have hHeld:=hHeld2
      try simp only[Act.put,pu3]
      refine wpAnyH_take (i:=5) (oi:=?o5name) (v:=?v5name) ?i5name (by kernel_rfl) (by kernel_rfl) (by kernel_rfl) (fun _ _ _ h=>h) (Or.inl ⟨?w5name,?y5name⟩) hHeld ?_
      case i5name=>(simp only[gc3];rfl)
      case w5name=>rfl
      case y5name=>(intro W hSW;obtain⟨q0,q1,q2⟩:=hSW;go_simp;(try with_reducible rfl))
      simp only[Act.put,pu3]
      refine wpAnyH_done (by kernel_rfl) ?_ _
      rcases hce6.form with ⟨ho6,rfl⟩ | ⟨x6,e6,ho6,rfl⟩
      ·gi_wp2
       exact⟨.of_below hb6z,(),hci6,fun z hz=>by
        rcases List.mem_append.1 hz with hz | hz
        ·exact hI1.2 z hz
        ·simp at hz;subst hz;exact HNONE.out ho5 ho6⟩
      ·have rs6:=hci6.res
       have fz6:=hci6.fz
       gi_wp2
       have hce7:ClashErr w.heap.size W6 (.iface 105 (.pointer (some ⟨e6,0,none⟩))) x6.1 x6.2:=by
        rw[ho6]at hce6
        exact hce6
       exact⟨(KeepsAbove.of_below hb6z).setCell (p:=⟨w.heap.size+1,0,none⟩) hlt3 _,rfl,x6,HSOME.out hI1.2 ho5 ho6,cx_made hci6 hce7⟩
   ·have hce7:ClashErr w.heap.size W5 (.iface 105 (.pointer (some ⟨e5,0,none⟩))) x5.1 x5.2:=by
     rw[ho5]at hce5
     exact CErr.below (o:=some x5) hce5 (Below.refl _ _) hci4.low.size
    exact⟨(KeepsAbove.of_below hb5z).setCell (p:=⟨w.heap.size+1,0,none⟩) hlt3 _,rfl,x5,HSOM1.out hI1.2 ho5,cx_made hci5 hce7⟩
  | br kk qp ee =>
   obtain⟨bp,u2,cs2,rfl,hokp,hbp,c0,c1,hsl2,hrw2⟩:=id hp
   obtain⟨ua2,un2,uc2,rfl⟩:=hsl2.form
   have HSL2:=hide hsl2
   have HRW2:=hide hrw2
   clear hp hsl2 hrw2
   cases kk with
   | opt =>
    simp only[tyOf]at *
    have z0:=hI1.1.b0
    have z1:=hI1.1.b1
    have z2:=hI1.1.b2
    gi_wp2_with (first
     | ((try refine⟨hdd _,?_⟩);gi_at_call 116;refine(callsIn_wide.2 (HAW.out _ hI1.1.low hVb)).mono ?_;rintro r4 W4 ⟨va4,rfl,hms4,hwh4,hb4⟩;obtain⟨b4,rfl,hs4⟩:=aft_blk hms4 hwh4;have hci4:=hI1.1.onward hb4;have y0:=hci4.b0;have y1:=hci4.b1;have y2:=hci4.b2)
     | ((try refine⟨hdd _,?_⟩);gi_at_call 135;refine(callsIn_wide.2 (HCP.out _ hci4.low b4 hs4 (SetOf.below hVb hb4))).mono ?_;rintro r5 W5 ⟨v5,rfl,hb5,hce5⟩;have hci5:=hci4.onward hb5;have hb5z:=Below.all hb4 hb5;have rs5:=hci5.res;have fz5:=hci5.fz;rcases hce5.form with ⟨ho5,rfl⟩ | ⟨x5,e5,ho5,rfl⟩))
    ·have hdr:Below W5.heap.size W5 W5.drew:=(Below.refl _ _).drew
     have g0:W5.drew.cell? ⟨bp,0,none⟩=some (.int .i64 (qp:Int)):=(hci5.low.cell (p:=⟨bp,0,none⟩) hbp).trans c0
     have g1:W5.drew.cell? ⟨bp,1,none⟩=some (.slice ua2 un2 uc2):=(hci5.low.cell (p:=⟨bp,1,none⟩) hbp).trans c1
     refine round_held (S:=fun W=>W.cell? ⟨w.heap.size,0,none⟩=some (.map (some eb))∧W.cell? ⟨w.heap.size,1,none⟩=some (.map (some fb))∧W.cell? ⟨w.heap.size,2,none⟩=some (.map ao)) (by kernel_rfl) (by kernel_rfl) (fun h=>by obtain⟨_,_,h⟩:=h;exact h) ⟨hci5.b0,hci5.b1,hci5.b2⟩ ?_
     intro hHeld
     refine wpAnyH_take (i:=0) (oi:=?o0opt) (v:=?v0opt) ?i0opt (by kernel_rfl) (by kernel_rfl) (by kernel_rfl) (fun _ _ _ h=>h) (Or.inl ⟨?w0opt,?y0opt⟩) hHeld ?_
     case i0opt=>(simp only[List.getElem?_toArray,List.getElem?_cons_zero];rfl)
     case w0opt=>rfl
     case y0opt=>(intro W hSW;obtain⟨q0,q1,q2⟩:=hSW;go_simp;(try with_reducible rfl))
     simp only[Act.put,pu3]
     refine wpAnyH_take (i:=1) (oi:=?o1opt) (v:=?v1opt) ?i1opt (by kernel_rfl) (by kernel_rfl) (by kernel_rfl) (fun _ _ _ h=>h) (Or.inl ⟨?w1opt,?y1opt⟩) hHeld ?_
     case i1opt=>(simp only[gc3];rfl)
     case w1opt=>rfl
     case y1opt=>(intro W hSW;obtain⟨q0,q1,q2⟩:=hSW;go_simp;(try with_reducible rfl))
     simp only[Act.put,pu3]
     refine wpAnyH_take (i:=3) (oi:=?o3opt) (v:=?v3opt) ?i3opt (by kernel_rfl) (by kernel_rfl) (by kernel_rfl) (fun _ _ _ h=>h) (Or.inl ⟨?w3opt,?y3opt⟩) hHeld ?_
     case i3opt=>(simp only[gc3];rfl)
     case w3opt=>rfl
     case y3opt=>(intro W hSW;obtain⟨q0,q1,q2⟩:=hSW;go_simp;(try with_reducible rfl))
     simp only[Act.put,pu3]
     refine wpAnyH_ready (rs:=[2]) (by kernel_rfl) (by simp) ?_
     refine AllReadyH.cons (o:=?o2opt) ?i2opt (fun K hK=>?c2opt) AllReadyH.nil
     case i2opt=>(simp only[gc3];rfl)
     case c2opt =>
      go_simp
      rw[m_opt bp _ _ (by kernel_rfl) qp ua2 un2 uc2 g0 g1]
      go_simp
      go_at_call 202
      refine(bracket_within _ qp ua2 un2 uc2).mono ?_
      rintro r6 W6a ⟨rfl,hb6b⟩
      have hb6a:=Below.all hdr hb6b
      have hci6a:=hci5.onward hb6a
      refine hK.out _ _ ⟨hci6a.b0,hci6a.b1,hci6a.b2⟩ (fun hHeld2=>?_)
      clear hK K
      have hHeld:=hHeld2
      try simp only[Act.put,pu3]
      refine wpAnyH_ready (rs:=[4]) (by kernel_rfl) (by simp) ?_
      refine AllReadyH.cons (o:=?o4opt) ?i4opt (fun K hK=>?c4opt) AllReadyH.nil
      case i4opt=>(simp only[gc3];rfl)
      case c4opt =>
       go_simp
       go_at_call 81
       refine(HIH.out _ hci6a.low (.slice ua2 un2 uc2) cs2 HSL2.out HRW2.out b4 (hs4.below (Below.all hb5 hb6a))).mono ?_
       rintro r7 W6 ⟨v6,rfl,hb7,hce6⟩
       have hb6z:=Below.all (Below.all hb5z hb6a) hb7
       have hci6:=hci6a.onward hb7
       have hce6:=CErr.below hce6 (Below.refl _ _) (Nat.le_trans hci5.low.size hb6a.size)
       refine hK.out _ _ ⟨hci6.b0,hci6.b1,hci6.b2⟩ (fun hHeld2=>?_)
       clear hK K
       have hHeld:=hHeld2
       try simp only[Act.put,pu3]
       refine wpAnyH_take (i:=5) (oi:=?o5opt) (v:=?v5opt) ?i5opt (by kernel_rfl) (by kernel_rfl) (by kernel_rfl) (fun _ _ _ h=>h) (Or.inl ⟨?w5opt,?y5opt⟩) hHeld ?_
       case i5opt=>(simp only[gc3];rfl)
       case w5opt=>rfl
       case y5opt=>(intro W hSW;obtain⟨q0,q1,q2⟩:=hSW;go_simp;(try with_reducible rfl))
       simp only[Act.put,pu3]
       refine wpAnyH_done (by kernel_rfl) ?_ _
       rcases hce6.form with ⟨ho6,rfl⟩ | ⟨x6,e6,ho6,rfl⟩
       ·gi_wp2
        exact⟨.of_below hb6z,(),hci6,fun z hz=>by
         rcases List.mem_append.1 hz with hz | hz
         ·exact hI1.2 z hz
         ·simp at hz;subst hz;exact HNONE.out ho5 ho6⟩
       ·have rs6:=hci6.res
        have fz6:=hci6.fz
        gi_wp2
        have hce7:ClashErr w.heap.size W6 (.iface 105 (.pointer (some ⟨e6,0,none⟩))) x6.1 x6.2:=by
         rw[ho6]at hce6
         exact hce6
        exact⟨(KeepsAbove.of_below hb6z).setCell (p:=⟨w.heap.size+1,0,none⟩) hlt3 _,rfl,x6,HSOME.out hI1.2 ho5 ho6,cx_made hci6 hce7⟩
    ·have hce7:ClashErr w.heap.size W5 (.iface 105 (.pointer (some ⟨e5,0,none⟩))) x5.1 x5.2:=by
      rw[ho5]at hce5
      exact CErr.below (o:=some x5) hce5 (Below.refl _ _) hci4.low.size
     exact⟨(KeepsAbove.of_below hb5z).setCell (p:=⟨w.heap.size+1,0,none⟩) hlt3 _,rfl,x5,HSOM1.out hI1.2 ho5,cx_made hci5 hce7⟩
   | loop =>
    simp only[tyOf]at *
    have z0:=hI1.1.b0
    have z1:=hI1.1.b1
    have z2:=hI1.1.b2
    gi_wp2_with (first
     | ((try refine⟨hdd _,?_⟩);gi_at_call 116;refine(callsIn_wide.2 (HAW.out _ hI1.1.low hVb)).mono ?_;rintro r4 W4 ⟨va4,rfl,hms4,hwh4,hb4⟩;obtain⟨b4,rfl,hs4⟩:=aft_blk hms4 hwh4;have hci4:=hI1.1.onward hb4;have y0:=hci4.b0;have y1:=hci4.b1;have y2:=hci4.b2)
     | ((try refine⟨hdd _,?_⟩);gi_at_call 135;refine(callsIn_wide.2 (HCP.out _ hci4.low b4 hs4 (SetOf.below hVb hb4))).mono ?_;rintro r5 W5 ⟨v5,rfl,hb5,hce5⟩;have hci5:=hci4.onward hb5;have hb5z:=Below.all hb4 hb5;have rs5:=hci5.res;have fz5:=hci5.fz;rcases hce5.form with ⟨ho5,rfl⟩ | ⟨x5,e5,ho5,rfl⟩))
    ·have hdr:Below W5.heap.size W5 W5.drew:=(Below.refl _ _).drew
     have g0:W5.drew.cell? ⟨bp,0,none⟩=some (.int .i64 (qp:Int)):=(hci5.low.cell (p:=⟨bp,0,none⟩) hbp).trans c0
     have g1:W5.drew.cell? ⟨bp,1,none⟩=some (.slice ua2 un2 uc2):=(hci5.low.cell (p:=⟨bp,1,none⟩) hbp).trans c1
     refine round_held (S:=fun W=>W.cell? ⟨w.heap.size,0,none⟩=some (.map (some eb))∧W.cell? ⟨w.heap.size,1,none⟩=some (.map (some fb))∧W.cell? ⟨w.heap.size,2,none⟩=some (.map ao)) (by kernel_rfl) (by kernel_rfl) (fun h=>by obtain⟨_,_,h⟩:=h;exact h) ⟨hci5.b0,hci5.b1,hci5.b2⟩ ?_
     intro hHeld
     refine wpAnyH_take (i:=0) (oi:=?o0loop) (v:=?v0loop) ?i0loop (by kernel_rfl) (by kernel_rfl) (by kernel_rfl) (fun _ _ _ h=>h) (Or.inl ⟨?w0loop,?y0loop⟩) hHeld ?_
     case i0loop=>(simp only[List.getElem?_toArray,List.getElem?_cons_zero];rfl)
     case w0loop=>rfl
     case y0loop=>(intro W hSW;obtain⟨q0,q1,q2⟩:=hSW;go_simp;(try with_reducible rfl))
     simp only[Act.put,pu3]
     refine wpAnyH_take (i:=1) (oi:=?o1loop) (v:=?v1loop) ?i1loop (by kernel_rfl) (by kernel_rfl) (by kernel_rfl) (fun _ _ _ h=>h) (Or.inl ⟨?w1loop,?y1loop⟩) hHeld ?_
     case i1loop=>(simp only[gc3];rfl)
     case w1loop=>rfl
     case y1loop=>(intro W hSW;obtain⟨q0,q1,q2⟩:=hSW;go_simp;(try with_reducible rfl))
     simp only[Act.put,pu3]
     refine wpAnyH_take (i:=3) (oi:=?o3loop) (v:=?v3loop) ?i3loop (by kernel_rfl) (by kernel_rfl) (by kernel_rfl) (fun _ _ _ h=>h) (Or.inl ⟨?w3loop,?y3loop⟩) hHeld ?_
     case i3loop=>(simp only[gc3];rfl)
     case w3loop=>rfl
     case y3loop=>(intro W hSW;obtain⟨q0,q1,q2⟩:=hSW;go_simp;(try with_reducible rfl))
     simp only[Act.put,pu3]
     refine wpAnyH_ready (rs:=[2]) (by kernel_rfl) (by simp) ?_
     refine AllReadyH.cons (o:=?o2loop) ?i2loop (fun K hK=>?c2loop) AllReadyH.nil
     case i2loop=>(simp only[gc3];rfl)
     case c2loop =>
      go_simp
      rw[m_loop bp _ _ (by kernel_rfl) qp ua2 un2 uc2 g0 g1]
      go_simp
      go_at_call 202
      refine(bracket_within _ qp ua2 un2 uc2).mono ?_
      rintro r6 W6a ⟨rfl,hb6b⟩
      have hb6a:=Below.all hdr hb6b
      have hci6a:=hci5.onward hb6a
      refine hK.out _ _ ⟨hci6a.b0,hci6a.b1,hci6a.b2⟩ (fun hHeld2=>?_)
      clear hK K
      have hHeld:=hHeld2
      try simp only[Act.put,pu3]
      refine wpAnyH_ready (rs:=[4]) (by kernel_rfl) (by simp) ?_
      refine AllReadyH.cons (o:=?o4loop) ?i4loop (fun K hK=>?c4loop) AllReadyH.nil
      case i4loop=>(simp only[gc3];rfl)
      case c4loop =>
       go_simp
       go_at_call 81
       refine(HIH.out _ hci6a.low (.slice ua2 un2 uc2) cs2 HSL2.out HRW2.out b4 (hs4.below (Below.all hb5 hb6a))).mono ?_
       rintro r7 W6 ⟨v6,rfl,hb7,hce6⟩
       have hb6z:=Below.all (Below.all hb5z hb6a) hb7
       have hci6:=hci6a.onward hb7
       have hce6:=CErr.below hce6 (Below.refl _ _) (Nat.le_trans hci5.low.size hb6a.size)
       refine hK.out _ _ ⟨hci6.b0,hci6.b1,hci6.b2⟩ (fun hHeld2=>?_)
       clear hK K
       have hHeld:=hHeld2
       try simp only[Act.put,pu3]
       refine wpAnyH_take (i:=5) (oi:=?o5loop) (v:=?v5loop) ?i5loop (by kernel_rfl) (by kernel_rfl) (by kernel_rfl) (fun _ _ _ h=>h) (Or.inl ⟨?w5loop,?y5loop⟩) hHeld ?_
       case i5loop=>(simp only[gc3];rfl)
       case w5loop=>rfl
       case y5loop=>(intro W hSW;obtain⟨q0,q1,q2⟩:=hSW;go_simp;(try with_reducible rfl))
       simp only[Act.put,pu3]
       refine wpAnyH_done (by kernel_rfl) ?_ _
       rcases hce6.form with ⟨ho6,rfl⟩ | ⟨x6,e6,ho6,rfl⟩
       ·gi_wp2
        exact⟨.of_below hb6z,(),hci6,fun z hz=>by
         rcases List.mem_append.1 hz with hz | hz
         ·exact hI1.2 z hz
         ·simp at hz;subst hz;exact HNONE.out ho5 ho6⟩
       ·have rs6:=hci6.res
        have fz6:=hci6.fz
        gi_wp2
        have hce7:ClashErr w.heap.size W6 (.iface 105 (.pointer (some ⟨e6,0,none⟩))) x6.1 x6.2:=by
         rw[ho6]at hce6
         exact hce6
        exact⟨(KeepsAbove.of_below hb6z).setCell (p:=⟨w.heap.size+1,0,none⟩) hlt3 _,rfl,x6,HSOME.out hI1.2 ho5 ho6,cx_made hci6 hce7⟩
    ·have hce7:ClashErr w.heap.size W5 (.iface 105 (.pointer (some ⟨e5,0,none⟩))) x5.1 x5.2:=by
      rw[ho5]at hce5
      exact CErr.below (o:=some x5) hce5 (Below.refl _ _) hci4.low.size
     exact⟨(KeepsAbove.of_below hb5z).setCell (p:=⟨w.heap.size+1,0,none⟩) hlt3 _,rfl,x5,HSOM1.out hI1.2 ho5,cx_made hci5 hce7⟩
   | grp =>
    simp only[tyOf]at *
    have z0:=hI1.1.b0
    have z1:=hI1.1.b1
    have z2:=hI1.1.b2
    gi_wp2_with (first
     | ((try refine⟨hdd _,?_⟩);gi_at_call 116;refine(callsIn_wide.2 (HAW.out _ hI1.1.low hVb)).mono ?_;rintro r4 W4 ⟨va4,rfl,hms4,hwh4,hb4⟩;obtain⟨b4,rfl,hs4⟩:=aft_blk hms4 hwh4;have hci4:=hI1.1.onward hb4;have y0:=hci4.b0;have y1:=hci4.b1;have y2:=hci4.b2)
     | ((try refine⟨hdd _,?_⟩);gi_at_call 135;refine(callsIn_wide.2 (HCP.out _ hci4.low b4 hs4 (SetOf.below hVb hb4))).mono ?_;rintro r5 W5 ⟨v5,rfl,hb5,hce5⟩;have hci5:=hci4.onward hb5;have hb5z:=Below.all hb4 hb5;have rs5:=hci5.res;have fz5:=hci5.fz;rcases hce5.form with ⟨ho5,rfl⟩ | ⟨x5,e5,ho5,rfl⟩))
    ·have hdr:Below W5.heap.size W5 W5.drew:=(Below.refl _ _).drew
     have g0:W5.drew.cell? ⟨bp,0,none⟩=some (.int .i64 (qp:Int)):=(hci5.low.cell (p:=⟨bp,0,none⟩) hbp).trans c0
     have g1:W5.drew.cell? ⟨bp,1,none⟩=some (.slice ua2 un2 uc2):=(hci5.low.cell (p:=⟨bp,1,none⟩) hbp).trans c1
     refine round_held (S:=fun W=>W.cell? ⟨w.heap.size,0,none⟩=some (.map (some eb))∧W.cell? ⟨w.heap.size,1,none⟩=some (.map (some fb))∧W.cell? ⟨w.heap.size,2,none⟩=some (.map ao)) (by kernel_rfl) (by kernel_rfl) (fun h=>by obtain⟨_,_,h⟩:=h;exact h) ⟨hci5.b0,hci5.b1,hci5.b2⟩ ?_
     intro hHeld
     refine wpAnyH_take (i:=0) (oi:=?o0grp) (v:=?v0grp) ?i0grp (by kernel_rfl) (by kernel_rfl) (by kernel_rfl) (fun _ _ _ h=>h) (Or.inl ⟨?w0grp,?y0grp⟩) hHeld ?_
     case i0grp=>(simp only[List.getElem?_toArray,List.getElem?_cons_zero];rfl)
     case w0grp=>rfl
     case y0grp=>(intro W hSW;obtain⟨q0,q1,q2⟩:=hSW;go_simp;(try with_reducible rfl))
     simp only[Act.put,pu3]
     refine wpAnyH_take (i:=1) (oi:=?o1grp) (v:=?v1grp) ?i1grp (by kernel_rfl) (by kernel_rfl) (by kernel_rfl) (fun _ _ _ h=>h) (Or.inl ⟨?w1grp,?y1grp⟩) hHeld ?_
     case i1grp=>(simp only[gc3];rfl)
     case w1grp=>rfl
     case y1grp=>(intro W hSW;obtain⟨q0,q1,q2⟩:=hSW;go_simp;(try with_reducible rfl))
     simp only[Act.put,pu3]
     refine wpAnyH_take (i:=3) (oi:=?o3grp) (v:=?v3grp) ?i3grp (by kernel_rfl) (by kernel_rfl) (by kernel_rfl) (fun _ _ _ h=>h) (Or.inl ⟨?w3grp,?y3grp⟩) hHeld ?_
     case i3grp=>(simp only[gc3];rfl)
     case w3grp=>rfl
     case y3grp=>(intro W hSW;obtain⟨q0,q1,q2⟩:=hSW;go_simp;(try with_reducible rfl))
     simp only[Act.put,pu3]
     refine wpAnyH_ready (rs:=[2]) (by kernel_rfl) (by simp) ?_
     refine AllReadyH.cons (o:=?o2grp) ?i2grp (fun K hK=>?c2grp) AllReadyH.nil
     case i2grp=>(simp only[gc3];rfl)
     case c2grp =>
      go_simp
      rw[m_grp bp _ _ (by kernel_rfl) qp ua2 un2 uc2 g0 g1]
      go_simp
      go_at_call 202
      refine(bracket_within _ qp ua2 un2 uc2).mono ?_
      rintro r6 W6a ⟨rfl,hb6b⟩
      have hb6a:=Below.all hdr hb6b
      have hci6a:=hci5.onward hb6a
      refine hK.out _ _ ⟨hci6a.b0,hci6a.b1,hci6a.b2⟩ (fun hHeld2=>?_)
      clear hK K
      have hHeld:=hHeld2
      try simp only[Act.put,pu3]
      refine wpAnyH_ready (rs:=[4]) (by kernel_rfl) (by simp) ?_
      refine AllReadyH.cons (o:=?o4grp) ?i4grp (fun K hK=>?c4grp) AllReadyH.nil
      case i4grp=>(simp only[gc3];rfl)
      case c4grp =>
       go_simp
       go_at_call 81
       refine(HIH.out _ hci6a.low (.slice ua2 un2 uc2) cs2 HSL2.out HRW2.out b4 (hs4.below (Below.all hb5 hb6a))).mono ?_
       rintro r7 W6 ⟨v6,rfl,hb7,hce6⟩
       have hb6z:=Below.all (Below.all hb5z hb6a) hb7
       have hci6:=hci6a.onward hb7
       have hce6:=CErr.below hce6 (Below.refl _ _) (Nat.le_trans hci5.low.size hb6a.size)
       refine hK.out _ _ ⟨hci6.b0,hci6.b1,hci6.b2⟩ (fun hHeld2=>?_)
       clear hK K
       have hHeld:=hHeld2
       try simp only[Act.put,pu3]
       refine wpAnyH_take (i:=5) (oi:=?o5grp) (v:=?v5grp) ?i5grp (by kernel_rfl) (by kernel_rfl) (by kernel_rfl) (fun _ _ _ h=>h) (Or.inl ⟨?w5grp,?y5grp⟩) hHeld ?_
       case i5grp=>(simp only[gc3];rfl)
       case w5grp=>rfl
       case y5grp=>(intro W hSW;obtain⟨q0,q1,q2⟩:=hSW;go_simp;(try with_reducible rfl))
       simp only[Act.put,pu3]
       refine wpAnyH_done (by kernel_rfl) ?_ _
       rcases hce6.form with ⟨ho6,rfl⟩ | ⟨x6,e6,ho6,rfl⟩
       ·gi_wp2
        exact⟨.of_below hb6z,(),hci6,fun z hz=>by
         rcases List.mem_append.1 hz with hz | hz
         ·exact hI1.2 z hz
         ·simp at hz;subst hz;exact HNONE.out ho5 ho6⟩
       ·have rs6:=hci6.res
        have fz6:=hci6.fz
        gi_wp2
        have hce7:ClashErr w.heap.size W6 (.iface 105 (.pointer (some ⟨e6,0,none⟩))) x6.1 x6.2:=by
         rw[ho6]at hce6
         exact hce6
        exact⟨(KeepsAbove.of_below hb6z).setCell (p:=⟨w.heap.size+1,0,none⟩) hlt3 _,rfl,x6,HSOME.out hI1.2 ho5 ho6,cx_made hci6 hce7⟩
    ·have hce7:ClashErr w.heap.size W5 (.iface 105 (.pointer (some ⟨e5,0,none⟩))) x5.1 x5.2:=by
      rw[ho5]at hce5
      exact CErr.below (o:=some x5) hce5 (Below.refl _ _) hci4.low.size
     exact⟨(KeepsAbove.of_below hb5z).setCell (p:=⟨w.heap.size+1,0,none⟩) hlt3 _,rfl,x5,HSOM1.out hI1.2 ho5,cx_made hci5 hce7⟩
 case done =>
  intro D s' W1 hD hI1 hdd
  have rs:=hI1.1.res
  have fz:=hI1.1.fz
  gi_wp2
  have hci:=hI1.1
  have hst:Below w.heap.size w (W1.setCell ⟨w.heap.size+1,0,none⟩ .nilIface):=hci.low.setCell (p:=⟨w.heap.size+1,0,none⟩) (Nat.le_succ _) _
  refine leaves_marks (S:=w3.heap.size) [D] _ ⟨by simp,fun E hE=>?_⟩ ?_
  ·simp at hE
   subst hE
   exact⟨hD,(Below.heap_setCell _ _ _ _ (show E≠w.heap.size+1 by omega)).trans hdd⟩
  ·intro W' hq
   refine⟨.nilIface,results_cell rfl rfl (load_error (hq.cell (by simp[go_sem,rs]))),.nilIface,rfl,hq.below hst (by omega) hst.size,?_⟩
   rw[HPL.out,clash_flat_none hI1.2]
   rfl
 case stop =>
  intro D cd pre W1 hD ⟨hcd,x,hx,hcx⟩ hdd
  subst hcd
  gi_wp2
  refine leaves_marks (S:=w3.heap.size) [D] _ ⟨by simp,fun E hE=>?_⟩ ?_
  ·simp at hE
   subst hE
   exact⟨hD,hdd⟩
  ·intro W' hq
   have hcx':=hcx.quiet hq (by omega)
   obtain⟨v,hv,hce⟩:=hcx'.res
   refine⟨v,results_cell rfl rfl (load_error hv),v,rfl,hcx'.low,?_⟩
   rw[hx]
   exact hce
end Go.Proofs.YtpcmemcanpgadaaGreatDoor
