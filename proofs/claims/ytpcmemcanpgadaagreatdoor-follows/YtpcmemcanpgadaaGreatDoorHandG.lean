import Derived.Test.YtpcmemcanpgadaaGreatDoorPureR
import Derived.Test.YtpcmemcanpgadaaGreatDoorHandB
import Derived.Deep.RegionHeld
set_option maxHeartbeats 8000000
set_option maxRecDepth 100000
namespace Go
open Go.RowKit
theorem round_held {l m:Nat} {P:Program} {id:Nat} {Q:Exit→Act→World→Prop} {a:Act} {w:World} {ops:Array Oper} (S:World→Prop) (hm:P.follows .mixedOrders=true) (hd:noDefer ops=true) (hq:¬LetsOut Q)
  (hS:S w.drew) (h:S w.drew→wpAnyH P .any ops Q S ops.size (Array.replicate ops.size false) a w.drew):(Code.region id ops true).wpIn (Fence.wide.inRound l) m P Q a w :=
 wpIn_region_any hm (wpAnyIn_of_wpAny hd hq _ _ _ _ (wpAny_of_held _ _ _ _ (h hS)))
end Go
namespace Go.Proofs.YtpcmemcanpgadaaGreatDoor
open PredP (hide Str Rule bs)
open Go.RowKit Go.Maps Go.Shelf
attribute [local go_sem] Oper.semAt_some
structure Bxs (S:KS) (B:Nat) (v va:Value) (W:World):Prop where
 s0:W.cell? ⟨B,0,none⟩=some (.map (some S.eb))
 s1:W.cell? ⟨B,1,none⟩=some (.map (some S.fb))
 s2:W.cell? ⟨B,2,none⟩=some (.map (some S.ab))
 pc:W.cell? ⟨B+1,0,none⟩=some v
 ac:W.cell? ⟨B+1+1,0,none⟩=some va
theorem Bxs.quiet {S:KS} {B:Nat} {v va:Value} {W W':World} {N:Nat} (h:Bxs S B v va W) (hq:Quiet N W W'):Bxs S B v va W':=⟨hq.cell h.s0,hq.cell h.s1,hq.cell h.s2,hq.cell h.pc,hq.cell h.ac⟩
theorem Bxs.butA {S:KS} {B:Nat} {v va:Value} {w W W':World} (h:Bxs S B v va W) (hb:ButA S W W') (hw:Ahead S w) (hB:w.heap.size≤B):Bxs S B v va W' :=
 have hn:∀j,B≤j→j∉S.fa.map (·.2):=fun j hj hm=>by have:=hw j hm;omega
 ⟨hb.cellAt h.s0 (hn _ (Nat.le_refl _)),hb.cellAt h.s1 (hn _ (Nat.le_refl _)),hb.cellAt h.s2 (hn _ (Nat.le_refl _)),hb.cellAt h.pc (hn _ (by omega)),hb.cellAt h.ac (hn _ (by omega))⟩
structure HI (S:KS) (c:Words) (Bd:Str→Str→Bool) (w:World) (d s:Words) (Ds:List Nat) (B:Nat) (v va:Value) (Ad:Str→Bool) (pre:List Tl) (s':Words) (W:World):Prop where
 hb:HB S c Bd w d s' Ds W
 le:Le s s'
 bx:Bxs S B v va W
 seen:∀x,x∈pre→∀n y,PredP.occP y (Fof c y) S.l0.contains n (PredP.telR y (Fof c y) S.l0.contains (Ad y) x.2.1) x.1=true→y∈s' n
theorem HI.quiet {S:KS} {c:Words} {Bd:Str→Str→Bool} {w:World} {d s:Words} {Ds:List Nat} {B:Nat} {v va:Value} {Ad:Str→Bool} {pre:List Tl} {s':Words} {W W':World} {N:Nat} (h:HI S c Bd w d s Ds B v va Ad pre s' W) (hq:Quiet N W W') (hN:w.heap.size≤N) (hw:S.w0.heap.size≤w.heap.size) (hD:∀D∈Ds,D<N):HI S c Bd w d s Ds B v va Ad pre s' W' :=
 ⟨h.hb.quiet hq hN hw hD,h.le,h.bx.quiet hq,h.seen⟩
theorem HI.step {S:KS} {c:Words} {Bd:Str→Str→Bool} {w:World} {d s:Words} {Ds:List Nat} {B:Nat} {v va:Value} {Ad:Str→Bool} {pre:List Tl} {s' s2:Words} {W W':World} (h:HI S c Bd w d s Ds B v va Ad pre s' W) (hw:Ahead S w) (hB:w.heap.size≤B) (hb:ButA S W W') (hk:Kn S c s2 W') (hbd:Bnd s2 Bd) (hle:Le s' s2) {x:Tl}
  (hx:∀n y,PredP.occP y (Fof c y) S.l0.contains n (PredP.telR y (Fof c y) S.l0.contains (Ad y) x.2.1) x.1=true→y∈s2 n):HI S c Bd w d s Ds B v va Ad (pre++[x]) s2 W' :=
 ⟨h.hb.through hw hb hk hbd hle,h.le.trans hle,h.bx.butA hb hw hB,fun z hz n y hy=>by
  rcases List.mem_append.1 hz with hz | hz
  ·exact hle n y (h.seen z hz n y hy)
  ·simp at hz;subst hz;exact hx n y hy⟩
theorem within_size (p:PredP.Part):SizeOf.sizeOf (withinE p)≤SizeOf.sizeOf p:=by
 cases p<;>simp[withinE]
 omega
theorem within_names (p:PredP.Part):∀x,x∈PredP.namesE (withinE p)→x∈PredP.namesP p:=by
 cases p<;>simp[withinE,PredP.namesE,PredP.namesP]
theorem within_words (p:PredP.Part):∀x,x∈PredP.wordsE (withinE p)→x∈PredP.wordsP p:=by
 cases p<;>simp[withinE,PredP.wordsE,PredP.wordsP]
theorem aft_some {S:KS} {w W:World} {v:Value} {g:Str→Bool} {b M:Nat} (h:MaySet S.U W v g) (hwh:v=.map (some b)∨∃b',v=.map (some b')∧M≤b') (hbn:b∉S.fa.map (·.2)) (hah:Ahead S w) (hM:w.heap.size≤M):∃b4,v=.map (some b4)∧SetOf S.U W b4 g∧b4∉S.fa.map (·.2):=by
 rcases h with ⟨h1,_⟩ | ⟨b4,h1,h2⟩
 ·rcases hwh with h | ⟨b',h,_⟩<;>(rw[h1]at h;cases h)
 ·refine⟨b4,h1,h2,?_⟩
  rcases hwh with h | ⟨b',h,hb⟩
  ·rw[h1]at h;cases h;exact hbn
  ·rw[h1]at h;cases h
   exact fun hm=>by have:=hah _ hm;omega
theorem shape_low {w0 W:World} (h:Below w0.heap.size w0 W) {b:Nat} (hb:b<w0.heap.size) {x:Nat×Nat} (hs:w0.shape? b=some x):W.drew.shape? b=some x:=by
 unfold World.shape? at *
 have:W.drew.heap[b]?=w0.heap[b]?:=h.block b hb
 rw[this];exact hs
theorem bxs_made {S:KS} (w:World) (o:Obj) (v va:Value) (t1 t2 t3:Nat):Bxs S (w.heap.size+1) v va ((((w.alloc o).alloc (.cells #[.map (some S.eb),.map (some S.fb),.map (some S.ab)] t1)).alloc (.cells #[v] t2)).alloc (.cells #[va] t3)):=by
 have e1:(w.alloc o).heap.size=w.heap.size+1:=by simp
 generalize w.alloc o=w1 at e1
 have e2:(w1.alloc (.cells #[.map (some S.eb),.map (some S.fb),.map (some S.ab)] t1)).heap.size=w.heap.size+1+1:=by simp[e1]
 have c0:∀j u,(#[Value.map (some S.eb),.map (some S.fb),.map (some S.ab)]:Array Value)[j]?=some u→(w1.alloc (.cells #[.map (some S.eb),.map (some S.fb),.map (some S.ab)] t1)).cell? ⟨w.heap.size+1,j,none⟩=some u:=fun j u h=>by rw[←e1];exact cell_fresh h
 generalize w1.alloc (.cells #[.map (some S.eb),.map (some S.fb),.map (some S.ab)] t1)=w2 at e2 c0
 have e3:(w2.alloc (.cells #[v] t2)).heap.size=w.heap.size+1+1+1:=by simp[e2]
 have c1:(w2.alloc (.cells #[v] t2)).cell? ⟨w.heap.size+1+1,0,none⟩=some v:=by rw[←e2];exact cell_fresh rfl
 have b3:Below w2.heap.size w2 (w2.alloc (.cells #[v] t2)):=(Below.refl _ _).alloc (Nat.le_refl _) _
 generalize w2.alloc (.cells #[v] t2)=w3 at e3 c1 b3
 have b4:Below w3.heap.size w3 (w3.alloc (.cells #[va] t3)):=(Below.refl _ _).alloc (Nat.le_refl _) _
 have c2:(w3.alloc (.cells #[va] t3)).cell? ⟨w.heap.size+1+1+1,0,none⟩=some va:=by rw[←e3];exact cell_fresh rfl
 have b5:=Below.all b3 b4
 have up:∀j u,(#[Value.map (some S.eb),.map (some S.fb),.map (some S.ab)]:Array Value)[j]?=some u→(w3.alloc (.cells #[va] t3)).cell? ⟨w.heap.size+1,j,none⟩=some u:=fun j u h=>(b5.cell (p:=⟨w.heap.size+1,j,none⟩) (bltc (c0 j u h))).trans (c0 j u h)
 exact⟨up 0 _ rfl,up 1 _ rfl,up 2 _ rfl,(b4.cell (p:=⟨w.heap.size+1+1,0,none⟩) (bltc c1)).trans c1,c2⟩
theorem hand_seen {c:Words} {l0:List Str} {rest:PredP.Parts} {p:PredP.Part} {Ad As:Str→Bool} {d5:Words} (hm:∀y,Ad y=true→As y=true)
  (hoc:∀n x,PredP.occE x (Fof c x) l0.contains n (withinP (Fof c) l0 (fun y=>PredP.telR y (Fof c y) l0.contains (As y) rest) p x) (withinE p)=true→x∈d5 n)
  (hname:∀n q,p=.name n q→∀y,PredP.telR y (Fof c y) l0.contains (As y) rest=true→y∈d5 n) :
  ∀n y,PredP.occP y (Fof c y) l0.contains n (PredP.telR y (Fof c y) l0.contains (Ad y) rest) p=true→y∈d5 n:=fun n y h=>by
 have h1:=PredP.occP_mono y (Fof c y) l0.contains n (fun h=>PredP.telR_mono y (Fof c y) l0.contains (hm y) rest h) p h
 rcases occ_part (F:=Fof c) (l0:=l0) (A:=fun y=>PredP.telR y (Fof c y) l0.contains (As y) rest) h1 with ⟨q,hp,hb⟩ | h2
 ·exact hname n q hp y hb
 ·exact hoc n y h2
theorem telR_le {x:Str} {f k:Str→Bool} {b b':Bool} (h:b=true→b'=true) {ps:PredP.Parts}:PredP.telR x f k b ps=true→PredP.telR x f k b' ps=true:=PredP.telR_mono x f k h ps
theorem handOn_any (S:KS) (hA:Apart S) (c:Words) (Bd:Str→Str→Bool) (e:PredP.Rows) (IH:Hid (∀e':PredP.Rows,SizeOf.sizeOf e'<SizeOf.sizeOf e→HandE S c Bd e')):HandE S c Bd e:=by
 intro ok w v cs vb A d hkn hbd hsl hrows hnm hwd harg
 have hw0:S.w0.heap.size≤w.heap.size:=hkn.low.size
 have hah:=hkn.ahead
 have HMade:=hide (fun t=>HB.made hkn hbd t)
 refine(callsIn_wide (n:=0)).1 ?_
 refine callsIn_of_wp_marks Tryz.func80 rfl trivial ?_ rfl
 rw[wpIn_wide]
 simp only[Tryz.ntmps80,List.size_toArray,List.length_cons,List.length_nil,Nat.reduceAdd,Nat.reduceSub,Array.replicate_succ,Array.replicate_zero,List.push_toArray,List.append_toArray,List.nil_append,List.cons_append]
 have HA:=hide harg
 rcases hsl with ⟨rfl,rfl⟩ | ⟨g,m,cap,rfl,hn,hokg,hg,hcs,hcell⟩
 ·have he:e=.nil:=rowsAt.done (k:=0) (n:=0) (cs:=[]) hrows (by omega) rfl
  have HE:=hide he
  clear hrows hnm hwd harg he IH hkn hbd
  go_wp2_with fail
  refine wp_loop_rounds 1 ?_
  rw[rounds_succ]
  go_wp2_with fail
  have hm:=HMade.out 91
  refine leaves_marks (S:=w.heap.size+1) [] _ hm.mks ?_
  intro W' hq
  have h2:=hm.quiet hq (by omega) hw0 (fun D hD=>by simp at hD)
  exact⟨_,results_none rfl _ _ _,rfl,h2.but,d,h2.kn,h2.bd,.refl d,fun n x hx=>by rw[HE.out]at hx;simp[PredP.occE]at hx⟩
 ·have HC:=hide hcell
  have hrel0:HR S c ok e cs (A d) 0 e d:=⟨by simpa using hrows,fun n x hx=>.inr hx,fun n x b hx=>hx,Nat.le_refl _,hnm,hwd⟩
  have HREL:=hide hrel0
  clear hcell hrows hnm hwd harg hkn hrel0 hbd
  unfold maxLen at hn
  go_wp2_with fail
  refine(wpIn_wide (n:=0)).1 (wpIn_loop_marks [14,7,15,16,17,18,19,20,21,22,48] [] (fun vs Ds wr=>∃k:Nat,∃e' s x7 x15 x16 x17 x18 x19 x20 x21 x22 x48,vs=[.int .i64 k,x7,x15,x16,x17,x18,x19,x20,x21,x22,x48]∧k≤m∧HR S c ok e cs (A d) k e' s∧HB S c Bd w d s Ds wr)
   (fun a _=>m - (intOf (a.tmps.getD 14 undef)).toNat) [.int .i64 0,undef,undef,undef,undef,undef,undef,undef,undef,undef,undef] ⟨0,e,d,undef,undef,undef,undef,undef,undef,undef,undef,undef,undef,rfl,by omega,HREL.out,HMade.out _⟩ (by simp only[updN,updC,List.set_cons_succ,List.set_cons_zero]) ?_)
  rintro vs Ds wr ⟨k,e',s,x7,x15,x16,x17,x18,x19,x20,x21,x22,x48,rfl,hk,hR,hT⟩
  simp only[updN,updC,List.set_cons_succ,List.set_cons_zero]
  have hfn:∀f,Fence.wide.fn f:=fun _=>trivial
  have hdp:Fence.wide.depth=none:=rfl
  by_cases hk':k<m
  ·obtain⟨bar,r,e2,u,us,he,hc0,hc1,hu,hps,hrest⟩:=hR.rows.at hk' hcs
   subst he
   have k0:=sl_cell hg HC.out hT.kn.low hc0
   have k1:=sl_cell hg HC.out hT.kn.low hc1
   obtain⟨ua,un,uc,rfl⟩:=hu.form
   have hnmr:NamesIn S.f (PredP.namesR r):=fun x hx=>hR.names x (by rw[PredP.namesE];exact List.mem_append_left _ hx)
   have hwdr:WordsIn S.U (PredP.wordsR r):=fun x hx=>hR.words x (by rw[PredP.wordsE];exact List.mem_append_left _ hx)
   have hszr:SizeOf.sizeOf r<SizeOf.sizeOf e:=by have:=hR.size;simp at this;omega
   have hB0:∀o,Below wr.heap.size wr (wr.alloc o):=fun o=>(Below.refl _ _).alloc (Nat.le_refl _) o
   have b0:=fun o=>(hT.onward (hB0 o) hw0).b0
   have b1:=fun o=>(hT.onward (hB0 o) hw0).b1
   have b2:=fun o=>(hT.onward (hB0 o) hw0).b2
   have HIT:=hide (withAfter_iter (σ:=Words) S.U S.l0 hA.hU S.f (Fof c) S.eb S.fb (some S.ab) ok r us (.slice ua un uc) (.map (some vb)) (wr.heap.size+1) A hnmr hwdr)
   have HPS:=hide hps
   have HU:=hide hu
   clear hc0 hc1 hu hps
   gi_wp2_with ((try refine⟨hdd _,?_⟩);gi_at_call 115;refine(callsIn_wide.2 (withAfter_any _ S.eb S.fb (some S.ab) (some vb) ua un uc)).mono ?_;rintro e w1 ⟨rfl,rfl⟩)
   obtain⟨w3,hw3⟩:∃w3,(((wr.alloc (.cells #[.int .i64 (bar:Int),.slice ua un uc] 227)).alloc (.cells #[.map (some S.eb),.map (some S.fb),.map (some S.ab)] 91)).alloc (.cells #[.slice ua un uc] 225)).alloc (.cells #[.map (some vb)] 88)=w3:=⟨_,rfl⟩
   have hB3:Below wr.heap.size wr w3:=by rw[←hw3];exact((((Below.refl _ wr).alloc (Nat.le_refl _) _).alloc (by simp) _).alloc (by simp;omega) _).alloc (by simp;omega) _
   have hz3:w3.heap.size=wr.heap.size+4:=by rw[←hw3];simp
   have hbx3:Bxs S (wr.heap.size+1) (.slice ua un uc) (.map (some vb)) w3:=by
    rw[←hw3]
    exact bxs_made wr _ _ _ _ _ _
   have hT3:=hT.onward hB3 hw0
   rw[hw3]
   clear hw3 b0 b1 b2 k0 k1
   have hBw:w.heap.size≤wr.heap.size+1:=by have:=hT.but.size;omega
   have hlt3:w.heap.size≤w3.heap.size:=by omega
   refine range_by_slots (α:=Tl) (σ:=Words) (gf:=133) (lb:=#[.pointer (some ⟨wr.heap.size+1+1,0,none⟩),.pointer (some ⟨wr.heap.size+1,0,none⟩),.pointer (some ⟨wr.heap.size+1+1+1,0,none⟩)]) rfl (enters_of Tryz.func133 (by kernel_rfl) rfl) HIT.out (fun _ _=>rfl)
    (fun pre s' W1=>HI S c Bd w d s Ds (wr.heap.size+1) (.slice ua un uc) (.map (some vb)) (A d) pre s' W1) (fun _ _ _=>False) ?hok ?hI ?hIx ?hV s ?h0 [23,24,8,9] (fun x b=>[x.2.2,.map (some b),x.2.2,.map (some b)]) ?assign ?body ?done ?stop
   case hok=>exact fun pre s' W1 h=>⟨h.hb.kn.sts,.inr ⟨vb,rfl,HA.out.hold s' W1 h.hb.kn h.hb.but⟩,HU.out.below h.hb.kn.low,HPS.out.below h.hb.kn.low,h.bx.s0,h.bx.s1,h.bx.s2,h.bx.pc,h.bx.ac⟩
   case hI=>exact fun pre s' X Y h hq=>h.quiet hq hlt3 hw0 hT3.mks.lt
   case hIx=>exact fun cd pre X Y h hq=>h
   case hV=>exact fun x s' b X Y h hq=>SetOf.quiet h hq
   case h0=>exact⟨hT3,.refl s,hbx3,fun x hx=>by simp at hx⟩
   case assign =>
    intro l1 m1 x b W1 K hK
    have hK':=hide hK
    clear hK
    gi_wp2
    simp only[updN,updC,List.set_cons_succ,List.set_cons_zero]at hK'
    exact hK'.out
   case body =>
    intro l1 m1 pre x s' b W1 hI1 ⟨post,hsp⟩ hSb hVb
    simp only[updN,updC,List.set_cons_succ,List.set_cons_zero]
    obtain⟨p,rest,v⟩:=x
    obtain⟨hp,hszp,hnp,hwp,hocp⟩:=tails_mem r us HPS.out (p,rest,v) (by rw[hsp];simp)
    have hbn:b∉S.fa.map (·.2):=fun hm=>by have:=hah b hm;omega
    have hHA:=HA.out
    have hsnd:∀n y,PredP.occP y (Fof c y) S.l0.contains n (PredP.telR y (Fof c y) S.l0.contains (A s' y) rest) p=true→Bd y n=true:=fun n y h =>
     hHA.snd s' hI1.hb.bd n y (hR.sub n y _ (by rw[PredP.occE,Bool.or_eq_true];exact .inl (hocp y _ _ n _ h)))
    have hAm:∀y,A d y=true→A s' y=true:=fun y=>hHA.mono d s' y hI1.hb.le
    have hAW:∀W3,Below S.w0.heap.size S.w0 W3→Sts S.U S.l0 S.f (Fof c) S.eb S.fb W3→SetOf S.U W3 b (fun y=>PredP.telR y (Fof c y) S.l0.contains (A s' y) rest)→Calls Tryz.prog 116 #[.agg #[.map (some S.eb),.map (some S.fb),.map (some S.ab)],v,.map (some b)] W3 (AftPost S.U W3 (.map (some b)) (withinP (Fof c) S.l0 (fun y=>PredP.telR y (Fof c y) S.l0.contains (A s' y) rest) p)):=fun W3 h0 h1 h2 =>
     afterWithin_any S.U S.l0 hA.hU S.f (Fof c) S.eb S.fb (some S.ab) p ok W3 v (.map (some b)) _ h1 (hp.below h0) (fun x hx=>hnmr x (hnp x hx)) (fun x hx=>hwdr x (hwp x hx)) (.inr ⟨b,rfl,h2⟩)
    have hIH:∀W4 (sc:Words),Kn S c sc W4→Bnd sc Bd→∀u2 us2,slAt ok S.w0 2 u2 us2→rowsAt ok S.w0 (withinE p) us2→∀b4,SetOf S.U W4 b4 (withinP (Fof c) S.l0 (fun y=>PredP.telR y (Fof c y) S.l0.contains (A s' y) rest) p)→b4∉S.fa.map (·.2) →
      Calls Tryz.prog 80 #[.agg #[.map (some S.eb),.map (some S.fb),.map (some S.ab)],u2,.map (some b4)] W4 (HandPost S c Bd sc (fun _=>withinP (Fof c) S.l0 (fun y=>PredP.telR y (Fof c y) S.l0.contains (A s' y) rest) p) (withinE p) W4):=fun W4 sc h0 h1 u2 us2 h2 h3 b4 h4 h5 =>
     IH.out (withinE p) (by have:=within_size p;simp only[]at hszp;omega) ok W4 u2 us2 b4 _ sc h0 h1 h2 h3 (fun x hx=>hnmr x (hnp x (within_names p x hx))) (fun x hx=>hwdr x (hwp x (within_words p x hx))) (.inner h4 h5 fun n y h=>hsnd n y (occ_within h))
    have HAW:=hide hAW
    have HIH:=hide hIH
    have hVc0:SetOf S.U W1 b (fun y=>PredP.telR y (Fof c y) S.l0.contains (A s' y) rest):=hVb
    have HSND:=hide hsnd
    have HAM:=hide hAm
    have HNP:=hide hnp
    clear hAW hIH hsnd hAm hHA hocp hVb hnp hwp hsp hszp
    cases p with
    | word st =>
     obtain⟨bp,a,rfl,hokp,hbp,c0,hs0,ha,hsh0⟩:=id hp
     have HSEEN:=hide (fun(d5:Words) (_:Le s' d5) hoc5=>hand_seen (c:=c) (l0:=S.l0) (rest:=rest) (p:=PredP.Part.word st) (d5:=d5) HAM.out hoc5 (fun n q e=>by cases e))
     have asn:=as_word_name
     have hbc:=hI1.hb
     have hVc:=hVc0
     have hbaC:=ButA.refl S W1
     have hleC:=Le.refl s'
     have hsh:W1.drew.shape? bp=some (260,1):=shape_low hbc.kn.low hbp hsh0
     clear hp hs0 hsh0
     gi_wp2
     have z0:=hbc.b0
     have z1:=hbc.b1
     have z2:=hbc.b2
     have hdr:Below W1.heap.size W1 W1.drew:=(Below.refl _ _).drew
     refine round_held (S:=fun W=>W.cell? ⟨w.heap.size,0,none⟩=some (.map (some S.eb))∧W.cell? ⟨w.heap.size,1,none⟩=some (.map (some S.fb))∧W.cell? ⟨w.heap.size,2,none⟩=some (.map (some S.ab))) (by kernel_rfl) (by kernel_rfl) (fun h=>by obtain⟨_,_,h⟩:=h;exact h) ⟨z0,z1,z2⟩ ?_
     intro hHeld
     refine wpAnyH_take (i:=0) (oi:=?o0word) (v:=?v0word) ?i0word (by kernel_rfl) (by kernel_rfl) (by kernel_rfl) (fun _ _ _ h=>h) (Or.inl ⟨?w0word,?y0word⟩) hHeld ?_
     case i0word=>(simp only[List.getElem?_toArray,List.getElem?_cons_zero];rfl)
     case w0word=>rfl
     case y0word=>(intro W hSW;obtain⟨q0,q1,q2⟩:=hSW;go_simp;(try with_reducible rfl))
     simp only[Act.put,pu3]
     refine wpAnyH_take (i:=1) (oi:=?o1word) (v:=?v1word) ?i1word (by kernel_rfl) (by kernel_rfl) (by kernel_rfl) (fun _ _ _ h=>h) (Or.inl ⟨?w1word,?y1word⟩) hHeld ?_
     case i1word=>(simp only[gc3];rfl)
     case w1word=>rfl
     case y1word=>(intro W hSW;obtain⟨q0,q1,q2⟩:=hSW;go_simp;(try with_reducible rfl))
     simp only[Act.put,pu3]
     refine wpAnyH_take (i:=3) (oi:=?o3word) (v:=?v3word) ?i3word (by kernel_rfl) (by kernel_rfl) (by kernel_rfl) (fun _ _ _ h=>h) (Or.inl ⟨?w3word,?y3word⟩) hHeld ?_
     case i3word=>(simp only[gc3];rfl)
     case w3word=>rfl
     case y3word=>(intro W hSW;obtain⟨q0,q1,q2⟩:=hSW;go_simp;(try with_reducible rfl))
     simp only[Act.put,pu3]
     refine wpAnyH_take (i:=4) (oi:=?o4word) (v:=?v4word) ?i4word (by kernel_rfl) (by kernel_rfl) (by kernel_rfl) (fun _ _ _ h=>h) (Or.inl ⟨?w4word,?y4word⟩) hHeld ?_
     case i4word=>(simp only[gc3];rfl)
     case w4word=>rfl
     case y4word=>(intro W hSW;obtain⟨q0,q1,q2⟩:=hSW;go_simp;(try with_reducible rfl))
     simp only[Act.put,pu3]
     refine wpAnyH_take (i:=5) (oi:=?o5word) (v:=?v5word) ?i5word (by kernel_rfl) (by kernel_rfl) (by kernel_rfl) (fun _ _ _ h=>h) (Or.inl ⟨?w5word,?y5word⟩) hHeld ?_
     case i5word=>(simp only[gc3];rfl)
     case w5word=>rfl
     case y5word=>(intro W hSW;obtain⟨q0,q1,q2⟩:=hSW;go_simp;(try with_reducible rfl))
     simp only[Act.put,pu3]
     refine wpAnyH_ready (rs:=[2]) (by kernel_rfl) (by simp) ?_
     refine AllReadyH.cons (o:=?o2word) ?i2word (fun K hK=>?c2word) AllReadyH.nil
     case i2word=>(simp only[gc3];rfl)
     case c2word =>
      go_simp
      rw[m_word bp 1 _ _ (by kernel_rfl) hsh]
      go_simp
      go_at_call 201
      refine(single_within _).mono ?_
      rintro r3 W3 ⟨rfl,hb3⟩
      have hb3z:=Below.all hdr hb3
      have hbc3:=hbc.onward hb3z hw0
      refine hK.out _ _ ⟨hbc3.b0,hbc3.b1,hbc3.b2⟩ (fun hHeld2=>?_)
      clear hK K
      have hHeld:=hHeld2
      try simp only[Act.put,pu3]
      refine wpAnyH_ready (rs:=[6]) (by kernel_rfl) (by simp) ?_
      refine AllReadyH.cons (o:=?o6word) ?i6word (fun K hK=>?c6word) AllReadyH.nil
      case i6word=>(simp only[gc3];rfl)
      case c6word =>
       go_simp
       go_at_call 116
       refine(HAW.out _ hbc3.kn.low (hbc3.kn.sts) (hVc.below hb3z)).mono ?_
       rintro r4 W4 ⟨va4,rfl,hms4,hwh4,hb4⟩
       obtain⟨b4,rfl,hs4,hn4⟩:=aft_some hms4 hwh4 hbn hah hbc3.but.size
       have hb4z:=Below.all hb3z hb4
       have hbc4:=hbc.onward hb4z hw0
       have hk4:=hbc4.kn
       have hbd4:=hbc4.bd
       refine hK.out _ _ ⟨hbc4.b0,hbc4.b1,hbc4.b2⟩ (fun hHeld2=>?_)
       clear hK K
       have hHeld:=hHeld2
       try simp only[Act.put,pu3]
       refine wpAnyH_ready (rs:=[7]) (by kernel_rfl) (by simp) ?_
       refine AllReadyH.cons (o:=?o7word) ?i7word (fun K hK=>?c7word) AllReadyH.nil
       case i7word=>(simp only[gc3];rfl)
       case c7word =>
        go_simp
        go_at_call 80
        refine(HIH.out _ _ hk4 hbd4 (.slice none 0 0) [] (.inl ⟨rfl,rfl⟩) (by simp only[withinE];unfold rowsAt;rfl) b4 hs4 hn4).mono ?_
        rintro r5 W5 ⟨rfl,hba5,d5,hk5,hbd5,hle5,hoc5⟩
        have hbaF:=(hbaC.trans (.of_below hb4z)).trans hba5
        have hbc5:=hbc4.through hah hba5 hk5 hbd5 hle5
        refine hK.out _ _ ⟨hbc5.b0,hbc5.b1,hbc5.b2⟩ (fun hHeld2=>?_)
        clear hK K
        have hHeld:=hHeld2
        try simp only[Act.put,pu3]
        refine wpAnyH_done (by kernel_rfl) ?_ _
        gi_wp2
        exact⟨hbaF.keeps (fun q hq=>by have:=hah q hq;omega),d5,hI1.step hah hBw hbaF hk5 hbd5 (hleC.trans hle5) (HSEEN.out d5 hle5 hoc5)⟩
    | name st qp =>
     obtain⟨bp,a,rfl,hokp,hbp,c0,hs0,ha,c1,hsh0⟩:=id hp
     obtain⟨tb,hl,hin⟩:=look_in (f:=S.fa) (s:=st) (by rw[hA.same];exact hnmr (st,qp) (HNP.out (st,qp) (by rw[PredP.namesP];simp)))
     have asn:=as_name_name
     have hBd:Below W1.heap.size W1 W1.drew:=(Below.refl _ _).drew
     have hrd:(Instr.lookup 89 (.map (some S.ab)) (.string a) false).run Tryz.prog W1.drew=.ok (.map (some tb)) W1.drew:=by
      rw[(hI1.hb.kn.amap.below hBd).read a (le_max ha),hs0,hl]
     have e0:=(hI1.hb.kn.low.cell (p:=⟨bp,0,none⟩) hbp).trans c0
     have z2:=hI1.hb.b2
     have HIN:=hide hin
     clear hp hs0 hl hin c1
     gi_wp2
     refine round_still_tail 8 (by kernel_rfl) (by kernel_rfl) (fun h=>by obtain⟨_,_,h⟩:=h;exact h) (by kernel_rfl) ?_
     simp only[List.take_succ_cons,List.take_zero,List.drop_succ_cons,List.drop_zero]
     repeat still_step
     refine wpStill_nil ?_
     change wpList _ _ _ _ _ (World.drew W1)
     generalize World.drew W1=Wd at hBd hrd ⊢
     clear z2 hrd
     have hbd1:=hI1.hb.onward hBd hw0
     have hset:SetOf S.U Wd tb (fun y=>(s' st).contains y):=⟨s' st,hbd1.kn.aset _ HIN.out,hbd1.kn.aU _,fun _=>rfl⟩
     have hVd:=hVc0.below hBd
     have hne:Value.map (some b)≠.map (some tb):=fun e=>by cases e;exact hbn (List.mem_map.2 ⟨_,HIN.out,rfl⟩)
     go_wp2_with (go_at_call 77;refine(addAll_may S.U hA.hU _ tb (.map (some b)) _ _ hset (.inr ⟨b,rfl,hVd⟩) hne).mono ?_;rintro r2 W2 ⟨rfl,hbt2,hs2⟩)
     obtain⟨l2,hl2,hu2,hg2⟩:=hs2
     have hg2':∀y,y∈l2↔(y∈s' st∨PredP.telR y (Fof c y) S.l0.contains (A s' y) rest=true):=fun y=>by
      have h1:l2.contains y=((s' st).contains y||PredP.telR y (Fof c y) S.l0.contains (A s' y) rest):=hg2 y
      have h2:y∈l2↔l2.contains y=true:=by simp
      rw[h2,h1,Bool.or_eq_true];simp
     have hleC:Le s' (updS s' st l2):=Le.upd fun y hy=>(hg2' y).2 (.inl hy)
     have hbnd2:Bnd (updS s' st l2) Bd:=fun n y hy=>by
      by_cases e:n=st
      ·subst e
       rw[updS_same]at hy
       rcases(hg2' y).1 hy with hy | hy
       ·exact hI1.hb.bd _ y hy
       ·exact HSND.out n y (by rw[PredP.occP];simp[hy])
      ·rw[updS_other _ _ e]at hy
       exact hI1.hb.bd n y hy
     have hk2:=hbd1.kn.setA hA HIN.out hbt2 hl2 hu2
     have hba2:ButA S Wd W2:=.of_but hbt2 (List.mem_map.2 ⟨_,HIN.out,rfl⟩)
     have hbc:=hbd1.through hah hba2 hk2 hbnd2 hleC
     have hbaC:ButA S W1 W2:=(ButA.of_below hBd).trans hba2
     have hVc:=hVd.block (hba2.block b hVd.lt hbn)
     have HSEEN:=hide (fun(d5:Words) (hle5:Le (updS s' st l2) d5) hoc5=>hand_seen (c:=c) (l0:=S.l0) (rest:=rest) (p:=PredP.Part.name st qp) (d5:=d5) HAM.out hoc5 (fun n q e y hy=>by
      cases e
      exact hle5 _ y (by rw[updS_same];exact(hg2' y).2 (.inr hy))))
     have hsh:W2.drew.shape? bp=some (213,2):=shape_low hbc.kn.low hbp hsh0
     clear hg2 hg2' hset hl2 hu2 hsh0 e0
     gi_wp2
     have z0:=hbc.b0
     have z1:=hbc.b1
     have z2:=hbc.b2
     have hdr:Below W2.heap.size W2 W2.drew:=(Below.refl _ _).drew
     refine round_held (S:=fun W=>W.cell? ⟨w.heap.size,0,none⟩=some (.map (some S.eb))∧W.cell? ⟨w.heap.size,1,none⟩=some (.map (some S.fb))∧W.cell? ⟨w.heap.size,2,none⟩=some (.map (some S.ab))) (by kernel_rfl) (by kernel_rfl) (fun h=>by obtain⟨_,_,h⟩:=h;exact h) ⟨z0,z1,z2⟩ ?_
     intro hHeld
     refine wpAnyH_take (i:=0) (oi:=?o0name) (v:=?v0name) ?i0name (by kernel_rfl) (by kernel_rfl) (by kernel_rfl) (fun _ _ _ h=>h) (Or.inl ⟨?w0name,?y0name⟩) hHeld ?_
     case i0name=>(simp only[List.getElem?_toArray,List.getElem?_cons_zero];rfl)
     case w0name=>rfl
     case y0name=>(intro W hSW;obtain⟨q0,q1,q2⟩:=hSW;go_simp;(try with_reducible rfl))
     simp only[Act.put,pu3]
     refine wpAnyH_take (i:=1) (oi:=?o1name) (v:=?v1name) ?i1name (by kernel_rfl) (by kernel_rfl) (by kernel_rfl) (fun _ _ _ h=>h) (Or.inl ⟨?w1name,?y1name⟩) hHeld ?_
     case i1name=>(simp only[gc3];rfl)
     case w1name=>rfl
     case y1name=>(intro W hSW;obtain⟨q0,q1,q2⟩:=hSW;go_simp;(try with_reducible rfl))
     simp only[Act.put,pu3]
     refine wpAnyH_take (i:=3) (oi:=?o3name) (v:=?v3name) ?i3name (by kernel_rfl) (by kernel_rfl) (by kernel_rfl) (fun _ _ _ h=>h) (Or.inl ⟨?w3name,?y3name⟩) hHeld ?_
     case i3name=>(simp only[gc3];rfl)
     case w3name=>rfl
     case y3name=>(intro W hSW;obtain⟨q0,q1,q2⟩:=hSW;go_simp;(try with_reducible rfl))
     simp only[Act.put,pu3]
     refine wpAnyH_take (i:=4) (oi:=?o4name) (v:=?v4name) ?i4name (by kernel_rfl) (by kernel_rfl) (by kernel_rfl) (fun _ _ _ h=>h) (Or.inl ⟨?w4name,?y4name⟩) hHeld ?_
     case i4name=>(simp only[gc3];rfl)
     case w4name=>rfl
     case y4name=>(intro W hSW;obtain⟨q0,q1,q2⟩:=hSW;go_simp;(try with_reducible rfl))
     simp only[Act.put,pu3]
     refine wpAnyH_take (i:=5) (oi:=?o5name) (v:=?v5name) ?i5name (by kernel_rfl) (by kernel_rfl) (by kernel_rfl) (fun _ _ _ h=>h) (Or.inl ⟨?w5name,?y5name⟩) hHeld ?_
     case i5name=>(simp only[gc3];rfl)
     case w5name=>rfl
     case y5name=>(intro W hSW;obtain⟨q0,q1,q2⟩:=hSW;go_simp;(try with_reducible rfl))
     simp only[Act.put,pu3]
     refine wpAnyH_ready (rs:=[2]) (by kernel_rfl) (by simp) ?_
     refine AllReadyH.cons (o:=?o2name) ?i2name (fun K hK=>?c2name) AllReadyH.nil
     case i2name=>(simp only[gc3];rfl)
     case c2name =>
      go_simp
      rw[m_name bp 2 _ _ (by kernel_rfl) hsh]
      go_simp
      go_at_call 201
      refine(single_within _).mono ?_
      rintro r3 W3 ⟨rfl,hb3⟩
      have hb3z:=Below.all hdr hb3
      have hbc3:=hbc.onward hb3z hw0
      refine hK.out _ _ ⟨hbc3.b0,hbc3.b1,hbc3.b2⟩ (fun hHeld2=>?_)
      clear hK K
      have hHeld:=hHeld2
      try simp only[Act.put,pu3]
      refine wpAnyH_ready (rs:=[6]) (by kernel_rfl) (by simp) ?_
      refine AllReadyH.cons (o:=?o6name) ?i6name (fun K hK=>?c6name) AllReadyH.nil
      case i6name=>(simp only[gc3];rfl)
      case c6name =>
       go_simp
       go_at_call 116
       refine(HAW.out _ hbc3.kn.low (hbc3.kn.sts) (hVc.below hb3z)).mono ?_
       rintro r4 W4 ⟨va4,rfl,hms4,hwh4,hb4⟩
       obtain⟨b4,rfl,hs4,hn4⟩:=aft_some hms4 hwh4 hbn hah hbc3.but.size
       have hb4z:=Below.all hb3z hb4
       have hbc4:=hbc.onward hb4z hw0
       have hk4:=hbc4.kn
       have hbd4:=hbc4.bd
       refine hK.out _ _ ⟨hbc4.b0,hbc4.b1,hbc4.b2⟩ (fun hHeld2=>?_)
       clear hK K
       have hHeld:=hHeld2
       try simp only[Act.put,pu3]
       refine wpAnyH_ready (rs:=[7]) (by kernel_rfl) (by simp) ?_
       refine AllReadyH.cons (o:=?o7name) ?i7name (fun K hK=>?c7name) AllReadyH.nil
       case i7name=>(simp only[gc3];rfl)
       case c7name =>
        go_simp
        go_at_call 80
        refine(HIH.out _ _ hk4 hbd4 (.slice none 0 0) [] (.inl ⟨rfl,rfl⟩) (by simp only[withinE];unfold rowsAt;rfl) b4 hs4 hn4).mono ?_
        rintro r5 W5 ⟨rfl,hba5,d5,hk5,hbd5,hle5,hoc5⟩
        have hbaF:=(hbaC.trans (.of_below hb4z)).trans hba5
        have hbc5:=hbc4.through hah hba5 hk5 hbd5 hle5
        refine hK.out _ _ ⟨hbc5.b0,hbc5.b1,hbc5.b2⟩ (fun hHeld2=>?_)
        clear hK K
        have hHeld:=hHeld2
        try simp only[Act.put,pu3]
        refine wpAnyH_done (by kernel_rfl) ?_ _
        gi_wp2
        exact⟨hbaF.keeps (fun q hq=>by have:=hah q hq;omega),d5,hI1.step hah hBw hbaF hk5 hbd5 (hleC.trans hle5) (HSEEN.out d5 hle5 hoc5)⟩
    | br kk qp ee =>
     obtain⟨bp,u2,cs2,rfl,hokp,hbp,c0,c1,hsl2,hrw2⟩:=id hp
     have HSEEN:=hide (fun(d5:Words) (_:Le s' d5) hoc5=>hand_seen (c:=c) (l0:=S.l0) (rest:=rest) (p:=PredP.Part.br kk qp ee) (d5:=d5) HAM.out hoc5 (fun n q e=>by cases e))
     obtain⟨ua2,un2,uc2,rfl⟩:=hsl2.form
     have hbc:=hI1.hb
     have hVc:=hVc0
     have hbaC:=ButA.refl S W1
     have hleC:=Le.refl s'
     have g0:W1.drew.cell? ⟨bp,0,none⟩=some (.int .i64 (qp:Int)):=(hbc.kn.low.cell (p:=⟨bp,0,none⟩) hbp).trans c0
     have g1:W1.drew.cell? ⟨bp,1,none⟩=some (.slice ua2 un2 uc2):=(hbc.kn.low.cell (p:=⟨bp,1,none⟩) hbp).trans c1
     have HSL2:=hide hsl2
     have HRW2:=hide hrw2
     clear hp hsl2 hrw2 c0 c1
     cases kk with
     | opt =>
      simp only[tyOf]at *
      have asn:=as_option_name
      gi_wp2
      have z0:=hbc.b0
      have z1:=hbc.b1
      have z2:=hbc.b2
      have hdr:Below W1.heap.size W1 W1.drew:=(Below.refl _ _).drew
      refine round_held (S:=fun W=>W.cell? ⟨w.heap.size,0,none⟩=some (.map (some S.eb))∧W.cell? ⟨w.heap.size,1,none⟩=some (.map (some S.fb))∧W.cell? ⟨w.heap.size,2,none⟩=some (.map (some S.ab))) (by kernel_rfl) (by kernel_rfl) (fun h=>by obtain⟨_,_,h⟩:=h;exact h) ⟨z0,z1,z2⟩ ?_
      intro hHeld
      refine wpAnyH_take (i:=0) (oi:=?o0opt) (v:=?v0opt) ?i0opt (by kernel_rfl) (by kernel_rfl) (by kernel_rfl) (fun _ _ _ h=>h) (Or.inl ⟨?w0opt,?y0opt⟩) hHeld ?_
      case i0opt=>(simp only[List.getElem?_toArray,List.getElem?_cons_zero];rfl)
      case w0opt=>rfl
      case y0opt=>(intro W hSW;obtain⟨q0,q1,q2⟩:=hSW;go_simp;(try with_reducible rfl))
      simp only[Act.put,pu3]
      refine wpAnyH_take (i:=1) (oi:=?o1opt) (v:=?v1opt) ?i1opt (by kernel_rfl) (by kernel_rfl) (by kernel_rfl) (fun _ _ _ h=>h) (Or.inl ⟨?w1opt,?y1opt⟩) hHeld ?_
      case i1opt=>(simp only[gc3];rfl)
      case w1opt=>rfl
      case y1opt=>(intro W hSW;obtain⟨q0,q1,q2⟩:=hSW;go_simp;(try with_reducible rfl))
      simp only[Act.put,pu3]
      refine wpAnyH_take (i:=3) (oi:=?o3opt) (v:=?v3opt) ?i3opt (by kernel_rfl) (by kernel_rfl) (by kernel_rfl) (fun _ _ _ h=>h) (Or.inl ⟨?w3opt,?y3opt⟩) hHeld ?_
      case i3opt=>(simp only[gc3];rfl)
      case w3opt=>rfl
      case y3opt=>(intro W hSW;obtain⟨q0,q1,q2⟩:=hSW;go_simp;(try with_reducible rfl))
      simp only[Act.put,pu3]
      refine wpAnyH_take (i:=4) (oi:=?o4opt) (v:=?v4opt) ?i4opt (by kernel_rfl) (by kernel_rfl) (by kernel_rfl) (fun _ _ _ h=>h) (Or.inl ⟨?w4opt,?y4opt⟩) hHeld ?_
      case i4opt=>(simp only[gc3];rfl)
      case w4opt=>rfl
      case y4opt=>(intro W hSW;obtain⟨q0,q1,q2⟩:=hSW;go_simp;(try with_reducible rfl))
      simp only[Act.put,pu3]
      refine wpAnyH_take (i:=5) (oi:=?o5opt) (v:=?v5opt) ?i5opt (by kernel_rfl) (by kernel_rfl) (by kernel_rfl) (fun _ _ _ h=>h) (Or.inl ⟨?w5opt,?y5opt⟩) hHeld ?_
      case i5opt=>(simp only[gc3];rfl)
      case w5opt=>rfl
      case y5opt=>(intro W hSW;obtain⟨q0,q1,q2⟩:=hSW;go_simp;(try with_reducible rfl))
      simp only[Act.put,pu3]
      refine wpAnyH_ready (rs:=[2]) (by kernel_rfl) (by simp) ?_
      refine AllReadyH.cons (o:=?o2opt) ?i2opt (fun K hK=>?c2opt) AllReadyH.nil
      case i2opt=>(simp only[gc3];rfl)
      case c2opt =>
       go_simp
       rw[m_opt bp _ _ (by kernel_rfl) qp ua2 un2 uc2 g0 g1]
       go_simp
       go_at_call 202
       refine(bracket_within _ qp ua2 un2 uc2).mono ?_
       rintro r3 W3 ⟨rfl,hb3⟩
       have hb3z:=Below.all hdr hb3
       have hbc3:=hbc.onward hb3z hw0
       refine hK.out _ _ ⟨hbc3.b0,hbc3.b1,hbc3.b2⟩ (fun hHeld2=>?_)
       clear hK K
       have hHeld:=hHeld2
       try simp only[Act.put,pu3]
       refine wpAnyH_ready (rs:=[6]) (by kernel_rfl) (by simp) ?_
       refine AllReadyH.cons (o:=?o6opt) ?i6opt (fun K hK=>?c6opt) AllReadyH.nil
       case i6opt=>(simp only[gc3];rfl)
       case c6opt =>
        go_simp
        go_at_call 116
        refine(HAW.out _ hbc3.kn.low (hbc3.kn.sts) (hVc.below hb3z)).mono ?_
        rintro r4 W4 ⟨va4,rfl,hms4,hwh4,hb4⟩
        obtain⟨b4,rfl,hs4,hn4⟩:=aft_some hms4 hwh4 hbn hah hbc3.but.size
        have hb4z:=Below.all hb3z hb4
        have hbc4:=hbc.onward hb4z hw0
        have hk4:=hbc4.kn
        have hbd4:=hbc4.bd
        refine hK.out _ _ ⟨hbc4.b0,hbc4.b1,hbc4.b2⟩ (fun hHeld2=>?_)
        clear hK K
        have hHeld:=hHeld2
        try simp only[Act.put,pu3]
        refine wpAnyH_ready (rs:=[7]) (by kernel_rfl) (by simp) ?_
        refine AllReadyH.cons (o:=?o7opt) ?i7opt (fun K hK=>?c7opt) AllReadyH.nil
        case i7opt=>(simp only[gc3];rfl)
        case c7opt =>
         go_simp
         go_at_call 80
         refine(HIH.out _ _ hk4 hbd4 (.slice ua2 un2 uc2) cs2 HSL2.out HRW2.out b4 hs4 hn4).mono ?_
         rintro r5 W5 ⟨rfl,hba5,d5,hk5,hbd5,hle5,hoc5⟩
         have hbaF:=(hbaC.trans (.of_below hb4z)).trans hba5
         have hbc5:=hbc4.through hah hba5 hk5 hbd5 hle5
         refine hK.out _ _ ⟨hbc5.b0,hbc5.b1,hbc5.b2⟩ (fun hHeld2=>?_)
         clear hK K
         have hHeld:=hHeld2
         try simp only[Act.put,pu3]
         refine wpAnyH_done (by kernel_rfl) ?_ _
         gi_wp2
         exact⟨hbaF.keeps (fun q hq=>by have:=hah q hq;omega),d5,hI1.step hah hBw hbaF hk5 hbd5 (hleC.trans hle5) (HSEEN.out d5 hle5 hoc5)⟩
     | loop =>
      simp only[tyOf]at *
      have asn:=as_loop_name
      gi_wp2
      have z0:=hbc.b0
      have z1:=hbc.b1
      have z2:=hbc.b2
      have hdr:Below W1.heap.size W1 W1.drew:=(Below.refl _ _).drew
      refine round_held (S:=fun W=>W.cell? ⟨w.heap.size,0,none⟩=some (.map (some S.eb))∧W.cell? ⟨w.heap.size,1,none⟩=some (.map (some S.fb))∧W.cell? ⟨w.heap.size,2,none⟩=some (.map (some S.ab))) (by kernel_rfl) (by kernel_rfl) (fun h=>by obtain⟨_,_,h⟩:=h;exact h) ⟨z0,z1,z2⟩ ?_
      intro hHeld
      refine wpAnyH_take (i:=0) (oi:=?o0loop) (v:=?v0loop) ?i0loop (by kernel_rfl) (by kernel_rfl) (by kernel_rfl) (fun _ _ _ h=>h) (Or.inl ⟨?w0loop,?y0loop⟩) hHeld ?_
      case i0loop=>(simp only[List.getElem?_toArray,List.getElem?_cons_zero];rfl)
      case w0loop=>rfl
      case y0loop=>(intro W hSW;obtain⟨q0,q1,q2⟩:=hSW;go_simp;(try with_reducible rfl))
      simp only[Act.put,pu3]
      refine wpAnyH_take (i:=1) (oi:=?o1loop) (v:=?v1loop) ?i1loop (by kernel_rfl) (by kernel_rfl) (by kernel_rfl) (fun _ _ _ h=>h) (Or.inl ⟨?w1loop,?y1loop⟩) hHeld ?_
      case i1loop=>(simp only[gc3];rfl)
      case w1loop=>rfl
      case y1loop=>(intro W hSW;obtain⟨q0,q1,q2⟩:=hSW;go_simp;(try with_reducible rfl))
      simp only[Act.put,pu3]
      refine wpAnyH_take (i:=3) (oi:=?o3loop) (v:=?v3loop) ?i3loop (by kernel_rfl) (by kernel_rfl) (by kernel_rfl) (fun _ _ _ h=>h) (Or.inl ⟨?w3loop,?y3loop⟩) hHeld ?_
      case i3loop=>(simp only[gc3];rfl)
      case w3loop=>rfl
      case y3loop=>(intro W hSW;obtain⟨q0,q1,q2⟩:=hSW;go_simp;(try with_reducible rfl))
      simp only[Act.put,pu3]
      refine wpAnyH_take (i:=4) (oi:=?o4loop) (v:=?v4loop) ?i4loop (by kernel_rfl) (by kernel_rfl) (by kernel_rfl) (fun _ _ _ h=>h) (Or.inl ⟨?w4loop,?y4loop⟩) hHeld ?_
      case i4loop=>(simp only[gc3];rfl)
      case w4loop=>rfl
      case y4loop=>(intro W hSW;obtain⟨q0,q1,q2⟩:=hSW;go_simp;(try with_reducible rfl))
      simp only[Act.put,pu3]
      refine wpAnyH_take (i:=5) (oi:=?o5loop) (v:=?v5loop) ?i5loop (by kernel_rfl) (by kernel_rfl) (by kernel_rfl) (fun _ _ _ h=>h) (Or.inl ⟨?w5loop,?y5loop⟩) hHeld ?_
      case i5loop=>(simp only[gc3];rfl)
      case w5loop=>rfl
      case y5loop=>(intro W hSW;obtain⟨q0,q1,q2⟩:=hSW;go_simp;(try with_reducible rfl))
      simp only[Act.put,pu3]
      refine wpAnyH_ready (rs:=[2]) (by kernel_rfl) (by simp) ?_
      refine AllReadyH.cons (o:=?o2loop) ?i2loop (fun K hK=>?c2loop) AllReadyH.nil
      case i2loop=>(simp only[gc3];rfl)
      case c2loop =>
       go_simp
       rw[m_loop bp _ _ (by kernel_rfl) qp ua2 un2 uc2 g0 g1]
       go_simp
       go_at_call 202
       refine(bracket_within _ qp ua2 un2 uc2).mono ?_
       rintro r3 W3 ⟨rfl,hb3⟩
       have hb3z:=Below.all hdr hb3
       have hbc3:=hbc.onward hb3z hw0
       refine hK.out _ _ ⟨hbc3.b0,hbc3.b1,hbc3.b2⟩ (fun hHeld2=>?_)
       clear hK K
       have hHeld:=hHeld2
       try simp only[Act.put,pu3]
       refine wpAnyH_ready (rs:=[6]) (by kernel_rfl) (by simp) ?_
       refine AllReadyH.cons (o:=?o6loop) ?i6loop (fun K hK=>?c6loop) AllReadyH.nil
       case i6loop=>(simp only[gc3];rfl)
       case c6loop =>
        go_simp
        go_at_call 116
        refine(HAW.out _ hbc3.kn.low (hbc3.kn.sts) (hVc.below hb3z)).mono ?_
        rintro r4 W4 ⟨va4,rfl,hms4,hwh4,hb4⟩
        obtain⟨b4,rfl,hs4,hn4⟩:=aft_some hms4 hwh4 hbn hah hbc3.but.size
        have hb4z:=Below.all hb3z hb4
        have hbc4:=hbc.onward hb4z hw0
        have hk4:=hbc4.kn
        have hbd4:=hbc4.bd
        refine hK.out _ _ ⟨hbc4.b0,hbc4.b1,hbc4.b2⟩ (fun hHeld2=>?_)
        clear hK K
        have hHeld:=hHeld2
        try simp only[Act.put,pu3]
        refine wpAnyH_ready (rs:=[7]) (by kernel_rfl) (by simp) ?_
        refine AllReadyH.cons (o:=?o7loop) ?i7loop (fun K hK=>?c7loop) AllReadyH.nil
        case i7loop=>(simp only[gc3];rfl)
        case c7loop =>
         go_simp
         go_at_call 80
         refine(HIH.out _ _ hk4 hbd4 (.slice ua2 un2 uc2) cs2 HSL2.out HRW2.out b4 hs4 hn4).mono ?_
         rintro r5 W5 ⟨rfl,hba5,d5,hk5,hbd5,hle5,hoc5⟩
         have hbaF:=(hbaC.trans (.of_below hb4z)).trans hba5
         have hbc5:=hbc4.through hah hba5 hk5 hbd5 hle5
         refine hK.out _ _ ⟨hbc5.b0,hbc5.b1,hbc5.b2⟩ (fun hHeld2=>?_)
         clear hK K
         have hHeld:=hHeld2
         try simp only[Act.put,pu3]
         refine wpAnyH_done (by kernel_rfl) ?_ _
         gi_wp2
         exact⟨hbaF.keeps (fun q hq=>by have:=hah q hq;omega),d5,hI1.step hah hBw hbaF hk5 hbd5 (hleC.trans hle5) (HSEEN.out d5 hle5 hoc5)⟩
     | grp =>
      simp only[tyOf]at *
      have asn:=as_group_name
      gi_wp2
      have z0:=hbc.b0
      have z1:=hbc.b1
      have z2:=hbc.b2
      have hdr:Below W1.heap.size W1 W1.drew:=(Below.refl _ _).drew
      refine round_held (S:=fun W=>W.cell? ⟨w.heap.size,0,none⟩=some (.map (some S.eb))∧W.cell? ⟨w.heap.size,1,none⟩=some (.map (some S.fb))∧W.cell? ⟨w.heap.size,2,none⟩=some (.map (some S.ab))) (by kernel_rfl) (by kernel_rfl) (fun h=>by obtain⟨_,_,h⟩:=h;exact h) ⟨z0,z1,z2⟩ ?_
      intro hHeld
      refine wpAnyH_take (i:=0) (oi:=?o0grp) (v:=?v0grp) ?i0grp (by kernel_rfl) (by kernel_rfl) (by kernel_rfl) (fun _ _ _ h=>h) (Or.inl ⟨?w0grp,?y0grp⟩) hHeld ?_
      case i0grp=>(simp only[List.getElem?_toArray,List.getElem?_cons_zero];rfl)
      case w0grp=>rfl
      case y0grp=>(intro W hSW;obtain⟨q0,q1,q2⟩:=hSW;go_simp;(try with_reducible rfl))
      simp only[Act.put,pu3]
      refine wpAnyH_take (i:=1) (oi:=?o1grp) (v:=?v1grp) ?i1grp (by kernel_rfl) (by kernel_rfl) (by kernel_rfl) (fun _ _ _ h=>h) (Or.inl ⟨?w1grp,?y1grp⟩) hHeld ?_
      case i1grp=>(simp only[gc3];rfl)
      case w1grp=>rfl
      case y1grp=>(intro W hSW;obtain⟨q0,q1,q2⟩:=hSW;go_simp;(try with_reducible rfl))
      simp only[Act.put,pu3]
      refine wpAnyH_take (i:=3) (oi:=?o3grp) (v:=?v3grp) ?i3grp (by kernel_rfl) (by kernel_rfl) (by kernel_rfl) (fun _ _ _ h=>h) (Or.inl ⟨?w3grp,?y3grp⟩) hHeld ?_
      case i3grp=>(simp only[gc3];rfl)
      case w3grp=>rfl
      case y3grp=>(intro W hSW;obtain⟨q0,q1,q2⟩:=hSW;go_simp;(try with_reducible rfl))
      simp only[Act.put,pu3]
      refine wpAnyH_take (i:=4) (oi:=?o4grp) (v:=?v4grp) ?i4grp (by kernel_rfl) (by kernel_rfl) (by kernel_rfl) (fun _ _ _ h=>h) (Or.inl ⟨?w4grp,?y4grp⟩) hHeld ?_
      case i4grp=>(simp only[gc3];rfl)
      case w4grp=>rfl
      case y4grp=>(intro W hSW;obtain⟨q0,q1,q2⟩:=hSW;go_simp;(try with_reducible rfl))
      simp only[Act.put,pu3]
      refine wpAnyH_take (i:=5) (oi:=?o5grp) (v:=?v5grp) ?i5grp (by kernel_rfl) (by kernel_rfl) (by kernel_rfl) (fun _ _ _ h=>h) (Or.inl ⟨?w5grp,?y5grp⟩) hHeld ?_
      case i5grp=>(simp only[gc3];rfl)
      case w5grp=>rfl
      case y5grp=>(intro W hSW;obtain⟨q0,q1,q2⟩:=hSW;go_simp;(try with_reducible rfl))
      simp only[Act.put,pu3]
      refine wpAnyH_ready (rs:=[2]) (by kernel_rfl) (by simp) ?_
      refine AllReadyH.cons (o:=?o2grp) ?i2grp (fun K hK=>?c2grp) AllReadyH.nil
      case i2grp=>(simp only[gc3];rfl)
      case c2grp =>
       go_simp
       rw[m_grp bp _ _ (by kernel_rfl) qp ua2 un2 uc2 g0 g1]
       go_simp
       go_at_call 202
       refine(bracket_within _ qp ua2 un2 uc2).mono ?_
       rintro r3 W3 ⟨rfl,hb3⟩
       have hb3z:=Below.all hdr hb3
       have hbc3:=hbc.onward hb3z hw0
       refine hK.out _ _ ⟨hbc3.b0,hbc3.b1,hbc3.b2⟩ (fun hHeld2=>?_)
       clear hK K
       have hHeld:=hHeld2
       try simp only[Act.put,pu3]
       refine wpAnyH_ready (rs:=[6]) (by kernel_rfl) (by simp) ?_
       refine AllReadyH.cons (o:=?o6grp) ?i6grp (fun K hK=>?c6grp) AllReadyH.nil
       case i6grp=>(simp only[gc3];rfl)
       case c6grp =>
        go_simp
        go_at_call 116
        refine(HAW.out _ hbc3.kn.low (hbc3.kn.sts) (hVc.below hb3z)).mono ?_
        rintro r4 W4 ⟨va4,rfl,hms4,hwh4,hb4⟩
        obtain⟨b4,rfl,hs4,hn4⟩:=aft_some hms4 hwh4 hbn hah hbc3.but.size
        have hb4z:=Below.all hb3z hb4
        have hbc4:=hbc.onward hb4z hw0
        have hk4:=hbc4.kn
        have hbd4:=hbc4.bd
        refine hK.out _ _ ⟨hbc4.b0,hbc4.b1,hbc4.b2⟩ (fun hHeld2=>?_)
        clear hK K
        have hHeld:=hHeld2
        try simp only[Act.put,pu3]
        refine wpAnyH_ready (rs:=[7]) (by kernel_rfl) (by simp) ?_
        refine AllReadyH.cons (o:=?o7grp) ?i7grp (fun K hK=>?c7grp) AllReadyH.nil
        case i7grp=>(simp only[gc3];rfl)
        case c7grp =>
         go_simp
         go_at_call 80
         refine(HIH.out _ _ hk4 hbd4 (.slice ua2 un2 uc2) cs2 HSL2.out HRW2.out b4 hs4 hn4).mono ?_
         rintro r5 W5 ⟨rfl,hba5,d5,hk5,hbd5,hle5,hoc5⟩
         have hbaF:=(hbaC.trans (.of_below hb4z)).trans hba5
         have hbc5:=hbc4.through hah hba5 hk5 hbd5 hle5
         refine hK.out _ _ ⟨hbc5.b0,hbc5.b1,hbc5.b2⟩ (fun hHeld2=>?_)
         clear hK K
         have hHeld:=hHeld2
         try simp only[Act.put,pu3]
         refine wpAnyH_done (by kernel_rfl) ?_ _
         gi_wp2
         exact⟨hbaF.keeps (fun q hq=>by have:=hah q hq;omega),d5,hI1.step hah hBw hbaF hk5 hbd5 (hleC.trans hle5) (HSEEN.out d5 hle5 hoc5)⟩
   case done =>
    intro D s' W1 hD hI1 hdd
    gi_wp2
    refine⟨[.int .i64 ((k+1:Nat):Int),.pointer (some ⟨wr.heap.size,0,none⟩),.bool true,.pointer (some ⟨g,k * 2,none⟩),.agg #[.int .i64 (bar:Int),.slice ua un uc],.agg #[.map (some S.eb),.map (some S.fb),.map (some S.ab)],.pointer (some ⟨wr.heap.size,1,none⟩),.slice ua un uc,.map (some vb),.func (.func 133) #[] #[.pointer (some ⟨wr.heap.size+1+1,0,none⟩),.pointer (some ⟨wr.heap.size+1,0,none⟩),.pointer (some ⟨wr.heap.size+1+1+1,0,none⟩)],.int .i64 ((k:Int)+1)],D::Ds,?_,⟨k+1,e2,s',_,_,_,_,_,_,_,_,_,_,rfl,by omega,?_,?_⟩,?_⟩
    ·simp only[updN,updC,List.set_cons_succ,List.set_cons_zero]
     rfl
    ·exact hR.step hI1.le hrest (fun n x hx=>by
      obtain⟨z,hz1,hz2⟩:=occ_tails r us HPS.out x _ _ n _ hx
      exact hI1.seen z hz1 n x hz2)
    ·exact hI1.hb.marked (hI1.hb.mks.cons hT3.mks.lt hD (by omega) hdd)
    ·simp[intOf];omega
   case stop =>
    intro D cd pre W1 hD hF hdd
    exact hF.elim
  ·gi_wp2
   have he0:e'=.nil:=hR.rows.done hk' hcs
   refine leaves_marks (S:=w.heap.size+1) Ds _ hT.mks ?_
   intro W' hq
   have h2:=(hT.marked (Ds':=[]) ⟨by simp,fun D hD=>by simp at hD⟩).quiet hq (by omega) hw0 (fun D hD=>by simp at hD)
   exact⟨_,results_none rfl _ _ _,rfl,h2.but,s,h2.kn,h2.bd,h2.le,fun n x hx=>by
    rcases hR.seen n x hx with h | h
    ·exact h
    ·rw[he0]at h;simp[PredP.occE]at h⟩
theorem hand_all (S:KS) (hA:Apart S) (c:Words) (Bd:Str→Str→Bool) (n:Nat):∀e:PredP.Rows,SizeOf.sizeOf e≤n→HandE S c Bd e:=by
 induction n using Nat.strongRecOn with
 | _ n ih=>exact fun e he=>handOn_any S hA c Bd e (hide fun e' he'=>ih (SizeOf.sizeOf e') (by omega) e' (Nat.le_refl _))
end Go.Proofs.YtpcmemcanpgadaaGreatDoor
