import Derived.Test.YtpcmemcanpgadaaGreatDoorClaR
import Derived.Test.YtpcmemcanpgadaaGreatDoorPureA
set_option maxHeartbeats 4000000
set_option maxRecDepth 100000
namespace Go.Proofs.YtpcmemcanpgadaaGreatDoor
open PredP (hide Str Rule bs)
section
open Go.RowKit Go.Maps
structure EI (U C l0:List Str) (f:List (Str×Nat)) (F:Str→Str→Bool) (A:Str→Bool) (eb fb:Nat) (ao:Option Nat) (w:World) (ok:Nat→Prop) (e:PredP.Rows) (cs:List Value) (k:Nat) (e':PredP.Rows) (g:Str→Bool) (wr:World):Prop where
 rows:rowsAt ok w e' (cs.drop (k * 2))
 cla:PredP.firstClash C (PredP.placesE F l0.contains (fun _=>false) A e)=PredP.firstClash C (PredP.placesE F l0.contains g A e')
 size:SizeOf.sizeOf e'≤SizeOf.sizeOf e
 names:NamesIn f (PredP.namesE e')
 words:WordsIn U (PredP.wordsE e')
 out:SetOf U wr (w.heap.size+1) g
 low:Below w.heap.size w wr
 c0:wr.cell? ⟨w.heap.size,0,none⟩=some (.map (some eb))
 c1:wr.cell? ⟨w.heap.size,1,none⟩=some (.map (some fb))
 c2:wr.cell? ⟨w.heap.size,2,none⟩=some (.map ao)
theorem EI.step {U C l0:List Str} {f:List (Str×Nat)} {F:Str→Str→Bool} {A:Str→Bool} {eb fb:Nat} {ao:Option Nat} {w:World} {ok:Nat→Prop} {e:PredP.Rows} {cs:List Value} {k bar:Nat} {r:PredP.Parts} {e2:PredP.Rows} {g:Str→Bool} {wr w3 w4 w5:World}
  (h:EI U C l0 f F A eb fb ao w ok e cs k (.cons bar r e2) g wr) (hb3:Below wr.heap.size wr w3) (hbt:But (w.heap.size+1) w3 w4) (hs:SetOf U w4 (w.heap.size+1) (fun x=>g x||PredP.telR x (F x) l0.contains (A x) r)) (hb5:Below w4.heap.size w4 w5) (hrest:rowsAt ok w e2 (cs.drop ((k+1) * 2)))
  (h1:PredP.firstClash C [(bar,fun x=>PredP.telR x (F x) l0.contains (A x) r&&g x)]=none) (h2:PredP.firstClash C (PredP.placesR F l0.contains A r)=none) :
  EI U C l0 f F A eb fb ao w ok e cs (k+1) e2 (fun x=>g x||PredP.telR x (F x) l0.contains (A x) r) w5:=by
 have hn:=h.names
 have hw:=h.words
 have hz:=h.size
 rw[PredP.namesE]at hn
 rw[PredP.wordsE]at hw
 simp at hz
 have hb3':=Below.all h.low hb3
 have hlow4:Below w.heap.size w w4:=hbt.belowOf hb3' (by omega) hb3'.size
 have hc:∀j u,wr.cell? ⟨w.heap.size,j,none⟩=some u→w5.cell? ⟨w.heap.size,j,none⟩=some u:=fun j u hu=>by
  have q3:=(hb3.cell (p:=⟨w.heap.size,j,none⟩) (bltc hu)).trans hu
  have q4:=hbt.cellAt q3 (by omega)
  exact(hb5.cell (p:=⟨w.heap.size,j,none⟩) (bltc q4)).trans q4
 refine⟨hrest,?_,by omega,fun x hx=>hn x (List.mem_append_right _ hx),fun x hx=>hw x (List.mem_append_right _ hx),hs.below hb5,Below.all hlow4 hb5,hc 0 _ h.c0,hc 1 _ h.c1,hc 2 _ h.c2⟩
 rw[h.cla,PredP.placesE]
 rw[show ∀(a:PredP.Place) L,a::L=[a]++L from fun _ _=>rfl,clash_none h1,clash_none h2]
theorem EI.some1 {U C l0:List Str} {f:List (Str×Nat)} {F:Str→Str→Bool} {A:Str→Bool} {eb fb:Nat} {ao:Option Nat} {w:World} {ok:Nat→Prop} {e:PredP.Rows} {cs:List Value} {k bar:Nat} {r:PredP.Parts} {e2:PredP.Rows} {g:Str→Bool} {wr:World}
  (h:EI U C l0 f F A eb fb ao w ok e cs k (.cons bar r e2) g wr) {x:Nat×Str} (h1:PredP.firstClash C [(bar,fun x=>PredP.telR x (F x) l0.contains (A x) r&&g x)]=some x):PredP.firstClash C (PredP.placesE F l0.contains (fun _=>false) A e)=some x:=by
 rw[h.cla,PredP.placesE]
 rw[show ∀(a:PredP.Place) L,a::L=[a]++L from fun _ _=>rfl,clash_app,h1];rfl
theorem EI.some2 {U C l0:List Str} {f:List (Str×Nat)} {F:Str→Str→Bool} {A:Str→Bool} {eb fb:Nat} {ao:Option Nat} {w:World} {ok:Nat→Prop} {e:PredP.Rows} {cs:List Value} {k bar:Nat} {r:PredP.Parts} {e2:PredP.Rows} {g:Str→Bool} {wr:World}
  (h:EI U C l0 f F A eb fb ao w ok e cs k (.cons bar r e2) g wr) {x:Nat×Str} (h1:PredP.firstClash C [(bar,fun x=>PredP.telR x (F x) l0.contains (A x) r&&g x)]=none) (h2:PredP.firstClash C (PredP.placesR F l0.contains A r)=some x):PredP.firstClash C (PredP.placesE F l0.contains (fun _=>false) A e)=some x:=by
 rw[h.cla,PredP.placesE]
 rw[show ∀(a:PredP.Place) L,a::L=[a]++L from fun _ _=>rfl,clash_none h1,clash_app,h2];rfl
theorem clashIn_any {U C:List Str} (hC:CandsOf U C) (l0:List Str) (f:List (Str×Nat)) (F:Str→Str→Bool) (eb fb:Nat) (ao:Option Nat) (e:PredP.Rows) (IH:Hid (∀r:PredP.Parts,SizeOf.sizeOf r<SizeOf.sizeOf e→ClaR U C l0 f F eb fb ao r)):ClaE U C l0 f F eb fb ao e:=by
 intro ok w v cs vb A hst hsl hrows hnm hwd hva
 have hU:2 * U.length<maxLen:=by have:=hC.few;unfold maxLen;omega
 have hmm:=@run_makeMap Tryz.prog
 have hB0:∀o,Below w.heap.size w ((w.alloc o).alloc (.map #[] 0)):=fun o=>((Below.refl _ w).alloc (Nat.le_refl _) o).alloc (by simp) _
 have hout0:∀o,SetOf U ((w.alloc o).alloc (.map #[] 0)) (w.heap.size+1) (fun _=>false):=fun o=>by
  have:=SetOf.made U (w.alloc o)
  simpa using this
 rcases hsl with ⟨rfl,rfl⟩ | ⟨g1,n1,cap1,rfl,hn1,hok1,hg1,hus,hcell1⟩
 ·have he:e=.nil:=rowsAt.done (k:=0) (n:=0) (cs:=[]) hrows (by omega) rfl
  subst he
  clear IH hrows hva hout0 hst
  go_enter Tryz.func81,Tryz.ntmps81
  go_wp2_with fail
  refine wp_loop_rounds 1 ?_
  rw[rounds_succ]
  go_wp2_with fail
  go_ret
  exact⟨_,rfl,hB0 _,by rw[PredP.placesE];rfl⟩
 ·have HC1:=hide hcell1
  have HST:=hide hst
  have HVA:=hide hva
  have hrel0:∀t,EI U C l0 f F A eb fb ao w ok e cs 0 e (fun _=>false) ((w.alloc (.cells #[.map (some eb),.map (some fb),.map ao] t)).alloc (.map #[] 0)):=fun t =>
   ⟨by simpa using hrows,rfl,Nat.le_refl _,hnm,hwd,hout0 _,hB0 _,past_fresh rfl,past_fresh rfl,past_fresh rfl⟩
  have HREL:=hide hrel0
  clear hcell1 hst hva hrel0 hrows hnm hwd hout0
  unfold maxLen at hn1
  go_enter Tryz.func81,Tryz.ntmps81
  go_wp2_with fail
  go_loopw [16] (fun t wr=>∃k:Nat,∃e' g,k≤n1∧t=.int .i64 k∧EI U C l0 f F A eb fb ao w ok e cs k e' g wr) (fun t _=>n1 - (intOf t).toNat)
  case atStart=>exact⟨0,e,_,by omega,rfl,HREL.out _⟩
  case round =>
   clear HREL
   obtain⟨k,e',g,hk,rfl,hP⟩:=hrel
   by_cases hlt:k<n1
   ·obtain⟨bar,r,e2,u,us,he,hc0,hc1,hu,hps,hrest⟩:=hP.rows.at hlt hus
    subst he
    have k0:=sl_cell hg1 HC1.out hP.low hc0
    have k1:=sl_cell hg1 HC1.out hP.low hc1
    have hsz:SizeOf.sizeOf r<SizeOf.sizeOf e:=by have:=hP.size;simp at this;omega
    have hnm:NamesIn f (PredP.namesR r):=by
     have:=hP.names;rw[PredP.namesE]at this
     exact fun x hx=>this x (List.mem_append_left _ hx)
    have hwd:WordsIn U (PredP.wordsR r):=by
     have:=hP.words;rw[PredP.wordsE]at this
     exact fun x hx=>this x (List.mem_append_left _ hx)
    have hTR:∀W',Below w.heap.size w W'→Calls Tryz.prog 114 #[.agg #[.map (some eb),.map (some fb),.map ao],u,.map (some vb)] W' (TelPost U W' (fun x=>PredP.telR x (F x) l0.contains (A x) r)):=fun W' hW =>
     (tel_all U l0 hU f F eb fb ao (SizeOf.sizeOf r)).2.1 r (Nat.le_refl _) ok W' u us (.map (some vb)) A (HST.out.below hW) (hu.below hW).off (hps.below hW) hnm hwd (.inr ⟨vb,rfl,HVA.out.below hW⟩)
    have hCR:∀W',Below w.heap.size w W'→Calls Tryz.prog 118 #[.agg #[.map (some eb),.map (some fb),.map ao],u,.map (some vb)] W' (CPost W' (PredP.firstClash C (PredP.placesR F l0.contains A r))):=fun W' hW =>
     IH.out r hsz ok W' u us vb A (HST.out.below hW) (hu.below hW) (hps.below hW) hnm hwd (HVA.out.below hW)
    have HTR:=hide hTR
    have HCR:=hide hCR
    obtain⟨ua,un,uc,rfl⟩:=hu.form
    have hbW:Below wr.heap.size wr (wr.alloc (.cells #[.int .i64 (bar:Int),.slice ua un uc] 227)):=(Below.refl _ _).alloc (Nat.le_refl _) _
    have x0:(wr.alloc (.cells #[.int .i64 (bar:Int),.slice ua un uc] 227)).cell? ⟨wr.heap.size,0,none⟩=some (.int .i64 (bar:Int)):=cell_fresh rfl
    have x1:(wr.alloc (.cells #[.int .i64 (bar:Int),.slice ua un uc] 227)).cell? ⟨wr.heap.size,1,none⟩=some (.slice ua un uc):=cell_fresh rfl
    have b0:=fun o=>((((Below.refl _ wr).alloc (Nat.le_refl _) o)).cell (bltc hP.c0)).trans hP.c0
    have b1:=fun o=>((((Below.refl _ wr).alloc (Nat.le_refl _) o)).cell (bltc hP.c1)).trans hP.c1
    have b2:=fun o=>((((Below.refl _ wr).alloc (Nat.le_refl _) o)).cell (bltc hP.c2)).trans hP.c2
    have hlo:=hP.out.lt
    clear hc0 hc1 hu hps hTR hCR
    go_wp2_with (first
     | (go_at_call 118;refine(HCR.out _ hlow4).mono ?_;rintro e5 w5 ⟨v5,rfl,hb5,hce5⟩;rcases hce5.form with ⟨ho5,rfl⟩ | ⟨x5,q5,ho5,rfl⟩)
     | (go_at_call 77;refine(addAll_may U hU _ (w.heap.size+1) (.map (some tb)) _ _ (hP.out.below hb3z) (.inr ⟨tb,rfl,hs2.below hb3⟩) (fun e=>by cases e;have:=hbW.size;omega)).mono ?_;rintro e4 w4 ⟨rfl,hbt4,hs4⟩;have hlow4:Below w.heap.size w w4:=hbt4.belowOf (Below.all hP.low hb3z) (by omega) (Below.all hP.low hb3z).size;have v0:=hbt4.cellAt u0 (by omega);have v1:=hbt4.cellAt u1 (by omega);have v2:=hbt4.cellAt u2 (by omega);have vx:=hbt4.cellAt ux (by omega))
     | (go_at_call 117;refine(clashAt_any hC _ bar tb (w.heap.size+1) _ g hs2 (hP.out.below hb2z)).mono ?_;rintro e3 w3 ⟨v3,rfl,hb3,hce3⟩;have hb3z:=Below.all hb2z hb3;have u0:=(hb3z.cell (bltc hP.c0)).trans hP.c0;have u1:=(hb3z.cell (bltc hP.c1)).trans hP.c1;have u2:=(hb3z.cell (bltc hP.c2)).trans hP.c2;have ux:=(hb3.cell (p:=⟨wr.heap.size,1,none⟩) (bltc tx1)).trans tx1;rcases hce3.form with ⟨ho3,rfl⟩ | ⟨x3,q3,ho3,rfl⟩)
     | (go_at_call 114;refine(HTR.out _ (Below.all hP.low hbW)).mono ?_;rintro e2 w2 ⟨tb,rfl,hwh,hs2,hb2⟩;have hb2z:=Below.all hbW hb2;have tx0:=(hb2.cell (p:=⟨wr.heap.size,0,none⟩) (bltc x0)).trans x0;have tx1:=(hb2.cell (p:=⟨wr.heap.size,1,none⟩) (bltc x1)).trans x1))
    ·exact⟨⟨k+1,e2,_,by omega,by go_num,hP.step hb3z hbt4 hs4 hb5 hrest ho3 ho5⟩,by simp[intOf];omega⟩
    ·go_ret
     refine⟨_,rfl,Below.all hlow4 hb5,?_⟩
     rw[hP.some2 ho3 ho5]
     rw[ho5]at hce5
     exact CErr.below (o:=some x5) hce5 (Below.refl _ _) hlow4.size
    ·go_ret
     refine⟨_,rfl,Below.all hP.low hb3z,?_⟩
     rw[hP.some1 ho3]
     rw[ho3]at hce3
     exact CErr.below (o:=some x3) hce3 (Below.refl _ _) (Below.all hP.low hb2z).size
   ·have he0:e'=.nil:=hP.rows.done hlt hus
    subst he0
    go_wp2_with fail
    go_ret
    exact⟨_,rfl,hP.low,by rw[hP.cla,PredP.placesE];rfl⟩
theorem cla_all {U C:List Str} (hC:CandsOf U C) (l0:List Str) (f:List (Str×Nat)) (F:Str→Str→Bool) (eb fb:Nat) (ao:Option Nat) (n:Nat) :
  (∀r:PredP.Parts,SizeOf.sizeOf r≤n→ClaR U C l0 f F eb fb ao r)∧∀e:PredP.Rows,SizeOf.sizeOf e≤n→ClaE U C l0 f F eb fb ao e:=by
 induction n using Nat.strongRecOn with
 | _ n ih =>
  have hr:∀r:PredP.Parts,SizeOf.sizeOf r≤n→ClaR U C l0 f F eb fb ao r:=fun r hr=>clashInRow_any hC l0 f F eb fb ao r (hide fun e he=>(ih (SizeOf.sizeOf e) (by omega)).2 e (Nat.le_refl _))
  exact⟨hr,fun e he=>clashIn_any hC l0 f F eb fb ao e (hide fun r hr'=>hr r (by omega))⟩
end
section
open Go.RowKit Go.Maps
theorem Known.sts {G:List Rule} {eb fb ab:Nat} {f fa:List (Str×Nat)} {l0:List Str} {c d:Words} {W:World} (h:Known G eb fb ab f fa l0 c d W):Sts (allWords G) l0 f (Fof c) eb fb W :=
 ⟨h.empty,h.fmap,fun p hp=>⟨c p.1,h.fset p hp,h.fU p.1,fun _=>rfl⟩⟩
def placesQ (G:List Rule) (r:Rule):List PredP.Place:=PredP.placesE (fun w n=>(PredP.fsts G w).contains n) (PredP.nul G).contains (fun _=>false) (fun w=>(PredP.afts G w).contains r.name) r.body
theorem places_flat (G:List Rule):PredP.places G=G.flatMap (placesQ G):=rfl
theorem clash_rules_none {C:List Str} {g:Rule→List PredP.Place}:∀{xs:List Rule},(∀x,x∈xs→PredP.firstClash C (g x)=none)→PredP.firstClash C (xs.flatMap g)=none
 | [],_=>rfl
 | x::xs,h=>by
  rw[List.flatMap_cons,clash_none (h x List.mem_cons_self)]
  exact clash_rules_none fun y hy=>h y (List.mem_cons_of_mem _ hy)
theorem clash_rules_some {C:List Str} {g:Rule→List PredP.Place} {G:List Rule} {k:Nat} {q:Rule} (hq:G[k]?=some q) (hn:∀x,x∈G.take k→PredP.firstClash C (g x)=none) {x:Nat×Str} (h:PredP.firstClash C (g q)=some x):PredP.firstClash C (G.flatMap g)=some x:=by
 have e:G.flatMap g=(G.take k++q::G.drop (k+1)).flatMap g:=by rw[←split_at hq]
 rw[e,List.flatMap_append,clash_none (clash_rules_none hn),List.flatMap_cons,clash_app,h];rfl
structure CCI (w:World) (G:List Rule) (C:List Str) (eb fb ab:Nat) (k:Nat) (wr:World):Prop where
 low:Below w.heap.size w wr
 calm:∀x,x∈G.take k→PredP.firstClash C (placesQ G x)=none
 c0:wr.cell? ⟨w.heap.size,0,none⟩=some (.map (some eb))
 c1:wr.cell? ⟨w.heap.size,1,none⟩=some (.map (some fb))
 c2:wr.cell? ⟨w.heap.size,2,none⟩=some (.map (some ab))
theorem checkClashes_any (ok:Nat→Prop) (w:World) (v:Value) (cs:List Value) (G:List Rule) (C:List Str) (hC:CandsOf (allWords G) C) (hG:G≠[]) (hK:PredP.AllKnown G) (hsl:slAt ok w 3 v cs) (hr:rulesAt ok w G cs) (eb fb ab:Nat) (f fa:List (Str×Nat)) (l0:List Str) (c d:Words) (hkn:Known G eb fb ab f fa l0 c d w) :
  Calls Tryz.prog 49 #[v,.agg #[.map (some eb),.map (some fb),.map (some ab)]] w (CPost w (PredP.firstClash C (PredP.places G))):=by
 obtain⟨g,cap,rfl,hm,hg,hcell⟩:=rules_slice hsl hr hG
 have HC:=hide hcell
 have HR:=hide hr
 have HK:=hide hkn
 have hrel0:∀t,CCI w G C eb fb ab 0 (w.alloc (.cells #[.map (some eb),.map (some fb),.map (some ab)] t)):=fun t=>⟨(Below.refl _ _).alloc (Nat.le_refl _) _,fun x hx=>by simp at hx,cell_fresh rfl,cell_fresh rfl,cell_fresh rfl⟩
 have HREL:=hide hrel0
 clear hcell hsl hr hG hkn hrel0
 unfold maxLen at hm
 go_enter Tryz.func49,Tryz.ntmps49
 go_wp2_with fail
 go_loopw [10] (fun t wr=>∃k:Nat,k≤G.length∧t=.int .i64 k∧CCI w G C eb fb ab k wr) (fun t _=>G.length - (intOf t).toNat)
 case atStart=>exact⟨0,by omega,rfl,HREL.out _⟩
 case round =>
  clear HREL
  obtain⟨k,hk,rfl,hP⟩:=hrel
  by_cases hk':k<G.length
  ·obtain⟨q,hq⟩:∃q,G[k]?=some q:=⟨G[k],List.getElem?_eq_getElem hk'⟩
   have hqm:=List.mem_of_getElem? hq
   obtain⟨a,u,us,e0,e1,e2,hnm,ha,hu,hrows⟩:=HR.out.get hq
   have k0:=sl_cell hg HC.out hP.low e0
   have k1:=sl_cell hg HC.out hP.low e1
   have k2:=sl_cell hg HC.out hP.low e2
   have hqn:q.name∈f.map (·.1):=(HK.out.names q.name).1 (List.mem_map.2 ⟨q,hqm,rfl⟩)
   obtain⟨tb,hl,hin⟩:=look_in (f:=fa) (s:=q.name) (by rw[HK.out.same];simpa using hqn)
   have hread:∀W',Below w.heap.size w W'→(Instr.lookup 89 (.map (some ab)) (.string a) false).run Tryz.prog W'=.ok (.map (some tb)) W':=fun W' hW=>by
    rw[(HK.out.amap.below hW).read a (le_max ha),hnm,hl]
   have hF:(fun w n=>(PredP.fsts G w).contains n)=Fof c:=funext fun x=>funext fun n=>(HK.out.fst x n).symm
   have hA:(fun w=>(PredP.afts G w).contains q.name)=fun x=>Fof d x q.name:=funext fun x=>(HK.out.aft x q.name).symm
   have hl0:(PredP.nul G).contains=l0.contains:=funext fun x=>(HK.out.nul x).symm
   have hpq:placesQ G q=PredP.placesE (Fof c) l0.contains (fun _=>false) (fun x=>Fof d x q.name) q.body:=by
    unfold placesQ
    rw[hF,hA,hl0]
   have hCE:∀W',Below w.heap.size w W'→Calls Tryz.prog 81 #[.agg #[.map (some eb),.map (some fb),.map (some ab)],u,.map (some tb)] W' (CPost W' (PredP.firstClash C (placesQ G q))):=fun W' hW=>by
    rw[hpq]
    exact(cla_all hC l0 f (Fof c) eb fb (some ab) (SizeOf.sizeOf q.body)).2 q.body (Nat.le_refl _) ok W' u us tb _ (HK.out.sts.below hW) (hu.below hW) (hrows.below hW) (fun x hx=>by
     have:=(HK.out.names x.1).1 (by simpa using hK q hqm x hx)
     simpa using this) (fun x hx=>List.mem_cons_of_mem _ (List.mem_flatMap.2 ⟨q,hqm,hx⟩)) ⟨d q.name,(HK.out.aset _ hin).below hW,HK.out.aU _,fun _=>rfl⟩
   obtain⟨ua,un,uc,rfl⟩:=hu.form
   have hbW:Below wr.heap.size wr (wr.alloc (.cells #[.string a,.int .i64 (q.pos:Int),.slice ua un uc] 97)):=(Below.refl _ _).alloc (Nat.le_refl _) _
   have x0:(wr.alloc (.cells #[.string a,.int .i64 (q.pos:Int),.slice ua un uc] 97)).cell? ⟨wr.heap.size,0,none⟩=some (.string a):=cell_fresh rfl
   have x2:(wr.alloc (.cells #[.string a,.int .i64 (q.pos:Int),.slice ua un uc] 97)).cell? ⟨wr.heap.size,2,none⟩=some (.slice ua un uc):=cell_fresh rfl
   have hrd:=hread _ (Below.all hP.low hbW)
   have s0:=(hbW.cell (bltc hP.c0)).trans hP.c0
   have s1:=(hbW.cell (bltc hP.c1)).trans hP.c1
   have s2:=(hbW.cell (bltc hP.c2)).trans hP.c2
   have HCE:=hide hCE
   have HQ:=hide hq
   clear hCE hread hq hqm hqn hl hin e0 e1 e2 hnm hu hrows hF hA hl0 hpq
   go_wp2_with (go_at_call 81;refine(HCE.out _ (Below.all hP.low hbW)).mono ?_;rintro e3 w3 ⟨v3,rfl,hb3,hce3⟩;have hb3z:=Below.all hbW hb3;rcases hce3.form with ⟨ho3,rfl⟩ | ⟨x3,q3,ho3,rfl⟩)
   ·exact⟨⟨k+1,by omega,by go_num,Below.all hP.low hb3z,fun x hx=>by
     rw[List.take_add_one,HQ.out]at hx
     rcases List.mem_append.1 hx with hx | hx
     ·exact hP.calm x hx
     ·simp at hx;subst hx;exact ho3,(hb3z.cell (bltc hP.c0)).trans hP.c0,(hb3z.cell (bltc hP.c1)).trans hP.c1,(hb3z.cell (bltc hP.c2)).trans hP.c2⟩,by simp[intOf];omega⟩
   ·go_ret
    refine⟨_,rfl,Below.all hP.low hb3z,?_⟩
    have hs:PredP.firstClash C (PredP.places G)=some x3:=by rw[places_flat];exact clash_rules_some HQ.out hP.calm ho3
    rw[hs]
    rw[ho3]at hce3
    exact CErr.below (o:=some x3) hce3 (Below.refl _ _) (Below.all hP.low hbW).size
  ·go_wp2_with fail
   go_ret
   refine⟨_,rfl,hP.low,?_⟩
   have hn:=hP.calm
   rw[List.take_of_length_le (by omega)]at hn
   rw[places_flat,clash_rules_none hn]
   rfl
end
section
open Go.RowKit Go.Maps
theorem bs_len (a:ByteArray):(bs a).length=a.size:=by simp[bs]
mutual
theorem partAt.short {ok:Nat→Prop} {w:World}:∀(p:PredP.Part) (v:Value),partAt ok w p v→∀x,x∈PredP.wordsP p→x.length≤400
 | .word s,v,h,x,hx=>by
  unfold partAt at h
  obtain⟨b,a,_,_,_,_,hs,ha,_⟩:=h
  rw[PredP.wordsP]at hx
  simp at hx
  rw[hx,←hs,bs_len];exact ha
 | .name s q,v,h,x,hx=>by rw[PredP.wordsP]at hx;simp at hx
 | .br k q e,v,h,x,hx=>by
  unfold partAt at h
  obtain⟨b,u,cs,_,_,_,_,_,_,hr⟩:=h
  rw[PredP.wordsP]at hx
  exact rowsAt.short e cs hr x hx
theorem partsAt.short {ok:Nat→Prop} {w:World}:∀(p:PredP.Parts) (l:List Value),partsAt ok w p l→∀x,x∈PredP.wordsR p→x.length≤400
 | .nil,l,h,x,hx=>by rw[PredP.wordsR]at hx;simp at hx
 | .cons p ps,l,h,x,hx=>by
  unfold partsAt at h
  obtain⟨v,l',_,hv,hl⟩:=h
  rw[PredP.wordsR]at hx
  rcases List.mem_append.1 hx with hx | hx
  ·exact partAt.short p v hv x hx
  ·exact partsAt.short ps l' hl x hx
theorem rowsAt.short {ok:Nat→Prop} {w:World}:∀(e:PredP.Rows) (l:List Value),rowsAt ok w e l→∀x,x∈PredP.wordsE e→x.length≤400
 | .nil,l,h,x,hx=>by rw[PredP.wordsE]at hx;simp at hx
 | .cons bar r e,l,h,x,hx=>by
  unfold rowsAt at h
  obtain⟨u,cs,l',_,_,hr,he⟩:=h
  rw[PredP.wordsE]at hx
  rcases List.mem_append.1 hx with hx | hx
  ·exact partsAt.short r cs hr x hx
  ·exact rowsAt.short e l' he x hx
end
theorem rules_short {ok:Nat→Prop} {w:World} {G:List Rule} {cs:List Value} (h:rulesAt ok w G cs):∀x,x∈allWords G→x.length≤400:=fun x hx=>by
 rcases List.mem_cons.1 hx with rfl | hx
 ·simp
 ·obtain⟨q,hq,hx⟩:=List.mem_flatMap.1 hx
  obtain⟨k,hk,hkq⟩:=List.getElem_of_mem hq
  obtain⟨a,u,us,_,_,_,_,_,_,hrows⟩:=h.get (k:=k) (q:=q) (by rw[List.getElem?_eq_getElem hk,hkq])
  exact rowsAt.short q.body us hrows x hx
theorem cands_of {ok:Nat→Prop} {w:World} {G:List Rule} {cs:List Value} (h:rulesAt ok w G cs) (hl:(PredP.allWords G).length≤400):CandsOf (allWords G) (PredP.cands G) :=
 ⟨by unfold allWords;rw[List.length_cons];unfold PredP.allWords at hl;omega,PredP.sortS_rising _,fun x hx=>(PredP.mem_sortS _ x).2 hx,rules_short h⟩
structure ParserAt (G:List Rule) (lo b:Nat) (W:World):Prop where
 low:lo≤b
 there:∃v cs eb fb ab f fa l0 c d,W.cell? ⟨b,0,none⟩=some v∧W.cell? ⟨b,1,none⟩=some (.map (some eb))∧W.cell? ⟨b,2,none⟩=some (.map (some fb))∧W.cell? ⟨b,3,none⟩=some (.map (some ab)) ∧
  slAt (fun q=>lo≤q) W 3 v cs∧rulesAt (fun q=>lo≤q) W G cs∧Known G eb fb ab f fa l0 c d W
def CompPost (w:World) (vl ve vm:Value) (r:PredP.Res) (e:Ending) (w':World):Prop :=
 Below w.heap.size w w'∧match r with
 | .ok G=>∃b,e=.returned (.tuple #[.pointer (some ⟨b,0,none⟩),.nilIface])∧ParserAt G w.heap.size b w'
 | r=>∃u,e=.returned (.tuple #[.pointer none,u])∧Fault w.heap.size w' vl ve vm r u
def IsErr (v:Value):Prop:=∃T x,v=.iface T x
theorem Fault.isErr {lo:Nat} {w:World} {vl ve vm:Value} (hl:IsErr vl) (he:IsErr ve) (hm:IsErr vm) {r:PredP.Res} (hr:∀G,r≠.ok G) {v:Value} (h:Fault lo w vl ve vm r v):IsErr v:=by
 cases r with
 | long=>rw[show v=vl from h];exact hl
 | bad p d =>
  obtain⟨b,hv,_⟩:=h
  exact⟨_,_,hv⟩
 | empty=>rw[show v=ve from h];exact he
 | many=>rw[show v=vm from h];exact hm
 | twice p s =>
  obtain⟨b,a,hv,_⟩:=h
  exact⟨_,_,hv⟩
 | none p s =>
  obtain⟨b,a,hv,_⟩:=h
  exact⟨_,_,hv⟩
 | useless p s =>
  obtain⟨b,a,hv,_⟩:=h
  exact⟨_,_,hv⟩
 | clash p s =>
  obtain⟨b,a,hv,_⟩:=h
  exact⟨_,_,hv⟩
 | ok G=>exact absurd rfl (hr G)
theorem NameErr.lower {lo lo':Nat} {w:World} {v:Value} {p what:Nat} {s:Str} (h:NameErr lo' w v p s what) (hl:lo≤lo'):NameErr lo w v p s what:=h.mono hl
theorem Fault.lower {lo lo':Nat} {w:World} {vl ve vm:Value} {r:PredP.Res} {v:Value} (h:Fault lo' w vl ve vm r v) (hl:lo≤lo'):Fault lo w vl ve vm r v:=by
 cases r with
 | long=>exact h
 | bad p d=>exact Syn.mono h hl
 | empty=>exact h
 | many=>exact h
 | twice p s=>exact NameErr.mono h hl
 | none p s=>exact NameErr.mono h hl
 | useless p s=>exact NameErr.mono h hl
 | clash p s =>
  obtain⟨b,a,h1,h2,h3⟩:=h
  exact⟨b,a,h1,Nat.le_trans hl h2,h3⟩
 | ok G=>exact h
theorem checkA_fault {G:List Rule} {r:PredP.Res} (h:checkA G=some r):∀G',r≠.ok G':=by
 intro G' e
 subst e
 unfold checkA at h
 split at h
 ·cases h
 ·split at h
  ·cases h
  ·split at h
   ·cases h
   ·split at h
    ·cases h
    ·split at h
     ·cases h
     ·cases h
theorem checkA_none {G:List Rule} (h:checkA G=none):G≠[]∧G.length≤12∧(PredP.names G).Nodup∧PredP.AllKnown G:=by
 unfold checkA at h
 split at h
 ·cases h
 ·rename_i h0
  split at h
  ·cases h
  ·rename_i h1
   split at h
   ·cases h
   ·rename_i h2
    split at h
    ·cases h
    ·rename_i h3
     exact⟨fun e=>h0 (by rw[e];rfl),by omega,(PredP.findTwice_none h2).2,allKnown_of h3⟩
theorem CompPost.fault {w w':World} {vl ve vm:Value} {r:PredP.Res} {u:Value} (hr:∀G,r≠.ok G) (hb:Below w.heap.size w w') (h:Fault w.heap.size w' vl ve vm r u):CompPost w vl ve vm r (.returned (.tuple #[.pointer none,u])) w':=by
 cases r with
 | ok G=>exact absurd rfl (hr G)
 | _=>exact⟨hb,u,rfl,h⟩
theorem Compile_any (s:ByteArray) (hs:s.size≤maxLen) (w:World) (vl ve vm:Value) (hvl:w.cell? ⟨3,0,none⟩=some vl) (hve:w.cell? ⟨4,0,none⟩=some ve) (hvm:w.cell? ⟨5,0,none⟩=some vm) (il:IsErr vl) (ie:IsErr ve) (im:IsErr vm) :
  Calls Tryz.prog 29 #[.string s] w (CompPost w vl ve vm (PredP.compile (bs s))):=by
 unfold maxLen at hs
 by_cases h4:400<s.size
 ·have hc:PredP.compile (bs s)=.long:=by unfold PredP.compile;rw[if_pos (by rw[bs_len];exact h4)]
  rw[hc]
  have h4':(400:Int)<(s.size:Int):=by omega
  clear hc hve hvm
  go_enter Tryz.func29,Tryz.ntmps29
  go_wp2_with fail
  go_region
  all_goals go_wp2_with fail
  all_goals go_ret2
  all_goals exact⟨(Below.refl _ _).drew,vl,rfl,rfl⟩
 ·have h4':¬(400:Int)<(s.size:Int):=by omega
  have HRT:=hide (readText_any s (by omega) w)
  cases ho:PredP.read (bs s) with
  | bad p b =>
   have hc:PredP.compile (bs s)=.bad p b:=by unfold PredP.compile;rw[if_neg (by rw[bs_len];exact h4),ho]
   rw[hc]
   rw[ho]at HRT
   clear hc ho hve hvm hvl
   go_enter Tryz.func29,Tryz.ntmps29
   go_wp2_with (go_at_call 46;refine HRT.out.mono ?_;rintro e w1 ⟨hb1,u,rfl,b0,rfl,hsyn⟩)
   go_ret2
   exact⟨hb1,_,rfl,b0,rfl,hsyn⟩
  | ok G t =>
   have hc:PredP.compile (bs s)=PredP.check G:=by unfold PredP.compile;rw[if_neg (by rw[bs_len];exact h4),ho]
   have hcnt:=PredP.read_count ho
   rw[bs_len]at hcnt
   rw[hc,check_split]
   rw[ho]at HRT
   have hCk:∀w1 v cs,Below w.heap.size w w1→slAt (fun b=>w.heap.size≤b) w1 3 v cs→rulesAt (fun b=>w.heap.size≤b) w1 G cs→Calls Tryz.prog 47 #[v] w1 (CheckPost w1 vl ve vm (checkA G)):=fun w1 v cs hb hsl hr =>
    checkRules_any _ w1 v cs G vl ve vm ((hb.cell (bltc hve)).trans hve) ((hb.cell (bltc hvm)).trans hvm) hsl hr
   have HCk:=hide hCk
   clear hc ho hCk
   cases hca:checkA G with
   | some r =>
    rw[hca]at HCk
    have hnf:=checkA_fault hca
    have HNF:=hide hnf
    clear hca hnf hve hvm hvl
    go_enter Tryz.func29,Tryz.ntmps29
    go_wp2_with (first
     | (go_at_call 47;refine(HCk.out _ _ _ hb1 hsl hr).mono ?_;rintro e2 w2 ⟨hb2,u,rfl,hF⟩;obtain⟨T,x,rfl⟩:=Fault.isErr il ie im HNF.out hF)
     | (go_at_call 46;refine HRT.out.mono ?_;rintro e w1 ⟨hb1,v,cs,rfl,hsl,hr⟩;obtain⟨va,vn,vc,rfl⟩:=hsl.form))
    go_ret2
    exact CompPost.fault HNF.out (Below.all hb1 hb2) (hF.lower hb1.size)
   | none =>
    rw[hca]at HCk
    obtain⟨c1,c2,c3,c4⟩:=checkA_none hca
    have HSO:Hid (∀w1 v cs,slAt (fun b=>w.heap.size≤b) w1 3 v cs→rulesAt (fun b=>w.heap.size≤b) w1 G cs→Calls Tryz.prog 48 #[v] w1 (SetsPost w1 G)):=hide fun w1 v cs hsl hr =>
     setsOf_any _ w1 v cs G c1 c2 c3 c4 (by unfold allWords maxLen;rw[List.length_cons];unfold PredP.allWords at hcnt;omega) hsl hr
    have HCC:Hid (∀w1 v cs,slAt (fun b=>w.heap.size≤b) w1 3 v cs→rulesAt (fun b=>w.heap.size≤b) w1 G cs→∀eb fb ab f fa l0 c d,Known G eb fb ab f fa l0 c d w1→Calls Tryz.prog 49 #[v,.agg #[.map (some eb),.map (some fb),.map (some ab)]] w1 (CPost w1 (PredP.firstClash (PredP.cands G) (PredP.places G)))):=hide fun w1 v cs hsl hr eb fb ab f fa l0 c d hk =>
     checkClashes_any _ w1 v cs G _ (cands_of hr (by omega)) c1 c4 hsl hr eb fb ab f fa l0 c d hk
    have HChk:Hid (checkB G=match PredP.firstClash (PredP.cands G) (PredP.places G) with | some (p,w)=>.clash p w | none=>.ok G):=hide rfl
    clear hca hve hvm hvl c1 c2 c3 c4 hcnt
    go_enter Tryz.func29,Tryz.ntmps29
    go_wp2_with (first
     | (go_at_call 49;refine(HCC.out _ _ _ (hsl.below hb3z) (hr.below hb3z) _ _ _ _ _ _ _ _ hk3).mono ?_;rintro e4 w4 ⟨v4,rfl,hb4,hce4⟩;have hb4z:=Below.all hb3z hb4;have hk4:=hk3.below hb4;have y0:=(hb4.cell (p:=⟨w3.heap.size,0,none⟩) (bltc x0)).trans x0;have y1:=(hb4.cell (p:=⟨w3.heap.size,1,none⟩) (bltc x1)).trans x1;have y2:=(hb4.cell (p:=⟨w3.heap.size,2,none⟩) (bltc x2)).trans x2;rcases hce4.form with ⟨ho4,rfl⟩ | ⟨x4,q4,ho4,rfl⟩)
     | (go_at_call 48;refine(HSO.out _ _ _ (hsl.below hb2) (hr.below hb2)).mono ?_;rintro e3 w3 ⟨eb,fb,ab,f,fa,l0,c,d,rfl,hb3,hk⟩;have hbA:Below w3.heap.size w3 (w3.alloc (.cells #[.map (some eb),.map (some fb),.map (some ab)] 91)):=(Below.refl _ _).alloc (Nat.le_refl _) _;have hb3z:=Below.all (Below.all hb2 hb3) hbA;have hk3:=hk.below hbA;have x0:(w3.alloc (.cells #[.map (some eb),.map (some fb),.map (some ab)] 91)).cell? ⟨w3.heap.size,0,none⟩=some (.map (some eb)):=cell_fresh rfl;have x1:(w3.alloc (.cells #[.map (some eb),.map (some fb),.map (some ab)] 91)).cell? ⟨w3.heap.size,1,none⟩=some (.map (some fb)):=cell_fresh rfl;have x2:(w3.alloc (.cells #[.map (some eb),.map (some fb),.map (some ab)] 91)).cell? ⟨w3.heap.size,2,none⟩=some (.map (some ab)):=cell_fresh rfl)
     | (go_at_call 47;refine(HCk.out _ _ _ hb1 hsl hr).mono ?_;rintro e2 w2 ⟨hb2,rfl⟩)
     | (go_at_call 46;refine HRT.out.mono ?_;rintro e w1 ⟨hb1,v,cs,rfl,hsl,hr⟩;obtain⟨va,vn,vc,rfl⟩:=hsl.form))
    ·go_ret2
     rw[Option.getD_none,HChk.out,ho4]
     have hB:Below w4.heap.size w4 (w4.alloc (.cells #[.slice va vn vc,.map (some eb),.map (some fb),.map (some ab)] 93)):=(Below.refl _ _).alloc (Nat.le_refl _) _
     have hbz:=Below.all hb4z hB
     exact⟨Below.all hb1 hbz,w4.heap.size,rfl,Nat.le_trans hb1.size hb4z.size,_,cs,eb,fb,ab,f,fa,l0,c,d,cell_fresh rfl,cell_fresh rfl,cell_fresh rfl,cell_fresh rfl,hsl.below hbz,hr.below hbz,hk4.below hB⟩
    ·go_ret2
     rw[Option.getD_none,HChk.out,ho4]
     rw[ho4]at hce4
     exact⟨Below.all hb1 hb4z,_,rfl,CErr.below (o:=some x4) hce4 (Below.refl _ _) (Nat.le_trans hb1.size hb3z.size)⟩
end
end Go.Proofs.YtpcmemcanpgadaaGreatDoor
