import Derived.Test.YtpcmemcanpgadaaGreatDoorSetAG
import Derived.Test.YtpcmemcanpgadaaGreatDoorPureB
set_option maxHeartbeats 4000000
set_option maxRecDepth 100000
namespace Go.Proofs.YtpcmemcanpgadaaGreatDoor
open PredP (hide Str Rule bs)
section
open Go.RowKit Go.Maps
theorem le_trans' {a b c:Str} (h1:PredP.ltS b a=false) (h2:PredP.ltS c b=false):PredP.ltS c a=false:=by
 cases h3:PredP.ltS c a with
 | false=>rfl
 | true =>
  cases h4:PredP.ltS a b with
  | true=>rw[PredP.ltS_trans h3 h4]at h2;cases h2
  | false =>
   have e:=PredP.ltS_total h1 h4
   subst e
   rw[h2]at h3;cases h3
theorem minS_le (m y:ByteArray):(Lib.minS m y=m∨Lib.minS m y=y)∧PredP.ltS (bs m) (bs (Lib.minS m y))=false∧PredP.ltS (bs y) (bs (Lib.minS m y))=false:=by
 unfold Lib.minS
 split
 ·rename_i h
  refine⟨.inl rfl,PredP.ltS_irrefl _,?_⟩
  rcases h with h | h
  ·exact PredP.ltS_asymm ((PredP.ltS_iff _ _).2 h)
  ·have:bs m=bs y:=h
   rw[this];exact PredP.ltS_irrefl _
 ·rename_i h
  refine⟨.inr rfl,?_,PredP.ltS_irrefl _⟩
  cases hc:PredP.ltS (bs m) (bs y) with
  | false=>rfl
  | true=>exact absurd (.inl ((PredP.ltS_iff _ _).1 hc)) h
theorem min_fold:∀(zs:List ByteArray) (m:ByteArray),(zs.foldl Lib.minS m=m∨zs.foldl Lib.minS m∈zs)∧(PredP.ltS (bs m) (bs (zs.foldl Lib.minS m))=false)∧∀z,z∈zs→PredP.ltS (bs z) (bs (zs.foldl Lib.minS m))=false
 | [],m=>⟨.inl rfl,PredP.ltS_irrefl _,fun z hz=>by simp at hz⟩
 | y::zs,m=>by
  obtain⟨h1,h2,h3⟩:=min_fold zs (Lib.minS m y)
  obtain⟨g1,g2,g3⟩:=minS_le m y
  rw[List.foldl_cons]
  refine⟨?_,le_trans' h2 g2,fun z hz=>?_⟩
  ·rcases h1 with h1 | h1
   ·rw[h1]
    rcases g1 with g1 | g1
    ·exact .inl g1
    ·rw[g1];exact .inr List.mem_cons_self
   ·exact .inr (List.mem_cons_of_mem _ h1)
  ·rcases List.mem_cons.1 hz with hz | hz
   ·rw[hz];exact le_trans' h2 g3
   ·exact h3 z hz
theorem minOf_least (zs:List ByteArray) (h:zs≠[]):Lib.minOfS zs∈zs∧∀z,z∈zs→PredP.ltS (bs z) (bs (Lib.minOfS zs))=false:=by
 cases zs with
 | nil=>exact absurd rfl h
 | cons y zs =>
  obtain⟨h1,h2,h3⟩:=min_fold (y::zs) y
  refine⟨?_,h3⟩
  unfold Lib.minOfS
  rcases h1 with h1 | h1
  ·rw[List.headD_cons,h1];exact List.mem_cons_self
  ·exact h1
theorem infoStr:(Tryz.prog.info? 9).map (fun i=>(i.zero,i.size,i.bytes))=some (some (.string ByteArray.empty),1,16):=by kernel_rfl
theorem below_grown {w w':World} (h:Below w.heap.size w w'):w.grownBy w' none:=⟨h.os,h.tape,h.output,h.size,fun k hk _=>h.block k hk⟩
structure ShR (w:World) (ba:Nat) (la:List Str) (D:DataW Unit) (gb:Str→Bool) (r:Nat) (left:Lit→Bool) (cnt:Nat) (v:Value) (zs:List ByteArray) (wr:World):Prop where
 rg:wr.ranges Tryz.prog 9 unitElem ba r la.length D left cnt
 own:wr.ownsRow (w.heap.size+1) 9 1 v zs.length (zs.map Value.string)
 low:Below w.heap.size w wr
 mem:∀s,(∃z,z∈zs∧bs z=s)↔(la.contains s=true∧gb s=true∧left (.string s)=false)
 lefts:∀s,left (.string s)=true→la.contains s=true
 len:zs.length+cnt≤la.length
 big:w.heap.size<wr.heap.size
theorem ShR.skip {w:World} {ba:Nat} {la:List Str} {D:DataW Unit} {gb:Str→Bool} {r:Nat} {left:Lit→Bool} {cnt cnt1:Nat} {v:Value} {zs:List ByteArray} {wr w1 w2:World} (h:ShR w ba la D gb r left cnt v zs wr) (hr:r=w.heap.size) {x:ByteArray}
  (hrg1:w1.ranges Tryz.prog 9 unitElem ba r la.length D (fun z=>left z&&!z.sameKey (.string (bs x))) cnt1) (hlt:cnt1<cnt) (hg1:wr.grownBy w1 (some r)) (hb2:Below w1.heap.size w1 w2) (hgb:gb (bs x)=false) :
  ShR w ba la D gb r (fun z=>left z&&!z.sameKey (.string (bs x))) cnt1 v zs w2:=by
 have hl1:Below w.heap.size w w1:=h.low.grown hg1 h.low.size (fun k e=>by cases e;omega)
 have ho1:=h.own.kept hg1 (by
  cases hv:v.ownBlock with
  | none=>exact .inl rfl
  | some k=>exact .inr fun e=>by have:=(h.own.lt k hv).1;have:=Option.some.inj e;omega)
 refine⟨hrg1.kept (below_grown hb2) (by simp) (by simp),own_below ho1 hb2,Below.all hl1 hb2,fun s=>?_,fun s hs=>h.lefts s (by simp only[Bool.and_eq_true]at hs;exact hs.1),by have:=h.len;omega,by have:=h.big;have:=hg1.size;have:=hb2.size;omega⟩
 rw[h.mem s,sameKey_str]
 by_cases hs:s=bs x
 ·subst hs;simp[hgb]
 ·have:(s==bs x)=false:=by simpa using hs
  simp[this]
theorem ShR.take {w:World} {ba:Nat} {la:List Str} {D:DataW Unit} {gb:Str→Bool} {r:Nat} {left:Lit→Bool} {cnt cnt1:Nat} {v v':Value} {zs:List ByteArray} {wr w1 w2 w3:World} {o:Obj} (h:ShR w ba la D gb r left cnt v zs wr) (hr:r=w.heap.size) (hba:ba<w.heap.size) {x:ByteArray} (hlk:left (.string (bs x))=true)
  (hrg1:w1.ranges Tryz.prog 9 unitElem ba r la.length D (fun z=>left z&&!z.sameKey (.string (bs x))) cnt1) (hlt:cnt1<cnt) (hg1:wr.grownBy w1 (some r)) (hb2:Below w1.heap.size w1 w2) (hgb:gb (bs x)=true)
  (hown:w3.ownsRow (w.heap.size+1) 9 1 v' (zs.length+1) (zs.map Value.string++[.string x])) (hg3:(w2.alloc o).grownBy w3 v.ownBlock) :
  ShR w ba la D gb r (fun z=>left z&&!z.sameKey (.string (bs x))) cnt1 v' (zs++[x]) w3:=by
 have hl1:Below w.heap.size w w1:=h.low.grown hg1 h.low.size (fun k e=>by cases e;omega)
 have hl2:=Below.all hl1 hb2
 have hl3:Below w.heap.size w (w2.alloc o):=Below.all hl2 ((Below.refl _ _).alloc (Nat.le_refl _) o)
 have hne:∀k,v.ownBlock=some k→w.heap.size+1≤k:=fun k hk=>(h.own.lt k hk).1
 have hrg2:=hrg1.kept (below_grown (Below.all hb2 ((Below.refl _ _).alloc (Nat.le_refl _) o))) (by simp) (by simp)
 refine⟨hrg2.kept hg3 (fun e=>by have:=hne _ e.symm;omega) (fun e=>by have:=hne _ e.symm;omega),by simpa using hown,hl3.grown hg3 hl3.size (fun k e=>by have:=hne k e;omega),fun s=>?_,fun s hs=>h.lefts s (by simp only[Bool.and_eq_true]at hs;exact hs.1),by have:=h.len;simp;omega,by have:=h.big;have:=hg1.size;have:=hb2.size;have h5:=hg3.size;simp at h5;omega⟩
 rw[sameKey_str]
 by_cases hs:s=bs x
 ·subst hs
  refine⟨fun _=>⟨h.lefts _ hlk,hgb,by simp⟩,fun _=>⟨x,by simp,rfl⟩⟩
 ·have hf:(s==bs x)=false:=by simpa using hs
  rw[hf]
  simp only[Bool.not_false,Bool.and_true]
  rw[←h.mem s]
  constructor
  ·rintro⟨z,hz,hzs⟩
   rcases List.mem_append.1 hz with hz | hz
   ·exact⟨z,hz,hzs⟩
   ·simp at hz;subst hz;exact absurd hzs.symm hs
  ·rintro⟨z,hz,hzs⟩
   exact⟨z,List.mem_append_left _ hz,hzs⟩
theorem own_past {N e n:Nat} {v:Value} {xs:List Value} {w w1 w2:World} (h:w.ownsRow (N+1) e 1 v n xs) (hg:w.grownBy w1 (some N)) (hb:Below w1.heap.size w1 w2):w2.ownsRow (N+1) e 1 v n xs :=
 own_below (h.kept hg (by
  cases hv:v.ownBlock with
  | none=>exact .inl rfl
  | some k=>exact .inr fun e=>by have:=(h.lt k hv).1;have:=Option.some.inj e;omega)) hb
def LsPost (w:World) (P:Str→Bool) (e:Ending) (w':World):Prop :=
 ∃s r,e=.returned (.tuple #[.string s,.bool r])∧Below w.heap.size w w'∧(r=false→∀x,P x=false)∧(r=true→P (bs s)=true∧∀x,P x=true→PredP.ltS x (bs s)=false)
theorem SetAt.len_le {U l:List Str} {w:World} {b:Nat} (h:SetAt w b l) (hu:∀x,x∈l→x∈U):l.length≤U.length:=PredP.nodup_le l U h.nodup hu
theorem leastShared_any (U:List Str) (hUs:U.length≤1000) (w:World) (ba bb:Nat) (ga gb:Str→Bool) (ha:SetOf U w ba ga) (hb:SetOf U w bb gb) :
  Calls Tryz.prog 134 #[.map (some ba),.map (some bb)] w (LsPost w (fun x=>ga x&&gb x)):=by
 obtain⟨la,hsa,hua,hga⟩:=ha
 obtain⟨lb,hsb,hub,hgb⟩:=hb
 have hla:=hsa.len_le hua
 have hlt:=hsa.lt
 have hblt:=hsb.lt
 obtain⟨D,hown,hn,hh,hz⟩:=hsa
 have HH:=hide hh
 have HGA:=hide hga
 have HGB:=hide hgb
 have HSB:=hide hsb
 obtain⟨i0,hi,hz0,hz1,hz2⟩:=info_parts infoStr
 clear hh hn hga hgb hsb
 go_enter Tryz.func134,Tryz.ntmps134
 go_wp2_with (at_range;refine wpList_range_own _ rfl _ 88 rfl 9 100 lawStr undSet _ ba la.length _ rfl hown ?_;intro w0 hrg0 hg0 hs0)
 go_frame
 have hrel0:ShR w ba la D gb w.heap.size (Maps.has D) (Maps.size D) (.slice none 0 0) [] w0:=⟨hrg0,World.ownsRow_nil _ _ _ _,(Below.refl _ w).grown hg0 (Nat.le_refl _) (fun k e=>by cases e),fun s=>by rw[HH.out s];cases la.contains s<;>simp,fun s hs=>by rw[←HH.out s];exact hs,by rw[hz];simp,by omega⟩
 have hrd:∀x,gb x=hasS lb x:=fun x=>(HGB.out x).symm
 have HRD:=hide hrd
 clear hrd
 go_loopw [6] (fun t wr=>∃left cnt zs,ShR w ba la D gb w.heap.size left cnt t zs wr) (fun _ wr=>wr.rangeLeft ba w.heap.size)
 case atStart=>exact⟨_,_,_,hrel0⟩
 case round =>
  clear hrel0
  obtain⟨left,cnt,zs,hR⟩:=hrel
  go_wp2_with (at_next;refine wpList_next_ranges _ rfl _ rfl 9 lawStr unitElem Value.string (fun _:Unit=>.agg #[]) (fun key kl hk=>by obtain⟨x,rfl,_⟩:=Go.WideMaps.string_of_keyOf undStr hk;exact⟨x,rfl⟩) (fun v y hv=>by obtain⟨rfl,_⟩:=unitElem_inv hv;exact⟨(),rfl⟩) ba w.heap.size la.length _ _ _ rfl hR.rg ?_ ?_)
  ·intro hc0 hl0
   have hmem:∀x,(ga x&&gb x)=true↔∃z,z∈zs∧bs z=x:=fun x=>by
    rw[hR.mem x,←HGA.out,Bool.and_eq_true]
    constructor
    ·exact fun h=>⟨h.1,h.2,hl0 _⟩
    ·exact fun h=>⟨h.1,h.2.1⟩
   have HMem:=hide hmem
   have hzl:zs.length≤1000:=by have:=hR.len;omega
   have hlow:=hR.low
   have hnone:zs.length=0→∀x,(ga x&&gb x)=false:=fun h0 x=>by
    cases hx:(ga x&&gb x) with
    | false=>rfl
    | true =>
     obtain⟨z,hz,_⟩:=(HMem.out x).1 hx
     rw[List.eq_nil_of_length_eq_zero h0]at hz
     simp at hz
   have HNone:=hide hnone
   have hown:=hR.own
   have hcells:=fun g hg=>hR.own.cells (g:=g) hg
   clear hmem hnone hR hl0 hc0
   rcases hown.2 with ⟨rfl,hn0⟩ | ⟨g,cap,cur,rfl,hgb,hgg,_⟩
   ·have hz0':zs.length=0:=by have:=hown.1;simpa using hn0
    go_wp2_with fail
    go_ret2
    exact⟨_,false,rfl,hlow,fun _=>HNone.out hz0',fun e=>by cases e⟩
   ·have HCells:=hide (hcells g rfl)
    clear hcells hown
    by_cases h0:zs.length=0
    ·have HZ:=hide h0
     go_wp2_with fail
     go_ret2
     exact⟨_,false,rfl,hlow,fun _=>HNone.out HZ.out,fun e=>by cases e⟩
    ·have hne:((zs.length:Nat):Int)≠0:=by omega
     have hmin:=Tryz.slices_Min_string g 0 zs.length cap zs wr (by omega) (Nat.le_refl _) (by omega) (fun j hj=>by
      have:=HCells.out j (.string (zs.getD j ByteArray.empty)) (by
       rw[List.getElem?_map,List.getElem?_eq_getElem hj,List.getD_eq_getElem?_getD,List.getElem?_eq_getElem hj];rfl)
      have hadd:(⟨g,0,none⟩:Addr).add j=⟨g,0+j,none⟩:=by unfold Addr.add;split<;>simp_all
      rwa[hadd]at this)
     rw[List.take_length]at hmin
     have HMin:=hide hmin
     clear hmin
     go_wp2_with (go_at_call 142;refine HMin.out.mono ?_;rintro e w5 ⟨rfl,rfl⟩)
     go_ret2
     obtain⟨m1,m2⟩:=minOf_least zs (fun e=>h0 (by rw[e];rfl))
     refine⟨_,true,rfl,hlow,(fun e=>by cases e),fun _=>⟨(HMem.out _).2 ⟨_,m1,rfl⟩,fun x hx=>?_⟩⟩
     obtain⟨z,hz,hzx⟩:=(HMem.out x).1 hx
     rw[←hzx];exact m2 z hz
  ·intro x kl y ys w1 cnt1 hkey hlk hv hat hrg1 hlt1 hg1 hs1 hen
   obtain⟨x',ex,ekl,hx⟩:=Go.WideMaps.string_of_keyOf undStr hkey
   cases ex
   have ekl':kl=.string (bs x):=ekl
   rw[ekl']at hlk hrg1
   clear ekl ekl' hat hv hkey
   have hsb1:=(HSB.out.below hR.low).kept hg1 (fun e=>by have:=Option.some.inj e;omega)
   have hmu:∀W:World,W.ranges Tryz.prog 9 unitElem ba w.heap.size la.length D (fun z=>left z&&!z.sameKey (.string (bs x))) cnt1→W.rangeLeft ba w.heap.size<wr.rangeLeft ba w.heap.size:=fun W hW=>by rw[hW.left_eq,hR.rg.left_eq];exact hlt1
   have HMu:=hide hmu
   clear hmu
   have hzl:zs.length+1≤1000:=by have:=hR.len;omega
   cases hc:hasS lb (bs x)
   ·go_wp2_with (go_at_call 40;refine(has_any _ bb lb x hx hsb1).mono ?_;rintro e w2 ⟨rfl,hb2⟩)
    have hR2:=hR.skip rfl hrg1 hlt1 hg1 hb2 (by rw[HRD.out];exact hc)
    exact⟨⟨_,_,_,hR2⟩,HMu.out _ hR2.rg⟩
   ·have ho2:=fun w2 (hb2:Below w1.heap.size w1 w2)=>own_past hR.own hg1 hb2
    have HO2:=hide ho2
    clear ho2
    have hbig:=hR.big
    have hgs:=hg1.size
    go_wp2_with (first
     | (go_at_call 40;refine(has_any _ bb lb x hx hsb1).mono ?_;rintro e w2 ⟨rfl,hb2⟩;have hbs:=hb2.size)
     | (at_builtin;refine wpList_append_own_at _ rfl _ _ _ rfl (w.heap.size+1) 9 i0 (.string ByteArray.empty) 1 16 (by kernel_rfl) hi hz0 hz1 hz2 rfl (by decide) _ zs.length (zs.map Value.string) rfl ((HO2.out _ hb2).alloc _) _ 1 1 [_] rfl rfl (cell_one_new _ _ _) (by simp[Value.oneCell']) (by unfold maxLen;omega) (by omega) (by simp;omega) ?_;intro v' w3 hown3 hgrow3 _ _))
    have hR3:=hR.take rfl hlt hlk hrg1 hlt1 hg1 hb2 (by rw[HRD.out];exact hc) hown3 hgrow3
    exact⟨⟨_,_,_,hR3⟩,HMu.out _ hR3.rg⟩
end
section
open Go.RowKit Go.Maps
def CErr (lo:Nat) (W:World) (v:Value):Option (Nat×Str)→Prop
 | none=>v=.nilIface
 | some x=>ClashErr lo W v x.1 x.2
def CPost (w:World) (o:Option (Nat×Str)) (e:Ending) (w':World):Prop:=∃v,e=.returned v∧Below w.heap.size w w'∧CErr w.heap.size w' v o
theorem CErr.form {lo:Nat} {W:World} {v:Value} {o:Option (Nat×Str)} (h:CErr lo W v o):(o=none∧v=.nilIface)∨∃x b,o=some x∧v=.iface 105 (.pointer (some ⟨b,0,none⟩)):=by
 cases o with
 | none=>exact .inl ⟨rfl,h⟩
 | some x =>
  obtain⟨b,a,h1,_⟩:=h
  exact .inr ⟨x,b,rfl,h1⟩
theorem CErr.below {lo lo':Nat} {W W':World} {v:Value} {o:Option (Nat×Str)} (h:CErr lo' W v o) (hb:Below W.heap.size W W') (hl:lo≤lo'):CErr lo W' v o:=by
 cases o with
 | none=>exact h
 | some x =>
  obtain⟨b,a,h1,h2,h3,h4,h5,h6,h7⟩:=h
  exact⟨b,a,h1,Nat.le_trans hl h2,Nat.lt_of_lt_of_le h3 hb.size,(hb.cell (p:=⟨b,0,none⟩) h3).trans h4,(hb.cell (p:=⟨b,1,none⟩) h3).trans h5,h6,h7⟩
theorem clash_app (C:List Str):∀(l m:List PredP.Place),PredP.firstClash C (l++m)=(PredP.firstClash C l).or (PredP.firstClash C m)
 | [],m=>by simp[PredP.firstClash]
 | (p,P)::l,m=>by
  rw[List.cons_append,PredP.firstClash,PredP.firstClash]
  cases C.find? P with
  | some w=>rfl
  | none=>exact clash_app C l m
structure CandsOf (U C:List Str):Prop where
 few:U.length≤1000
 rising:PredP.Rising C
 mem:∀x,x∈U→x∈C
 short:∀x,x∈U→x.length≤400
theorem SetOf.inU {U:List Str} {w:World} {b:Nat} {g:Str→Bool} (h:SetOf U w b g) {x:Str} (hx:g x=true):x∈U:=by
 obtain⟨l,_,hu,hg⟩:=h
 exact hu x (by rw[←hg]at hx;simpa using hx)
theorem clashAt_any {U C:List Str} (hC:CandsOf U C) (w:World) (p ba bb:Nat) (ga gb:Str→Bool) (ha:SetOf U w ba ga) (hb:SetOf U w bb gb) :
  Calls Tryz.prog 117 #[.int .i64 (p:Int),.map (some ba),.map (some bb)] w (CPost w (PredP.firstClash C [(p,fun x=>ga x&&gb x)])):=by
 have HLS:=hide (leastShared_any U hC.few w ba bb ga gb ha hb)
 have hin:∀x,(ga x&&gb x)=true→x∈U:=fun x hx=>ha.inU (by rw[Bool.and_eq_true]at hx;exact hx.1)
 have HIN:=hide hin
 clear ha hb hin
 go_enter Tryz.func117,Tryz.ntmps117
 go_wp2_with (go_at_call 134;refine HLS.out.mono ?_;rintro e w1 ⟨s,r,rfl,hb1,hf,ht⟩;have HF:=hide hf;have HT:=hide ht;clear hf ht;cases r)
 ·go_ret
  refine⟨_,rfl,hb1,?_⟩
  rw[PredP.firstClash,PredP.find_none (HF.out (by simp))]
  rfl
 ·go_ret
  obtain⟨t1,t2⟩:=HT.out (by simp)
  have hU:=HIN.out _ t1
  have hB:Below w1.heap.size w1 (w1.alloc (.cells #[.int .i64 (p:Int),.string s] 122)):=(Below.refl _ _).alloc (Nat.le_refl _) _
  refine⟨_,rfl,Below.all hb1 hB,?_⟩
  rw[PredP.firstClash,PredP.find_eq hC.rising (fun x hx=>hC.mem x (HIN.out x hx)) t1 (fun x hx=>t2 x hx)]
  exact⟨w1.heap.size,s,rfl,hb1.size,by simp,cell_fresh rfl,cell_fresh rfl,rfl,by have:=hC.short _ hU;simpa[bs] using this⟩
def partPlace (F:Str→Str→Bool) (l0:List Str) (gw gb:Str→Bool):PredP.Part→List PredP.Place
 | .br .opt q e=>[(q,fun x=>PredP.telE x (F x) l0.contains (gw x) e&&gb x)]
 | .br .loop q e=>[(q,fun x=>PredP.telE x (F x) l0.contains (gw x) e&&gb x)]
 | _=>[]
theorem clashAtPart_any {U C:List Str} (hC:CandsOf U C) (l0:List Str) (f:List (Str×Nat)) (F:Str→Str→Bool) (eb fb:Nat) (ao:Option Nat) (p:PredP.Part) (ok:Nat→Prop) (w:World) (v:Value) (bw bb:Nat) (gw gb:Str→Bool)
  (hst:Sts U l0 f F eb fb w) (hp:partAt ok w p v) (hnm:NamesIn f (PredP.namesP p)) (hwd:WordsIn U (PredP.wordsP p)) (hw:SetOf U w bw gw) (hbb:SetOf U w bb gb) :
  Calls Tryz.prog 135 #[.agg #[.map (some eb),.map (some fb),.map ao],v,.map (some bw),.map (some bb)] w (CPost w (PredP.firstClash C (partPlace F l0 gw gb p))):=by
 have hB0:∀o,Below w.heap.size w (w.alloc o):=fun o=>(Below.refl _ w).alloc (Nat.le_refl _) o
 have hU:2 * U.length<maxLen:=by have:=hC.few;unfold maxLen;omega
 cases p with
 | word st =>
  obtain⟨b,a,rfl,_⟩:=hp
  clear hst hnm hwd hw hbb
  have as1:=as_word_option
  have as2:=as_word_loop
  go_enter Tryz.func135,Tryz.ntmps135
  go_wp2_with fail
  go_ret
  exact⟨_,rfl,hB0 _,rfl⟩
 | name st q =>
  obtain⟨b,a,rfl,_⟩:=hp
  clear hst hnm hwd hw hbb
  have as1:=as_name_option
  have as2:=as_name_loop
  go_enter Tryz.func135,Tryz.ntmps135
  go_wp2_with fail
  go_ret
  exact⟨_,rfl,hB0 _,rfl⟩
 | br k q e =>
  obtain⟨b,u,cs,rfl,hok,hb,c0,c1,hsl,hrows⟩:=hp
  have hCT:∀W,Below w.heap.size w W→Calls Tryz.prog 78 #[.agg #[.map (some eb),.map (some fb),.map ao],u,.map (some bw)] W (TelPost U W (fun x=>PredP.telE x (F x) l0.contains (gw x) e)):=fun W hW =>
   (tel_all U l0 hU f F eb fb ao (SizeOf.sizeOf e)).2.2 e (Nat.le_refl _) ok W u cs (.map (some bw)) gw (hst.below hW) (hsl.below hW) (hrows.below hW) (fun x hx=>hnm x (by rw[PredP.namesP];exact hx)) (fun x hx=>hwd x (by rw[PredP.wordsP];exact hx)) (.inr ⟨bw,rfl,hw.below hW⟩)
  have HCT:=hide hCT
  have HSB:=hide hbb
  obtain⟨ua,un,uc,rfl⟩:=hsl.form
  clear hst hsl hrows hnm hwd hCT hbb hw
  cases k with
  | opt =>
   simp only[tyOf]at *
   have as1:=as_option_option
   go_enter Tryz.func135,Tryz.ntmps135
   go_wp2_with fail
   have hBW:Below w.heap.size w (w.alloc (.cells #[.map (some eb),.map (some fb),.map ao] 91)):=hB0 _
   have x0:(w.alloc (.cells #[.map (some eb),.map (some fb),.map ao] 91)).cell? ⟨w.heap.size,0,none⟩=some (.map (some eb)):=cell_fresh rfl
   have x1:(w.alloc (.cells #[.map (some eb),.map (some fb),.map ao] 91)).cell? ⟨w.heap.size,1,none⟩=some (.map (some fb)):=cell_fresh rfl
   have x2:(w.alloc (.cells #[.map (some eb),.map (some fb),.map ao] 91)).cell? ⟨w.heap.size,2,none⟩=some (.map ao):=cell_fresh rfl
   generalize w.alloc (.cells #[.map (some eb),.map (some fb),.map ao] 91)=W at hBW x0 x1 x2 ⊢
   have d0:=(hBW.cell (p:=⟨b,0,none⟩) hb).trans c0
   have d1:=(hBW.cell (p:=⟨b,1,none⟩) hb).trans c1
   have hlW:=World.block_lt_of_cell? W _ x0
   have hlb:=World.block_lt_of_cell? W _ d0
   go_region_held3 (fun W'=>W'.cell? ⟨b,0,none⟩=some (.int .i64 (q:Int))∧W'.cell? ⟨b,1,none⟩=some (.slice ua un uc)∧W'.cell? ⟨w.heap.size,0,none⟩=some (.map (some eb))∧W'.cell? ⟨w.heap.size,1,none⟩=some (.map (some fb))∧W'.cell? ⟨w.heap.size,2,none⟩=some (.map ao)) (go_keep) (first
    | (go_at_call 117;refine(clashAt_any hC _ q tb bb _ gb hs1 (HSB.out.below hbz)).mono ?_;rintro e2 w2 ⟨v2,rfl,hb2,hce2⟩;have z0:=(hb2.cell (p:=⟨b,0,none⟩) (bltc y0)).trans y0;have z1:=(hb2.cell (p:=⟨b,1,none⟩) (bltc y1)).trans y1;have z2:=(hb2.cell (p:=⟨w.heap.size,0,none⟩) (bltc y2)).trans y2;have z3:=(hb2.cell (p:=⟨w.heap.size,1,none⟩) (bltc y3)).trans y3;have z4:=(hb2.cell (p:=⟨w.heap.size,2,none⟩) (bltc y4)).trans y4)
    | (go_at_call 78;refine(HCT.out _ hBW.drew).mono ?_;rintro e1 w1 ⟨tb,rfl,hwh,hs1,hb1⟩;have hbz:=Below.all hBW.drew hb1;have y0:=(hb1.cell (p:=⟨b,0,none⟩) hlb).trans d0;have y1:=(hb1.cell (p:=⟨b,1,none⟩) hlb).trans d1;have y2:=(hb1.cell (p:=⟨w.heap.size,0,none⟩) hlW).trans x0;have y3:=(hb1.cell (p:=⟨w.heap.size,1,none⟩) hlW).trans x1;have y4:=(hb1.cell (p:=⟨w.heap.size,2,none⟩) hlW).trans x2))
   go_wp2_with fail
   go_ret
   exact⟨_,rfl,Below.all hbz hb2,hce2.below (Below.refl _ _) hbz.size⟩
  | loop =>
   simp only[tyOf]at *
   have as1:=as_loop_option
   have as2:=as_loop_loop
   go_enter Tryz.func135,Tryz.ntmps135
   go_wp2_with fail
   have hBW:Below w.heap.size w (w.alloc (.cells #[.map (some eb),.map (some fb),.map ao] 91)):=hB0 _
   have x0:(w.alloc (.cells #[.map (some eb),.map (some fb),.map ao] 91)).cell? ⟨w.heap.size,0,none⟩=some (.map (some eb)):=cell_fresh rfl
   have x1:(w.alloc (.cells #[.map (some eb),.map (some fb),.map ao] 91)).cell? ⟨w.heap.size,1,none⟩=some (.map (some fb)):=cell_fresh rfl
   have x2:(w.alloc (.cells #[.map (some eb),.map (some fb),.map ao] 91)).cell? ⟨w.heap.size,2,none⟩=some (.map ao):=cell_fresh rfl
   generalize w.alloc (.cells #[.map (some eb),.map (some fb),.map ao] 91)=W at hBW x0 x1 x2 ⊢
   have d0:=(hBW.cell (p:=⟨b,0,none⟩) hb).trans c0
   have d1:=(hBW.cell (p:=⟨b,1,none⟩) hb).trans c1
   have hlW:=World.block_lt_of_cell? W _ x0
   have hlb:=World.block_lt_of_cell? W _ d0
   go_region_held3 (fun W'=>W'.cell? ⟨b,0,none⟩=some (.int .i64 (q:Int))∧W'.cell? ⟨b,1,none⟩=some (.slice ua un uc)∧W'.cell? ⟨w.heap.size,0,none⟩=some (.map (some eb))∧W'.cell? ⟨w.heap.size,1,none⟩=some (.map (some fb))∧W'.cell? ⟨w.heap.size,2,none⟩=some (.map ao)) (go_keep) (first
    | (go_at_call 117;refine(clashAt_any hC _ q tb bb _ gb hs1 (HSB.out.below hbz)).mono ?_;rintro e2 w2 ⟨v2,rfl,hb2,hce2⟩;have z0:=(hb2.cell (p:=⟨b,0,none⟩) (bltc y0)).trans y0;have z1:=(hb2.cell (p:=⟨b,1,none⟩) (bltc y1)).trans y1;have z2:=(hb2.cell (p:=⟨w.heap.size,0,none⟩) (bltc y2)).trans y2;have z3:=(hb2.cell (p:=⟨w.heap.size,1,none⟩) (bltc y3)).trans y3;have z4:=(hb2.cell (p:=⟨w.heap.size,2,none⟩) (bltc y4)).trans y4)
    | (go_at_call 78;refine(HCT.out _ hBW.drew).mono ?_;rintro e1 w1 ⟨tb,rfl,hwh,hs1,hb1⟩;have hbz:=Below.all hBW.drew hb1;have y0:=(hb1.cell (p:=⟨b,0,none⟩) hlb).trans d0;have y1:=(hb1.cell (p:=⟨b,1,none⟩) hlb).trans d1;have y2:=(hb1.cell (p:=⟨w.heap.size,0,none⟩) hlW).trans x0;have y3:=(hb1.cell (p:=⟨w.heap.size,1,none⟩) hlW).trans x1;have y4:=(hb1.cell (p:=⟨w.heap.size,2,none⟩) hlW).trans x2))
   go_wp2_with fail
   go_ret
   exact⟨_,rfl,Below.all hbz hb2,hce2.below (Below.refl _ _) hbz.size⟩
  | grp =>
   simp only[tyOf]at *
   have as1:=as_group_option
   have as2:=as_group_loop
   go_enter Tryz.func135,Tryz.ntmps135
   go_wp2_with fail
   go_ret
   exact⟨_,rfl,hB0 _,rfl⟩
end
end Go.Proofs.YtpcmemcanpgadaaGreatDoor
