import Derived.Test.YtpcmemcanpgadaaGreatDoorXRowAG
import Derived.Test.YtpcmemcanpgadaaGreatDoorXTieG
set_option maxHeartbeats 2000000
set_option maxRecDepth 100000
namespace Go
theorem tkT {P:Program} {ops:Array Oper} {Q:Exit→Act→World→Prop} {md:Region.Mode} {S:World→Prop} {t:Nat} (i:Nat) (oi:Oper) (v:Value) {fuel:Nat} {listed:Array Bool} {a:Act} {w:World}
  (h:ops[i]?=some oi∧(∀c a w,Q (.panic c) (a.put oi.dst v) w→Q (.panic c) a w)∧YieldsIf P ops S oi v a) (hS:S w)
  (k:wpAnyT P md ops Q S t fuel (listed.setIfInBounds i true) (a.put oi.dst v) w)
  (hs:Region.noSelect ops=true:=by kernel_rfl) (hf:(Region.free md ops listed i&&((Region.ready md ops listed).contains i&&(upToB md ops listed&&waits md ops i ops.size t)))=true:=by kernel_rfl):wpAnyT P md ops Q S t (fuel+1) listed a w:=wpAnyT_take h.1 hs hf h.2.1 h.2.2 hS k
theorem tkH {P:Program} {ops:Array Oper} {Q:Exit→Act→World→Prop} {md:Region.Mode} {S:World→Prop} (i:Nat) (oi:Oper) (v:Value) {fuel:Nat} {listed:Array Bool} {a:Act} {w:World}
  (h:ops[i]?=some oi∧(∀c a w,Q (.panic c) (a.put oi.dst v) w→Q (.panic c) a w)∧YieldsIf P ops S oi v a) (hS:S w)
  (k:wpAnyH P md ops Q S fuel (listed.setIfInBounds i true) (a.put oi.dst v) w)
  (hs:Region.noSelect ops=true:=by kernel_rfl) (hf:Region.free md ops listed i=true:=by kernel_rfl) (hr:(Region.ready md ops listed).contains i=true:=by kernel_rfl):wpAnyH P md ops Q S (fuel+1) listed a w:=wpAnyH_take h.1 hs hf hr h.2.1 h.2.2 hS k
end Go
namespace Go.Proofs.YtpcmemcanpgadaaGreatDoor
open PredP (hide Str Rule bs)
section
open Go.RowKit
def okG (N0 gb b:Nat):Prop:=b<N0∧b≠gb
def boolC (l:List Bool):List Value:=l.map Value.bool
def bools (w:World) (v:Value) (l:List Bool):Prop:=slAt (fun _=>True) w 1 v (boolC l)
theorem bools.below {w w':World} {v:Value} {l:List Bool} (h:bools w v l) (hb:Below w.heap.size w w'):bools w' v l:=slAt.carry hb.size (fun b _ hl=>⟨trivial,hb.block b hl⟩) h
structure GM (N0 gb:Nat) (ns:List Str) (w:World):Prop where
 lt:gb<w.heap.size
 le:N0≤w.heap.size
 nm:∃vN,w.cell? ⟨gb,0,none⟩=some vN∧slAt (okG N0 gb) w 1 vN (strC ns)
theorem GM.below {N0 gb:Nat} {ns:List Str} {w w':World} (h:GM N0 gb ns w) (hb:Below w.heap.size w w'):GM N0 gb ns w':=by
 obtain⟨h1,h2,vN,h3,h4⟩:=h
 exact⟨Nat.lt_of_lt_of_le h1 hb.size,Nat.le_trans h2 hb.size,vN,(hb.cell (p:=⟨gb,0,none⟩) h1).trans h3,h4.carry hb.size (fun b hb' hl=>⟨hb',hb.block b hl⟩)⟩
def ixFrom (s:Str):Nat→List Str→Int
 | _,[]=>-1
 | k,n::l=>if n==s then(k:Int) else ixFrom s (k+1) l
def ruleIx (ns:List Str) (s:Str):Int:=ixFrom s 0 ns
theorem ixFrom_some {s:Str}:∀(ns:List Str) (k:Nat),s∈ns→∃j:Nat,ixFrom s k ns=((k+j:Nat):Int)∧ns[j]?=some s∧s∉ns.take j
 | [],_,h=>by simp at h
 | n::ns,k,h=>by
  rw[ixFrom]
  by_cases e:n=s
  ·exact⟨0,by simp[e],by simp[e],by simp⟩
  ·have hm:s∈ns:=by rcases List.mem_cons.1 h with h | h;exact absurd h.symm e;exact h
   obtain⟨j,h1,h2,h3⟩:=ixFrom_some ns (k+1) hm
   refine⟨j+1,?_,by simpa using h2,?_⟩
   ·rw[if_neg (by simpa using e),h1];omega
   ·rw[List.take_succ_cons,List.mem_cons];exact fun h=>h.elim (fun h=>e h.symm) h3
theorem ixFrom_none {s:Str}:∀(ns:List Str) (k:Nat),s∉ns→ixFrom s k ns=-1
 | [],_,_=>rfl
 | n::ns,k,h=>by
  rw[ixFrom,if_neg (by simpa using fun e=>h (by rw[e];exact List.mem_cons_self)),ixFrom_none ns (k+1) (fun h'=>h (List.mem_cons_of_mem _ h'))]
theorem ruleIx_some {ns:List Str} {s:Str} (h:s∈ns):∃j:Nat,ruleIx ns s=(j:Int)∧ns[j]?=some s∧s∉ns.take j:=by
 obtain⟨j,h1,h2,h3⟩:=ixFrom_some ns 0 h
 exact⟨j,by rw[ruleIx,h1];simp,h2,h3⟩
theorem ruleIx_none {ns:List Str} {s:Str} (h:s∉ns):ruleIx ns s=-1:=ixFrom_none ns 0 h
theorem rule_x (N0 gb:Nat) (ns:List Str) (w:World) (h:GM N0 gb ns w) (b:ByteArray) :
  Calls Tryz.prog 11 #[.pointer (some ⟨gb,0,none⟩),.string b] w fun e w'=>e=.returned (.int .i64 (ruleIx ns (bs b)))∧w'=w:=by
 obtain⟨_,_,vN,c0,hn⟩:=h
 obtain⟨a,n,cap,rfl,hm,_,hl,hc⟩:=hn.gen
 unfold maxLen at hm
 have HL:Hid (ns.length=n):=hide (by simpa[strC] using hl)
 have HC:=hide hc
 clear hc hl hn
 go_enter Tryz.func11,Tryz.ntmps11
 go_wp2_with fail
 go_loopw [12] (fun t wr=>wr=w∧∃k:Nat,k≤n∧t=.int .i64 k∧ruleIx ns (bs b)=ixFrom (bs b) k (ns.drop k)) (fun t _=>n - (intOf t).toNat)
 case atStart=>exact⟨rfl,0,by omega,rfl,rfl⟩
 case round =>
  obtain⟨rfl,k,hk,rfl,hR⟩:=hrel
  have HR:=hide hR
  clear hR
  by_cases hk':k<n
  ·rcases HC.out with h0 | ⟨g,rfl,_,hg,hcell⟩
   ·omega
   obtain⟨x,hx⟩:∃x,ns[k]?=some x:=⟨ns[k]'(by rw[HL.out];exact hk'),List.getElem?_eq_getElem _⟩
   obtain⟨c,hcx,k0⟩:=str_cell (hcell k _ (strC_get hx))
   have HX:=hide (drop_get hx)
   subst hcx
   clear hcell hx HC
   cases hq:(c.toList==b.toList)
   ·have HQ:=hide ((eq_str _ _).symm.trans hq)
    go_wp2_with fail
    refine⟨⟨trivial,k+1,by omega,by go_num,?_⟩,by simp[intOf];omega⟩
    rw[HR.out,HX.out,ixFrom,HQ.out];rfl
   ·have HQ:=hide ((eq_str _ _).symm.trans hq)
    go_wp2_with fail
    go_ret
    refine⟨?_,rfl⟩
    rw[HR.out,HX.out,ixFrom,HQ.out]
    rfl
  ·have hkk:ns.drop k=[]:=List.drop_of_length_le (by rw[HL.out];omega)
   have HK:=hide hkk
   clear hkk
   go_wp2_with fail
   go_ret
   refine⟨?_,rfl⟩
   rw[HR.out,HK.out]
   rfl
def kOf:List Str→List Bool→Str→Bool
 | n::ns,b::bl,s=>if n==s then b else kOf ns bl s
 | _,_,_=>false
theorem kOf_get {s:Str}:∀(ns:List Str) (bl:List Bool) (j:Nat),ns[j]?=some s→s∉ns.take j→ns.length=bl.length→bl[j]?=some (kOf ns bl s)
 | [],_,_,h,_,_=>by simp at h
 | n::ns,[],_,_,_,h=>by simp at h
 | n::ns,b::bl,0,h,_,_=>by
  simp at h
  subst h
  simp[kOf]
 | n::ns,b::bl,j+1,h,hn,hl=>by
  rw[List.take_succ_cons,List.mem_cons,not_or]at hn
  rw[kOf,if_neg (by simpa using fun e=>hn.1 e.symm)]
  rw[List.getElem?_cons_succ]
  exact kOf_get ns bl j (by simpa using h) hn.2 (by simpa using hl)
mutual
def nmX (ns:List Str):PredP.X→Prop
 | .mk _ o _ s _ l=>(o=.name→s∈ns)∧nmXs ns l
def nmXs (ns:List Str):PredP.Xs→Prop
 | .nil=>True
 | .cons x l=>nmX ns x∧nmXs ns l
end
theorem nmXs_iff {ns:List Str}:∀l:PredP.Xs,nmXs ns l↔∀y,y∈l.list→nmX ns y
 | .nil=>by unfold nmXs;simp[PredP.Xs.list]
 | .cons x l=>by unfold nmXs;rw[nmXs_iff l];simp[PredP.Xs.list]
def cntX (b:Bool) (k:Str→Bool) (l:List PredP.X):Nat:=(l.filter (PredP.derX b k)).length
theorem cntX_snoc {b:Bool} {k:Str→Bool} {l:List PredP.X} {j:Nat} {y:PredP.X} (h:l[j]?=some y):cntX b k (l.take (j+1))=cntX b k (l.take j)+(if PredP.derX b k y then 1 else 0):=by
 unfold cntX
 rw[List.take_add_one,h,List.filter_append,List.length_append]
 congr 1
 simp only[Option.toList,List.filter_cons,List.filter_nil]
 split<;>rfl
theorem cntX_le (b:Bool) (k:Str→Bool) (l:List PredP.X):cntX b k l≤l.length:=List.length_filter_le _ _
theorem derAll_cnt (b:Bool) (k:Str→Bool):∀l:PredP.Xs,PredP.derAll b k l=decide (cntX b k l.list=l.list.length)
 | .nil=>by rw[PredP.derAll];rfl
 | .cons x l=>by
  rw[PredP.derAll,derAll_cnt b k l,PredP.Xs.list]
  have:=cntX_le b k l.list
  unfold cntX at *
  rw[List.filter_cons]
  cases h:PredP.derX b k x
  ·simp;omega
  ·simp
theorem derAny_cnt (b:Bool) (k:Str→Bool):∀l:PredP.Xs,PredP.derAny b k l=decide (0<cntX b k l.list)
 | .nil=>by rw[PredP.derAny];rfl
 | .cons x l=>by
  rw[PredP.derAny,derAny_cnt b k l,PredP.Xs.list]
  unfold cntX at *
  rw[List.filter_cons]
  cases h:PredP.derX b k x
  ·simp
  ·simp
end
section
open Go.RowKit
theorem xAt.below {okN okA:Nat→Prop} {w w':World} {tie:Option (Option Nat×Nat)} {x:PredP.X} (h:xAt okN okA w tie x) (hb:Below w.heap.size w w'):xAt okN okA w' tie x:=xAt.carry hb.size (fun b h1 h2=>⟨h1,hb.block b h2⟩) (fun b h1 h2=>⟨h1,hb.block b h2⟩) x tie h
def EndC (x:PredP.X):Prop:=∀(N0 gb:Nat) (ns:List Str) (bl:List Bool) (vK:Value) (tie:Option (Option Nat×Nat)) (w:World),GM N0 gb ns w→bools w vK bl→ns.length=bl.length→xAt (okG N0 gb) (okG N0 gb) w tie x→nmX ns x →
 Calls Tryz.prog 55 #[.pointer (some ⟨gb,0,none⟩),.pointer (some ⟨x.id,0,none⟩),vK] w fun e w'=>e=.returned (.bool (PredP.derX true (kOf ns bl) x))∧Below w.heap.size w w'
def NotC (x:PredP.X):Prop:=∀(N0 gb:Nat) (ns:List Str) (bl:List Bool) (vK:Value) (tie:Option (Option Nat×Nat)) (w:World),GM N0 gb ns w→w.cell? ⟨gb,3,none⟩=some vK→bools w vK bl→ns.length=bl.length→xAt (okG N0 gb) (okG N0 gb) w tie x→nmX ns x →
 Calls Tryz.prog 83 #[.pointer (some ⟨gb,0,none⟩),.pointer (some ⟨x.id,0,none⟩)] w fun e w'=>e=.returned (.bool (PredP.derX false (kOf ns bl) x))∧Below w.heap.size w w'
theorem ret_b {a b:Bool} {v:Value} (hv:v=.bool a) (h:b=a):Ending.returned v=Ending.returned (.bool b):=by rw[hv,h]
theorem ends_x (x:PredP.X) (IH:Hid (∀y:PredP.X,SizeOf.sizeOf y<SizeOf.sizeOf x→EndC y)):EndC x:=by
 intro N0 gb ns bl vK tie w hM hK hlen hx hnm
 obtain⟨i,o,p,s,b,l⟩:=x
 unfold xAt at hx
 obtain⟨hok,hsl,L,B,U,k0,id0,hblk,hL,hB,_,hkids⟩:=hx
 unfold nmX at hnm
 obtain⟨a,nl,cap,rfl,hm,_,hll,hc⟩:=hL.gen
 unfold maxLen at hm
 have HM:=hide hM
 have HK:=hide hK
 have HLEN:=hide hlen
 have HKD:=hide hkids
 have HNM:=hide hnm
 have HC:=hide hc
 have HL:Hid (l.list.length=nl):=by
  show _=_
  rw[←PredP.Xs.len_ids]
  have:=hll
  simp[ptrC]at this
  exact this
 have c0:w.cell? ⟨i,0,none⟩=some (.string (opB o)):=by simp only[World.cell?,hblk];rfl
 obtain⟨cs,hcs,c2⟩:=str_cell (show w.cell? ⟨i,2,none⟩=some (vS s) by simp only[World.cell?,hblk];rfl)
 have c3:w.cell? ⟨i,3,none⟩=some (.slice a nl cap):=by simp only[World.cell?,hblk];rfl
 have hlt:i<w.heap.size:=(Array.getElem?_eq_some_iff.1 hblk).1
 clear hL hB hc hkids hll hlen hnm hK hblk
 simp only[PredP.X.id]
 go_enter Tryz.func55,Tryz.ntmps55
 go_wp2_with fail
 have HCS:=hide hcs
 clear hcs
 go_loopw [7,15] (fun v t wr=>∃j:Nat,j≤nl∧t=.int .i64 j∧v=.int .i64 (cntX true (kOf ns bl) (l.list.take j):Int)∧Below w.heap.size w wr) (fun _ t _=>nl - (intOf t).toNat)
 case atStart=>exact⟨0,by omega,rfl,rfl,Below.refl _ _⟩
 case round =>
  obtain⟨j,hj,rfl,rfl,hb⟩:=hrel
  have hcl:cntX true (kOf ns bl) (l.list.take j)≤j:=Nat.le_trans (cntX_le _ _ _) (by rw[List.length_take];omega)
  by_cases hj':j<nl
  ·obtain⟨y,hy⟩:∃y,l.list[j]?=some y:=⟨l.list[j]'(by rw[HL.out];exact hj'),List.getElem?_eq_getElem _⟩
   rcases HC.out with h0 | ⟨g,rfl,hokg,hg,hcell⟩
   ·omega
   have k0':wr.cell? ⟨g,j,none⟩=some (.pointer (some ⟨y.id,0,none⟩)):=(hb.cell (p:=⟨g,j,none⟩) hg).trans (hcell j _ (by simp[ptrC,PredP.Xs.ids_list,hy]))
   have hmem:=List.mem_of_getElem? hy
   have HIH:=hide (IH.out y (by have:=list_size l y hmem;simp;omega) N0 gb ns bl vK _ wr (HM.out.below hb) (HK.out.below hb) HLEN.out (xAt.below ((xsAt_iff l).1 HKD.out y hmem) hb) ((nmXs_iff l).1 HNM.out.2 y hmem))
   have HS:=hide (cntX_snoc (b:=true) (k:=kOf ns bl) hy)
   clear hy hmem hcell
   cases hd:PredP.derX true (kOf ns bl) y
   ·have HD:=hide hd
    clear hd
    go_wp2_with (go_at_call 55;refine HIH.out.mono ?_;rintro e w2 ⟨rfl,hb2⟩;rw[HD.out])
    refine⟨⟨j+1,by omega,by go_num,?_,Below.all hb hb2⟩,by simp[intOf];omega⟩
    rw[HS.out,HD.out];simp
   ·have HD:=hide hd
    clear hd
    go_wp2_with (go_at_call 55;refine HIH.out.mono ?_;rintro e w2 ⟨rfl,hb2⟩;rw[HD.out])
    refine⟨⟨j+1,by omega,by go_num,?_,Below.all hb hb2⟩,by simp[intOf];omega⟩
    rw[HS.out,HD.out];simp
  ·have htk:l.list.take j=l.list:=List.take_of_length_le (by rw[HL.out];omega)
   rw[htk]at hcl ⊢
   have HAll:=hide (derAll_cnt true (kOf ns bl) l)
   have HAny:=hide (derAny_cnt true (kOf ns bl) l)
   clear htk
   have d0:=(hb.cell (p:=⟨i,0,none⟩) hlt).trans c0
   have d2:=(hb.cell (p:=⟨i,2,none⟩) hlt).trans c2
   have d3:=(hb.cell (p:=⟨i,3,none⟩) hlt).trans c3
   have hM':=HM.out.below hb
   clear c0 c2 c3
   cases o with
   | word =>
    simp only[opB]at d0
    go_wp2_with fail
    go_ret
    exact⟨ret_b rfl (by rw[PredP.derX]),hb⟩
   | opt =>
    simp only[opB]at d0
    go_wp2_with fail
    go_ret
    exact⟨ret_b rfl (by rw[PredP.derX]),hb⟩
   | loop =>
    simp only[opB]at d0
    go_wp2_with fail
    go_ret
    exact⟨ret_b rfl (by rw[PredP.derX]),hb⟩
   | row =>
    simp only[opB]at d0
    by_cases hq:cntX true (kOf ns bl) l.list=nl
    ·have hqi:((cntX true (kOf ns bl) l.list:Nat):Int)=(nl:Int):=by omega
     have HQ:=hide hq
     clear hq
     go_wp2_with fail
     go_ret
     exact⟨ret_b rfl (by rw[PredP.derX,HAll.out,HL.out,HQ.out];simp),hb⟩
    ·have hqi:((cntX true (kOf ns bl) l.list:Nat):Int)≠(nl:Int):=by omega
     have HQ:=hide hq
     clear hq
     go_wp2_with fail
     go_ret
     exact⟨ret_b rfl (by rw[PredP.derX,HAll.out,HL.out,decide_eq_false HQ.out];symm;have:=HQ.out;simp;omega),hb⟩
   | bar =>
    simp only[opB]at d0
    by_cases hq:0<cntX true (kOf ns bl) l.list
    ·have hqi:((cntX true (kOf ns bl) l.list:Nat):Int) > 0:=by omega
     have HQ:=hide hq
     clear hq
     go_wp2_with fail
     go_ret
     exact⟨ret_b rfl (by rw[PredP.derX,HAny.out];try (simpa using HQ.out)),hb⟩
    ·have hqi:¬(((cntX true (kOf ns bl) l.list:Nat):Int) > 0):=by omega
     have HQ:=hide hq
     clear hq
     go_wp2_with fail
     go_ret
     exact⟨ret_b rfl (by rw[PredP.derX,HAny.out];try (simpa using HQ.out)),hb⟩
   | name =>
    simp only[opB]at d0
    obtain⟨j1,h1,h2,h3⟩:=ruleIx_some (HNM.out.1 rfl)
    have hget:=kOf_get ns bl j1 h2 h3 HLEN.out
    have hj1:j1<bl.length:=(List.getElem?_eq_some_iff.1 hget).1
    obtain⟨ka,kn,kc,rfl,hkm,_,hkl,hkc⟩:=(HK.out.below hb).gen
    unfold maxLen at hkm
    have hkn:bl.length=kn:=by simpa[boolC] using hkl
    rcases hkc with h0 | ⟨kg,rfl,_,hkg,hkcell⟩
    ·omega
    have e0:wr.cell? ⟨kg,j1,none⟩=some (.bool (kOf ns bl s)):=hkcell j1 _ (by simp[boolC,hget])
    have hj1':j1<kn:=by omega
    have HR:Hid (ruleIx ns (bs cs)=(j1:Int)):=by show _=_;rw[HCS.out];exact h1
    clear h1 h2 h3 hget hkcell hkl hkn hj1
    go_wp2_with (go_at_call 11;refine(rule_x N0 gb ns _ hM' cs).mono ?_;rintro e w5 ⟨rfl,rfl⟩;rw[HR.out])
    go_ret
    exact⟨ret_b rfl (by rw[PredP.derX]),hb⟩
theorem ends_all (x:PredP.X):EndC x:=by
 induction h:SizeOf.sizeOf x using Nat.strongRecOn generalizing x with
 | ind n ih=>exact ends_x x (hide fun y hy=>ih _ (by omega) y rfl)
theorem nothing_x (x:PredP.X) (IH:Hid (∀y:PredP.X,SizeOf.sizeOf y<SizeOf.sizeOf x→NotC y)):NotC x:=by
 intro N0 gb ns bl vK tie w hM hC3 hK hlen hx hnm
 obtain⟨i,o,p,s,b,l⟩:=x
 unfold xAt at hx
 obtain⟨hok,hsl,L,B,U,k0,id0,hblk,hL,hB,_,hkids⟩:=hx
 unfold nmX at hnm
 obtain⟨a,nl,cap,rfl,hm,_,hll,hc⟩:=hL.gen
 unfold maxLen at hm
 have HM:=hide hM
 have HK:=hide hK
 have HLEN:=hide hlen
 have HKD:=hide hkids
 have HNM:=hide hnm
 have HC:=hide hc
 have HC3:=hide hC3
 have HL:Hid (l.list.length=nl):=by
  show _=_
  rw[←PredP.Xs.len_ids]
  have:=hll
  simp[ptrC]at this
  exact this
 have c0:w.cell? ⟨i,0,none⟩=some (.string (opB o)):=by simp only[World.cell?,hblk];rfl
 obtain⟨cs,hcs,c2⟩:=str_cell (show w.cell? ⟨i,2,none⟩=some (vS s) by simp only[World.cell?,hblk];rfl)
 have c3:w.cell? ⟨i,3,none⟩=some (.slice a nl cap):=by simp only[World.cell?,hblk];rfl
 have hlt:i<w.heap.size:=(Array.getElem?_eq_some_iff.1 hblk).1
 clear hL hB hc hkids hll hlen hnm hK hblk hC3
 simp only[PredP.X.id]
 go_enter Tryz.func83,Tryz.ntmps83
 go_wp2_with fail
 have HCS:=hide hcs
 clear hcs
 go_loopw [5,13] (fun v t wr=>∃j:Nat,j≤nl∧t=.int .i64 j∧v=.int .i64 (cntX false (kOf ns bl) (l.list.take j):Int)∧Below w.heap.size w wr) (fun _ t _=>nl - (intOf t).toNat)
 case atStart=>exact⟨0,by omega,rfl,rfl,Below.refl _ _⟩
 case round =>
  obtain⟨j,hj,rfl,rfl,hb⟩:=hrel
  have hcl:cntX false (kOf ns bl) (l.list.take j)≤j:=Nat.le_trans (cntX_le _ _ _) (by rw[List.length_take];omega)
  by_cases hj':j<nl
  ·obtain⟨y,hy⟩:∃y,l.list[j]?=some y:=⟨l.list[j]'(by rw[HL.out];exact hj'),List.getElem?_eq_getElem _⟩
   rcases HC.out with h0 | ⟨g,rfl,hokg,hg,hcell⟩
   ·omega
   have k0':wr.cell? ⟨g,j,none⟩=some (.pointer (some ⟨y.id,0,none⟩)):=(hb.cell (p:=⟨g,j,none⟩) hg).trans (hcell j _ (by simp[ptrC,PredP.Xs.ids_list,hy]))
   have hmem:=List.mem_of_getElem? hy
   have HIH:=hide (IH.out y (by have:=list_size l y hmem;simp;omega) N0 gb ns bl vK _ wr (HM.out.below hb) ((hb.cell (p:=⟨gb,3,none⟩) hM.lt).trans HC3.out) (HK.out.below hb) HLEN.out (xAt.below ((xsAt_iff l).1 HKD.out y hmem) hb) ((nmXs_iff l).1 HNM.out.2 y hmem))
   have HS:=hide (cntX_snoc (b:=false) (k:=kOf ns bl) hy)
   clear hy hmem hcell
   cases hd:PredP.derX false (kOf ns bl) y
   ·have HD:=hide hd
    clear hd
    go_wp2_with (go_at_call 83;refine HIH.out.mono ?_;rintro e w2 ⟨rfl,hb2⟩;rw[HD.out])
    refine⟨⟨j+1,by omega,by go_num,?_,Below.all hb hb2⟩,by simp[intOf];omega⟩
    rw[HS.out,HD.out];simp
   ·have HD:=hide hd
    clear hd
    go_wp2_with (go_at_call 83;refine HIH.out.mono ?_;rintro e w2 ⟨rfl,hb2⟩;rw[HD.out])
    refine⟨⟨j+1,by omega,by go_num,?_,Below.all hb hb2⟩,by simp[intOf];omega⟩
    rw[HS.out,HD.out];simp
  ·have htk:l.list.take j=l.list:=List.take_of_length_le (by rw[HL.out];omega)
   rw[htk]at hcl ⊢
   have HAll:=hide (derAll_cnt false (kOf ns bl) l)
   have HAny:=hide (derAny_cnt false (kOf ns bl) l)
   clear htk
   have d0:=(hb.cell (p:=⟨i,0,none⟩) hlt).trans c0
   have d2:=(hb.cell (p:=⟨i,2,none⟩) hlt).trans c2
   have d3:=(hb.cell (p:=⟨i,3,none⟩) hlt).trans c3
   have hM':=HM.out.below hb
   clear c0 c2 c3
   cases o with
   | word =>
    simp only[opB]at d0
    go_wp2_with fail
    go_ret
    exact⟨ret_b rfl (by rw[PredP.derX]),hb⟩
   | opt =>
    simp only[opB]at d0
    go_wp2_with fail
    go_ret
    exact⟨ret_b rfl (by rw[PredP.derX]),hb⟩
   | loop =>
    simp only[opB]at d0
    go_wp2_with fail
    go_ret
    exact⟨ret_b rfl (by rw[PredP.derX]),hb⟩
   | row =>
    simp only[opB]at d0
    by_cases hq:cntX false (kOf ns bl) l.list=nl
    ·have hqi:((cntX false (kOf ns bl) l.list:Nat):Int)=(nl:Int):=by omega
     have HQ:=hide hq
     clear hq
     go_wp2_with fail
     go_ret
     exact⟨ret_b rfl (by rw[PredP.derX,HAll.out,HL.out,HQ.out];simp),hb⟩
    ·have hqi:((cntX false (kOf ns bl) l.list:Nat):Int)≠(nl:Int):=by omega
     have HQ:=hide hq
     clear hq
     go_wp2_with fail
     go_ret
     exact⟨ret_b rfl (by rw[PredP.derX,HAll.out,HL.out,decide_eq_false HQ.out];symm;have:=HQ.out;simp;omega),hb⟩
   | bar =>
    simp only[opB]at d0
    by_cases hq:0<cntX false (kOf ns bl) l.list
    ·have hqi:((cntX false (kOf ns bl) l.list:Nat):Int) > 0:=by omega
     have HQ:=hide hq
     clear hq
     go_wp2_with fail
     go_ret
     exact⟨ret_b rfl (by rw[PredP.derX,HAny.out];try (simpa using HQ.out)),hb⟩
    ·have hqi:¬(((cntX false (kOf ns bl) l.list:Nat):Int) > 0):=by omega
     have HQ:=hide hq
     clear hq
     go_wp2_with fail
     go_ret
     exact⟨ret_b rfl (by rw[PredP.derX,HAny.out];try (simpa using HQ.out)),hb⟩
   | name =>
    simp only[opB]at d0
    obtain⟨j1,h1,h2,h3⟩:=ruleIx_some (HNM.out.1 rfl)
    have hget:=kOf_get ns bl j1 h2 h3 HLEN.out
    have hj1:j1<bl.length:=(List.getElem?_eq_some_iff.1 hget).1
    obtain⟨ka,kn,kc,rfl,hkm,_,hkl,hkc⟩:=(HK.out.below hb).gen
    unfold maxLen at hkm
    have hkn:bl.length=kn:=by simpa[boolC] using hkl
    rcases hkc with h0 | ⟨kg,rfl,_,hkg,hkcell⟩
    ·omega
    have e0:wr.cell? ⟨kg,j1,none⟩=some (.bool (kOf ns bl s)):=hkcell j1 _ (by simp[boolC,hget])
    have hj1':j1<kn:=by omega
    have HR:Hid (ruleIx ns (bs cs)=(j1:Int)):=by show _=_;rw[HCS.out];exact h1
    clear h1 h2 h3 hget hkcell hkl hkn hj1
    have d4:=(hb.cell (p:=⟨gb,3,none⟩) hM.lt).trans HC3.out
    go_wp2_with fail
    refine wp_region_held_drew (S:=fun W'=>W'.cell? ⟨gb,3,none⟩=some (.slice (some ⟨kg,0,none⟩) kn kc)∧W'.cell? ⟨i,2,none⟩=some (.string cs)∧W'.cell? ⟨kg,j1,none⟩=some (.bool (kOf ns bl s))) (by kernel_rfl) ⟨d4,d2,e0⟩ (fun hHeld=>?_)
    refine tkH 0 ?o0a ?v0a ?i0a hHeld ?_
    case i0a=>(refine⟨?_,?_,Or.inl ⟨?_,?_⟩⟩;simp only[gc3];rfl;exact fun _ _ _ h=>h;rfl;rintro W ⟨q0,q1,q2⟩;go_simp;(try with_reducible rfl))
    simp only[Act.put,pu3]
    refine tkH 1 ?o1a ?v1a ?i1a hHeld ?_
    case i1a=>(refine⟨?_,?_,Or.inl ⟨?_,?_⟩⟩;simp only[gc3];rfl;exact fun _ _ _ h=>h;rfl;rintro W ⟨q0,q1,q2⟩;go_simp;(try with_reducible rfl))
    simp only[Act.put,pu3]
    refine tkH 2 ?o2a ?v2a ?i2a hHeld ?_
    case i2a=>(refine⟨?_,?_,Or.inl ⟨?_,?_⟩⟩;simp only[gc3];rfl;exact fun _ _ _ h=>h;rfl;rintro W ⟨q0,q1,q2⟩;go_simp;(try with_reducible rfl))
    simp only[Act.put,pu3]
    refine tkH 3 ?o3a ?v3a ?i3a hHeld ?_
    case i3a=>(refine⟨?_,?_,Or.inl ⟨?_,?_⟩⟩;simp only[gc3];rfl;exact fun _ _ _ h=>h;rfl;rintro W ⟨q0,q1,q2⟩;go_simp;(try with_reducible rfl))
    simp only[Act.put,pu3]
    refine tkH 4 ?o4a ?v4a ?i4a hHeld ?_
    case i4a=>(refine⟨?_,?_,Or.inl ⟨?_,?_⟩⟩;simp only[gc3];rfl;exact fun _ _ _ h=>h;rfl;rintro W ⟨q0,q1,q2⟩;go_simp;(try with_reducible rfl))
    simp only[Act.put,pu3]
    refine tkH 5 ?o5a ?v5a ?i5a hHeld ?_
    case i5a=>(refine⟨?_,?_,Or.inl ⟨?_,?_⟩⟩;simp only[gc3];rfl;exact fun _ _ _ h=>h;rfl;rintro W ⟨q0,q1,q2⟩;go_simp;(try with_reducible rfl))
    simp only[Act.put,pu3]
    refine tkH 6 ?o6a ?v6a ?i6a hHeld ?_
    case i6a=>(refine⟨?_,?_,Or.inl ⟨?_,?_⟩⟩;simp only[gc3];rfl;exact fun _ _ _ h=>h;rfl;rintro W ⟨q0,q1,q2⟩;go_simp;(try with_reducible rfl))
    simp only[Act.put,pu3]
    refine tkH 7 ?o7a ?v7a ?i7a hHeld ?_
    case i7a=>(refine⟨?_,?_,Or.inl ⟨?_,?_⟩⟩;simp only[gc3];rfl;exact fun _ _ _ h=>h;rfl;rintro W ⟨q0,q1,q2⟩;go_simp;(try with_reducible rfl))
    simp only[Act.put,pu3]
    refine tkH 8 ?o8a ?v8a ?i8a hHeld ?_
    case i8a=>(refine⟨?_,?_,Or.inl ⟨?_,?_⟩⟩;simp only[gc3];rfl;exact fun _ _ _ h=>h;rfl;rintro W ⟨q0,q1,q2⟩;go_simp;(try with_reducible rfl))
    simp only[Act.put,pu3]
    refine wpAnyH_ready (rs:=[9]) (by kernel_rfl) (by simp) ?_
    refine AllReadyH.cons (o:=?o9a) ?i9a (fun K hK=>?c9a) AllReadyH.nil
    case i9a=>(simp only[gc3];rfl)
    go_simp
    go_at_call 11
    refine(rule_x N0 gb ns _ (GM.below hM' (Below.refl _ wr).drew) cs).mono ?_
    rintro e w5 ⟨rfl,rfl⟩
    rw[HR.out]
    refine hK.out _ _ ⟨d4,d2,e0⟩ (fun hHeld2=>?_)
    clear hK K
    have hHeld:=hHeld2
    clear hHeld2
    try simp only[Act.put,pu3]
    refine tkH 10 ?o10a ?v10a ?i10a hHeld ?_
    case i10a=>(refine⟨?_,?_,Or.inl ⟨?_,?_⟩⟩;simp only[gc3];rfl;exact fun _ _ _ h=>h;rfl;rintro W ⟨q0,q1,q2⟩;go_simp;(try with_reducible rfl))
    simp only[Act.put,pu3]
    refine tkH 11 ?o11a ?v11a ?i11a hHeld ?_
    case i11a=>(refine⟨?_,?_,Or.inl ⟨?_,?_⟩⟩;simp only[gc3];rfl;exact fun _ _ _ h=>h;rfl;rintro W ⟨q0,q1,q2⟩;go_simp;(try with_reducible rfl))
    simp only[Act.put,pu3]
    refine tkH 12 ?o12a ?v12a ?i12a hHeld ?_
    case i12a=>(refine⟨?_,?_,Or.inl ⟨?_,?_⟩⟩;simp only[gc3];rfl;exact fun _ _ _ h=>h;rfl;rintro W ⟨q0,q1,q2⟩;go_simp;(try with_reducible rfl))
    simp only[Act.put,pu3]
    refine wpAnyH_done (by kernel_rfl) ?_ _
    go_wp2_with fail
    go_ret
    exact⟨ret_b rfl (by rw[PredP.derX]),hb.drew⟩
theorem nothing_all (x:PredP.X):NotC x:=by
 induction h:SizeOf.sizeOf x using Nat.strongRecOn generalizing x with
 | ind n ih=>exact nothing_x x (hide fun y hy=>ih _ (by omega) y rfl)
end
section
open Go.RowKit
def lists (w:World) (v:Value) (fl:List (List Str)):Prop:=∃vs:List Value,slAt (fun _=>True) w 1 v vs∧vs.length=fl.length∧∀(k:Nat) (u:Value) (ll:List Str),vs[k]?=some u→fl[k]?=some ll→strs w u ll
theorem lists.below {w w':World} {v:Value} {fl:List (List Str)} (h:lists w v fl) (hb:Below w.heap.size w w'):lists w' v fl:=by
 obtain⟨vs,h1,h2,h3⟩:=h
 exact⟨vs,slAt.carry hb.size (fun b _ hl=>⟨trivial,hb.block b hl⟩) h1,h2,fun k u ll hu hl=>(h3 k u ll hu hl).below hb⟩
def fOf:List Str→List (List Str)→Str→List Str
 | n::ns,f::fl,s=>if n==s then f else fOf ns fl s
 | _,_,_=>[]
theorem fOf_get {s:Str}:∀(ns:List Str) (fl:List (List Str)) (j:Nat),ns[j]?=some s→s∉ns.take j→ns.length=fl.length→fl[j]?=some (fOf ns fl s)
 | [],_,_,h,_,_=>by simp at h
 | n::ns,[],_,_,_,h=>by simp at h
 | n::ns,b::fl,0,h,_,_=>by
  simp at h
  subst h
  simp[fOf]
 | n::ns,b::fl,j+1,h,hn,hl=>by
  rw[List.take_succ_cons,List.mem_cons,not_or]at hn
  rw[fOf,if_neg (by simpa using fun e=>hn.1 e.symm)]
  rw[List.getElem?_cons_succ]
  exact fOf_get ns fl j (by simpa using h) hn.2 (by simpa using hl)
theorem fOf_mem:∀(ns:List Str) (fl:List (List Str)) (s:Str),fOf ns fl s=[]∨fOf ns fl s∈fl
 | [],_,_=>.inl (by simp[fOf])
 | _::_,[],_=>.inl (by simp[fOf])
 | n::ns,f::fl,s=>by
  rw[fOf]
  split
  ·exact .inr List.mem_cons_self
  ·rcases fOf_mem ns fl s with h | h
   ·exact .inl h
   ·exact .inr (List.mem_cons_of_mem _ h)
def hasOf (ns:List Str) (fl:List (List Str)) (u n:Str):Bool:=(fOf ns fl n).contains u
structure Ups (U:List Str) (fl:List (List Str)):Prop where
 up:∀ll,ll∈fl→PredP.Rising ll
 sub:∀ll,ll∈fl→∀u,u∈ll→u∈U
theorem Ups.tells {U ns:List Str} {fl:List (List Str)} (h:Ups U fl) (n:Str):PredP.Tells (fOf ns fl n) (fun u=>hasOf ns fl u n) :=
 ⟨by
   rcases fOf_mem ns fl n with e | e
   ·rw[e];exact List.Pairwise.nil
   ·exact h.up _ e,fun _=>rfl⟩
theorem Ups.in' {U ns:List Str} {fl:List (List Str)} (h:Ups U fl) {u n:Str} (hu:hasOf ns fl u n=true):u∈U:=by
 unfold hasOf at hu
 rcases fOf_mem ns fl n with e | e
 ·rw[e]at hu;cases hu
 ·exact h.sub _ e u (by simpa using hu)
mutual
def wdX (U:List Str):PredP.X→Prop
 | .mk _ o _ s _ l=>(o=.word→s∈U)∧wdXs U l
def wdXs (U:List Str):PredP.Xs→Prop
 | .nil=>True
 | .cons x l=>wdX U x∧wdXs U l
end
theorem wdXs_iff {U:List Str}:∀l:PredP.Xs,wdXs U l↔∀y,y∈l.list→wdX U y
 | .nil=>by unfold wdXs;simp[PredP.Xs.list]
 | .cons x l=>by unfold wdXs;rw[wdXs_iff l];simp[PredP.Xs.list]
mutual
theorem fstX_U {U:List Str} {u:Str} {f k:Str→Bool} (hf:∀n,f n=true→u∈U):∀x:PredP.X,wdX U x→PredP.fstX u f k x=true→u∈U
 | .mk _ .word _ s _ _,h,e=>by rw[PredP.fstX,beq_iff_eq]at e;unfold wdX at h;rw[←e];exact h.1 rfl
 | .mk _ .name _ s _ _,h,e=>by rw[PredP.fstX]at e;exact hf _ e
 | .mk _ .row _ _ _ l,h,e=>by rw[PredP.fstX]at e;unfold wdX at h;exact fstRow_U hf l h.2 e
 | .mk _ .bar _ _ _ l,h,e=>by rw[PredP.fstX]at e;unfold wdX at h;exact fstAny_U hf l h.2 e
 | .mk _ .opt _ _ _ l,h,e=>by rw[PredP.fstX]at e;unfold wdX at h;exact fstAny_U hf l h.2 e
 | .mk _ .loop _ _ _ l,h,e=>by rw[PredP.fstX]at e;unfold wdX at h;exact fstAny_U hf l h.2 e
theorem fstRow_U {U:List Str} {u:Str} {f k:Str→Bool} (hf:∀n,f n=true→u∈U):∀l:PredP.Xs,wdXs U l→PredP.fstRow u f k l=true→u∈U
 | .nil,_,e=>by rw[PredP.fstRow]at e;cases e
 | .cons x l,h,e=>by
  unfold wdXs at h
  rw[PredP.fstRow,Bool.or_eq_true,Bool.and_eq_true]at e
  rcases e with e | e
  ·exact fstX_U hf x h.1 e
  ·exact fstRow_U hf l h.2 e.2
theorem fstAny_U {U:List Str} {u:Str} {f k:Str→Bool} (hf:∀n,f n=true→u∈U):∀l:PredP.Xs,wdXs U l→PredP.fstAny u f k l=true→u∈U
 | .nil,_,e=>by rw[PredP.fstAny]at e;cases e
 | .cons x l,h,e=>by
  unfold wdXs at h
  rw[PredP.fstAny,Bool.or_eq_true]at e
  rcases e with e | e
  ·exact fstX_U hf x h.1 e
  ·exact fstAny_U hf l h.2 e
end
theorem drop_list:∀(l:PredP.Xs) (j:Nat) (y:PredP.X),l.list[j]?=some y→l.drop j=.cons y (l.drop (j+1))
 | .nil,_,_,h=>by simp[PredP.Xs.list]at h
 | .cons x l,0,y,h=>by simp[PredP.Xs.list]at h;subst h;rw[PredP.Xs.drop,PredP.Xs.drop,PredP.Xs.drop]
 | .cons x l,j+1,y,h=>by
  rw[PredP.Xs.list,List.getElem?_cons_succ]at h
  rw[PredP.Xs.drop,PredP.Xs.drop];exact drop_list l j y h
theorem drop_end:∀(l:PredP.Xs) (j:Nat),l.list.length≤j→l.drop j=.nil
 | .nil,0,_=>rfl
 | .nil,_+1,_=>rfl
 | .cons x l,0,h=>by simp[PredP.Xs.list]at h
 | .cons x l,j+1,h=>by rw[PredP.Xs.drop];exact drop_end l j (by simpa[PredP.Xs.list] using h)
structure FE (N0 gb:Nat) (U ns:List Str) (bl:List Bool) (fl:List (List Str)) (w:World):Prop where
 gm:GM N0 gb ns w
 em:∃vK,w.cell? ⟨gb,3,none⟩=some vK∧bools w vK bl
 fs:∃vF,w.cell? ⟨gb,4,none⟩=some vF∧lists w vF fl
 lb:ns.length=bl.length
 lf:ns.length=fl.length
 ups:Ups U fl
 small:U.length≤1000
theorem FE.below {N0 gb:Nat} {U ns:List Str} {bl:List Bool} {fl:List (List Str)} {w w':World} (h:FE N0 gb U ns bl fl w) (hb:Below w.heap.size w w'):FE N0 gb U ns bl fl w':=by
 obtain⟨h1,⟨vK,h2,h3⟩,⟨vF,h4,h5⟩,h6,h7,h8,h9⟩:=h
 exact⟨h1.below hb,⟨vK,(hb.cell (p:=⟨gb,3,none⟩) h1.lt).trans h2,h3.below hb⟩,⟨vF,(hb.cell (p:=⟨gb,4,none⟩) h1.lt).trans h4,h5.below hb⟩,h6,h7,h8,h9⟩
def StrsPost (w:World) (P:Str→Bool) (e:Ending) (w':World):Prop:=∃v L,e=.returned v∧strs w' v L∧PredP.Tells L P∧Below w.heap.size w w'
def FstC (x:PredP.X):Prop:=∀(N0 gb:Nat) (U ns:List Str) (bl:List Bool) (fl:List (List Str)) (tie:Option (Option Nat×Nat)) (w:World),FE N0 gb U ns bl fl w→xAt (okG N0 gb) (okG N0 gb) w tie x→nmX ns x→wdX U x →
 Calls Tryz.prog 84 #[.pointer (some ⟨gb,0,none⟩),.pointer (some ⟨x.id,0,none⟩)] w (StrsPost w fun u=>PredP.fstX u (hasOf ns fl u) (kOf ns bl) x)
theorem one_strs {w:World} {c:ByteArray}:strs (w.alloc (.cells #[.string c] 9)) (.slice (some ⟨w.heap.size,0,none⟩) 1 1) [bs c]:=by
 refine .inr ⟨w.heap.size,1,1,rfl,Nat.le_min.2 ⟨Nat.le_refl _,by unfold maxLen;omega⟩,⟨_,_,heap_alloc_new w _⟩,by simp,rfl,?_⟩
 intro j u hu
 cases j with
 | zero=>simp[strC]at hu;subst hu;exact cell_fresh rfl
 | succ j=>simp[strC]at hu
def restF (row:Bool) (f:Str→Str→Bool) (k:Str→Bool) (l:PredP.Xs) (u:Str):Bool:=if row then PredP.fstRow u (f u) k l else PredP.fstAny u (f u) k l
structure XFRel (row:Bool) (w:World) (f:Str→Str→Bool) (k:Str→Bool) (l:PredP.Xs) (j:Nat) (v:Value) (wr:World):Prop where
 low:Below w.heap.size w wr
 got:∃L P,strs wr v L∧PredP.Tells L P∧∀u,restF row f k l u=(P u||restF row f k (l.drop j) u)
theorem XFRel.zero {row:Bool} {w:World} {f:Str→Str→Bool} {k:Str→Bool} {l:PredP.Xs}:XFRel row w f k l 0 (.slice none 0 0) w :=
 ⟨Below.refl _ _,[],fun _=>false,.inl ⟨rfl,rfl⟩,PredP.Tells.nil,fun u=>by rw[PredP.Xs.drop,Bool.false_or]⟩
theorem first_x (x:PredP.X) (IH:Hid (∀y:PredP.X,SizeOf.sizeOf y<SizeOf.sizeOf x→FstC y)):FstC x:=by
 intro N0 gb U ns bl fl tie w hE hx hnm hwd
 obtain⟨i,o,p,s,b,l⟩:=x
 unfold xAt at hx
 obtain⟨hok,hsl,L,B,U0,k0,id0,hblk,hL,hB,_,hkids⟩:=hx
 unfold nmX at hnm
 unfold wdX at hwd
 obtain⟨a,nl,cap,rfl,hm,_,hll,hc⟩:=hL.gen
 unfold maxLen at hm
 have HE:=hide hE
 have HUPS:=hide hE.ups
 have hSm:=hE.small
 have HKD:=hide hkids
 have HNM:=hide hnm
 have HWD:=hide hwd
 have HC:=hide hc
 have HL:Hid (l.list.length=nl):=by
  show _=_
  rw[←PredP.Xs.len_ids]
  have:=hll
  simp[ptrC]at this
  exact this
 have c0:w.cell? ⟨i,0,none⟩=some (.string (opB o)):=by simp only[World.cell?,hblk];rfl
 obtain⟨cs,hcs,c2⟩:=str_cell (show w.cell? ⟨i,2,none⟩=some (vS s) by simp only[World.cell?,hblk];rfl)
 have c3:w.cell? ⟨i,3,none⟩=some (.slice a nl cap):=by simp only[World.cell?,hblk];rfl
 have hlt:i<w.heap.size:=(Array.getElem?_eq_some_iff.1 hblk).1
 have HCS:=hide hcs
 clear hL hB hc hkids hll hnm hwd hblk hcs
 simp only[PredP.X.id]
 go_enter Tryz.func84,Tryz.ntmps84
 cases o with
 | word =>
  simp only[opB]at c0
  go_wp2_with fail
  go_ret
  refine⟨_,_,rfl,one_strs,(PredP.Tells.one _).ext (fun u=>?_),(Below.refl _ _).alloc (Nat.le_refl _) _⟩
  rw[PredP.fstX,HCS.out]
 | name =>
  simp only[opB]at c0
  obtain⟨j1,h1,h2,h3⟩:=ruleIx_some (HNM.out.1 rfl)
  have hget:=fOf_get ns fl j1 h2 h3 hE.lf
  have hj1:j1<fl.length:=(List.getElem?_eq_some_iff.1 hget).1
  obtain⟨vF,d4,vs,hvs,hvl,hve⟩:=hE.fs
  obtain⟨ka,kn,kc,rfl,hkm,_,hkl,hkc⟩:=hvs.gen
  unfold maxLen at hkm
  have hkn:vs.length=kn:=by simpa using hkl
  rcases hkc with h0 | ⟨kg,rfl,_,hkg,hkcell⟩
  ·omega
  obtain⟨vj,hvj⟩:∃vj,vs[j1]?=some vj:=⟨vs[j1]'(by omega),List.getElem?_eq_getElem _⟩
  have e0:w.cell? ⟨kg,j1,none⟩=some vj:=hkcell j1 _ hvj
  have hsj:=hve j1 vj _ hvj hget
  have hj1':j1<kn:=by omega
  obtain⟨sa,sn,sc,rfl,_⟩:=hsj.gen
  have HR:Hid (ruleIx ns (bs cs)=(j1:Int)):=by show _=_;rw[HCS.out];exact h1
  have HSJ:=hide hsj
  have hGM:=hE.gm
  clear h1 h2 h3 hget hkcell hkl hkn hj1 hvj hvs hvl hve hsj
  go_wp2_with fail
  refine wp_region_held_drew (S:=fun W'=>W'.cell? ⟨gb,4,none⟩=some (.slice (some ⟨kg,0,none⟩) kn kc)∧W'.cell? ⟨i,2,none⟩=some (.string cs)∧W'.cell? ⟨kg,j1,none⟩=some (.slice sa sn sc)) (by kernel_rfl) ⟨d4,c2,e0⟩ (fun hHeld=>?_)
  refine tkH 0 ?o0a ?v0a ?i0a hHeld ?_
  case i0a=>(refine⟨?_,?_,Or.inl ⟨?_,?_⟩⟩;simp only[gc3];rfl;exact fun _ _ _ h=>h;rfl;rintro W ⟨q0,q1,q2⟩;go_simp;(try with_reducible rfl))
  simp only[Act.put,pu3]
  refine tkH 1 ?o1a ?v1a ?i1a hHeld ?_
  case i1a=>(refine⟨?_,?_,Or.inl ⟨?_,?_⟩⟩;simp only[gc3];rfl;exact fun _ _ _ h=>h;rfl;rintro W ⟨q0,q1,q2⟩;go_simp;(try with_reducible rfl))
  simp only[Act.put,pu3]
  refine tkH 2 ?o2a ?v2a ?i2a hHeld ?_
  case i2a=>(refine⟨?_,?_,Or.inl ⟨?_,?_⟩⟩;simp only[gc3];rfl;exact fun _ _ _ h=>h;rfl;rintro W ⟨q0,q1,q2⟩;go_simp;(try with_reducible rfl))
  simp only[Act.put,pu3]
  refine tkH 3 ?o3a ?v3a ?i3a hHeld ?_
  case i3a=>(refine⟨?_,?_,Or.inl ⟨?_,?_⟩⟩;simp only[gc3];rfl;exact fun _ _ _ h=>h;rfl;rintro W ⟨q0,q1,q2⟩;go_simp;(try with_reducible rfl))
  simp only[Act.put,pu3]
  refine tkH 4 ?o4a ?v4a ?i4a hHeld ?_
  case i4a=>(refine⟨?_,?_,Or.inl ⟨?_,?_⟩⟩;simp only[gc3];rfl;exact fun _ _ _ h=>h;rfl;rintro W ⟨q0,q1,q2⟩;go_simp;(try with_reducible rfl))
  simp only[Act.put,pu3]
  refine tkH 5 ?o5a ?v5a ?i5a hHeld ?_
  case i5a=>(refine⟨?_,?_,Or.inl ⟨?_,?_⟩⟩;simp only[gc3];rfl;exact fun _ _ _ h=>h;rfl;rintro W ⟨q0,q1,q2⟩;go_simp;(try with_reducible rfl))
  simp only[Act.put,pu3]
  refine tkH 6 ?o6a ?v6a ?i6a hHeld ?_
  case i6a=>(refine⟨?_,?_,Or.inl ⟨?_,?_⟩⟩;simp only[gc3];rfl;exact fun _ _ _ h=>h;rfl;rintro W ⟨q0,q1,q2⟩;go_simp;(try with_reducible rfl))
  simp only[Act.put,pu3]
  refine tkH 7 ?o7a ?v7a ?i7a hHeld ?_
  case i7a=>(refine⟨?_,?_,Or.inl ⟨?_,?_⟩⟩;simp only[gc3];rfl;exact fun _ _ _ h=>h;rfl;rintro W ⟨q0,q1,q2⟩;go_simp;(try with_reducible rfl))
  simp only[Act.put,pu3]
  refine tkH 8 ?o8a ?v8a ?i8a hHeld ?_
  case i8a=>(refine⟨?_,?_,Or.inl ⟨?_,?_⟩⟩;simp only[gc3];rfl;exact fun _ _ _ h=>h;rfl;rintro W ⟨q0,q1,q2⟩;go_simp;(try with_reducible rfl))
  simp only[Act.put,pu3]
  refine wpAnyH_ready (rs:=[9]) (by kernel_rfl) (by simp) ?_
  refine AllReadyH.cons (o:=?o9a) ?i9a (fun K hK=>?c9a) AllReadyH.nil
  case i9a=>(simp only[gc3];rfl)
  go_simp
  go_at_call 11
  refine(rule_x N0 gb ns _ (GM.below hGM (Below.refl _ w).drew) cs).mono ?_
  rintro e w5 ⟨rfl,rfl⟩
  rw[HR.out]
  refine hK.out _ _ ⟨d4,c2,e0⟩ (fun hHeld2=>?_)
  clear hK K
  have hHeld:=hHeld2
  clear hHeld2
  try simp only[Act.put,pu3]
  refine tkH 10 ?o10a ?v10a ?i10a hHeld ?_
  case i10a=>(refine⟨?_,?_,Or.inl ⟨?_,?_⟩⟩;simp only[gc3];rfl;exact fun _ _ _ h=>h;rfl;rintro W ⟨q0,q1,q2⟩;go_simp;(try with_reducible rfl))
  simp only[Act.put,pu3]
  refine tkH 11 ?o11a ?v11a ?i11a hHeld ?_
  case i11a=>(refine⟨?_,?_,Or.inl ⟨?_,?_⟩⟩;simp only[gc3];rfl;exact fun _ _ _ h=>h;rfl;rintro W ⟨q0,q1,q2⟩;go_simp;(try with_reducible rfl))
  simp only[Act.put,pu3]
  refine tkH 12 ?o12a ?v12a ?i12a hHeld ?_
  case i12a=>(refine⟨?_,?_,Or.inl ⟨?_,?_⟩⟩;simp only[gc3];rfl;exact fun _ _ _ h=>h;rfl;rintro W ⟨q0,q1,q2⟩;go_simp;(try with_reducible rfl))
  simp only[Act.put,pu3]
  refine wpAnyH_done (by kernel_rfl) ?_ _
  go_wp2_with fail
  go_ret
  refine⟨_,_,rfl,HSJ.out.drew,(HUPS.out.tells (ns:=ns) s).ext (fun u=>?_),(Below.refl _ _).drew⟩
  rw[PredP.fstX]
 | row =>
  have HU:Hid (∀u,restF true (fun u=>hasOf ns fl u) (kOf ns bl) l u=true→u∈U):=fun u hu=>by
   unfold restF at hu
   simp only[if_true]at hu
   exact fstRow_U (fun n hn=>HUPS.out.in' hn) l HWD.out.2 hu
  simp only[opB]at c0
  go_wp2_with fail
  go_loopw [5,38] (fun v t wr=>∃j:Nat,j≤nl∧t=.int .i64 j∧XFRel true w (fun u=>hasOf ns fl u) (kOf ns bl) l j v wr) (fun _ t _=>nl - (intOf t).toNat)
  case atStart=>exact⟨0,by omega,rfl,XFRel.zero⟩
  case round =>
   obtain⟨j,hj,rfl,hR⟩:=hrel
   obtain⟨hb,L,P,hS,hT,hP⟩:=hR
   have HP:=hide hP
   have hcl:P=P:=rfl
   clear hP hcl
   obtain⟨va,vn,vc,rfl,_⟩:=hS.gen
   have hLU:L.length≤1000:=Nat.le_trans (hT.length (m:=U) (fun u hu=>HU.out u (by
    have h1:restF true (fun u=>hasOf ns fl u) (kOf ns bl) l u=true:=by rw[HP.out u,hu,Bool.true_or]
    exact h1))) hSm
   by_cases hj':j<nl
   ·obtain⟨y,hy⟩:∃y,l.list[j]?=some y:=⟨l.list[j]'(by rw[HL.out];exact hj'),List.getElem?_eq_getElem _⟩
    rcases HC.out with h0 | ⟨g,rfl,hokg,hg,hcell⟩
    ·omega
    have k0':wr.cell? ⟨g,j,none⟩=some (.pointer (some ⟨y.id,0,none⟩)):=(hb.cell (p:=⟨g,j,none⟩) hg).trans (hcell j _ (by simp[ptrC,PredP.Xs.ids_list,hy]))
    have hmem:=List.mem_of_getElem? hy
    have hxy:=xAt.below ((xsAt_iff l).1 HKD.out y hmem) hb
    have hE:=HE.out.below hb
    have hny:=(nmXs_iff l).1 HNM.out.2 y hmem
    have hwy:=(wdXs_iff l).1 HWD.out.2 y hmem
    have HIH:=hide (IH.out y (by have:=list_size l y hmem;simp;omega) N0 gb U ns bl fl _ wr hE hxy hny hwy)
    have HDR:=hide (drop_list l j y hy)
    have HXY:=hide hxy
    have HNY:=hide hny
    have HWY:=hide hwy
    have hblk0:=(hb.cell (p:=⟨i,0,none⟩) hlt).trans c0
    clear hy hmem hcell hxy hny hwy
    cases hd:PredP.derX false (kOf ns bl) y
    ·have HD:=hide hd
     clear hd
     go_wp2_with (first
      | (go_at_call 83;obtain⟨vK3,hk3,hkb3⟩:=((HE.out.below hb).below (Below.all hb2 hb3)).em;refine(nothing_all y N0 gb ns bl vK3 _ _ ((HE.out.below hb).below (Below.all hb2 hb3)).gm hk3 hkb3 HE.out.lb (HXY.out.below (Below.all hb2 hb3)) HNY.out).mono ?_;rintro e w4 ⟨rfl,hb4⟩;rw[HD.out])
      | (go_at_call 24;refine(xwith_any _ _ _ L L2 (hS.below hb2) hs2 (by omega)).mono ?_;rintro e w3 ⟨v3,rfl,hs3,hb3⟩;have ht3:=hT.with ht2;obtain⟨ua,un,uc,rfl,_⟩:=hs3.gen;have d0:=((Below.all hb2 hb3).cell (p:=⟨i,0,none⟩) (bltc hblk0)).trans hblk0)
      | (go_at_call 84;refine HIH.out.mono ?_;rintro e w2 ⟨v2,L2,rfl,hs2,ht2,hb2⟩;have hl2:L2.length≤1000:=(Nat.le_trans (ht2.length (m:=U) (fun u hu=>fstX_U (fun n hn=>HUPS.out.in' hn) y HWY.out hu)) hSm)))
     go_ret
     refine⟨_,_,rfl,hs3.below hb4,ht3.ext (fun u=>?_),Below.all (Below.all (Below.all hb hb2) hb3) hb4⟩
     have h1:=HP.out u
     rw[HDR.out]at h1
     unfold restF at h1
     simp only[if_true]at h1
     rw[PredP.fstX,h1,PredP.fstRow,HD.out];simp
    ·have HD:=hide hd
     clear hd
     go_wp2_with (first
      | (go_at_call 83;obtain⟨vK3,hk3,hkb3⟩:=((HE.out.below hb).below (Below.all hb2 hb3)).em;refine(nothing_all y N0 gb ns bl vK3 _ _ ((HE.out.below hb).below (Below.all hb2 hb3)).gm hk3 hkb3 HE.out.lb (HXY.out.below (Below.all hb2 hb3)) HNY.out).mono ?_;rintro e w4 ⟨rfl,hb4⟩;rw[HD.out])
      | (go_at_call 24;refine(xwith_any _ _ _ L L2 (hS.below hb2) hs2 (by omega)).mono ?_;rintro e w3 ⟨v3,rfl,hs3,hb3⟩;have ht3:=hT.with ht2;obtain⟨ua,un,uc,rfl,_⟩:=hs3.gen;have d0:=((Below.all hb2 hb3).cell (p:=⟨i,0,none⟩) (bltc hblk0)).trans hblk0)
      | (go_at_call 84;refine HIH.out.mono ?_;rintro e w2 ⟨v2,L2,rfl,hs2,ht2,hb2⟩;have hl2:L2.length≤1000:=(Nat.le_trans (ht2.length (m:=U) (fun u hu=>fstX_U (fun n hn=>HUPS.out.in' hn) y HWY.out hu)) hSm)))
     refine⟨⟨j+1,by omega,by go_num,Below.all (Below.all (Below.all hb hb2) hb3) hb4,_,_,hs3.below hb4,ht3,fun u=>?_⟩,by simp[intOf];omega⟩
     have h1:=HP.out u
     rw[HDR.out]at h1
     rw[h1]
     unfold restF
     simp only[if_true]
     rw[PredP.fstRow,HD.out,Bool.true_and,Bool.or_assoc]
   ·have HDR:=hide (drop_end l j (by rw[HL.out];omega))
    go_wp2_with fail
    go_ret
    refine⟨_,_,rfl,hS,hT.ext (fun u=>?_),hb⟩
    have h1:=HP.out u
    rw[HDR.out]at h1
    unfold restF at h1
    simp only[if_true]at h1
    rw[PredP.fstX,h1,PredP.fstRow,Bool.or_false]
 | bar =>
  have HU:Hid (∀u,restF false (fun u=>hasOf ns fl u) (kOf ns bl) l u=true→u∈U):=fun u hu=>by
   unfold restF at hu
   simp only[Bool.false_eq_true,if_false]at hu
   exact fstAny_U (fun n hn=>HUPS.out.in' hn) l HWD.out.2 hu
  simp only[opB]at c0
  go_wp2_with fail
  go_loopw [5,38] (fun v t wr=>∃j:Nat,j≤nl∧t=.int .i64 j∧XFRel false w (fun u=>hasOf ns fl u) (kOf ns bl) l j v wr) (fun _ t _=>nl - (intOf t).toNat)
  case atStart=>exact⟨0,by omega,rfl,XFRel.zero⟩
  case round =>
   obtain⟨j,hj,rfl,hR⟩:=hrel
   obtain⟨hb,L,P,hS,hT,hP⟩:=hR
   have HP:=hide hP
   have hcl:P=P:=rfl
   clear hP hcl
   obtain⟨va,vn,vc,rfl,_⟩:=hS.gen
   have hLU:L.length≤1000:=Nat.le_trans (hT.length (m:=U) (fun u hu=>HU.out u (by
    have h1:restF false (fun u=>hasOf ns fl u) (kOf ns bl) l u=true:=by rw[HP.out u,hu,Bool.true_or]
    exact h1))) hSm
   by_cases hj':j<nl
   ·obtain⟨y,hy⟩:∃y,l.list[j]?=some y:=⟨l.list[j]'(by rw[HL.out];exact hj'),List.getElem?_eq_getElem _⟩
    rcases HC.out with h0 | ⟨g,rfl,hokg,hg,hcell⟩
    ·omega
    have k0':wr.cell? ⟨g,j,none⟩=some (.pointer (some ⟨y.id,0,none⟩)):=(hb.cell (p:=⟨g,j,none⟩) hg).trans (hcell j _ (by simp[ptrC,PredP.Xs.ids_list,hy]))
    have hmem:=List.mem_of_getElem? hy
    have hxy:=xAt.below ((xsAt_iff l).1 HKD.out y hmem) hb
    have hE:=HE.out.below hb
    have hny:=(nmXs_iff l).1 HNM.out.2 y hmem
    have hwy:=(wdXs_iff l).1 HWD.out.2 y hmem
    have HIH:=hide (IH.out y (by have:=list_size l y hmem;simp;omega) N0 gb U ns bl fl _ wr hE hxy hny hwy)
    have HDR:=hide (drop_list l j y hy)
    have HXY:=hide hxy
    have HNY:=hide hny
    have HWY:=hide hwy
    have hblk0:=(hb.cell (p:=⟨i,0,none⟩) hlt).trans c0
    clear hy hmem hcell hxy hny hwy
    go_wp2_with (first
     | (go_at_call 24;refine(xwith_any _ _ _ L L2 (hS.below hb2) hs2 (by omega)).mono ?_;rintro e w3 ⟨v3,rfl,hs3,hb3⟩;have ht3:=hT.with ht2;obtain⟨ua,un,uc,rfl,_⟩:=hs3.gen;have d0:=((Below.all hb2 hb3).cell (p:=⟨i,0,none⟩) (bltc hblk0)).trans hblk0)
     | (go_at_call 84;refine HIH.out.mono ?_;rintro e w2 ⟨v2,L2,rfl,hs2,ht2,hb2⟩;have hl2:L2.length≤1000:=(Nat.le_trans (ht2.length (m:=U) (fun u hu=>fstX_U (fun n hn=>HUPS.out.in' hn) y HWY.out hu)) hSm)))
    refine⟨⟨j+1,by omega,by go_num,Below.all (Below.all hb hb2) hb3,_,_,hs3,ht3,fun u=>?_⟩,by simp[intOf];omega⟩
    have h1:=HP.out u
    rw[HDR.out]at h1
    rw[h1]
    unfold restF
    simp only[Bool.false_eq_true,if_false]
    rw[PredP.fstAny,Bool.or_assoc]
   ·have HDR:=hide (drop_end l j (by rw[HL.out];omega))
    go_wp2_with fail
    go_ret
    refine⟨_,_,rfl,hS,hT.ext (fun u=>?_),hb⟩
    have h1:=HP.out u
    rw[HDR.out]at h1
    unfold restF at h1
    simp only[Bool.false_eq_true,if_false]at h1
    rw[PredP.fstX,h1,PredP.fstAny,Bool.or_false]
 | opt =>
  have HU:Hid (∀u,restF false (fun u=>hasOf ns fl u) (kOf ns bl) l u=true→u∈U):=fun u hu=>by
   unfold restF at hu
   simp only[Bool.false_eq_true,if_false]at hu
   exact fstAny_U (fun n hn=>HUPS.out.in' hn) l HWD.out.2 hu
  simp only[opB]at c0
  go_wp2_with fail
  go_loopw [5,38] (fun v t wr=>∃j:Nat,j≤nl∧t=.int .i64 j∧XFRel false w (fun u=>hasOf ns fl u) (kOf ns bl) l j v wr) (fun _ t _=>nl - (intOf t).toNat)
  case atStart=>exact⟨0,by omega,rfl,XFRel.zero⟩
  case round =>
   obtain⟨j,hj,rfl,hR⟩:=hrel
   obtain⟨hb,L,P,hS,hT,hP⟩:=hR
   have HP:=hide hP
   have hcl:P=P:=rfl
   clear hP hcl
   obtain⟨va,vn,vc,rfl,_⟩:=hS.gen
   have hLU:L.length≤1000:=Nat.le_trans (hT.length (m:=U) (fun u hu=>HU.out u (by
    have h1:restF false (fun u=>hasOf ns fl u) (kOf ns bl) l u=true:=by rw[HP.out u,hu,Bool.true_or]
    exact h1))) hSm
   by_cases hj':j<nl
   ·obtain⟨y,hy⟩:∃y,l.list[j]?=some y:=⟨l.list[j]'(by rw[HL.out];exact hj'),List.getElem?_eq_getElem _⟩
    rcases HC.out with h0 | ⟨g,rfl,hokg,hg,hcell⟩
    ·omega
    have k0':wr.cell? ⟨g,j,none⟩=some (.pointer (some ⟨y.id,0,none⟩)):=(hb.cell (p:=⟨g,j,none⟩) hg).trans (hcell j _ (by simp[ptrC,PredP.Xs.ids_list,hy]))
    have hmem:=List.mem_of_getElem? hy
    have hxy:=xAt.below ((xsAt_iff l).1 HKD.out y hmem) hb
    have hE:=HE.out.below hb
    have hny:=(nmXs_iff l).1 HNM.out.2 y hmem
    have hwy:=(wdXs_iff l).1 HWD.out.2 y hmem
    have HIH:=hide (IH.out y (by have:=list_size l y hmem;simp;omega) N0 gb U ns bl fl _ wr hE hxy hny hwy)
    have HDR:=hide (drop_list l j y hy)
    have HXY:=hide hxy
    have HNY:=hide hny
    have HWY:=hide hwy
    have hblk0:=(hb.cell (p:=⟨i,0,none⟩) hlt).trans c0
    clear hy hmem hcell hxy hny hwy
    go_wp2_with (first
     | (go_at_call 24;refine(xwith_any _ _ _ L L2 (hS.below hb2) hs2 (by omega)).mono ?_;rintro e w3 ⟨v3,rfl,hs3,hb3⟩;have ht3:=hT.with ht2;obtain⟨ua,un,uc,rfl,_⟩:=hs3.gen;have d0:=((Below.all hb2 hb3).cell (p:=⟨i,0,none⟩) (bltc hblk0)).trans hblk0)
     | (go_at_call 84;refine HIH.out.mono ?_;rintro e w2 ⟨v2,L2,rfl,hs2,ht2,hb2⟩;have hl2:L2.length≤1000:=(Nat.le_trans (ht2.length (m:=U) (fun u hu=>fstX_U (fun n hn=>HUPS.out.in' hn) y HWY.out hu)) hSm)))
    refine⟨⟨j+1,by omega,by go_num,Below.all (Below.all hb hb2) hb3,_,_,hs3,ht3,fun u=>?_⟩,by simp[intOf];omega⟩
    have h1:=HP.out u
    rw[HDR.out]at h1
    rw[h1]
    unfold restF
    simp only[Bool.false_eq_true,if_false]
    rw[PredP.fstAny,Bool.or_assoc]
   ·have HDR:=hide (drop_end l j (by rw[HL.out];omega))
    go_wp2_with fail
    go_ret
    refine⟨_,_,rfl,hS,hT.ext (fun u=>?_),hb⟩
    have h1:=HP.out u
    rw[HDR.out]at h1
    unfold restF at h1
    simp only[Bool.false_eq_true,if_false]at h1
    rw[PredP.fstX,h1,PredP.fstAny,Bool.or_false]
 | loop =>
  have HU:Hid (∀u,restF false (fun u=>hasOf ns fl u) (kOf ns bl) l u=true→u∈U):=fun u hu=>by
   unfold restF at hu
   simp only[Bool.false_eq_true,if_false]at hu
   exact fstAny_U (fun n hn=>HUPS.out.in' hn) l HWD.out.2 hu
  simp only[opB]at c0
  go_wp2_with fail
  go_loopw [5,38] (fun v t wr=>∃j:Nat,j≤nl∧t=.int .i64 j∧XFRel false w (fun u=>hasOf ns fl u) (kOf ns bl) l j v wr) (fun _ t _=>nl - (intOf t).toNat)
  case atStart=>exact⟨0,by omega,rfl,XFRel.zero⟩
  case round =>
   obtain⟨j,hj,rfl,hR⟩:=hrel
   obtain⟨hb,L,P,hS,hT,hP⟩:=hR
   have HP:=hide hP
   have hcl:P=P:=rfl
   clear hP hcl
   obtain⟨va,vn,vc,rfl,_⟩:=hS.gen
   have hLU:L.length≤1000:=Nat.le_trans (hT.length (m:=U) (fun u hu=>HU.out u (by
    have h1:restF false (fun u=>hasOf ns fl u) (kOf ns bl) l u=true:=by rw[HP.out u,hu,Bool.true_or]
    exact h1))) hSm
   by_cases hj':j<nl
   ·obtain⟨y,hy⟩:∃y,l.list[j]?=some y:=⟨l.list[j]'(by rw[HL.out];exact hj'),List.getElem?_eq_getElem _⟩
    rcases HC.out with h0 | ⟨g,rfl,hokg,hg,hcell⟩
    ·omega
    have k0':wr.cell? ⟨g,j,none⟩=some (.pointer (some ⟨y.id,0,none⟩)):=(hb.cell (p:=⟨g,j,none⟩) hg).trans (hcell j _ (by simp[ptrC,PredP.Xs.ids_list,hy]))
    have hmem:=List.mem_of_getElem? hy
    have hxy:=xAt.below ((xsAt_iff l).1 HKD.out y hmem) hb
    have hE:=HE.out.below hb
    have hny:=(nmXs_iff l).1 HNM.out.2 y hmem
    have hwy:=(wdXs_iff l).1 HWD.out.2 y hmem
    have HIH:=hide (IH.out y (by have:=list_size l y hmem;simp;omega) N0 gb U ns bl fl _ wr hE hxy hny hwy)
    have HDR:=hide (drop_list l j y hy)
    have HXY:=hide hxy
    have HNY:=hide hny
    have HWY:=hide hwy
    have hblk0:=(hb.cell (p:=⟨i,0,none⟩) hlt).trans c0
    clear hy hmem hcell hxy hny hwy
    go_wp2_with (first
     | (go_at_call 24;refine(xwith_any _ _ _ L L2 (hS.below hb2) hs2 (by omega)).mono ?_;rintro e w3 ⟨v3,rfl,hs3,hb3⟩;have ht3:=hT.with ht2;obtain⟨ua,un,uc,rfl,_⟩:=hs3.gen;have d0:=((Below.all hb2 hb3).cell (p:=⟨i,0,none⟩) (bltc hblk0)).trans hblk0)
     | (go_at_call 84;refine HIH.out.mono ?_;rintro e w2 ⟨v2,L2,rfl,hs2,ht2,hb2⟩;have hl2:L2.length≤1000:=(Nat.le_trans (ht2.length (m:=U) (fun u hu=>fstX_U (fun n hn=>HUPS.out.in' hn) y HWY.out hu)) hSm)))
    refine⟨⟨j+1,by omega,by go_num,Below.all (Below.all hb hb2) hb3,_,_,hs3,ht3,fun u=>?_⟩,by simp[intOf];omega⟩
    have h1:=HP.out u
    rw[HDR.out]at h1
    rw[h1]
    unfold restF
    simp only[Bool.false_eq_true,if_false]
    rw[PredP.fstAny,Bool.or_assoc]
   ·have HDR:=hide (drop_end l j (by rw[HL.out];omega))
    go_wp2_with fail
    go_ret
    refine⟨_,_,rfl,hS,hT.ext (fun u=>?_),hb⟩
    have h1:=HP.out u
    rw[HDR.out]at h1
    unfold restF at h1
    simp only[Bool.false_eq_true,if_false]at h1
    rw[PredP.fstX,h1,PredP.fstAny,Bool.or_false]
theorem first_all (x:PredP.X):FstC x:=by
 induction h:SizeOf.sizeOf x using Nat.strongRecOn generalizing x with
 | ind n ih=>exact first_x x (hide fun y hy=>ih _ (by omega) y rfl)
end
end Go.Proofs.YtpcmemcanpgadaaGreatDoor
