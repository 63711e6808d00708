import Derived.Test.YtpcmemcanpgadaaGreatDoorPureX
import Derived.Test.YtpcmemcanpgadaaGreatDoorPureB
import Derived.Test.YtpcmemcanpgadaaGreatDoorLeastG
import Derived.Test.YtpcmemcanpgadaaGreatDoorXWith
import Derived.Test.YtpcmemcanpgadaaGreatDoorShelfTwo
import Derived.Test.YtpcmemcanpgadaaGreatDoorFltG
import Derived.Test.YtpcmemcanpgadaaGreatDoorClaG
import Derived.Test.YtpcmemcanpgadaaGreatDoorPureA
import Derived.Test.YtpcmemcanpgadaaGreatDoorXAft
import Derived.Test.YtpcmemcanpgadaaGreatDoorRlC
import Derived.Test.YtpcmemcanpgadaaGreatDoorXBothG
import Derived.Sort.OwnSorted
import Derived.Shelf.Slices.In.SortNone
import Derived.Shelf.SlMaps.Clone
set_option maxHeartbeats 2000000
set_option maxRecDepth 100000
namespace PredP
theorem ltS_of_le {a b:Str} (h:a≤b) (hne:a≠b):ltS a b=true:=by
 cases h1:ltS a b with
 | true=>rfl
 | false =>
  cases h2:ltS b a with
  | true=>exact absurd ((ltS_iff _ _).1 h2) h
  | false=>exact absurd (ltS_total h1 h2) hne
theorem le_of_ltS {a b:Str} (h:ltS b a=false):a≤b:=fun hlt=>by
 rw[(ltS_iff _ _).2 hlt]at h;cases h
theorem leS_trans (a b c:Str) (h1:decide (a≤b)=true) (h2:decide (b≤c)=true):decide (a≤c)=true:=by
 rw[decide_eq_true_eq]at *
 by_cases e1:a=b
 ·rw[e1];exact h2
 ·by_cases e2:b=c
  ·rw[←e2];exact h1
  ·exact le_of_ltS (ltS_asymm (ltS_trans (ltS_of_le h1 e1) (ltS_of_le h2 e2)))
theorem leS_total (a b:Str):(decide (a≤b)||decide (b≤a))=true:=by
 cases h:ltS b a with
 | false=>simp[le_of_ltS h]
 | true=>simp[le_of_ltS (ltS_asymm h)]
theorem sort_tells (l:List Str) (hn:l.Nodup):Tells (l.mergeSort fun x y=>decide (x≤y)) (fun x=>l.contains x):=by
 have hs:=List.pairwise_mergeSort (le:=fun x y:Str=>decide (x≤y)) leS_trans leS_total l
 have hp:=List.mergeSort_perm l (fun x y:Str=>decide (x≤y))
 have hn':(l.mergeSort fun x y=>decide (x≤y)).Nodup:=hp.nodup_iff.2 hn
 refine⟨(hs.and hn').imp fun⟨h1,h2⟩=>ltS_of_le (by simpa using h1) h2,fun x=>?_⟩
 rw[Bool.eq_iff_iff]
 simp[hp.mem_iff]
end PredP
namespace Go.Proofs.YtpcmemcanpgadaaGreatDoor
open PredP (hide Str Rule bs)
section
open Go.RowKit Go.Maps Go.Sort
theorem undM:Tryz.prog.underlying 65=some (.map 9 100):=by kernel_rfl
theorem range_nilM (w:World):(Instr.range 65 (.map none)).run Tryz.prog w=.ok (.pointer (some ⟨w.heap.size,0,none⟩)) (w.alloc (.mapIter none 0 #[] 0)):=by kernel_rfl
theorem clear_nil (w:World) (ty:TypeId):(Builtin.clear_ #[65] ty #[.map none]).run Tryz.prog w=.ok (.tuple #[]) w:=by
 simp[Builtin.clear_,run_underlying undM,Result.andThen]
theorem equalIn_mapM (w:World) (d:Nat) (p:Option Nat):(Op.equalIn (d+1) 65 (.map p) (.map none)).run Tryz.prog w=.ok p.isNone w:=by
 cases p<;>simp[Op.equalIn,run_underlying undM]
theorem eql_mapM (w:World) (p:Option Nat):(binOp .eql 65 (.map p) (.map none)).run Tryz.prog w=.ok (.bool p.isNone) w:=by
 simp only[binOp]
 simp[show Op.equal 65 (.map p) (.map none)=Op.equalIn (9999+1) 65 (.map p) (.map none) from rfl,equalIn_mapM w 9999 p]
theorem neq_mapM (w:World) (p:Option Nat):(binOp .neq 65 (.map p) (.map none)).run Tryz.prog w=.ok (.bool (!p.isNone)) w:=by
 simp only[binOp]
 simp[show Op.equal 65 (.map p) (.map none)=Op.equalIn (9999+1) 65 (.map p) (.map none) from rfl,equalIn_mapM w 9999 p]
theorem clear_set (w:World) (b:Nat) (l:List Str) (h:SetAt w b l):∃w1,(∀ty,(Builtin.clear_ #[65] ty #[.map (some b)]).run Tryz.prog w=.ok (.tuple #[]) w1)∧SetAt w1 b []∧w.grownBy w1 (some b):=by
 obtain⟨D,⟨es,clock,hb,F,hs,hD⟩,r⟩:=h
 refine⟨{ w with heap:=w.heap.setIfInBounds b (.map #[] clock) },fun ty=>by simp[Builtin.clear_,run_underlying undM,MapKept.run_getObj_map hb,MapKept.run_setObj_map _ hb,Result.andThen],⟨.map [],⟨#[],clock,(MapKept.heap_set hb).1,⟨by simp,MapKept.stamped_empty clock,by simp⟩,Nat.le_refl _,rfl⟩,by simp,fun _=>rfl,rfl⟩,⟨rfl,rfl,rfl,by simp,fun k _ hne=>(MapKept.heap_set hb).2 k (fun e=>hne (by rw[e]))⟩⟩
theorem set_put (w:World) (b:Nat) (l:List Str) (h:SetAt w b l) (hl:l.length<maxLen) (a:ByteArray) (ha:a.size≤maxLen):∃w1,(Instr.mapUpdate 65 (.map (some b)) (.string a) (.agg #[])).run Tryz.prog w=.ok () w1∧SetAt w1 b (ins (bs a) l)∧w.grownBy w1 (some b):=by
 obtain⟨D,hown,hn,hh,hz⟩:=h
 obtain⟨w1,h1,h2,h3⟩:=hown.update lawStr undM hl (keyS a ha) unitElem_mk
 have hput:=put_set (s:=bs a) (hown.tidy lawStr) hn hh hz
 refine⟨w1,h1,⟨_,?_,hput⟩,h3⟩
 have:=owns_tight h2
 rwa[hput.2.2]at this
theorem words_nil (w:World):Calls Tryz.prog 26 #[.map none] w fun e w'=>e=.returned (.slice none 0 0)∧Below w.heap.size w w':=by
 have hsort:=fun w=>Any.slices_Sort_string_none Tryz.lays190 none 0 w
 have HS:=hide hsort
 clear hsort
 have hr1:=range_nilM w
 have hn1:=next_nil w
 have hc1:=clear_nil (w.alloc (.mapIter none 0 #[] 0))
 have hq1:=neq_mapM (w.alloc (.mapIter none 0 #[] 0)) none
 go_enter Tryz.func26,Tryz.ntmps26
 go_wp2_with fail
 refine wp_loop_rounds 1 ?_
 rw[rounds_succ]
 go_wp2_with (go_at_call 42;refine(HS.out _).mono ?_;rintro e w1 ⟨rfl,rfl⟩)
 go_ret
 exact⟨rfl,(Below.refl _ _).alloc (Nat.le_refl _) _⟩
theorem own_strs6 {wr:World} {base:Nat} {v:Value} {zs:List Str} (h:wr.ownsRow base 9 1 v zs.length (strC zs)):strs wr v zs :=
 slAt.of_owns h (fun g hg=>by
  rcases h.2 with ⟨rfl,_⟩ | ⟨g',cap,cur,rfl,_,hg',_⟩
  ·cases hg
  ·cases hg
   exact⟨_,_,hg'⟩)
theorem enc_bs (zs:List ByteArray):zs.map Value.string=(zs.map bs).map Go.Proofs.encStr:=by
 rw[List.map_map]
 exact List.map_congr_left fun z _=>(vS_bs z).symm
def WordsPost (w:World) (mb:Nat) (P:Str→Bool) (e:Ending) (w':World):Prop :=
 ∃v L,e=.returned v∧strs w' v L∧PredP.Tells L P∧But mb w w'
theorem words_end {w ws:World} {mb:Nat} {l:List Str} (h:SetAt ws mb l) (hlow:Below w.heap.size w ws) :
  ∃w4 w5,(∀ty,(Builtin.clear_ #[65] ty #[.map (some mb)]).run Tryz.prog ws=.ok (.tuple #[]) w4)∧(Instr.mapUpdate 65 (.map (some mb)) (.string ⟨#[110,111,116,32,97,32,119,111,114,100]⟩) (.agg #[])).run Tryz.prog w4=.ok () w5∧But mb w w5∧∀v L,strs ws v L→strs w5 v L:=by
 obtain⟨w4,h4,s4,g4⟩:=clear_set ws mb l h
 obtain⟨w5,h5,s5,g5⟩:=set_put w4 mb [] s4 (by unfold maxLen;simp) ⟨#[110,111,116,32,97,32,119,111,114,100]⟩ (by unfold maxLen;decide)
 have g:=g4.trans g5
 refine⟨w4,w5,h4,h5,⟨g.os.trans hlow.os,g.tape.trans hlow.tape,g.output.trans hlow.output,Nat.le_trans hlow.size g.size,fun k hk hne=>(g.block k (Nat.lt_of_lt_of_le hk hlow.size) (fun e=>hne (Option.some.inj e))).trans (hlow.block k hk)⟩,fun v L hs=>hs.carry g.size (fun k hk hst=>g.block k hk (fun e=>?_))⟩
 obtain⟨cs,f,hc⟩:=hst
 obtain⟨D,⟨es,clock,hb,_⟩,_⟩:=h
 rw[Option.some.inj e,hb]at hc
 cases hc
theorem ShR.fresh {w:World} {ba:Nat} {la:List Str} {D:DataW Unit} {gb:Str→Bool} {r:Nat} {left:Lit→Bool} {cnt:Nat} {v:Value} {zs:List ByteArray} {wr:World} (h:ShR w ba la D gb r left cnt v zs wr) {x:ByteArray} (hlk:left (.string (bs x))=true) (hn:(zs.map bs).Nodup):((zs++[x]).map bs).Nodup:=by
 rw[List.map_append,List.nodup_append]
 refine⟨hn,by simp,fun a ha b hb=>?_⟩
 rintro rfl
 obtain⟨z,hz,hzx⟩:=List.mem_map.1 ha
 have hb':bs z=bs x:=by
  have:a=bs x:=by simpa using hb
  rw[hzx,this]
 have:=((h.mem (bs x)).1 ⟨z,hz,hb'⟩).2.2
 rw[hlk]at this
 cases this
theorem words_any (w:World) (ba:Nat) (la:List Str) (hs:SetAt w ba la) (hla:la.length≤2000) :
  Calls Tryz.prog 26 #[.map (some ba)] w (WordsPost w ba (fun x=>hasS la x)):=by
 have hlt:=hs.lt
 have HSA:=hide hs
 obtain⟨D,hown,hn,hh,hz⟩:=hs
 have HH:=hide hh
 obtain⟨i0,hi,hz0,hz1,hz2⟩:=info_parts infoStr
 have hsn:=fun w=>Any.slices_Sort_string_none Tryz.lays190 none 0 w
 have HS0:=hide hsn
 have HS1:=hide Tryz.slices_Sort_string
 clear hh hn hsn
 go_enter Tryz.func26,Tryz.ntmps26
 go_wp2_with (at_range;refine wpList_range_own _ rfl _ 65 rfl 9 100 lawStr undM _ ba la.length _ rfl hown ?_;intro w0 hrg0 hg0 hs0)
 go_frame
 have hrel0:ShR w ba la D (fun _=>true) w.heap.size (Maps.has D) (Maps.size D) (.slice none 0 0) [] w0:=⟨hrg0,World.ownsRow_nil _ _ _ _,(Below.refl _ w).grown hg0 (Nat.le_refl _) (fun k e=>by cases e),fun s=>by rw[HH.out s];cases la.contains s<;>simp,fun s hs=>by rw[←HH.out s];exact hs,by rw[hz];simp,by omega⟩
 go_loopw [3] (fun t wr=>∃left cnt zs,ShR w ba la D (fun _=>true) w.heap.size left cnt t zs wr∧(zs.map bs).Nodup) (fun _ wr=>wr.rangeLeft ba w.heap.size)
 case atStart=>exact⟨_,_,_,hrel0,by simp⟩
 case round =>
  clear hrel0
  obtain⟨left,cnt,zs,hR,hnd⟩:=hrel
  go_wp2_with (at_next;refine wpList_next_ranges _ rfl _ rfl 9 lawStr unitElem Value.string (fun _:Unit=>.agg #[]) (fun key kl hk=>by obtain⟨x,rfl,_⟩:=Go.WideMaps.string_of_keyOf undStr hk;exact⟨x,rfl⟩) (fun v y hv=>by obtain⟨rfl,_⟩:=unitElem_inv hv;exact⟨(),rfl⟩) ba w.heap.size la.length _ _ _ rfl hR.rg ?_ ?_)
  ·intro hc0 hl0
   have hT:PredP.Tells ((zs.map bs).mergeSort fun x y=>decide (x≤y)) (fun x=>hasS la x):=(PredP.sort_tells _ hnd).ext fun x=>by
    rw[Bool.eq_iff_iff,List.contains_iff_mem]
    have:=hR.mem x
    unfold hasS
    constructor
    ·intro h
     obtain⟨z,hz,hzx⟩:=List.mem_map.1 h
     exact(this.1 ⟨z,hz,hzx⟩).1
    ·intro h
     obtain⟨z,hz,hzx⟩:=this.2 ⟨h,rfl,hl0 _⟩
     exact List.mem_map.2 ⟨z,hz,hzx⟩
   have HT:=hide hT
   have hzl:zs.length≤2000:=by have:=hR.len;omega
   have hlow:=hR.low
   have hown:=hR.own
   clear hR hl0 hc0 hT
   rcases hown.2 with ⟨rfl,hn0⟩ | ⟨g,cap,cur,rfl,hbase,hgb,h1,h2,h3,h4⟩
   ·have hz0':zs=[]:=by have:=hown.1;rw[hn0]at this;simpa using hn0
    subst hz0'
    obtain⟨w4,w5,k4,k5,hbut,_⟩:=words_end (HSA.out.below hlow) hlow
    have hq:=neq_mapM w4 (some ba)
    clear hown hn0
    go_wp2_with (go_at_call 42;refine(HS0.out _).mono ?_;rintro e w2 ⟨rfl,rfl⟩)
    go_ret
    exact⟨_,[],rfl,.inl ⟨rfl,rfl⟩,by simpa using HT.out,hbut⟩
   ·have hso:=HS1.out g 0 cap (zs.map bs) wr (holds_of_block hgb (by rw[List.length_map,←enc_bs];simpa using h4)) (Array.getElem?_eq_some_iff.1 hgb).1 (by simp;omega)
    rw[List.length_map]at hso
    have HSO:=hide hso
    have hend:∀n os,∃w4 w5,(∀ty,(Builtin.clear_ #[65] ty #[.map (some ba)]).run Tryz.prog (grow (putRow encStr (Sort.ahead wr n) g 0 ((zs.map bs).mergeSort fun x y=>decide (x≤y)).toArray) os)=.ok (.tuple #[]) w4)∧(Instr.mapUpdate 65 (.map (some ba)) (.string ⟨#[110,111,116,32,97,32,119,111,114,100]⟩) (.agg #[])).run Tryz.prog w4=.ok () w5∧But ba w w5∧strs w5 (.slice (some ⟨g,0,none⟩) zs.length cap) ((zs.map bs).mergeSort fun x y=>decide (x≤y)):=fun n os=>by
     have hg:=grownBy_sorted (w:=wr) (g:=g) (n:=n) (os:=os) ((zs.map bs).mergeSort fun x y=>decide (x≤y)).toArray
     have ho:=ownsRow_sorted (n:=n) (os:=os) (ss:=zs.map bs) (ts:=(zs.map bs).mergeSort fun x y=>decide (x≤y)) (by simp) hbase hgb (by simpa using h1) h2 h3
     rw[List.length_map]at ho
     generalize grow (putRow encStr (Sort.ahead wr n) g 0 ((zs.map bs).mergeSort fun x y=>decide (x≤y)).toArray) os=ws at hg ho ⊢
     have hl2:Below w.heap.size w ws:=hlow.grown hg hlow.size (fun k e=>by cases e;omega)
     obtain⟨w4,w5,k4,k5,hbut,hst⟩:=words_end (HSA.out.below hl2) hl2
     refine⟨w4,w5,k4,k5,hbut,hst _ _ (own_strs6 (base:=w.heap.size+1) ?_)⟩
     have e:((zs.map bs).mergeSort fun x y=>decide (x≤y)).length=zs.length:=by simp
     rw[e]
     exact ho
    have HE:=hide hend
    clear hown hgb h3 h4 hso hend
    go_upto_region 7 with (go_at_call 42;refine HSO.out.mono ?_;rintro e w2 ⟨rfl,n,os,rfl⟩)
    obtain⟨w4,w5,k4,k5,hbut,hst⟩:=HE.out n os
    have hq:=neq_mapM w4 (some ba)
    generalize grow (putRow encStr (Sort.ahead wr n) g 0 ((zs.map bs).mergeSort fun x y=>decide (x≤y)).toArray) os=ws at k4 ⊢
    go_wp2_with fail
    go_ret
    exact⟨_,_,rfl,hst,HT.out,hbut⟩
  ·intro x kl y ys w1 cnt1 hkey hlk hv hat hrg1 hlt1 hg1 hs1 hen
   obtain⟨x',ex,ekl,hx⟩:=Go.WideMaps.string_of_keyOf undStr hkey
   cases ex
   have ekl':kl=.string (bs x):=ekl
   rw[ekl']at hlk hrg1
   clear ekl ekl' hat hv hkey hs1
   have hmu:∀W:World,W.ranges Tryz.prog 9 unitElem ba w.heap.size la.length D (fun z=>left z&&!z.sameKey (.string (bs x))) cnt1→W.rangeLeft ba w.heap.size<wr.rangeLeft ba w.heap.size:=fun W hW=>by rw[hW.left_eq,hR.rg.left_eq];exact hlt1
   have HMu:=hide hmu
   clear hmu
   have hzl:zs.length+1≤2000:=by have:=hR.len;omega
   have HO2:=hide (own_past hR.own hg1 (Below.refl _ w1))
   have hbig:=hR.big
   have hgs:=hg1.size
   go_wp2_with (at_builtin;refine wpList_append_own_at _ rfl _ _ _ rfl (w.heap.size+1) 9 i0 (.string ByteArray.empty) 1 16 (by kernel_rfl) hi hz0 hz1 hz2 rfl (by decide) _ zs.length (zs.map Value.string) rfl (HO2.out.alloc _) _ 1 1 [_] rfl rfl (cell_one_new _ _ _) (by simp[Value.oneCell']) (by unfold maxLen;omega) (by omega) (by simp;omega) ?_;intro v' w3 hown3 hgrow3 _ _)
   have hR3:=hR.take rfl hlt hlk hrg1 hlt1 hg1 (Below.refl _ w1) rfl hown3 hgrow3
   exact⟨⟨_,_,_,hR3,hR.fresh hlk hnd⟩,HMu.out _ hR3.rg⟩
end
section
open Go.RowKit
structure ErrR (w:World) (bl be bm br:Addr):Prop where
 c:∃cs t,w.heap[br.block]?=some (.cells cs t (0,0))
 l:bl≠br
 e:be≠br
 m:bm≠br
 g:w.cell? ⟨0,0,none⟩=some (.iface 290 (.pointer (some br)))
theorem ErrR.below {w W:World} {bl be bm br:Addr} (h:ErrR w bl be bm br) (hb:Below w.heap.size w W):ErrR W bl be bm br:=by
 obtain⟨⟨c1,t1,h1⟩,n1,n2,n3,g1⟩:=h
 exact⟨⟨c1,t1,(hb.block _ (Array.getElem?_eq_some_iff.1 h1).1).trans h1⟩,n1,n2,n3,(hb.cell (bltc g1)).trans g1⟩
theorem fault_r (w:World) (hg:w.cell? ⟨6,0,none⟩=some (.iface 189 (.agg #[.pointer (some ⟨10,67,none⟩)]))) (bl be bm:Addr) (hs:Sent w bl be bm) (b:Addr) (hr:ErrR w bl be bm b) :
  Calls Tryz.prog 27 #[.iface 290 (.pointer (some b))] w (FltPost w 10 0 []):=by
 have HG:Hid (∀W,FF w W→W.cell? ⟨6,0,none⟩=some (.iface 189 (.agg #[.pointer (some ⟨10,67,none⟩)]))):=hide fun W h=>(h.low.cell (bltc hg)).trans hg
 clear hg
 have h0:=FF.made w
 go_enter Tryz.func27,Tryz.ntmps27
 go_wp2_with fail
 refine(as_miss_ei b ⟨w.heap.size+1+1+1+1,0,none⟩ _ (HG.out _ h0)).mono ?_
 rintro e1 W1 ⟨rfl,hb1⟩
 have h1:=h0.onward hb1
 go_wp2_with fail
 refine(as_miss_es b ⟨w.heap.size+1,0,none⟩ _ (HG.out _ h1)).mono ?_
 rintro e2 W2 ⟨rfl,hb2⟩
 have h2:=h1.onward hb2
 go_wp2_with fail
 refine(as_miss_en b ⟨w.heap.size+1+1,0,none⟩ _ (HG.out _ h2)).mono ?_
 rintro e3 W3 ⟨rfl,hb3⟩
 have h3:=h2.onward hb3
 go_wp2_with fail
 refine(as_miss_ec b ⟨w.heap.size+1+1+1,0,none⟩ _ (HG.out _ h3)).mono ?_
 rintro e4 W4 ⟨rfl,hb4⟩
 have h4:=h3.onward hb4
 have hs4:=hs.below h4.low
 have gl:=hs4.gl
 have ge:=hs4.ge
 have gm:=hs4.gm
 clear h0
 go_wp2_with fail
 have hB5:Below W4.heap.size W4 (W4.alloc (.cells #[.iface 290 (.pointer (some bl)),.iface 290 (.pointer (some be)),.iface 290 (.pointer (some bm))] 67)):=(Below.refl _ _).alloc (Nat.le_refl _) _
 have k0:(W4.alloc (.cells #[.iface 290 (.pointer (some bl)),.iface 290 (.pointer (some be)),.iface 290 (.pointer (some bm))] 67)).cell? ⟨W4.heap.size,0,none⟩=some (.iface 290 (.pointer (some bl))):=cell_fresh rfl
 have k1:(W4.alloc (.cells #[.iface 290 (.pointer (some bl)),.iface 290 (.pointer (some be)),.iface 290 (.pointer (some bm))] 67)).cell? ⟨W4.heap.size,1,none⟩=some (.iface 290 (.pointer (some be))):=cell_fresh rfl
 have k2:(W4.alloc (.cells #[.iface 290 (.pointer (some bl)),.iface 290 (.pointer (some be)),.iface 290 (.pointer (some bm))] 67)).cell? ⟨W4.heap.size,2,none⟩=some (.iface 290 (.pointer (some bm))):=cell_fresh rfl
 generalize W4.alloc (.cells #[.iface 290 (.pointer (some bl)),.iface 290 (.pointer (some be)),.iface 290 (.pointer (some bm))] 67)=W5 at hB5 k0 k1 k2 ⊢
 have h5:=h4.onward hB5
 have hs5:=hs4.below hB5
 have hR:FR w W5:=⟨h5.low,h5.r0,h5.r1,h5.r2,h5.r3,h5.rf⟩
 have r0:=hR.r0
 have r1:=hR.r1
 have r2:=hR.r2
 have r3:=hR.r3
 have rf:=hR.rf
 have hr5:=hr.below h5.low
 have gr:=hr5.g
 refine wp_loop_rounds 4 ?_
 rw[rounds_succ]
 go_wp2_with fail
 refine(is_not hr5.c hs5.l (Ne.symm hr5.l)).mono ?_
 rintro e6 W6 ⟨rfl,rfl⟩
 go_wp2_with fail
 rw[rounds_succ]
 go_wp2_with fail
 refine(is_not hr5.c hs5.e (Ne.symm hr5.e)).mono ?_
 rintro e7 W7 ⟨rfl,rfl⟩
 go_wp2_with fail
 rw[rounds_succ]
 go_wp2_with fail
 refine(is_not hr5.c hs5.m (Ne.symm hr5.m)).mono ?_
 rintro e8 W8 ⟨rfl,rfl⟩
 go_wp2_with fail
 rw[rounds_succ]
 go_wp2_with fail
 refine(is_same b _).mono ?_
 rintro e9 W9 ⟨rfl,rfl⟩
 go_wp2_with fail
 exact bodyPost_ret_by (results_cell rfl rfl (hR.load _ _ _ _)) rfl ⟨⟨#[]⟩,rfl,rfl,hR.stored _ _ _ _⟩
end
section
open Go.RowKit Go.Maps
theorem held_inj {H:Type} {x y:H} (h:DataW.held x=DataW.held y):x=y:=DataW.held.inj h
theorem MapAt.readOk {w:World} {b:Nat} {f:List (Str×Nat)} (h:MapAt w b f) (a:ByteArray) (ha:a.size≤maxLen) :
  (Instr.lookup 89 (.map (some b)) (.string a) true).run Tryz.prog w=.ok (.tuple #[.map (look f (bs a)),.bool (hasS (f.map (·.1)) (bs a))]) w:=by
 obtain⟨D,⟨es,clock,hb,F,_,rfl⟩,_,hat,_,hh⟩:=h
 unfold hasS
 rw[←hh]
 have h0:=hat (bs a)
 rcases Maps.fit_look true lawStr undMap (zeroSet w) hb F (keyS a ha) with ⟨hrun,_,hatk⟩ | ⟨e0,y,_,_,hrun,hRv,hatk,_⟩
 ·have h1:look f (bs a)=none:=by
   exact(held_inj ((hatk (.held none)).symm.trans h0)).symm
  rw[h1,has_false_of_atKey hatk]
  exact hrun
 ·have hv:=blkElem_inv (o:=look f (bs a)) (ps:=y.2) (by rw[←h0,hatk];exact hRv)
  rw[has_true_of_atKey hatk,←hv]
  exact hrun
theorem equalIn_mapS (w:World) (d:Nat) (p:Option Nat):(Op.equalIn (d+1) 88 (.map p) (.map none)).run Tryz.prog w=.ok p.isNone w:=by
 cases p<;>simp[Op.equalIn,run_underlying undSet]
theorem eql_mapS (w:World) (p:Option Nat):(binOp .eql 88 (.map p) (.map none)).run Tryz.prog w=.ok (.bool p.isNone) w:=by
 simp only[binOp]
 simp[show Op.equal 88 (.map p) (.map none)=Op.equalIn (9999+1) 88 (.map p) (.map none) from rfl,equalIn_mapS w 9999 p]
theorem assert_set (w:World) (xT:TypeId) (v:Value):(Instr.typeAssert (.iface 88 v) xT 88 false).run Tryz.prog w=.ok v w:=by
 simp[Instr.typeAssert,run_underlying undSet,go_sem,Result.andThen]
theorem run_clone {w:World} {r:Nat} {es:Array MapEntry} {clock:Nat} (hb:w.heap[r]?=some (.map es clock)) :
  (callFunc 59 #[.iface 88 (.map (some r))]).run Tryz.prog w=.ok (.value (.iface 88 (.map (some w.heap.size)))) (w.alloc (.map es clock)):=by
 rw[@run_callFunc_extern Tryz.prog 59 _ Extern.MapsClone.clone Tryz.func59 (by kernel_rfl) (by kernel_rfl) (by kernel_rfl) (by kernel_rfl)]
 rw[run_maps_clone_sl w 88 hb]
 rfl
theorem SetAt.copy {w:World} {b:Nat} {l:List Str} {es:Array MapEntry} {clock:Nat} (h:SetAt w b l) (hb:w.heap[b]?=some (.map es clock)):SetAt (w.alloc (.map es clock)) w.heap.size l:=by
 obtain⟨D,⟨es',clock',hb',F,hs,hD⟩,r⟩:=h
 rw[hb]at hb'
 cases hb'
 exact⟨D,⟨es,clock,(MapKept.heap_alloc w _).1,F,hs,hD⟩,r⟩
theorem clone_x (w:World) (b:Nat) (l:List Str) (h:SetAt w b l) :
  Calls Tryz.prog 39 #[.map (some b)] w fun e w'=>e=.returned (.map (some w.heap.size))∧SetAt w' w.heap.size l∧Below w.heap.size w w':=by
 obtain⟨es,clock,hb⟩:∃es clock,w.heap[b]?=some (.map es clock):=by
  obtain⟨D,⟨es,clock,hb,_⟩,_⟩:=h
  exact⟨es,clock,hb⟩
 have hc:=h.copy hb
 have HC:=hide hc
 have hq:=eql_mapS w (some b)
 have hcl:=run_clone hb
 have hty:=assert_set (w.alloc (.map es clock))
 clear h hc hb
 go_enter Tryz.func39,Tryz.ntmps39
 go_wp2_with fail
 go_ret
 exact⟨rfl,HC.out,(Below.refl _ _).alloc (Nat.le_refl _) _⟩
theorem hasRule_x (w:World) (b fb:Nat) (f:List (Str×Nat)) (hc:w.cell? ⟨b,2,none⟩=some (.map (some fb))) (h:MapAt w fb f) (a:ByteArray) (ha:a.size≤maxLen) :
  Calls Tryz.prog 38 #[.pointer (some ⟨b,0,none⟩),.string a] w fun e w'=>e=.returned (.bool (hasS (f.map (·.1)) (bs a)))∧w'=w:=by
 have hr:=h.readOk a ha
 clear h
 generalize look f (bs a)=lk at hr
 generalize hasS (f.map (·.1)) (bs a)=q at hr ⊢
 go_enter Tryz.func38,Tryz.ntmps38
 go_wp2_with fail
 go_ret
 exact⟨rfl,rfl⟩
end
section
open Go.RowKit Go.Maps
def MapPost (w:World) (P:Str→Bool) (e:Ending) (w':World):Prop :=
 ∃mb lc,e=.returned (.tuple #[.map (some mb),.nilIface])∧w.heap.size≤mb∧SetAt w' mb lc∧(∀x,hasS lc x=P x)∧lc.length≤1000∧Below w.heap.size w w'
def NoRule (w:World) (br:Addr) (e:Ending) (w':World):Prop:=e=.returned (.tuple #[.map none,.iface 290 (.pointer (some br))])∧Below w.heap.size w w'
section
variable {G:List Rule} {eb fb ab:Nat} {f fa:List (Str×Nat)} {l0:List Str} {c d:Words} {w:World}
theorem Known.yes (h:Known G eb fb ab f fa l0 c d w) {n:Str} (hn:n∈PredP.names G):hasS (f.map (·.1)) n=true:=by
 unfold hasS;rw[List.contains_iff_mem];exact(h.names n).1 hn
theorem Known.no (h:Known G eb fb ab f fa l0 c d w) {n:Str} (hn:n∉PredP.names G):hasS (f.map (·.1)) n=false:=by
 cases hc:hasS (f.map (·.1)) n with
 | false=>rfl
 | true=>unfold hasS at hc;rw[List.contains_iff_mem]at hc;exact absurd ((h.names n).2 hc) hn
theorem Known.first (h:Known G eb fb ab f fa l0 c d w) {n:Str} (hn:n∈PredP.names G):∃tb,look f n=some tb∧SetAt w tb (c n):=by
 obtain⟨tb,h1,h2⟩:=look_in (h.yes hn)
 exact⟨tb,h1,h.fset _ h2⟩
theorem Known.after (h:Known G eb fb ab f fa l0 c d w) {n:Str} (hn:n∈PredP.names G):∃tb,look fa n=some tb∧SetAt w tb (d n):=by
 obtain⟨tb,h1,h2⟩:=look_in (f:=fa) (s:=n) (by rw[h.same];exact h.yes hn)
 exact⟨tb,h1,h.aset _ h2⟩
end
end
section
open Go.RowKit Go.Maps
def AskPost (w:World) (P:Str→Bool) (e:Ending) (w':World):Prop :=
 ∃v L s,e=.returned (.tuple #[v,.bool false,.agg #[.int .i64 0,.int .i64 0,.string s,.slice none 0 0]])∧strs w' v L∧PredP.Tells L P∧Below w.heap.size w w'
def AskNone (w:World) (e:Ending) (w':World):Prop :=
 ∃s,e=.returned (.tuple #[.slice none 0 0,.bool true,.agg #[.int .i64 10,.int .i64 0,.string s,.slice none 0 0]])∧Below w.heap.size w w'
theorem fcells (w:World):∀k u,(#[Value.int .i64 0,.int .i64 0,.string ⟨#[]⟩,.slice none 0 0]:Array Value)[k]?=some u→(w.alloc (.cells #[.int .i64 0,.int .i64 0,.string ⟨#[]⟩,.slice none 0 0] 41)).cell? ⟨w.heap.size,k,none⟩=some u:=fun _ _ h=>cell_fresh h
structure FB4 (w W:World):Prop where
 low:Below w.heap.size w W
 big:w.heap.size<W.heap.size
 c:∀k,k<4→∃u,W.cell? ⟨w.heap.size,k,none⟩=some u
 z:∀k,W.frozen? ⟨w.heap.size,k,none⟩=false
theorem FB4.made (w:World):FB4 w (w.alloc (.cells #[.int .i64 0,.int .i64 0,.string ⟨#[]⟩,.slice none 0 0] 41)) :=
 ⟨(Below.refl _ _).alloc (Nat.le_refl _) _,by simp,fun k hk=>by
  obtain⟨u,hu⟩:∃u,(#[Value.int .i64 0,.int .i64 0,.string ⟨#[]⟩,.slice none 0 0]:Array Value)[k]?=some u:=⟨_,Array.getElem?_eq_getElem (by simpa using hk)⟩
  exact⟨u,fcells w k u hu⟩,fun k=>frozen_new k⟩
theorem FB4.but {w A B:World} {mb:Nat} (h:FB4 w A) (hb:But mb A B) (hm:w.heap.size<mb):FB4 w B :=
 ⟨⟨hb.os.trans h.low.os,hb.tape.trans h.low.tape,hb.output.trans h.low.output,Nat.le_trans h.low.size hb.size,fun k hk=>(hb.block k (Nat.lt_of_lt_of_le hk h.low.size) (by omega)).trans (h.low.block k hk)⟩,Nat.lt_of_lt_of_le h.big hb.size,
  fun k hk=>by
   obtain⟨u,hu⟩:=h.c k hk
   exact⟨u,(World.cell?_of_block (a:=⟨w.heap.size,k,none⟩) (hb.block w.heap.size h.big (by omega))).trans hu⟩,
  fun k=>(World.frozen?_of_block (a:=⟨w.heap.size,k,none⟩) (hb.block w.heap.size h.big (by omega))).trans (h.z k)⟩
theorem FB4.below {w A B:World} (h:FB4 w A) (hb:Below A.heap.size A B):FB4 w B :=
 ⟨Below.all h.low hb,Nat.lt_of_lt_of_le h.big hb.size,
  fun k hk=>by
   obtain⟨u,hu⟩:=h.c k hk
   exact⟨u,(hb.cell (p:=⟨w.heap.size,k,none⟩) h.big).trans hu⟩,
  fun k=>(hb.frozen (p:=⟨w.heap.size,k,none⟩) h.big).trans (h.z k)⟩
theorem FB4.stored {w W:World} (h:FB4 w W) (v0 v1 v2 v3:Value):Below w.heap.size w ((((W.setCell ⟨w.heap.size,0,none⟩ v0).setCell ⟨w.heap.size,1,none⟩ v1).setCell ⟨w.heap.size,2,none⟩ v2).setCell ⟨w.heap.size,3,none⟩ v3) :=
 (((h.low.setCell (Nat.le_refl _) _).setCell (Nat.le_refl _) _).setCell (Nat.le_refl _) _).setCell (Nat.le_refl _) _
theorem FB4.load {w W:World} (h:FB4 w W) (v0 v1 v2 v3:Value):let X:=(((W.setCell ⟨w.heap.size,0,none⟩ v0).setCell ⟨w.heap.size,1,none⟩ v1).setCell ⟨w.heap.size,2,none⟩ v2).setCell ⟨w.heap.size,3,none⟩ v3
  X.cell? ⟨w.heap.size,0,none⟩=some v0∧X.cell? ⟨w.heap.size,1,none⟩=some v1∧X.cell? ⟨w.heap.size,2,none⟩=some v2∧X.cell? ⟨w.heap.size,3,none⟩=some v3:=by
 obtain⟨u0,h0⟩:=h.c 0 (by omega)
 obtain⟨u1,h1⟩:=h.c 1 (by omega)
 obtain⟨u2,h2⟩:=h.c 2 (by omega)
 obtain⟨u3,h3⟩:=h.c 3 (by omega)
 have a0:=World.cell?_setCell_same W ⟨w.heap.size,0,none⟩ v0 h0
 have b1:=(World.cell?_setCell_other W ⟨w.heap.size,0,none⟩ ⟨w.heap.size,1,none⟩ v0 (by simp)).trans h1
 have b2:=(World.cell?_setCell_other W ⟨w.heap.size,0,none⟩ ⟨w.heap.size,2,none⟩ v0 (by simp)).trans h2
 have b3:=(World.cell?_setCell_other W ⟨w.heap.size,0,none⟩ ⟨w.heap.size,3,none⟩ v0 (by simp)).trans h3
 generalize W.setCell ⟨w.heap.size,0,none⟩ v0=A at a0 b1 b2 b3 ⊢
 have a1:=World.cell?_setCell_same A ⟨w.heap.size,1,none⟩ v1 b1
 have c0:=(World.cell?_setCell_other A ⟨w.heap.size,1,none⟩ ⟨w.heap.size,0,none⟩ v1 (by simp)).trans a0
 have c2:=(World.cell?_setCell_other A ⟨w.heap.size,1,none⟩ ⟨w.heap.size,2,none⟩ v1 (by simp)).trans b2
 have c3:=(World.cell?_setCell_other A ⟨w.heap.size,1,none⟩ ⟨w.heap.size,3,none⟩ v1 (by simp)).trans b3
 generalize A.setCell ⟨w.heap.size,1,none⟩ v1=B at a1 c0 c2 c3 ⊢
 have a2:=World.cell?_setCell_same B ⟨w.heap.size,2,none⟩ v2 c2
 have d0:=(World.cell?_setCell_other B ⟨w.heap.size,2,none⟩ ⟨w.heap.size,0,none⟩ v2 (by simp)).trans c0
 have d1:=(World.cell?_setCell_other B ⟨w.heap.size,2,none⟩ ⟨w.heap.size,1,none⟩ v2 (by simp)).trans a1
 have d3:=(World.cell?_setCell_other B ⟨w.heap.size,2,none⟩ ⟨w.heap.size,3,none⟩ v2 (by simp)).trans c3
 generalize B.setCell ⟨w.heap.size,2,none⟩ v2=C at a2 d0 d1 d3 ⊢
 exact⟨(World.cell?_setCell_other C ⟨w.heap.size,3,none⟩ ⟨w.heap.size,0,none⟩ v3 (by simp)).trans d0,(World.cell?_setCell_other C ⟨w.heap.size,3,none⟩ ⟨w.heap.size,1,none⟩ v3 (by simp)).trans d1,(World.cell?_setCell_other C ⟨w.heap.size,3,none⟩ ⟨w.heap.size,2,none⟩ v3 (by simp)).trans a2,World.cell?_setCell_same C ⟨w.heap.size,3,none⟩ v3 d3⟩
theorem FB4.strs {w W:World} (ht:∃cs f,W.heap[w.heap.size]?=some (.cells cs 41 f)) {v:Value} {L:List Str} (hs:strs W v L) (v0 v1 v2 v3:Value):strs ((((W.setCell ⟨w.heap.size,0,none⟩ v0).setCell ⟨w.heap.size,1,none⟩ v1).setCell ⟨w.heap.size,2,none⟩ v2).setCell ⟨w.heap.size,3,none⟩ v3) v L:=by
 have hb:But w.heap.size W ((((W.setCell ⟨w.heap.size,0,none⟩ v0).setCell ⟨w.heap.size,1,none⟩ v1).setCell ⟨w.heap.size,2,none⟩ v2).setCell ⟨w.heap.size,3,none⟩ v3):=((((But.refl w.heap.size W).setCell rfl _).setCell rfl _).setCell rfl _).setCell rfl _
 refine hs.carry hb.size (fun k hk hst=>hb.block k hk (fun e=>?_))
 subst e
 obtain⟨cs,f,hc⟩:=hst
 obtain⟨cs',f',hc'⟩:=ht
 rw[hc']at hc
 injection hc with hc
 injection hc with _ hc _
 cases hc
end
section
open Go.RowKit
theorem get_lt {α:Type} {l:List α} {j:Nat} {x:α} (h:l[j]?=some x):j<l.length:=by
 rcases Nat.lt_or_ge j l.length with h1 | h1
 ·exact h1
 ·rw[List.getElem?_eq_none h1]at h;cases h
theorem lists.one {w:World} {v:Value} {fl:List (List Str)} (h:lists w v fl) {j:Nat} {L:List Str} (hj:fl[j]?=some L):∃g cap ua un uc,v=.slice (some ⟨g,0,none⟩) fl.length cap∧fl.length≤cap∧fl.length≤maxLen∧w.cell? ⟨g,j,none⟩=some (.slice ua un uc)∧strs w (.slice ua un uc) L:=by
 obtain⟨vs,h1,h2,h3⟩:=h
 have hlt:=get_lt hj
 obtain⟨g,cap,rfl,e1,e2,_,hc⟩:=slAt_some h1 (by omega)
 obtain⟨u,hu⟩:∃u,vs[j]?=some u:=⟨_,List.getElem?_eq_getElem (by omega)⟩
 have hs:=h3 j u L hu hj
 obtain⟨ua,un,uc,rfl,_⟩:=hs.gen
 rw[h2]at *
 exact⟨g,cap,ua,un,uc,rfl,e1,e2,hc j _ hu,hs⟩
theorem set_no (w:World) (v vw:Value) (s:ByteArray) :
  Calls Tryz.prog 14 #[v,.bool true,.agg #[.int .i64 10,.int .i64 0,.string s,.slice none 0 0],.int .i64 (-1),vw] w fun e w'=>e=.returned (.bool true)∧Below w.heap.size w w':=by
 have hB:Below w.heap.size w (w.alloc (.cells #[.int .i64 10,.int .i64 0,.string s,.slice none 0 0] 41)):=(Below.refl _ w).alloc (Nat.le_refl _) _
 go_enter Tryz.func14,Tryz.ntmps14
 go_wp2_with fail
 go_ret
 exact⟨rfl,hB⟩
theorem set_yes (w:World) (v vw:Value) (L:List Str) (s:ByteArray) (k:Nat) (hv:strs w v L) (hw:strs w vw L) :
  Calls Tryz.prog 14 #[v,.bool false,.agg #[.int .i64 0,.int .i64 0,.string s,.slice none 0 0],.int .i64 (k:Int),vw] w fun e w'=>e=.returned (.bool true)∧Below w.heap.size w w':=by
 have hB:Below w.heap.size w (w.alloc (.cells #[.int .i64 0,.int .i64 0,.string s,.slice none 0 0] 41)):=(Below.refl _ w).alloc (Nat.le_refl _) _
 have HS:=hide (same_x _ v vw L (hv.below hB) (hw.below hB))
 have hk:¬((k:Int)<0):=by omega
 clear hv hw
 go_enter Tryz.func14,Tryz.ntmps14
 go_wp2_with (go_at_call 10;refine HS.out.mono ?_;rintro e w1 ⟨rfl,hb1⟩)
 go_ret
 exact⟨rfl,Below.all hB hb1⟩
end
section
open Go.RowKit
theorem check_same {G' G:List Rule} (h:PredP.check G'=.ok G):G'=G:=by
 unfold PredP.check at h
 split at h
 ·cases h
 ·split at h
  ·cases h
  ·split at h
   ·cases h
   ·split at h
    ·cases h
    ·split at h
     ·cases h
     ·split at h
      ·cases h
      ·injection h
theorem comp_words {l:Str} {G:List Rule} (h:PredP.compile l=.ok G):(allWords G).length≤500:=by
 unfold PredP.compile at h
 split at h
 ·cases h
 ·rename_i h0
  split at h
  ·cases h
  ·rename_i G' t hr
   have e:=check_same h
   subst e
   have:=PredP.read_count hr
   unfold allWords
   rw[List.length_cons]
   unfold PredP.allWords at this
   omega
end
end Go.Proofs.YtpcmemcanpgadaaGreatDoor
