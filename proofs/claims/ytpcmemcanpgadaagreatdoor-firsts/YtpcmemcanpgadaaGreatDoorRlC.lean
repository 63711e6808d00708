import Derived.Test.YtpcmemcanpgadaaGreatDoorXWith
set_option maxHeartbeats 1000000
set_option maxRecDepth 100000
namespace Go.Proofs.YtpcmemcanpgadaaGreatDoor
open PredP (hide Str Rule bs)
open Go.RowKit
theorem comp_small {l:Str} {G:List Rule} (h:PredP.compile l=.ok G):G≠[]∧G.length≤12:=by
 have hc:∀G',PredP.check G'=.ok G→G≠[]∧G.length≤12:=fun G' h=>by
  unfold PredP.check at h
  split at h
  ·cases h
  ·rename_i h0
   split at h
   ·cases h
   ·rename_i h1
    have e:G'=G:=by
     split at h
     ·cases h
     ·split at h
      ·cases h
      ·split at h
       ·cases h
       ·split at h
        ·cases h
        ·injection h
    subst e
    exact⟨fun e=>h0 (by rw[e];rfl),by omega⟩
 unfold PredP.compile at h
 split at h
 ·cases h
 ·split at h
  ·cases h
  ·exact hc _ h
theorem slAt_take {ok:Nat→Prop} {w:World} {g n cap m:Nat} {cs:List Value} (h:slAt ok w 1 (.slice (some ⟨g,0,none⟩) n cap) cs) (hm:m≤n):slAt ok w 1 (.slice (some ⟨g,0,none⟩) m cap) (cs.take m):=by
 rcases h with ⟨h,_⟩ | ⟨g',n',cap',e,h1,h2,h3,h4,h5⟩
 ·cases h
 ·cases e
  refine .inr ⟨g,m,cap,rfl,by omega,h2,h3,by rw[List.length_take];omega,fun j u hj=>h5 j u ?_⟩
  rw[List.getElem?_take]at hj
  split at hj
  ·exact hj
  ·cases hj
theorem slAt_some {ok:Nat→Prop} {w:World} {v:Value} {cs:List Value} (h:slAt ok w 1 v cs) (h0:0<cs.length):∃g cap,v=.slice (some ⟨g,0,none⟩) cs.length cap∧cs.length≤cap∧cs.length≤maxLen∧g<w.heap.size∧∀j u,cs[j]?=some u→w.cell? ⟨g,j,none⟩=some u:=by
 rcases h with ⟨_,rfl⟩ | ⟨g,n,cap,rfl,h1,_,h3,h4,h5⟩
 ·simp at h0
 ·have e:n=cs.length:=by omega
  subst e
  exact⟨g,cap,rfl,by omega,by omega,h3,h5⟩
theorem one_str {a b:ByteArray} (h:bs a=bs b):a=b:=by
 have h1:vS (bs a)=vS (bs b):=by rw[h]
 rw[vS_bs,vS_bs]at h1
 injection h1
theorem same_x (w:World) (va vb:Value) (L:List Str) {ok1 ok2:Nat→Prop} (ha:slAt ok1 w 1 va (strC L)) (hb:slAt ok2 w 1 vb (strC L)) :
  Calls Tryz.prog 10 #[va,vb] w fun e w'=>e=.returned (.bool true)∧Below w.heap.size w w':=by
 obtain⟨a1,n,cap1,rfl,hm,_,hl1,hc1⟩:=ha.gen
 obtain⟨a2,n2,cap2,rfl,_,_,hl2,hc2⟩:=hb.gen
 obtain rfl:n2=n:=by omega
 unfold maxLen at hm
 have HL:Hid (L.length=n2):=hide (by simpa[strC] using hl1)
 have HC1:=hide hc1
 have HC2:=hide hc2
 clear hc1 hc2 hl1 hl2 ha hb
 go_enter Tryz.func10,Tryz.ntmps10
 go_wp2_with fail
 go_loopw [13] (fun t wr=>Below w.heap.size w wr∧∃k:Nat,k≤n2∧t=.int .i64 k) (fun t _=>n2 - (intOf t).toNat)
 case atStart=>exact⟨Below.refl _ _,0,by omega,rfl⟩
 case round =>
  obtain⟨hlow,k,hk,rfl⟩:=hrel
  by_cases hk':k<n2
  ·rcases HC1.out with h0 | ⟨g1,rfl,_,hg1,hcell1⟩
   ·omega
   rcases HC2.out with h0 | ⟨g2,rfl,_,hg2,hcell2⟩
   ·omega
   obtain⟨x,hx⟩:∃x,L[k]?=some x:=⟨L[k]'(by rw[HL.out];exact hk'),List.getElem?_eq_getElem _⟩
   obtain⟨c,hcx,k1⟩:=str_cell ((hlow.cell (p:=⟨g1,k,none⟩) hg1).trans (hcell1 k _ (strC_get hx)))
   obtain⟨c',hcx',k2⟩:=str_cell ((hlow.cell (p:=⟨g2,k,none⟩) hg2).trans (hcell2 k _ (strC_get hx)))
   obtain rfl:c'=c:=one_str (hcx'.trans hcx.symm)
   clear hcell1 hcell2 hx hcx hcx' HC1 HC2
   go_upto_region 6 with fail
   go_quiet (fail)
   go_wp2_with fail
   exact⟨⟨⟨hlow.os,hlow.tape,hlow.output,hlow.size,hlow.block⟩,k+1,by omega,by go_num⟩,by simp[intOf];omega⟩
  ·go_wp2_with fail
   go_ret
   exact⟨rfl,hlow⟩
end Go.Proofs.YtpcmemcanpgadaaGreatDoor
