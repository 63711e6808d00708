import Derived.Test.YtpcmemcanpgadaaGreatDoorXRead
set_option maxHeartbeats 1000000
set_option maxRecDepth 100000
namespace Go.Proofs.YtpcmemcanpgadaaGreatDoor
open PredP (hide Str Rule bs)
section
open Go.RowKit
theorem xread_long (s:ByteArray) (hs:400<s.size) (w:World) :
  Calls Tryz.prog 20 #[.string s] w (XPost w (PredP.compile (bs s))):=by
 have HCK:Hid (PredP.compile (bs s)=.long):=hide (by unfold PredP.compile;rw[if_pos (by rw[PredP.bs_length];exact hs)])
 have hlow:Below w.heap.size w (w.alloc (.cells #[.int .i64 0,.int .i64 0,.string ⟨#[]⟩] 55)):=(Below.refl _ w).alloc (Nat.le_refl _) _
 have hres:(w.alloc (.cells #[.int .i64 0,.int .i64 0,.string ⟨#[]⟩] 55)).rowIs w.heap.size 55 3 (fun i=>(#[.int .i64 0,.int .i64 0,.string ⟨#[]⟩]:Array Value)[i]?.getD (.int .i64 0)) :=
  World.rowIs_alloc w #[.int .i64 0,.int .i64 0,.string ⟨#[]⟩] 55 _ (fun i hi=>by rw[Array.getElem?_eq_getElem hi];rfl)
 go_enter Tryz.func20,Tryz.ntmps20
 go_upto_region 1 with fail
 generalize w.alloc (.cells #[.int .i64 0,.int .i64 0,.string ⟨#[]⟩] 55)=W0 at hlow hres ⊢
 have k0:=hres.cell (i:=0) (by omega)
 have k1:=hres.cell (i:=1) (by omega)
 have k2:=hres.cell (i:=2) (by omega)
 have z0:=hres.frozen 0
 have z1:=hres.frozen 1
 have z2:=hres.frozen 2
 have hlt:=hres.lt
 go_wp2_with fail
 exact bodyPost_ret (v:=.tuple #[.pointer none,fltV 1 0 ⟨#[]⟩]) (by simp[results,Tryz.results20,go_sem,k0,k1,k2]) rfl ⟨((hlow.setCell (by simp) _).setCell (by simp) _).setCell (by simp) _,.pointer none,1,0,⟨#[]⟩,rfl,by rw[HCK.out];rfl,by rw[HCK.out];rfl,by rw[HCK.out];rfl,by rw[HCK.out];exact rfl⟩
theorem xread_all (s:ByteArray) (w:World):Calls Tryz.prog 20 #[.string s] w (XPost w (PredP.compile (bs s))):=by
 by_cases hs:s.size≤400
 ·exact xread_any s hs w
 ·exact xread_long s (by omega) w
end
section
open Go.RowKit
theorem agree_x (w:World) (W A:Int) (c:ByteArray) :
  Calls Tryz.prog 21 #[.agg #[.int .i64 W,.int .i64 A,.string c,.slice none 0 0],.agg #[.int .i64 W,.int .i64 A,.string c]] w fun e w'=>e=.returned (.bool true)∧Below w.heap.size w w':=by
 have hB:Below w.heap.size w ((w.alloc (.cells #[.int .i64 W,.int .i64 A,.string c,.slice none 0 0] 41)).alloc (.cells #[.int .i64 W,.int .i64 A,.string c] 55)):=((Below.refl _ w).alloc (Nat.le_refl _) _).alloc (by simp) _
 go_enter Tryz.func21,Tryz.ntmps21
 go_wp2_with fail
 go_ret
 exact⟨rfl,hB⟩
end
section
open Go.RowKit
theorem str_one {a b:ByteArray} (h:bs a=bs b):a=b:=by
 have h1:vS (bs a)=vS (bs b):=by rw[h]
 rw[vS_bs,vS_bs]at h1
 injection h1
def BothTail (v vg:Value) (w':World):PredP.Res→Prop
 | .ok G=>∃b0 b lo N0 gb l,v=.pointer (some ⟨b0,0,none⟩)∧vg=.pointer (some ⟨gb,0,none⟩)∧w'.cell? ⟨b0,0,none⟩=some (.pointer (some ⟨b,0,none⟩))∧ParserAt G lo b w'∧GT N0 gb G l w'∧Sets N0 gb G w'
 | _=>v=.pointer none∧vg=.pointer none
theorem BothTail.below {v vg:Value} {w w':World} {r:PredP.Res} (h:BothTail v vg w r) (hb:Below w.heap.size w w'):BothTail v vg w' r:=by
 cases r with
 | ok G =>
  obtain⟨b0,b,lo,N0,gb,l,h1,h2,h3,h4,h5,h6⟩:=h
  obtain⟨vA,c1,_⟩:=h5.ats
  exact⟨b0,b,lo,N0,gb,l,h1,h2,(hb.cell (p:=⟨b0,0,none⟩) (bltc h3)).trans h3,h4.below hb (Nat.le_refl _),h5.below hb,h6.below (bltc c1) hb⟩
 | _=>exact h
theorem both_x (s:ByteArray) (hs:s.size≤maxLen) (w:World) (hg:w.cell? ⟨6,0,none⟩=some (.iface 189 (.agg #[.pointer (some ⟨10,67,none⟩)]))) (bl be bm:Addr) (hS:Sent w bl be bm) :
  Calls Tryz.prog 8 #[.string s] w fun e w'=>∃v vg,e=.returned (.tuple #[v,vg,.bool true])∧Below w.heap.size w w'∧BothTail v vg w' (PredP.compile (bs s)):=by
 obtain⟨r,hr0⟩:∃r,PredP.compile (bs s)=r:=⟨_,rfl⟩
 have HP:=hide (pCompile_any s hs w hg bl be bm hS)
 have HQ:=hide (fun w=>xread_all s w)
 rw[hr0]at HP HQ ⊢
 obtain⟨Wi,hWi⟩:∃Wi,whatOf r=Wi:=⟨_,rfl⟩
 obtain⟨Ai,hAi⟩:∃Ai,atOf r=Ai:=⟨_,rfl⟩
 clear hg hr0
 go_enter Tryz.func8,Tryz.ntmps8
 go_wp2_with fail
 refine HP.out.mono ?_
 rintro e w1 ⟨hb1,v,x,rfl,hx,hr⟩
 rw[hWi,hAi]
 have HR:=hide hr
 have HX:=hide hx
 have HWI:=hide hWi
 have HAI:=hide hAi
 clear hr hx hWi hAi
 have hbF:Below w1.heap.size w1 (w1.alloc (.cells #[.int .i64 Wi,.int .i64 (Ai:Int),.string x,.slice none 0 0] 41)):=(Below.refl _ w1).alloc (Nat.le_refl _) _
 have g0:(w1.alloc (.cells #[.int .i64 Wi,.int .i64 (Ai:Int),.string x,.slice none 0 0] 41)).heap[w1.heap.size]?=some (.cells #[.int .i64 Wi,.int .i64 (Ai:Int),.string x,.slice none 0 0] 41):=heap_alloc_new w1 _
 go_wp2_with fail
 generalize w1.alloc (.cells #[.int .i64 Wi,.int .i64 (Ai:Int),.string x,.slice none 0 0] 41)=w1f at hbF g0 ⊢
 refine(HQ.out _).mono ?_
 rintro e w2 ⟨hb2,vg,W,A,c,rfl,hW,hA,hc,ht⟩
 have hcx:x=c:=str_one (HX.out.trans hc.symm)
 subst hcx
 rw[HWI.out]at hW
 rw[HAI.out]at hA
 subst hA
 have HT:Hid (BothTail v vg w2 r):=hide (by
  have h1:=HR.out
  cases r with
  | ok G =>
   obtain⟨b0,b,h1,_,hc0,hp⟩:=h1
   obtain⟨N0,gb,l,h2,_,hgt,hst⟩:=ht
   have hbz:=Below.all hbF hb2
   exact⟨b0,b,_,N0,gb,l,h1,h2,(hbz.cell (p:=⟨b0,0,none⟩) (bltc hc0)).trans hc0,hp.below hbz (Nat.le_refl _),hgt,hst⟩
  | _=>exact⟨h1,ht⟩)
 have hv:(∃a b,v=.pointer (some a)∧vg=.pointer (some b))∨(v=.pointer none∧vg=.pointer none):=by
  have h1:=HR.out
  cases r with
  | ok G =>
   obtain⟨b0,b,h1,_⟩:=h1
   obtain⟨N0,gb,l,h2,_⟩:=ht
   exact .inl ⟨_,_,h1,h2⟩
  | _=>exact .inr ⟨h1,ht⟩
 have hcell:∀k u,(#[.int .i64 Wi,.int .i64 (A:Int),.string x,.slice none 0 0]:Array Value)[k]?=some u→w2.cell? ⟨w1.heap.size,k,none⟩=some u:=fun k u hu=>by
  rw[hb2.cell (p:=⟨w1.heap.size,k,none⟩) (Array.getElem?_eq_some_iff.1 g0).1]
  simp only[World.cell?,g0];exact hu
 have q0:=hcell 0 _ rfl
 have q1:=hcell 1 _ rfl
 have q2:=hcell 2 _ rfl
 have q3:=hcell 3 _ rfl
 have ql:=bltc q0
 have hB:=Below.all (Below.all hb1 hbF) hb2
 unfold fltV
 rw[hW]
 clear hcell g0 ht hc hW
 rcases hv with ⟨a,b,rfl,rfl⟩ | ⟨rfl,rfl⟩
 ·go_wp2_with (go_at_call 21;refine(agree_x _ Wi (A:Int) x).mono ?_;rintro e w3 ⟨rfl,hb3⟩)
  exact bodyPost_ret (v:=.tuple #[.pointer (some a),.pointer (some b),.bool true]) (by simp[results,Tryz.results8,go_sem]) rfl ⟨_,_,rfl,Below.all hB (Below.all ((Below.refl _ _).alloc (Nat.le_refl _) _) hb3),HT.out.below (Below.all ((Below.refl _ _).alloc (Nat.le_refl _) _) hb3)⟩
 ·go_wp2_with (go_at_call 21;refine(agree_x _ Wi (A:Int) x).mono ?_;rintro e w3 ⟨rfl,hb3⟩)
  exact bodyPost_ret (v:=.tuple #[.pointer none,.pointer none,.bool true]) (by simp[results,Tryz.results8,go_sem]) rfl ⟨_,_,rfl,Below.all hB (Below.all ((Below.refl _ _).alloc (Nat.le_refl _) _) hb3),HT.out.below (Below.all ((Below.refl _ _).alloc (Nat.le_refl _) _) hb3)⟩
end
end Go.Proofs.YtpcmemcanpgadaaGreatDoor
