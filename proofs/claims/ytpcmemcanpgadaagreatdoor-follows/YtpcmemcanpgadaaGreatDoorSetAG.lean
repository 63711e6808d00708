import Derived.Test.YtpcmemcanpgadaaGreatDoorHandG
import Derived.Deep.RegionHeld3
set_option maxHeartbeats 4000000
set_option maxRecDepth 100000
namespace Go.Proofs.YtpcmemcanpgadaaGreatDoor
open PredP (hide Str Rule bs)
section
open Go.RowKit Go.Maps
structure ARel (S:KS) (G:List Rule) (c d:Words) (Bd:Str→Str→Bool) (k:Nat) (d':Words) (wr:World):Prop where
 kn:Kn S c d' wr
 le:Le d d'
 bd:Bnd d' Bd
 seen:∀j q,j<k→G[j]?=some q→∀n x,PredP.occE x (Fof c x) S.l0.contains n (Fof d x q.name) q.body=true→x∈d' n
theorem ARel.start {S:KS} {G:List Rule} {c d:Words} {Bd:Str→Str→Bool} {W:World} (h:Kn S c d W) (hb:Bnd d Bd):ARel S G c d Bd 0 d W :=
 ⟨h,.refl d,hb,fun j q hj=>by omega⟩
theorem ARel.step {S:KS} {G:List Rule} {c d:Words} {Bd:Str→Str→Bool} {k:Nat} {d' d2:Words} {wr w2:World} (h:ARel S G c d Bd k d' wr) {q:Rule} (hq:G[k]?=some q) (hk:Kn S c d2 w2) (hb:Bnd d2 Bd) (hl:Le d' d2)
  (ho:∀n x,PredP.occE x (Fof c x) S.l0.contains n (Fof d' x q.name) q.body=true→x∈d2 n):ARel S G c d Bd (k+1) d2 w2 :=
 ⟨hk,h.le.trans hl,hb,fun j q' hj hq' n x hx=>by
  by_cases e:j=k
  ·subst e
   rw[hq]at hq';cases hq'
   exact ho n x (PredP.occE_mono x _ _ n (Fof_le h.le x _) _ hx)
  ·exact hl n x (h.seen j q' (by omega) hq' n x hx)⟩
theorem Arg.outer {S:KS} {c:Words} {Bd:Str→Str→Bool} {q:Rule} {tb:Nat} {W:World} (hin:(q.name,tb)∈S.fa) (hB:∀n x,PredP.occE x (Fof c x) S.l0.contains n (Bd x q.name) q.body=true→Bd x n=true):Arg S c Bd tb (fun d x=>Fof d x q.name) q.body W :=
 ⟨fun d' _ hk _=>⟨d' q.name,hk.aset _ hin,hk.aU _,fun _=>rfl⟩,fun _ _ x hl h=>Fof_le hl x _ h,fun _ hb n x h=>hB n x (PredP.occE_mono x _ _ n (fun h=>hb _ x (Fof_mem.1 h)) _ h)⟩
theorem stepA_any (S:KS) (hA:Apart S) (ok:Nat→Prop) (cs:List Value) (G:List Rule) (hG:G≠[]) (hsl:slAt ok S.w0 3 S.v cs) (hr:rulesAt ok S.w0 G cs) (hfit:∀q,q∈G→Fits S q) (c d:Words) (Bd:Str→Str→Bool)
  (hB:∀q,q∈G→∀n x,PredP.occE x (Fof c x) S.l0.contains n (Bd x q.name) q.body=true→Bd x n=true) (W:World) (h:Kn S c d W) (hbd:Bnd d Bd) :
  Calls Tryz.prog 79 #[.pointer (some ⟨S.rp,0,none⟩),.pointer (some ⟨S.sp,0,none⟩)] W fun e W'=>e=.returned (.tuple #[])∧∃d',ARel S G c d Bd G.length d' W':=by
 obtain⟨g,cap,hv,hm,hg,hcell⟩:=rules_slice hsl hr hG
 have HC:=hide hcell
 have HR:=hide hr
 have HF:=hide hfit
 have HK:=hide (ARel.start (G:=G) h hbd)
 have HBB:=hide hB
 have rc:=h.rc
 rw[hv]at rc
 clear hcell hsl hr hG hfit h hv hB hbd
 unfold maxLen at hm
 go_enter Tryz.func79,Tryz.ntmps79
 go_wp2_with fail
 clear rc
 go_loopw [6] (fun t wr=>∃k:Nat,∃d',k≤G.length∧t=.int .i64 k∧ARel S G c d Bd k d' wr) (fun t _=>G.length - (intOf t).toNat)
 case atStart=>exact⟨0,d,by omega,rfl,HK.out⟩
 case round =>
  clear HK
  obtain⟨k,d',hk,rfl,hS⟩:=hrel
  by_cases hk':k<G.length
  ·obtain⟨q,hq⟩:∃q,G[k]?=some q:=⟨G[k],List.getElem?_eq_getElem hk'⟩
   obtain⟨a,u,us,e0,e1,e2,hnm,ha,hu,hrows⟩:=HR.out.get hq
   obtain⟨hf1,hf2,hf3⟩:=HF.out q (List.mem_of_getElem? hq)
   have k0:=sl_cell hg HC.out hS.kn.low e0
   have k1:=sl_cell hg HC.out hS.kn.low e1
   have k2:=sl_cell hg HC.out hS.kn.low e2
   obtain⟨tb,hl,hin⟩:=look_in (f:=S.fa) (s:=q.name) (by rw[hA.same];exact hf1)
   have hread:∀W',Below wr.heap.size wr W'→(Instr.lookup 89 (.map (some S.ab)) (.string a) false).run Tryz.prog W'=.ok (.map (some tb)) W':=fun W' hW=>by
    rw[(hS.kn.amap.below hW).read a (le_max ha),hnm,hl]
   have hC:∀W',Below wr.heap.size wr W'→Calls Tryz.prog 80 #[.agg #[.map (some S.eb),.map (some S.fb),.map (some S.ab)],u,.map (some tb)] W' (HandPost S c Bd d' (fun d x=>Fof d x q.name) q.body W'):=fun W' hW =>
    hand_all S hA c Bd (SizeOf.sizeOf q.body) q.body (Nat.le_refl _) ok W' u us tb _ d' (hS.kn.onward hW) hS.bd hu hrows hf2 hf3 (.outer hin (HBB.out q (List.mem_of_getElem? hq)))
   obtain⟨ua,un,uc,rfl⟩:=hu.form
   have HC1:=hide hC
   have HQ:=hide hq
   have hbW:Below wr.heap.size wr (wr.alloc (.cells #[.string a,.int .i64 (q.pos:Int),.slice ua un uc] 97)):=(Below.refl _ _).alloc (Nat.le_refl _) _
   have x0:(wr.alloc (.cells #[.string a,.int .i64 (q.pos:Int),.slice ua un uc] 97)).cell? ⟨wr.heap.size,0,none⟩=some (.string a):=cell_fresh rfl
   have x2:(wr.alloc (.cells #[.string a,.int .i64 (q.pos:Int),.slice ua un uc] 97)).cell? ⟨wr.heap.size,2,none⟩=some (.slice ua un uc):=cell_fresh rfl
   have hrd:=hread _ hbW
   have hK1:=hS.kn.onward hbW
   have s0:=hK1.s0
   have s1:=hK1.s1
   have s2:=hK1.s2
   clear hC hread hq hin hl e0 e1 e2 hnm hu hrows hf1 hf2 hf3 hK1
   go_wp2_with (go_at_call 80;refine(HC1.out _ hbW).mono ?_;rintro e w1 ⟨rfl,hba,d2,hk2,hb2,hl2,ho2⟩)
   exact⟨⟨k+1,d2,by omega,by go_num,hS.step HQ.out hk2 hb2 hl2 ho2⟩,by simp[intOf];omega⟩
  ·go_wp2_with fail
   go_end0
   have ek:k=G.length:=by omega
   subst ek
   exact⟨rfl,d',hS⟩
end
section
open Go.RowKit Go.Maps
def FB (G:List Rule) (x n:Str):Bool:=(PredP.fsts G x).contains n
def AB (G:List Rule) (x n:Str):Bool:=(PredP.afts G x).contains n
theorem FB_name {G:List Rule} {x n:Str} (h:FB G x n=true):n∈PredP.names G:=PredP.least_sub _ _ (by simpa[FB,PredP.fsts] using h)
theorem AB_name {G:List Rule} {x n:Str} (h:AB G x n=true):n∈PredP.names G:=PredP.least_sub _ _ (by simpa[AB,PredP.afts] using h)
structure RulesOk (S:KS) (ok:Nat→Prop) (cs:List Value) (G:List Rule):Prop where
 apart:Apart S
 ne:G≠[]
 sl:slAt ok S.w0 3 S.v cs
 rules:rulesAt ok S.w0 G cs
 fits:∀q,q∈G→Fits S q
 names:∀n,n∈PredP.names G↔n∈S.f.map (·.1)
 nul:∀x,S.l0.contains x=(PredP.nul G).contains x
 known:PredP.AllKnown G
 room:S.f.length * S.U.length<maxLen
theorem RulesOk.l0 {S:KS} {ok:Nat→Prop} {cs:List Value} {G:List Rule} (h:RulesOk S ok cs G):S.l0.contains=(PredP.nul G).contains:=funext h.nul
def JF (S:KS) (G:List Rule) (d:Words) (c:Words) (W:World):Prop:=Kn S c d W∧Bnd c (FB G)
def DoneF (S:KS) (G:List Rule) (c:Words):Prop:=∀q,q∈G→∀x,PredP.fstE x (Fof c x) S.l0.contains q.body=true→x∈c q.name
theorem FB_closed {S:KS} {ok:Nat→Prop} {cs:List Value} {G:List Rule} (h:RulesOk S ok cs G):∀q,q∈G→∀x,PredP.fstE x (FB G x) S.l0.contains q.body=true→FB G x q.name=true:=fun q hq x hx=>by
 rw[h.l0]at hx
 have:=PredP.least_closed (PredP.names G) (PredP.fstStep G (PredP.nul G).contains x) q.name (List.mem_map.2 ⟨q,hq,rfl⟩) (List.any_eq_true.2 ⟨q,hq,by rw[Bool.and_eq_true];exact⟨by simp,hx⟩⟩)
 exact this
theorem same_back {c c':Words} {G:List Rule} {f:List (Str×Nat)} {Bd:Str→Str→Bool} (hn:∀n,n∈PredP.names G→n∈f.map (·.1)) (hB:∀x n,Bd x n=true→n∈PredP.names G) (hle:Le c c') (hnd:∀p,p∈f→(c p.1).Nodup) (hb:Bnd c' Bd) (ht:total c' f=total c f):Le c' c:=fun n x hx=>by
 obtain⟨p,hp,rfl⟩:=List.mem_map.1 (hn n (hB x n (hb n x hx)))
 exact total_eq hle f hnd ht p hp x hx
theorem F_step {S:KS} {ok:Nat→Prop} {cs:List Value} {G:List Rule} (h:RulesOk S ok cs G) {c d c':Words} {W W':World} (hj:JF S G d c W) (hR:FRel S G c d G.length c' W'):JF S G d c' W'∧total c S.f≤total c' S.f∧(total c' S.f=total c S.f→DoneF S G c'):=by
 have hb':Bnd c' (FB G):=hR.snd (FB G) (FB_closed h) hj.2
 have hnd:∀p,p∈S.f→(c p.1).Nodup:=fun p hp=>(hj.1.fset p hp).nodup
 refine⟨⟨hR.kn,hb'⟩,total_le hR.le S.f hnd,fun ht q hq x hx=>?_⟩
 have hback:Le c' c:=same_back (fun n hn=>(h.names n).1 hn) (fun x n=>FB_name) hR.le hnd hb' ht
 obtain⟨j,hj',hjq⟩:=List.getElem_of_mem hq
 exact hR.seen j q hj' (by rw[List.getElem?_eq_getElem hj',hjq]) x (PredP.fstE_mono x _ (Fof_le hback x) _ hx)
theorem F_done {S:KS} {ok:Nat→Prop} {cs:List Value} {G:List Rule} (h:RulesOk S ok cs G) {c d:Words} {W:World} (hj:JF S G d c W) (hD:DoneF S G c) (x n:Str):Fof c x n=FB G x n:=by
 refine PredP.least_eq (PredP.names G) (PredP.fstStep G (PredP.nul G).contains x) (PredP.fstStep_mono G _ x) (fun n=>Fof c x n) ?_ ?_ n
 ·intro m _ hs
  obtain⟨q,hq,hx⟩:=List.any_eq_true.1 hs
  rw[Bool.and_eq_true,beq_iff_eq]at hx
  rw[←hx.1]
  exact Fof_mem.2 (hD q hq x (by rw[h.l0];exact hx.2))
 ·intro m hm
  have:=hj.2 m x (Fof_mem.1 hm)
  simpa[FB,PredP.fsts] using this
mutual
theorem occP_names {w:Str} {f k:Str→Bool} {n:Str}:∀(p:PredP.Part) (b:Bool),PredP.occP w f k n b p=true→∃q,(n,q)∈PredP.namesP p
 | .word _,b,h=>by simp[PredP.occP]at h
 | .name s q,b,h=>by
  rw[PredP.occP,Bool.and_eq_true,beq_iff_eq]at h
  exact⟨q,by rw[PredP.namesP,h.1];simp⟩
 | .br _ _ e,b,h=>by
  rw[PredP.occP]at h
  rw[PredP.namesP]
  exact occE_names e _ h
theorem occR_names {w:Str} {f k:Str→Bool} {n:Str}:∀(p:PredP.Parts) (b:Bool),PredP.occR w f k n b p=true→∃q,(n,q)∈PredP.namesR p
 | .nil,b,h=>by simp[PredP.occR]at h
 | .cons p ps,b,h=>by
  rw[PredP.occR,Bool.or_eq_true]at h
  rw[PredP.namesR]
  rcases h with h | h
  ·obtain⟨q,hq⟩:=occP_names p _ h
   exact⟨q,List.mem_append_left _ hq⟩
  ·obtain⟨q,hq⟩:=occR_names ps _ h
   exact⟨q,List.mem_append_right _ hq⟩
theorem occE_names {w:Str} {f k:Str→Bool} {n:Str}:∀(e:PredP.Rows) (b:Bool),PredP.occE w f k n b e=true→∃q,(n,q)∈PredP.namesE e
 | .nil,b,h=>by simp[PredP.occE]at h
 | .cons _ r e,b,h=>by
  rw[PredP.occE,Bool.or_eq_true]at h
  rw[PredP.namesE]
  rcases h with h | h
  ·obtain⟨q,hq⟩:=occR_names r _ h
   exact⟨q,List.mem_append_left _ hq⟩
  ·obtain⟨q,hq⟩:=occE_names e _ h
   exact⟨q,List.mem_append_right _ hq⟩
end
theorem occ_known {G:List Rule} (hK:PredP.AllKnown G) {q:Rule} (hq:q∈G) {w n:Str} {f k:Str→Bool} {b:Bool} (h:PredP.occE w f k n b q.body=true):n∈PredP.names G:=by
 obtain⟨p,hp⟩:=occE_names q.body b h
 have:=hK q hq (n,p) hp
 simpa using this
def JA (S:KS) (G:List Rule) (c:Words) (d:Words) (W:World):Prop:=Kn S c d W∧Bnd d (AB G)∧∀n,(PredP.names G).head?=some n→[]∈d n
def DoneA (S:KS) (G:List Rule) (c:Words) (d:Words):Prop:=∀q,q∈G→∀n x,PredP.occE x (Fof c x) S.l0.contains n (Fof d x q.name) q.body=true→x∈d n
theorem AB_closed {S:KS} {ok:Nat→Prop} {cs:List Value} {G:List Rule} (h:RulesOk S ok cs G) {c:Words} (hc:∀x n,Fof c x n=FB G x n):∀q,q∈G→∀n x,PredP.occE x (Fof c x) S.l0.contains n (AB G x q.name) q.body=true→AB G x n=true:=fun q hq n x hx=>by
 have hn:=occ_known h.known hq hx
 have hf:Fof c x=(PredP.fsts G x).contains:=funext fun n=>hc x n
 rw[h.l0,hf]at hx
 exact PredP.least_closed (PredP.names G) (PredP.aftStep G (PredP.fsts G x).contains (PredP.nul G).contains x) n hn (by
  simp only[PredP.aftStep,Bool.or_eq_true]
  exact .inr (List.any_eq_true.2 ⟨q,hq,hx⟩))
theorem A_step {S:KS} {ok:Nat→Prop} {cs:List Value} {G:List Rule} (h:RulesOk S ok cs G) {c d d':Words} {W W':World} (hj:JA S G c d W) (hR:ARel S G c d (AB G) G.length d' W'):JA S G c d' W'∧total d S.fa≤total d' S.fa∧(total d' S.fa=total d S.fa→DoneA S G c d'):=by
 have hnd:∀p,p∈S.fa→(d p.1).Nodup:=fun p hp=>(hj.1.aset p hp).nodup
 refine⟨⟨hR.kn,hR.bd,fun n hn=>hR.le _ _ (hj.2.2 n hn)⟩,total_le hR.le S.fa hnd,fun ht q hq n x hx=>?_⟩
 have hback:Le d' d:=same_back (fun n hn=>by rw[h.apart.same];exact(h.names n).1 hn) (fun x n=>AB_name) hR.le hnd hR.bd ht
 obtain⟨j,hj',hjq⟩:=List.getElem_of_mem hq
 exact hR.seen j q hj' (by rw[List.getElem?_eq_getElem hj',hjq]) n x (PredP.occE_mono x _ _ n (Fof_le hback x _) _ hx)
theorem A_done {S:KS} {ok:Nat→Prop} {cs:List Value} {G:List Rule} (h:RulesOk S ok cs G) {c d:Words} {W:World} (hc:∀x n,Fof c x n=FB G x n) (hj:JA S G c d W) (hD:DoneA S G c d) (x n:Str):Fof d x n=AB G x n:=by
 have hf:Fof c x=(PredP.fsts G x).contains:=funext fun n=>hc x n
 refine PredP.least_eq (PredP.names G) (PredP.aftStep G (PredP.fsts G x).contains (PredP.nul G).contains x) (PredP.aftStep_mono G _ _ x) (fun n=>Fof d x n) ?_ ?_ n
 ·intro m _ hs
  simp only[PredP.aftStep,Bool.or_eq_true,Bool.and_eq_true,beq_iff_eq]at hs
  rcases hs with ⟨h1,h2⟩ | hs
  ·rw[h2];exact Fof_mem.2 (hj.2.2 m h1)
  ·obtain⟨q,hq,hx⟩:=List.any_eq_true.1 hs
   exact Fof_mem.2 (hD q hq m x (by rw[h.l0,hf];exact hx))
 ·intro m hm
  have:=hj.2.1 m x (Fof_mem.1 hm)
  simpa[AB,PredP.afts] using this
theorem growF_any {S:KS} {ok:Nat→Prop} {cs:List Value} {G:List Rule} (h:RulesOk S ok cs G) (d:Words) (w:World) (c0:Words) (h0:JF S G d c0 w) :
  Calls Tryz.prog 75 #[.map (some S.fb),.func (.func 76) #[] #[.pointer (some ⟨S.rp,0,none⟩),.pointer (some ⟨S.sp,0,none⟩)]] w fun e w'=>e=.returned (.tuple #[])∧∃c,Kn S c d w'∧∀x n,Fof c x n=FB G x n :=
 (growF S.fb S.f [.pointer (some ⟨S.rp,0,none⟩),.pointer (some ⟨S.sp,0,none⟩)] (JF S G d) (DoneF S G) (S.f.length * S.U.length) h.room
  (fun c W hj=>⟨hj.1.fmap,hj.1.fset,total_bound S.f (fun p hp=>(hj.1.fset p hp).nodup) hj.1.fU⟩) (fun c W W' hj hb=>⟨hj.1.onward hb,hj.2⟩)
  (fun c W hj=>(stepF_any S h.apart ok cs G h.ne h.sl h.rules h.fits c d W hj.1).mono fun e W' ⟨he,c',hR⟩=>by
   obtain⟨h1,h2,h3⟩:=F_step h hj hR
   exact⟨he,c',h1,h2,h3⟩) w c0 h0).mono fun e w' ⟨he,c,hj,hD⟩=>⟨he,c,hj.1,F_done h hj hD⟩
theorem growA_any {S:KS} {ok:Nat→Prop} {cs:List Value} {G:List Rule} (h:RulesOk S ok cs G) (c:Words) (hc:∀x n,Fof c x n=FB G x n) (w:World) (d0:Words) (h0:JA S G c d0 w) :
  Calls Tryz.prog 75 #[.map (some S.ab),.func (.func 79) #[] #[.pointer (some ⟨S.rp,0,none⟩),.pointer (some ⟨S.sp,0,none⟩)]] w fun e w'=>e=.returned (.tuple #[])∧∃d,Kn S c d w'∧∀x n,Fof d x n=AB G x n :=
 (growA S.ab S.fa [.pointer (some ⟨S.rp,0,none⟩),.pointer (some ⟨S.sp,0,none⟩)] (JA S G c) (DoneA S G c) (S.f.length * S.U.length) h.room
  (fun d W hj=>⟨hj.1.amap,hj.1.aset,by
   have hl:S.fa.length=S.f.length:=by have:=congrArg List.length h.apart.same;simpa using this
   rw[←hl]
   exact total_bound S.fa (fun p hp=>(hj.1.aset p hp).nodup) hj.1.aU⟩) (fun d W W' hj hb=>⟨hj.1.onward hb,hj.2⟩)
  (fun d W hj=>(stepA_any S h.apart ok cs G h.ne h.sl h.rules h.fits c d (AB G) (AB_closed h hc) W hj.1 hj.2.1).mono fun e W' ⟨he,d',hR⟩=>by
   obtain⟨h1,h2,h3⟩:=A_step h hj hR
   exact⟨he,d',h1,h2,h3⟩) w d0 h0).mono fun e w' ⟨he,d,hj,hD⟩=>⟨he,d,hj.1,A_done h hc hj hD⟩
end
section
open Go.RowKit Go.Maps
structure Mk (w1:World) (G:List Rule) (l0:List Str) (v:Value) (rp eb fb ab sp k j:Nat) (f fa:List (Str×Nat)) (W:World):Prop where
 low:Below w1.heap.size w1 W
 empty:SetAt W eb l0
 fmap:MapAt W fb f
 amap:MapAt W ab fa
 fset:∀p,p∈f→SetAt W p.2 []
 aset:∀p,p∈fa→SetAt W p.2 []
 rc:W.cell? ⟨rp,0,none⟩=some v
 s0:W.cell? ⟨sp,0,none⟩=some (.map (some eb))
 s1:W.cell? ⟨sp,1,none⟩=some (.map (some fb))
 s2:W.cell? ⟨sp,2,none⟩=some (.map (some ab))
 nf:f.map (·.1)=(PredP.names (G.take k)).reverse
 na:fa.map (·.1)=(PredP.names (G.take j)).reverse
 nd:(f.map (·.2)++fa.map (·.2)).Nodup
 hi:∀b,b∈f.map (·.2)++fa.map (·.2)→sp<b
theorem Mk.onward {w1:World} {G:List Rule} {l0:List Str} {v:Value} {rp eb fb ab sp k j:Nat} {f fa:List (Str×Nat)} {W W':World} (h:Mk w1 G l0 v rp eb fb ab sp k j f fa W) (hb:Below W.heap.size W W'):Mk w1 G l0 v rp eb fb ab sp k j f fa W' :=
 ⟨Below.all h.low hb,h.empty.below hb,h.fmap.below hb,h.amap.below hb,fun p hp=>(h.fset p hp).below hb,fun p hp=>(h.aset p hp).below hb,
  (hb.cell (bltc h.rc)).trans h.rc,(hb.cell (bltc h.s0)).trans h.s0,(hb.cell (bltc h.s1)).trans h.s1,(hb.cell (bltc h.s2)).trans h.s2,h.nf,h.na,h.nd,h.hi⟩
structure MkN (w1:World) (rp eb fb ab sp:Nat):Prop where
 e1:w1.heap.size≤eb
 e2:eb<fb
 f1:fb<ab
 a1:ab<sp
 r1:rp<w1.heap.size
theorem Mk.putF {w1:World} {G:List Rule} {l0:List Str} {v:Value} {rp eb fb ab sp k j:Nat} {f fa:List (Str×Nat)} {W:World} (h:Mk w1 G l0 v rp eb fb ab sp k j f fa W) (hN:MkN w1 rp eb fb ab sp) (hlen:G.length≤400) {q:Rule} (hq:G[k]?=some q) (hnd:(PredP.names G).Nodup) {a:ByteArray} (ha:a.size≤400) (hn:bs a=q.name)
  {x:Nat} (hs:SetAt W x []) (hx:sp<x) (hnew:∀b,b∈f.map (·.2)++fa.map (·.2)→b≠x) :
  ∃wA,(Instr.mapUpdate 89 (.map (some fb)) (.string a) (.map (some x))).run Tryz.prog W=.ok () wA∧W.grownBy wA (some fb)∧Mk w1 G l0 v rp eb fb ab sp (k+1) j ((bs a,x)::f) fa wA:=by
 have hk:k<G.length:=(List.getElem?_eq_some_iff.1 hq).1
 have hlf:f.length<maxLen:=by
  have:=congrArg List.length h.nf
  simp[PredP.names]at this
  unfold maxLen;omega
 have hnw:bs a∉(PredP.names (G.take k)).reverse:=by
  rw[hn]
  intro hm
  rw[List.mem_reverse]at hm
  have hsp:=split_at hq
  unfold PredP.names at hnd hm
  rw[hsp,List.map_append,List.map_cons,List.nodup_append]at hnd
  exact hnd.2.2 q.name hm q.name List.mem_cons_self rfl
 have n1:=hN.e1
 have n2:=hN.e2
 have n3:=hN.f1
 have n4:=hN.a1
 have n5:=hN.r1
 obtain⟨wA,r1,m1,g1⟩:=h.fmap.write a (le_max ha) hlf (by rw[h.nf];simpa using hnw) x
 have hsA:∀b l,SetAt W b l→b≠fb→SetAt wA b l:=fun b l hs hne=>hs.kept g1 (fun e=>hne (Option.some.inj e))
 have hcA:∀b o u,W.cell? ⟨b,o,none⟩=some u→b≠fb→wA.cell? ⟨b,o,none⟩=some u:=fun b o u hc hne=>(World.cell?_of_block (a:=⟨b,o,none⟩) (g1.block b (bltc hc) (fun e=>hne (Option.some.inj e)))).trans hc
 have hnames:bs a::(PredP.names (G.take k)).reverse=(PredP.names (G.take (k+1))).reverse:=by
  rw[hn,List.take_add_one,hq]
  simp[PredP.names]
 refine⟨wA,r1,g1,h.low.grown g1 h.low.size (fun j e=>by cases e;omega),hsA _ _ h.empty (by omega),m1,(h.amap.kept g1 (fun e=>by have:=Option.some.inj e;omega)),fun p hp=>?_,fun p hp=>?_,hcA _ _ _ h.rc (by omega),hcA _ _ _ h.s0 (by omega),hcA _ _ _ h.s1 (by omega),hcA _ _ _ h.s2 (by omega),by rw[List.map_cons,h.nf,hnames],h.na,?_,fun b hb=>?_⟩
 ·rcases List.mem_cons.1 hp with rfl | hp
  ·exact hsA _ _ hs (by omega)
  ·have:=h.hi p.2 (List.mem_append_left _ (List.mem_map.2 ⟨p,hp,rfl⟩))
   exact hsA _ _ (h.fset p hp) (by omega)
 ·have:=h.hi p.2 (List.mem_append_right _ (List.mem_map.2 ⟨p,hp,rfl⟩))
  exact hsA _ _ (h.aset p hp) (by omega)
 ·rw[List.map_cons,List.cons_append,List.nodup_cons]
  exact⟨fun hm=>hnew x hm rfl,h.nd⟩
 ·rw[List.map_cons,List.cons_append]at hb
  rcases List.mem_cons.1 hb with hb | hb
  ·omega
  ·exact h.hi b hb
theorem Mk.putA {w1:World} {G:List Rule} {l0:List Str} {v:Value} {rp eb fb ab sp k j:Nat} {f fa:List (Str×Nat)} {W:World} (h:Mk w1 G l0 v rp eb fb ab sp k j f fa W) (hN:MkN w1 rp eb fb ab sp) (hlen:G.length≤400) {q:Rule} (hq:G[j]?=some q) (hnd:(PredP.names G).Nodup) {a:ByteArray} (ha:a.size≤400) (hn:bs a=q.name)
  {x:Nat} (hs:SetAt W x []) (hx:sp<x) (hnew:∀b,b∈f.map (·.2)++fa.map (·.2)→b≠x) :
  ∃wA,(Instr.mapUpdate 89 (.map (some ab)) (.string a) (.map (some x))).run Tryz.prog W=.ok () wA∧W.grownBy wA (some ab)∧Mk w1 G l0 v rp eb fb ab sp k (j+1) f ((bs a,x)::fa) wA:=by
 have hk:j<G.length:=(List.getElem?_eq_some_iff.1 hq).1
 have hlf:fa.length<maxLen:=by
  have:=congrArg List.length h.na
  simp[PredP.names]at this
  unfold maxLen;omega
 have hnw:bs a∉(PredP.names (G.take j)).reverse:=by
  rw[hn]
  intro hm
  rw[List.mem_reverse]at hm
  have hsp:=split_at hq
  unfold PredP.names at hnd hm
  rw[hsp,List.map_append,List.map_cons,List.nodup_append]at hnd
  exact hnd.2.2 q.name hm q.name List.mem_cons_self rfl
 have n1:=hN.e1
 have n2:=hN.e2
 have n3:=hN.f1
 have n4:=hN.a1
 have n5:=hN.r1
 obtain⟨wA,r1,m1,g1⟩:=h.amap.write a (le_max ha) hlf (by rw[h.na];simpa using hnw) x
 have hsA:∀b l,SetAt W b l→b≠ab→SetAt wA b l:=fun b l hs hne=>hs.kept g1 (fun e=>hne (Option.some.inj e))
 have hcA:∀b o u,W.cell? ⟨b,o,none⟩=some u→b≠ab→wA.cell? ⟨b,o,none⟩=some u:=fun b o u hc hne=>(World.cell?_of_block (a:=⟨b,o,none⟩) (g1.block b (bltc hc) (fun e=>hne (Option.some.inj e)))).trans hc
 have hnames:bs a::(PredP.names (G.take j)).reverse=(PredP.names (G.take (j+1))).reverse:=by
  rw[hn,List.take_add_one,hq]
  simp[PredP.names]
 refine⟨wA,r1,g1,h.low.grown g1 h.low.size (fun j e=>by cases e;omega),hsA _ _ h.empty (by omega),(h.fmap.kept g1 (fun e=>by have:=Option.some.inj e;omega)),m1,fun p hp=>?_,fun p hp=>?_,hcA _ _ _ h.rc (by omega),hcA _ _ _ h.s0 (by omega),hcA _ _ _ h.s1 (by omega),hcA _ _ _ h.s2 (by omega),h.nf,by rw[List.map_cons,h.na,hnames],?_,fun b hb=>?_⟩
 ·have:=h.hi p.2 (List.mem_append_left _ (List.mem_map.2 ⟨p,hp,rfl⟩))
  exact hsA _ _ (h.fset p hp) (by omega)
 ·rcases List.mem_cons.1 hp with rfl | hp
  ·exact hsA _ _ hs (by omega)
  ·have:=h.hi p.2 (List.mem_append_right _ (List.mem_map.2 ⟨p,hp,rfl⟩))
   exact hsA _ _ (h.aset p hp) (by omega)
 ·have h1:=List.nodup_append.1 h.nd
  rw[List.map_cons]
  refine List.nodup_append.2 ⟨h1.1,List.nodup_cons.2 ⟨fun hm=>hnew x (List.mem_append_right _ hm) rfl,h1.2.1⟩,fun b hb c hc=>?_⟩
  rcases List.mem_cons.1 hc with hc | hc
  ·rw[hc];exact hnew b (List.mem_append_left _ hb)
  ·exact h1.2.2 b hb c hc
 ·rw[List.map_cons]at hb
  rcases List.mem_append.1 hb with hb | hb
  ·exact h.hi b (List.mem_append_left _ hb)
  ·rcases List.mem_cons.1 hb with hb | hb
   ·omega
   ·exact h.hi b (List.mem_append_right _ hb)
theorem Mk.old {w1:World} {G:List Rule} {l0:List Str} {v:Value} {rp eb fb ab sp k j:Nat} {f fa:List (Str×Nat)} {W:World} (h:Mk w1 G l0 v rp eb fb ab sp k j f fa W):∀b,b∈f.map (·.2)++fa.map (·.2)→b<W.heap.size:=fun b hb=>by
 rcases List.mem_append.1 hb with hb | hb
 ·obtain⟨p,hp,rfl⟩:=List.mem_map.1 hb
  exact(h.fset p hp).lt
 ·obtain⟨p,hp,rfl⟩:=List.mem_map.1 hb
  exact(h.aset p hp).lt
theorem grown_cell {w w':World} {m b o:Nat} {u:Value} (g:w.grownBy w' (some m)) (hc:w.cell? ⟨b,o,none⟩=some u) (hne:b≠m):w'.cell? ⟨b,o,none⟩=some u :=
 (World.cell?_of_block (a:=⟨b,o,none⟩) (g.block b (bltc hc) (fun e=>hne (Option.some.inj e)))).trans hc
theorem Mk.two {w1:World} {G:List Rule} {l0:List Str} {v:Value} {rp eb fb ab sp k:Nat} {f fa:List (Str×Nat)} {W:World} (h:Mk w1 G l0 v rp eb fb ab sp k k f fa W) (hN:MkN w1 rp eb fb ab sp) (hlen:G.length≤400) {q:Rule} (hq:G[k]?=some q) (hnd:(PredP.names G).Nodup) {a:ByteArray} (ha:a.size≤400) (hn:bs a=q.name)
  {rb:Nat} (hx:W.cell? ⟨rb,0,none⟩=some (.string a)) (hrb:sp<rb) (x y:Nat) (hxy:(x=W.heap.size∧y=W.heap.size+1)∨(x=W.heap.size+1∧y=W.heap.size)) :
  ∃wA wB,(Instr.mapUpdate 89 (.map (some fb)) (.string a) (.map (some x))).run Tryz.prog ((W.alloc (.map #[] 0)).alloc (.map #[] 0)).drew=.ok () wA ∧
   (Instr.mapUpdate 89 (.map (some ab)) (.string a) (.map (some y))).run Tryz.prog wA=.ok () wB ∧
   (wA.cell? ⟨sp,1,none⟩=some (.map (some fb))∧wA.cell? ⟨sp,2,none⟩=some (.map (some ab))∧wA.cell? ⟨rb,0,none⟩=some (.string a))∧(wB.cell? ⟨sp,1,none⟩=some (.map (some fb))∧wB.cell? ⟨sp,2,none⟩=some (.map (some ab))∧wB.cell? ⟨rb,0,none⟩=some (.string a)) ∧
   Mk w1 G l0 v rp eb fb ab sp (k+1) (k+1) ((bs a,x)::f) ((bs a,y)::fa) wB:=by
 have hb:Below W.heap.size W ((W.alloc (.map #[] 0)).alloc (.map #[] 0)).drew:=(((Below.refl _ W).alloc (Nat.le_refl _) _).alloc (by simp) _).drew
 have hs1:SetAt ((W.alloc (.map #[] 0)).alloc (.map #[] 0)).drew W.heap.size []:=(SetAt.made W).below ((Below.refl _ _).alloc (Nat.le_refl _) _).drew
 have hs2:SetAt ((W.alloc (.map #[] 0)).alloc (.map #[] 0)).drew (W.heap.size+1) []:=by
  have:=(SetAt.made (W.alloc (.map #[] 0))).below (Below.refl _ _).drew
  simpa using this
 have h0:=h.onward hb
 have hx0:=(hb.cell (bltc hx)).trans hx
 generalize ((W.alloc (.map #[] 0)).alloc (.map #[] 0)).drew=Wm at hb hs1 hs2 h0 hx0
 have hsp:sp<W.heap.size:=bltc h.s0
 have n3:=hN.f1
 have n4:=hN.a1
 have hsx:SetAt Wm x []:=by rcases hxy with ⟨rfl,_⟩ | ⟨rfl,_⟩<;>assumption
 have hsy:SetAt Wm y []:=by rcases hxy with ⟨_,rfl⟩ | ⟨_,rfl⟩<;>assumption
 obtain⟨wA,r1,g1,m1⟩:=h0.putF hN hlen hq hnd ha hn hsx (by omega) (fun b hb=>by have:=h.old b hb;omega)
 obtain⟨wB,r2,g2,m2⟩:=m1.putA hN hlen hq hnd ha hn (hsy.kept g1 (fun e=>by have:=Option.some.inj e;omega)) (by omega) (fun b hb=>by
  rw[List.map_cons,List.cons_append]at hb
  rcases List.mem_cons.1 hb with hb | hb
  ·rw[hb];show x≠y;omega
  ·have:=h.old b hb;omega)
 have x1:=grown_cell g1 hx0 (by omega)
 exact⟨wA,wB,r1,r2,⟨m1.s1,m1.s2,x1⟩,⟨m2.s1,m2.s2,grown_cell g2 x1 (by omega)⟩,m2⟩
theorem Mk.three {w1:World} {G:List Rule} {l0:List Str} {v:Value} {rp eb fb ab sp k:Nat} {f fa:List (Str×Nat)} {W:World} (h:Mk w1 G l0 v rp eb fb ab sp k k f fa W) (hN:MkN w1 rp eb fb ab sp) (hlen:G.length≤400) {q:Rule} (hq:G[k]?=some q) (hnd:(PredP.names G).Nodup) {a:ByteArray} (ha:a.size≤400) (hn:bs a=q.name)
  {rb:Nat} (hx:W.cell? ⟨rb,0,none⟩=some (.string a)) (hrb:sp<rb) :
  ∃wA wB,(Instr.mapUpdate 89 (.map (some fb)) (.string a) (.map (some W.heap.size))).run Tryz.prog (W.alloc (.map #[] 0)).drew=.ok () wA ∧
   (Instr.mapUpdate 89 (.map (some ab)) (.string a) (.map (some wA.heap.size))).run Tryz.prog (wA.alloc (.map #[] 0))=.ok () wB ∧
   (wA.cell? ⟨sp,1,none⟩=some (.map (some fb))∧wA.cell? ⟨sp,2,none⟩=some (.map (some ab))∧wA.cell? ⟨rb,0,none⟩=some (.string a))∧(wB.cell? ⟨sp,1,none⟩=some (.map (some fb))∧wB.cell? ⟨sp,2,none⟩=some (.map (some ab))∧wB.cell? ⟨rb,0,none⟩=some (.string a)) ∧
   Mk w1 G l0 v rp eb fb ab sp (k+1) (k+1) ((bs a,W.heap.size)::f) ((bs a,wA.heap.size)::fa) wB:=by
 have hb:Below W.heap.size W (W.alloc (.map #[] 0)).drew:=((Below.refl _ W).alloc (Nat.le_refl _) _).drew
 have hs1:SetAt (W.alloc (.map #[] 0)).drew W.heap.size []:=(SetAt.made W).below (Below.refl _ _).drew
 have h0:=h.onward hb
 have hx0:=(hb.cell (bltc hx)).trans hx
 generalize (W.alloc (.map #[] 0)).drew=Wm at hb hs1 h0 hx0
 have hsp:sp<W.heap.size:=bltc h.s0
 have hlt:=hs1.lt
 have n3:=hN.f1
 have n4:=hN.a1
 obtain⟨wA,r1,g1,m1⟩:=h0.putF hN hlen hq hnd ha hn hs1 (by omega) (fun b hb=>by have:=h.old b hb;omega)
 have hb2:Below wA.heap.size wA (wA.alloc (.map #[] 0)):=(Below.refl _ _).alloc (Nat.le_refl _) _
 have hgs:=g1.size
 obtain⟨wB,r2,g2,m2⟩:=(m1.onward hb2).putA hN hlen hq hnd ha hn (SetAt.made wA) (by omega) (fun b hb=>by have:=m1.old b hb;omega)
 have x1:=grown_cell g1 hx0 (by omega)
 exact⟨wA,wB,r1,r2,⟨m1.s1,m1.s2,x1⟩,⟨m2.s1,m2.s2,grown_cell g2 ((hb2.cell (bltc x1)).trans x1) (by omega)⟩,m2⟩
end
section
open Go.RowKit Go.Maps
def allWords (G:List Rule):List Str:=[]::G.flatMap (fun r=>PredP.wordsE r.body)
structure Known (G:List Rule) (eb fb ab:Nat) (f fa:List (Str×Nat)) (l0:List Str) (c d:Words) (W:World):Prop where
 empty:SetAt W eb l0
 fmap:MapAt W fb f
 amap:MapAt W ab fa
 fset:∀p,p∈f→SetAt W p.2 (c p.1)
 aset:∀p,p∈fa→SetAt W p.2 (d p.1)
 fU:∀n x,x∈c n→x∈allWords G
 aU:∀n x,x∈d n→x∈allWords G
 nul:∀x,l0.contains x=(PredP.nul G).contains x
 names:∀n,n∈PredP.names G↔n∈f.map (·.1)
 same:fa.map (·.1)=f.map (·.1)
 fst:∀x n,Fof c x n=FB G x n
 aft:∀x n,Fof d x n=AB G x n
def SetsPost (w:World) (G:List Rule) (e:Ending) (w':World):Prop :=
 ∃eb fb ab f fa l0 c d,e=.returned (.agg #[.map (some eb),.map (some fb),.map (some ab)])∧Below w.heap.size w w'∧Known G eb fb ab f fa l0 c d w'
theorem Known.block {G:List Rule} {eb fb ab:Nat} {f fa:List (Str×Nat)} {l0:List Str} {c d:Words} {W W':World} (h:Known G eb fb ab f fa l0 c d W) (hb:∀b,b<W.heap.size→(b=eb∨b=fb∨b=ab∨b∈f.map (·.2)++fa.map (·.2))→W'.heap[b]?=W.heap[b]?):Known G eb fb ab f fa l0 c d W' :=
 ⟨h.empty.block (hb _ h.empty.lt (.inl rfl)),h.fmap.block (hb _ h.fmap.lt (.inr (.inl rfl))),h.amap.block (hb _ h.amap.lt (.inr (.inr (.inl rfl)))),fun p hp=>(h.fset p hp).block (hb _ (h.fset p hp).lt (.inr (.inr (.inr (List.mem_append_left _ (List.mem_map.2 ⟨p,hp,rfl⟩)))))),fun p hp=>(h.aset p hp).block (hb _ (h.aset p hp).lt (.inr (.inr (.inr (List.mem_append_right _ (List.mem_map.2 ⟨p,hp,rfl⟩)))))),
  h.fU,h.aU,h.nul,h.names,h.same,h.fst,h.aft⟩
theorem Known.below {G:List Rule} {eb fb ab:Nat} {f fa:List (Str×Nat)} {l0:List Str} {c d:Words} {W W':World} (h:Known G eb fb ab f fa l0 c d W) (hb:Below W.heap.size W W'):Known G eb fb ab f fa l0 c d W':=h.block fun b hl _=>hb.block b hl
theorem nodup_reverse {l:List Str} (h:l.Nodup):l.reverse.Nodup:=by
 unfold List.Nodup at *
 rw[List.pairwise_reverse]
 exact h.imp fun h e=>h e.symm
theorem Mk.made {w1 w2:World} {G:List Rule} {l0:List Str} {v:Value} {rp eb:Nat} (t:Nat) (hb:Below w1.heap.size w1 w2) (hset:SetAt w2 eb l0) (hrc:w1.cell? ⟨rp,0,none⟩=some v) :
  Mk w1 G l0 v rp eb w2.heap.size (w2.heap.size+1) (w2.heap.size+1+1) 0 0 [] [] (((w2.alloc (.map #[] 0)).alloc (.map #[] 0)).alloc (.cells #[.map (some eb),.map (some w2.heap.size),.map (some (w2.heap.size+1))] t)):=by
 have c1:=MapAt.made w2
 have b1:Below w2.heap.size w2 (w2.alloc (.map #[] 0)):=(Below.refl _ _).alloc (Nat.le_refl _) _
 have z1:(w2.alloc (.map #[] 0)).heap.size=w2.heap.size+1:=by simp
 generalize w2.alloc (.map #[] 0)=w3 at c1 b1 z1
 have c2:=MapAt.made w3
 have b2:Below w3.heap.size w3 (w3.alloc (.map #[] 0)):=(Below.refl _ _).alloc (Nat.le_refl _) _
 have z2:(w3.alloc (.map #[] 0)).heap.size=w2.heap.size+1+1:=by simp[z1]
 rw[z1]at c2
 generalize w3.alloc (.map #[] 0)=w4 at c2 b2 z2
 have b3:Below w4.heap.size w4 (w4.alloc (.cells #[.map (some eb),.map (some w2.heap.size),.map (some (w2.heap.size+1))] t)):=(Below.refl _ _).alloc (Nat.le_refl _) _
 have cf:∀j u,(#[Value.map (some eb),.map (some w2.heap.size),.map (some (w2.heap.size+1))]:Array Value)[j]?=some u→(w4.alloc (.cells #[.map (some eb),.map (some w2.heap.size),.map (some (w2.heap.size+1))] t)).cell? ⟨w2.heap.size+1+1,j,none⟩=some u:=fun j u h=>by rw[←z2];exact cell_fresh h
 have b4:=Below.all (Below.all b1 b2) b3
 have b5:=Below.all hb b4
 exact⟨b5,hset.below b4,c1.below (Below.all b2 b3),c2.below b3,fun p hp=>by simp at hp,fun p hp=>by simp at hp,(b5.cell (bltc hrc)).trans hrc,cf 0 _ rfl,cf 1 _ rfl,cf 2 _ rfl,by simp[PredP.names],by simp[PredP.names],by simp,fun b hb=>by simp at hb⟩
theorem Mk.ks {w1:World} {G:List Rule} {l0:List Str} {v:Value} {rp eb fb ab sp:Nat} {f fa:List (Str×Nat)} {W:World} (h:Mk w1 G l0 v rp eb fb ab sp G.length G.length f fa W) (hN:MkN w1 rp eb fb ab sp) (ok:Nat→Prop) (cs:List Value) (hG:G≠[]) (hlen:G.length≤12) (hnd:(PredP.names G).Nodup) (hK:PredP.AllKnown G) (hroom:12 * (allWords G).length<maxLen)
  (hnul:∀x,l0.contains x=(PredP.nul G).contains x) (hsl:slAt ok w1 3 v cs) (hr:rulesAt ok w1 G cs) :
  RulesOk ⟨w1,allWords G,l0,f,fa,eb,fb,ab,rp,sp,v⟩ ok cs G∧JF ⟨w1,allWords G,l0,f,fa,eb,fb,ab,rp,sp,v⟩ G (fun _=>[]) (fun _=>[]) W:=by
 have hnf:=h.nf
 have hna:=h.na
 rw[List.take_length]at hnf hna
 have hnames:∀n,n∈PredP.names G↔n∈f.map (·.1):=fun n=>by rw[hnf,List.mem_reverse]
 have hlf:f.length=G.length:=by
  have:=congrArg List.length hnf
  simpa[PredP.names] using this
 have n1:=hN.e1
 have n2:=hN.e2
 have n3:=hN.f1
 have n4:=hN.a1
 have n5:=hN.r1
 refine⟨⟨⟨?_,fun b hb=>?_,?_,?_,by show fa.map (·.1)=f.map (·.1);rw[hna,hnf],by show 2 * (allWords G).length<maxLen;omega⟩,hG,hsl,hr,fun q hq=>⟨?_,fun x hx=>?_,fun x hx=>?_⟩,hnames,hnul,hK,?_⟩,⟨h.low,h.empty,h.fmap,h.amap,h.fset,h.aset,fun n x hx=>by simp at hx,fun n x hx=>by simp at hx,h.rc,h.s0,h.s1,h.s2⟩,fun n x hx=>by simp at hx⟩
 ·show(eb::fb::ab::rp::sp::(f.map (·.2)++fa.map (·.2))).Nodup
  have hn:∀b,b≤sp→b∉f.map (·.2)++fa.map (·.2):=fun b hb hm=>by have:=h.hi b hm;omega
  refine List.nodup_cons.2 ⟨?_,List.nodup_cons.2 ⟨?_,List.nodup_cons.2 ⟨?_,List.nodup_cons.2 ⟨?_,List.nodup_cons.2 ⟨hn sp (Nat.le_refl _),h.nd⟩⟩⟩⟩⟩
  ·simp only[List.mem_cons,not_or]
   exact⟨by omega,by omega,by omega,by omega,hn eb (by omega)⟩
  ·simp only[List.mem_cons,not_or]
   exact⟨by omega,by omega,by omega,hn fb (by omega)⟩
  ·simp only[List.mem_cons,not_or]
   exact⟨by omega,by omega,hn ab (by omega)⟩
  ·simp only[List.mem_cons,not_or]
   exact⟨by omega,hn rp (by omega)⟩
 ·have:=h.hi b hb
  show w1.heap.size≤b
  omega
 ·show(f.map (·.1)).Nodup
  rw[hnf];exact nodup_reverse hnd
 ·show(fa.map (·.1)).Nodup
  rw[hna];exact nodup_reverse hnd
 ·have:=(hnames q.name).1 (List.mem_map.2 ⟨q,hq,rfl⟩)
  simpa using this
 ·have:=hK q hq x hx
  have h2:=(hnames x.1).1 (by simpa using this)
  simpa using h2
 ·show x∈allWords G
  exact List.mem_cons_of_mem _ (List.mem_flatMap.2 ⟨q,hq,hx⟩)
 ·show f.length * (allWords G).length<maxLen
  rw[hlf]
  have:G.length * (allWords G).length≤12 * (allWords G).length:=Nat.mul_le_mul_right _ hlen
  omega
theorem JA.first {S:KS} {ok:Nat→Prop} {cs:List Value} {G:List Rule} (h:RulesOk S ok cs G) {c:Words} {w4 w5:World} (hk:Kn S c (fun _=>[]) w4) {q:Rule} (hq:(PredP.names G).head?=some q.name) {tb:Nat} (hin:(q.name,tb)∈S.fa) (hg:w4.grownBy w5 (some tb)) (hs:SetAt w5 tb (ins [] [])) (hU:[]∈S.U) :
  JA S G c (updS (fun _=>[]) q.name [[]]) w5:=by
 have hbt:But tb w4 w5:=⟨hg.os,hg.tape,hg.output,hg.size,fun k hk hkb=>hg.block k hk (fun e=>hkb (Option.some.inj e))⟩
 have hs':SetAt w5 tb [[]]:=hs
 refine⟨hk.setA h.apart hin hbt hs' (fun x hx=>by simp at hx;rw[hx];exact hU),fun n x hx=>?_,fun n hn=>?_⟩
 ·by_cases e:n=q.name
  ·subst e
   rw[updS_same]at hx
   simp at hx
   subst hx
   refine PredP.least_closed (PredP.names G) (PredP.aftStep G (PredP.fsts G []).contains (PredP.nul G).contains []) q.name (List.mem_of_mem_head? hq) ?_
   simp[PredP.aftStep,hq]
  ·rw[updS_other _ _ e]at hx
   simp at hx
 ·rw[hq]at hn
  cases hn
  rw[updS_same];simp
theorem head_name {G:List Rule} {q:Rule} (h:G[0]?=some q):(PredP.names G).head?=some q.name:=by
 cases G with
 | nil=>simp at h
 | cons r G=>simp at h;subst h;rfl
theorem setsOf_any (ok:Nat→Prop) (w:World) (v:Value) (cs:List Value) (G:List Rule) (hG:G≠[]) (hlen:G.length≤12) (hnd:(PredP.names G).Nodup) (hK:PredP.AllKnown G) (hroom:12 * (allWords G).length<maxLen) (hsl:slAt ok w 3 v cs) (hr:rulesAt ok w G cs) :
  Calls Tryz.prog 48 #[v] w (SetsPost w G):=by
 obtain⟨g,cap,hv,hm,hg,hcell⟩:=rules_slice hsl hr hG
 have hmm:=@run_makeMap Tryz.prog
 have HC:=hide hcell
 have HR:=hide hr
 have HSL:=hide hsl
 have hThat:∀W,Below w.heap.size w W→Calls Tryz.prog 73 #[v,.func (.func 74) #[] #[]] W (SetPost W (PredP.that false G).contains):=fun W hW =>
  rulesThatN ok W v cs G hG (by omega) (hsl.below hW) (hr.below hW)
 have HThat:=hide hThat
 clear hcell hsl hr hThat
 subst hv
 unfold maxLen at hm
 go_enter Tryz.func48,Tryz.ntmps48
 go_wp2_with fail
 have hB1:Below w.heap.size w ((w.alloc (.cells #[.slice (some ⟨g,0,none⟩) G.length cap] 87)).alloc (.cells #[.map none,.map none,.map none] 91)):=((Below.refl _ w).alloc (Nat.le_refl _) _).alloc (by simp) _
 have hz1:((w.alloc (.cells #[.slice (some ⟨g,0,none⟩) G.length cap] 87)).alloc (.cells #[.map none,.map none,.map none] 91)).heap.size=w.heap.size+2:=by simp
 have hrc:((w.alloc (.cells #[.slice (some ⟨g,0,none⟩) G.length cap] 87)).alloc (.cells #[.map none,.map none,.map none] 91)).cell? ⟨w.heap.size,0,none⟩=some (.slice (some ⟨g,0,none⟩) G.length cap):=past_fresh rfl
 have hr0:((w.alloc (.cells #[.slice (some ⟨g,0,none⟩) G.length cap] 87)).alloc (.cells #[.map none,.map none,.map none] 91)).cell? ⟨w.heap.size+1,0,none⟩=some (.map none):=cell_fresh2 rfl
 have hr1:((w.alloc (.cells #[.slice (some ⟨g,0,none⟩) G.length cap] 87)).alloc (.cells #[.map none,.map none,.map none] 91)).cell? ⟨w.heap.size+1,1,none⟩=some (.map none):=cell_fresh2 rfl
 have hr2:((w.alloc (.cells #[.slice (some ⟨g,0,none⟩) G.length cap] 87)).alloc (.cells #[.map none,.map none,.map none] 91)).cell? ⟨w.heap.size+1,2,none⟩=some (.map none):=cell_fresh2 rfl
 have hfz:∀j,((w.alloc (.cells #[.slice (some ⟨g,0,none⟩) G.length cap] 87)).alloc (.cells #[.map none,.map none,.map none] 91)).frozen? ⟨w.heap.size+1,j,none⟩=false:=fun j=>by
  have:=frozen_new (w:=w.alloc (.cells #[.slice (some ⟨g,0,none⟩) G.length cap] 87)) (cs:=#[.map none,.map none,.map none]) (ty:=91) j
  rw[World.size_alloc]at this
  exact this
 generalize (w.alloc (.cells #[.slice (some ⟨g,0,none⟩) G.length cap] 87)).alloc (.cells #[.map none,.map none,.map none] 91)=w1 at hB1 hz1 hrc hr0 hr1 hr2 hfz ⊢
 refine(HThat.out _ hB1).mono ?_
 rintro e w2 ⟨eb,l0,rfl,heb,hset,hl0,hb2⟩
 have HM0:=hide (Mk.made (G:=G) 91 hb2 hset hrc)
 have hebl:=hset.lt
 have hN:MkN w1 w.heap.size eb w2.heap.size (w2.heap.size+1) (w2.heap.size+1+1):=⟨heb,hebl,by omega,by omega,by omega⟩
 have HL0:=hide hl0
 have hrc2:=(hb2.cell (bltc hrc)).trans hrc
 have hrc3:(((w2.alloc (.map #[] 0)).alloc (.map #[] 0)).alloc (.cells #[.map (some eb),.map (some w2.heap.size),.map (some (w2.heap.size+1))] 91)).cell? ⟨w.heap.size,0,none⟩=some (.slice (some ⟨g,0,none⟩) G.length cap):=(HM0.out).rc
 clear hl0 hset
 go_wp2_with fail
 clear hrc3 hrc2
 generalize ((w2.alloc (.map #[] 0)).alloc (.map #[] 0)).alloc (.cells #[.map (some eb),.map (some w2.heap.size),.map (some (w2.heap.size+1))] 91)=w3 at HM0 ⊢
 clear hb2 hebl heb
 generalize w2.heap.size=fb at HM0 hN ⊢
 go_loopw [13] (fun t wr=>∃k:Nat,∃f fa,k≤G.length∧t=.int .i64 k∧Mk w1 G l0 (.slice (some ⟨g,0,none⟩) G.length cap) w.heap.size eb fb (fb+1) (fb+1+1) k k f fa wr) (fun t _=>G.length - (intOf t).toNat)
 case atStart=>exact⟨0,[],[],by omega,rfl,HM0.out⟩
 case round =>
  clear HM0
  obtain⟨k,f,fa,hk,rfl,hM⟩:=hrel
  by_cases hk':k<G.length
  ·obtain⟨q,hq⟩:∃q,G[k]?=some q:=⟨G[k],List.getElem?_eq_getElem hk'⟩
   obtain⟨a,u,us,e0,e1,e2,hnm,ha,hu,hrows⟩:=HR.out.get hq
   have hBw:=Below.all hB1 hM.low
   have k0:=sl_cell hg HC.out hBw e0
   have k1:=sl_cell hg HC.out hBw e1
   have k2:=sl_cell hg HC.out hBw e2
   obtain⟨ua,un,uc,rfl⟩:=hu.form
   have hbW:Below wr.heap.size wr (wr.alloc (.cells #[.string a,.int .i64 (q.pos:Int),.slice ua un uc] 97)):=(Below.refl _ _).alloc (Nat.le_refl _) _
   have x0:(wr.alloc (.cells #[.string a,.int .i64 (q.pos:Int),.slice ua un uc] 97)).cell? ⟨wr.heap.size,0,none⟩=some (.string a):=cell_fresh rfl
   have HQ:=hide hq
   have HNM:=hide hnm
   clear e0 e1 e2 hu hrows hq hnm
   go_wp2_with fail
   generalize wr.alloc (.cells #[.string a,.int .i64 (q.pos:Int),.slice ua un uc] 97)=W1 at hbW x0 ⊢
   clear k0 k1 k2
   have hM1:=hM.onward hbW
   have hrb:fb+1+1<wr.heap.size:=bltc hM.s0
   obtain⟨wA,wB,r1,r2,⟨a1,a2,a3⟩,⟨b1,b2,b3⟩,hMk1⟩:=hM1.two hN (by omega) HQ.out hnd ha HNM.out x0 hrb W1.heap.size (W1.heap.size+1) (.inl ⟨rfl,rfl⟩)
   obtain⟨wC,wD,r3,r4,⟨c1,c2,c3⟩,⟨d1,d2,d3⟩,hMk2⟩:=hM1.two hN (by omega) HQ.out hnd ha HNM.out x0 hrb (W1.heap.size+1) W1.heap.size (.inr ⟨rfl,rfl⟩)
   obtain⟨wE,wF,r5,r6,⟨f1,f2,f3⟩,⟨g1,g2,g3⟩,hMk3⟩:=hM1.three hN (by omega) HQ.out hnd ha HNM.out x0 hrb
   have HMk3:=hide hMk3
   clear hMk3
   have s1:=hM1.s1
   have s2:=hM1.s2
   have HMk1:=hide hMk1
   have HMk2:=hide hMk2
   clear hMk1 hMk2 hM1 hM
   go_region_held3 (fun W'=>W'.cell? ⟨fb+1+1,1,none⟩=some (.map (some fb))∧W'.cell? ⟨fb+1+1,2,none⟩=some (.map (some (fb+1)))∧W'.cell? ⟨wr.heap.size,0,none⟩=some (.string a)) (go_keep) (fail)
   all_goals
    go_wp2_with fail
   ·exact⟨⟨k+1,_,_,by omega,by go_num,HMk1.out⟩,by simp[intOf];omega⟩
   ·exact⟨⟨k+1,_,_,by omega,by go_num,HMk3.out⟩,by simp[intOf];omega⟩
   ·exact⟨⟨k+1,_,_,by omega,by go_num,HMk2.out⟩,by simp[intOf];omega⟩
  ·have ek:k=G.length:=by omega
   subst ek
   have hBw:=hB1
   obtain⟨hRO,hJ⟩:=hM.ks hN ok cs hG hlen hnd hK hroom (fun x=>by rw[HL0.out,PredP.nul_that]) (HSL.out.below hB1) (HR.out.below hB1)
   have s1:=hM.s1
   have HHI:=hide hM.hi
   obtain⟨q,hq⟩:∃q,G[0]?=some q:=by
    cases G with
    | nil=>exact absurd rfl hG
    | cons r G=>exact⟨r,rfl⟩
   obtain⟨a,u,us,e0,e1,e2,hnm,ha,hu,hrows⟩:=HR.out.get hq
   obtain⟨tb,hl,hin⟩:=look_in (f:=fa) (s:=q.name) (by
    have h1:(f.map (·.1)).contains q.name=true:=(hRO.fits q (List.mem_of_getElem? hq)).1
    have h2:fa.map (·.1)=f.map (·.1):=hRO.apart.same
    rw[h2];exact h1)
   have hread:∀(c d:Words) W',Kn ⟨w1,allWords G,l0,f,fa,eb,fb,fb+1,w.heap.size,fb+1+1,.slice (some ⟨g,0,none⟩) G.length cap⟩ c d W'→(Instr.lookup 89 (.map (some (fb+1))) (.string a) false).run Tryz.prog W'=.ok (.map (some tb)) W':=fun c d W' hW=>by
    have h1:MapAt W' (fb+1) fa:=hW.amap
    rw[h1.read a (le_max ha),hnm,hl]
   have hfirst:=fun c w4 w5 hk hg hs=>JA.first (c:=c) (w4:=w4) (w5:=w5) hRO hk (head_name hq) hin hg hs List.mem_cons_self
   have hcell0:∀W',Below w.heap.size w W'→W'.cell? ⟨g,0,none⟩=some (.string a):=fun W' hW=>sl_cell hg HC.out hW (by simpa using e0)
   have HRead:=hide hread
   have HFirst:=hide hfirst
   have HCell0:=hide hcell0
   have HRO:=hide hRO
   have HJ:=hide hJ
   have HIN:=hide hin
   have hpos:0<G.length:=by
    cases G with
    | nil=>exact absurd rfl hG
    | cons r G=>simp
   clear hread hfirst hcell0 hRO hJ e0 e1 e2 hnm hu hrows hl hq hin
   go_wp2_with (go_at_call 75;refine(growF_any HRO.out (fun _=>[]) _ _ HJ.out).mono ?_;rintro e w4 ⟨rfl,c,hkn,hc⟩;have HCC:=hide hc;clear hc;have t2:w4.cell? ⟨fb+1+1,2,none⟩=some (.map (some (fb+1))):=hkn.s2;have trc:w4.cell? ⟨w.heap.size,0,none⟩=some (.slice (some ⟨g,0,none⟩) G.length cap):=hkn.rc;have tx:=HCell0.out _ (Below.all hB1 hkn.low))
   have hBd:Below w4.heap.size w4 w4.drew:=(Below.refl _ _).drew
   have hknd:=hkn.onward hBd
   have hrd:=HRead.out c _ _ hknd
   clear hkn
   go_still_tail 7,mixed
   change wpList _ _ _ _ _ (World.drew w4)
   generalize World.drew w4=Wd at hBd hknd hrd ⊢
   clear t2 trc tx
   have hst:SetAt Wd tb []:=hknd.aset _ HIN.out
   go_wp2_with ((go_at_call 41;refine(add_any _ tb [] ⟨#[]⟩ (by show(0:Nat)≤maxLen;exact Nat.zero_le _) (by unfold maxLen;simp) hst).mono ?_;rintro e w5 ⟨rfl,hg5,hs5⟩;have hJA:=HFirst.out c _ w5 hknd hg5 hs5;have t2:w5.cell? ⟨fb+1+1,2,none⟩=some (.map (some (fb+1))):=hJA.1.s2))
   refine(growA_any HRO.out c HCC.out _ _ hJA).mono ?_
   rintro e w6 ⟨rfl,d,hk6,hd⟩
   have HD:=hide hd
   clear hd
   have v0:w6.cell? ⟨fb+1+1,0,none⟩=some (.map (some eb)):=hk6.s0
   have v1:w6.cell? ⟨fb+1+1,1,none⟩=some (.map (some fb)):=hk6.s1
   have v2:w6.cell? ⟨fb+1+1,2,none⟩=some (.map (some (fb+1))):=hk6.s2
   have y0:=(hk6.low.cell (p:=⟨w.heap.size+1,0,none⟩) (bltc hr0)).trans hr0
   have y1:=(hk6.low.cell (p:=⟨w.heap.size+1,1,none⟩) (bltc hr1)).trans hr1
   have y2:=(hk6.low.cell (p:=⟨w.heap.size+1,2,none⟩) (bltc hr2)).trans hr2
   have z0:=(hk6.low.frozen (p:=⟨w.heap.size+1,0,none⟩) (by show w.heap.size+1<w1.heap.size;omega)).trans (hfz 0)
   have z1:=(hk6.low.frozen (p:=⟨w.heap.size+1,1,none⟩) (by show w.heap.size+1<w1.heap.size;omega)).trans (hfz 1)
   have z2:=(hk6.low.frozen (p:=⟨w.heap.size+1,2,none⟩) (by show w.heap.size+1<w1.heap.size;omega)).trans (hfz 2)
   go_wp2_with fail
   refine bodyPost_ret_by (results_cell (v:=.agg #[.map (some eb),.map (some fb),.map (some (fb+1))]) rfl rfl (by go_simp)) rfl ?_
   have n1:=hN.e1
   have n2:=hN.e2
   refine⟨eb,fb,fb+1,f,fa,l0,c,d,rfl,(((Below.all hB1 hk6.low).setCell (p:=⟨w.heap.size+1,0,none⟩) (Nat.le_succ _) _).setCell (p:=⟨w.heap.size+1,1,none⟩) (Nat.le_succ _) _).setCell (p:=⟨w.heap.size+1,2,none⟩) (Nat.le_succ _) _,?_⟩
   have hKn:Known G eb fb (fb+1) f fa l0 c d w6:=⟨hk6.empty,hk6.fmap,hk6.amap,hk6.fset,hk6.aset,hk6.fU,hk6.aU,HRO.out.nul,HRO.out.names,HRO.out.apart.same,HCC.out,HD.out⟩
   refine hKn.block fun b _ hbb=>?_
   have hne:b≠w.heap.size+1:=by
    rcases hbb with h | h | h | h
    ·omega
    ·omega
    ·omega
    ·have:=HHI.out b h;omega
   exact(Below.heap_setCell _ _ _ _ hne).trans ((Below.heap_setCell _ _ _ _ hne).trans (Below.heap_setCell _ _ _ _ hne))
end
end Go.Proofs.YtpcmemcanpgadaaGreatDoor
