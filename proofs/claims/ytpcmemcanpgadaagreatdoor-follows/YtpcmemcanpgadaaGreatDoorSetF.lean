import Derived.Test.YtpcmemcanpgadaaGreatDoorMapG
set_option maxHeartbeats 2000000
set_option maxRecDepth 100000
namespace Go.Proofs.YtpcmemcanpgadaaGreatDoor
open PredP (hide Str Rule bs)
open Go.RowKit Go.Maps
theorem Fof_mem {c:Words} {x n:Str}:Fof c x n=true↔x∈c n:=by simp[Fof]
theorem Fof_le {c c':Words} (h:Le c c') (x:Str):∀n,Fof c x n=true→Fof c' x n=true:=fun n hn=>Fof_mem.2 (h n x (Fof_mem.1 hn))
structure FRel (S:KS) (G:List Rule) (c d:Words) (k:Nat) (c':Words) (wr:World):Prop where
 kn:Kn S c' d wr
 le:Le c c'
 seen:∀j q,j<k→G[j]?=some q→∀x,PredP.fstE x (Fof c x) S.l0.contains q.body=true→x∈c' q.name
 snd:∀B:Str→Str→Bool,(∀q,q∈G→∀x,PredP.fstE x (B x) S.l0.contains q.body=true→B x q.name=true)→(∀n x,x∈c n→B x n=true)→∀n x,x∈c' n→B x n=true
 out:∀n,(S.f.map (·.1)).contains n=false→c' n=c n
theorem FRel.start {S:KS} {G:List Rule} {c d:Words} {W:World} (h:Kn S c d W):FRel S G c d 0 c W :=
 ⟨h,.refl c,fun j q hj=>by omega,fun B _ h=>h,fun _ _=>rfl⟩
theorem FRel.step {S:KS} {G:List Rule} {c d:Words} {k:Nat} {c':Words} {wr w1 w2:World} (h:FRel S G c d k c' wr) (hA:Apart S) {q:Rule} (hq:G[k]?=some q) {b:Nat} (hin:(q.name,b)∈S.f) (hb1:Below wr.heap.size wr w1) (hbt:But b w1 w2)
  (hs:SetOf S.U w2 b (fun x=>Fof c' x q.name||PredP.telE x (Fof c' x) S.l0.contains false q.body)):∃c2,FRel S G c d (k+1) c2 w2:=by
 obtain⟨l,hl,hu,hg⟩:=hs
 have hg':∀x,x∈l↔(x∈c' q.name∨PredP.fstE x (Fof c' x) S.l0.contains q.body=true):=fun x=>by
  have h1:l.contains x=(Fof c' x q.name||PredP.telE x (Fof c' x) S.l0.contains false q.body):=hg x
  rw[←telE_false,←Fof_mem,←Bool.or_eq_true,←h1];simp
 have hle:Le c' (updS c' q.name l):=Le.upd fun x hx=>(hg' x).2 (.inl hx)
 refine⟨updS c' q.name l,(h.kn.onward hb1).setF hA hin hbt hl hu,h.le.trans hle,fun j q' hj hq' x hx=>?_,fun B hB hc n x hx=>?_,fun n hn=>?_⟩
 ·by_cases e:j=k
  ·subst e
   rw[hq]at hq';cases hq'
   rw[updS_same]
   exact(hg' x).2 (.inr (PredP.fstE_mono x _ (Fof_le h.le x) _ hx))
  ·exact hle _ _ (h.seen j q' (by omega) hq' x hx)
 ·have hc':=h.snd B hB hc
  by_cases e:n=q.name
  ·subst e
   rw[updS_same]at hx
   rcases(hg' x).1 hx with hx | hx
   ·exact hc' _ x hx
   ·exact hB q (List.mem_of_getElem? hq) x (PredP.fstE_mono x _ (fun n hn=>hc' n x (Fof_mem.1 hn)) _ hx)
  ·rw[updS_other _ _ e]at hx
   exact hc' n x hx
 ·have e:n≠q.name:=fun e=>by
   have:(S.f.map (·.1)).contains q.name=true:=by simp;exact⟨_,hin⟩
   rw[←e,hn]at this;cases this
  rw[updS_other _ _ e]
  exact h.out n hn
def Fits (S:KS) (q:Rule):Prop:=(S.f.map (·.1)).contains q.name=true∧NamesIn S.f (PredP.namesE q.body)∧WordsIn S.U (PredP.wordsE q.body)
theorem stepF_any (S:KS) (hA:Apart S) (ok:Nat→Prop) (cs:List Value) (G:List Rule) (hG:G≠[]) (hsl:slAt ok S.w0 3 S.v cs) (hr:rulesAt ok S.w0 G cs) (hfit:∀q,q∈G→Fits S q) (c d:Words) (W:World) (h:Kn S c d W) :
  Calls Tryz.prog 76 #[.pointer (some ⟨S.rp,0,none⟩),.pointer (some ⟨S.sp,0,none⟩)] W fun e W'=>e=.returned (.tuple #[])∧∃c',FRel S G c d G.length c' W':=by
 obtain⟨g,cap,hv,hm,hg,hcell⟩:=rules_slice hsl hr hG
 have HC:=hide hcell
 have HR:=hide hr
 have HF:=hide hfit
 have HK:=hide h
 have rc:=h.rc
 rw[hv]at rc
 clear hcell hsl hr hG hfit h hv
 unfold maxLen at hm
 go_enter Tryz.func76,Tryz.ntmps76
 go_wp2_with fail
 clear rc
 go_loopw [6] (fun t wr=>∃k:Nat,∃c',k≤G.length∧t=.int .i64 k∧FRel S G c d k c' wr) (fun t _=>G.length - (intOf t).toNat)
 case atStart=>exact⟨0,c,by omega,rfl,.start HK.out⟩
 case round =>
  clear HK
  obtain⟨k,c',hk,rfl,hS⟩:=hrel
  by_cases hk':k<G.length
  ·obtain⟨q,hq⟩:∃q,G[k]?=some q:=⟨G[k],List.getElem?_eq_getElem hk'⟩
   obtain⟨a,u,us,e0,e1,e2,hnm,ha,hu,hrows⟩:=HR.out.get hq
   obtain⟨hf1,hf2,hf3⟩:=HF.out q (List.mem_of_getElem? hq)
   have k0:=sl_cell hg HC.out hS.kn.low e0
   have k1:=sl_cell hg HC.out hS.kn.low e1
   have k2:=sl_cell hg HC.out hS.kn.low e2
   obtain⟨tb,hl,hin⟩:=look_in hf1
   have hread:∀W',Below wr.heap.size wr W'→(Instr.lookup 89 (.map (some S.fb)) (.string a) false).run Tryz.prog W'=.ok (.map (some tb)) W':=fun W' hW=>by
    rw[(hS.kn.fmap.below hW).read a (le_max ha),hnm,hl]
   have hC:∀W',Below wr.heap.size wr W'→Calls Tryz.prog 78 #[.agg #[.map (some S.eb),.map (some S.fb),.map (some S.ab)],u,.map none] W' (TelPost S.U W' (fun x=>PredP.telE x (Fof c' x) S.l0.contains false q.body)):=fun W' hW =>
    have hB:=Below.all hS.kn.low hW
    (tel_all S.U S.l0 hA.hU S.f (Fof c') S.eb S.fb (some S.ab) (SizeOf.sizeOf q.body)).2.2 q.body (Nat.le_refl _) ok W' u us (.map none) (fun _=>false) (hS.kn.sts.below hW) (hu.below hB) (hrows.below hB) hf2 hf3 (.inl ⟨rfl,fun _=>rfl⟩)
   have hset:SetOf S.U wr tb (fun x=>Fof c' x q.name):=⟨c' q.name,hS.kn.fset _ hin,hS.kn.fU _,fun _=>rfl⟩
   obtain⟨ua,un,uc,rfl⟩:=hu.form
   have HC1:=hide hC
   have HRead:=hide hread
   have HQ:=hide hq
   have HSet:=hide hset
   have HIN:=hide hin
   clear hC hread hq hset hin hl e0 e1 e2 hnm hu hrows hf1 hf2 hf3
   have hbW:Below wr.heap.size wr (wr.alloc (.cells #[.string a,.int .i64 (q.pos:Int),.slice ua un uc] 97)):=(Below.refl _ _).alloc (Nat.le_refl _) _
   have x0:(wr.alloc (.cells #[.string a,.int .i64 (q.pos:Int),.slice ua un uc] 97)).cell? ⟨wr.heap.size,0,none⟩=some (.string a):=cell_fresh rfl
   have x2:(wr.alloc (.cells #[.string a,.int .i64 (q.pos:Int),.slice ua un uc] 97)).cell? ⟨wr.heap.size,2,none⟩=some (.slice ua un uc):=cell_fresh rfl
   go_wp2_with fail
   generalize wr.alloc (.cells #[.string a,.int .i64 (q.pos:Int),.slice ua un uc] 97)=W1 at hbW x0 x2 ⊢
   clear k0 k1 k2
   have hK1:=hS.kn.onward hbW
   have s0:=hK1.s0
   have s1:=hK1.s1
   have s2:=hK1.s2
   have hlt:=HSet.out.lt
   have hrd0:=HRead.out W1.drew (hbW.drew)
   go_region_law (first
    | (go_simp;go_at_call 77;refine(addAll_may S.U hA.hU _ tb (.map (some fbk)) _ _ (HSet.out.below hbz) (.inr ⟨_,rfl,hs1⟩) (fun e=>by cases e;have:=hbW.size;simp at hwh;omega)).mono ?_;rintro e2 w2 ⟨rfl,hbt2,hs2⟩)
    | (go_simp;go_at_call 78;refine(HC1.out _ hbW.drew).mono ?_;rintro e1 w1 ⟨fbk,rfl,hwh,hs1,hb1⟩;have hbz:Below wr.heap.size wr w1:=Below.all hbW.drew hb1;have y0:=(hb1.cell (p:=⟨wr.heap.size,0,none⟩) (World.block_lt_of_cell? W1 _ x0)).trans x0;have y1:=(hS.kn.onward hbz).s1;have hrd1:=HRead.out w1 hbz))
   all_goals
    go_wp2_with fail
    obtain⟨c2,hF2⟩:=hS.step hA HQ.out HIN.out hbz hbt2 hs2
    exact⟨⟨k+1,c2,by omega,by go_num,hF2⟩,by simp[intOf];omega⟩
  ·go_wp2_with fail
   go_end0
   have ek:k=G.length:=by omega
   subst ek
   exact⟨rfl,c',hS⟩
end Go.Proofs.YtpcmemcanpgadaaGreatDoor
